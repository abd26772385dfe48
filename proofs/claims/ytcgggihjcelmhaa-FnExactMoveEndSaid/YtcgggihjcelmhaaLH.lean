/- A host as an argument, opened. -/
import Derived.Test.YtcgggihjcelmhaaLS
import Derived.Test.YtcgggihjcelmhaaPUM
namespace Go.Proofs.Ytcgggihjcelmhaa
set_option linter.all false
open Go.ChangeShapes Go.WideShapes Go.ChangeAt Go.RowKit
def aUe:List Sh:=[.int,.bool,.bool]
theorem bCk{ds:List Dat}(h:Fits aUe ds)(ho:oks ds):∃s:DSlot,avs ds=qK s/\True:=by simp only[aUe]at h;obtain⟨d0,r0,rfl,f0,o0,h,ho⟩:=eE h ho;obtain⟨d1,r1,rfl,f1,o1,h,ho⟩:=eE h ho;obtain⟨d2,r2,rfl,f2,o2,h,ho⟩:=eE h ho;obtain rfl:=yU h;obtain⟨n0,e0,-⟩:=rX f0 o0;obtain⟨n1,e1,-⟩:=vI f1 o1;obtain⟨n2,e2,-⟩:=vI f2 o2;refine⟨⟨n0,n1,n2⟩,?_,trivial⟩;simp only[avs,e0,e1,e2,qK]
def aMq:List Sh:= .bool::(aTn++[.sl 3 aUe,.sl 1 [.int],.sl 1 [.int]])
theorem aYo{ds:List Dat}(h:Fits aMq ds)(ho:oks ds):∃g:DGuest,avs ds=cG g/\FitG g:=by simp only[aMq]at h;obtain⟨d0,r0,rfl,f0,o0,h,ho⟩:=eE h ho;obtain⟨c,r,ec,pc,h,ho⟩:=bCz h ho;obtain⟨d1,r1,rfl,f1,o1,h,ho⟩:=eE h ho;obtain⟨d2,r2,rfl,f2,o2,h,ho⟩:=eE h ho;obtain⟨d3,r3,rfl,f3,o3,h,ho⟩:=eE h ho;obtain rfl:=yU h;obtain⟨l,e0,-⟩:=vI f0 o0;obtain⟨ps,e1,p1⟩:=qY (c:=qK) (p:=λ_=>True) (λr=>bCk) f1 o1;obtain⟨is,e2,p2⟩:=qY (c:=eI .i64) (p:=InI) (λr=>aKh) f2 o2;obtain⟨os,e3,p3⟩:=qY (c:=eI .i64) (p:=InI) (λr=>aKh) f3 o3;refine⟨⟨l,c,ps,is,os⟩,?_,⟨pc.1,p1.1,p2.1,p3.1⟩⟩;rw[avs,ec];simp only[avs,e0,e1,e2,e3,wE,cG,bo,List.cons_append,List.nil_append]
def zI:List Sh:=[.sl 1 [.int],.sl 17 aMq]
theorem xY{ss:List Sh}{ds:List Dat}(h:Fits (zI++ss) ds)(ho:oks ds):∃(x:DHost) (ds':List Dat),avs ds=[bo (eI .i64) x.Words,bo cG x.Guests]++avs ds'/\FitH x/\Fits ss ds'/\oks ds':=by simp only[zI,List.cons_append,List.nil_append]at h;obtain⟨d0,r0,rfl,f0,o0,h,ho⟩:=eE h ho;obtain⟨d1,r1,rfl,f1,o1,h,ho⟩:=eE h ho;obtain⟨ws,e0,p0⟩:=qY (c:=eI .i64) (p:=InI) (λr=>aKh) f0 o0;obtain⟨gs,e1,p1⟩:=qY (c:=cG) (p:=FitG) (λr=>aYo) f1 o1;refine⟨⟨ws,gs⟩,r1,?_,⟨p0.1,p1.1,p1.2⟩,h,ho⟩;simp only[avs,e0,e1,bo,List.cons_append,List.nil_append]
end Go.Proofs.Ytcgggihjcelmhaa
