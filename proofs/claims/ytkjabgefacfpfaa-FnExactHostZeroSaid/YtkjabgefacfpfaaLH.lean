/- A host as an argument, opened. -/
import Derived.Test.YtkjabgefacfpfaaLS
import Derived.Test.YtkjabgefacfpfaaPHI
namespace Go.Proofs.Ytkjabgefacfpfaa
set_option linter.all false
open Go.ChangeShapes Go.WideShapes Go.ChangeAt Go.RowKit
def aUo:List Sh:=[.int,.bool,.bool]
theorem bCw{ds:List Dat}(h:Fits aUo ds)(ho:oks ds):∃s:DSlot,avs ds=rL s/\True:=by simp only[aUo]at h;obtain⟨d0,r0,rfl,f0,o0,h,ho⟩:=eS h ho;obtain⟨d1,r1,rfl,f1,o1,h,ho⟩:=eS h ho;obtain⟨d2,r2,rfl,f2,o2,h,ho⟩:=eS h ho;obtain rfl:=aMn h;obtain⟨n0,e0,-⟩:=xS f0 o0;obtain⟨n1,e1,-⟩:=zY f1 o1;obtain⟨n2,e2,-⟩:=zY f2 o2;refine⟨⟨n0,n1,n2⟩,?_,trivial⟩;simp only[avs,e0,e1,e2,rL]
def aOl:List Sh:= .bool::(aSt++[.sl 3 aUo,.sl 1 [.int],.sl 1 [.int]])
theorem aZx{ds:List Dat}(h:Fits aOl ds)(ho:oks ds):∃g:DGuest,avs ds=cH g/\FitG g:=by simp only[aOl]at h;obtain⟨d0,r0,rfl,f0,o0,h,ho⟩:=eS h ho;obtain⟨c,r,ec,pc,h,ho⟩:=bBq h ho;obtain⟨d1,r1,rfl,f1,o1,h,ho⟩:=eS h ho;obtain⟨d2,r2,rfl,f2,o2,h,ho⟩:=eS h ho;obtain⟨d3,r3,rfl,f3,o3,h,ho⟩:=eS h ho;obtain rfl:=aMn h;obtain⟨l,e0,-⟩:=zY f0 o0;obtain⟨ps,e1,p1⟩:=pD (c:=rL) (p:=λ_=>True) (λr=>bCw) f1 o1;obtain⟨is,e2,p2⟩:=pD (c:=eI .i64) (p:=InI) (λr=>aMe) f2 o2;obtain⟨os,e3,p3⟩:=pD (c:=eI .i64) (p:=InI) (λr=>aMe) f3 o3;refine⟨⟨l,c,ps,is,os⟩,?_,⟨pc.1,p1.1,p2.1,p3.1⟩⟩;rw[avs,ec];simp only[avs,e0,e1,e2,e3,zR,cH,bo,List.cons_append,List.nil_append]
def aLy:List Sh:=[.sl 1 [.int],.sl 17 aOl]
theorem aPr{ss:List Sh}{ds:List Dat}(h:Fits (aLy++ss) ds)(ho:oks ds):∃(x:DHost) (ds':List Dat),avs ds=[bo (eI .i64) x.Words,bo cH x.Guests]++avs ds'/\FitH x/\Fits ss ds'/\oks ds':=by simp only[aLy,List.cons_append,List.nil_append]at h;obtain⟨d0,r0,rfl,f0,o0,h,ho⟩:=eS h ho;obtain⟨d1,r1,rfl,f1,o1,h,ho⟩:=eS h ho;obtain⟨ws,e0,p0⟩:=pD (c:=eI .i64) (p:=InI) (λr=>aMe) f0 o0;obtain⟨gs,e1,p1⟩:=pD (c:=cH) (p:=FitG) (λr=>aZx) f1 o1;refine⟨⟨ws,gs⟩,r1,?_,⟨p0.1,p1.1,p1.2⟩,h,ho⟩;simp only[avs,e0,e1,bo,List.cons_append,List.nil_append]
end Go.Proofs.Ytkjabgefacfpfaa
