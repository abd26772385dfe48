/- A host as an argument, opened. -/
import Derived.Test.YtcgggihjcelmhaaGreatLS
import Derived.Test.YtcgggihjcelmhaaGreatPUJ
namespace Go.Proofs.YtcgggihjcelmhaaGreat
set_option linter.all false
open Go.ChangeShapes Go.WideShapes Go.ChangeAt Go.RowKit
def aZg:List Sh:=[.int,.bool,.bool]
theorem bLt{ds:List Dat}(h:Fits aZg ds)(ho:oks ds):∃s:DSlot,avs ds=uG s/\True:=by simp only[aZg]at h;obtain⟨d0,r0,rfl,f0,o0,h,ho⟩:=dH h ho;obtain⟨d1,r1,rfl,f1,o1,h,ho⟩:=dH h ho;obtain⟨d2,r2,rfl,f2,o2,h,ho⟩:=dH h ho;obtain rfl:=aQv h;obtain⟨n0,e0,-⟩:=sA f0 o0;obtain⟨n1,e1,-⟩:=zM f1 o1;obtain⟨n2,e2,-⟩:=zM f2 o2;refine⟨⟨n0,n1,n2⟩,?_,trivial⟩;simp only[avs,e0,e1,e2,uG]
def aUp:List Sh:= .bool::(aZr++[.sl 3 aZg,.sl 1 [.int],.sl 1 [.int]])
theorem bIa{ds:List Dat}(h:Fits aUp ds)(ho:oks ds):∃g:DGuest,avs ds=iR g/\FitG g:=by simp only[aUp]at h;obtain⟨d0,r0,rfl,f0,o0,h,ho⟩:=dH h ho;obtain⟨c,r,ec,pc,h,ho⟩:=bLc h ho;obtain⟨d1,r1,rfl,f1,o1,h,ho⟩:=dH h ho;obtain⟨d2,r2,rfl,f2,o2,h,ho⟩:=dH h ho;obtain⟨d3,r3,rfl,f3,o3,h,ho⟩:=dH h ho;obtain rfl:=aQv h;obtain⟨l,e0,-⟩:=zM f0 o0;obtain⟨ps,e1,p1⟩:=uO (c:=uG) (p:=λ_=>True) (λr=>bLt) f1 o1;obtain⟨is,e2,p2⟩:=uO (c:=eI .i64) (p:=InI) (λr=>aQl) f2 o2;obtain⟨os,e3,p3⟩:=uO (c:=eI .i64) (p:=InI) (λr=>aQl) f3 o3;refine⟨⟨l,c,ps,is,os⟩,?_,⟨pc.1,p1.1,p2.1,p3.1⟩⟩;rw[avs,ec];simp only[avs,e0,e1,e2,e3,aAx,iR,bo,List.cons_append,List.nil_append]
def aRl:List Sh:=[.sl 1 [.int],.sl 17 aUp]
theorem aVl{ss:List Sh}{ds:List Dat}(h:Fits (aRl++ss) ds)(ho:oks ds):∃(x:DHost) (ds':List Dat),avs ds=[bo (eI .i64) x.Words,bo iR x.Guests]++avs ds'/\FitH x/\Fits ss ds'/\oks ds':=by simp only[aRl,List.cons_append,List.nil_append]at h;obtain⟨d0,r0,rfl,f0,o0,h,ho⟩:=dH h ho;obtain⟨d1,r1,rfl,f1,o1,h,ho⟩:=dH h ho;obtain⟨ws,e0,p0⟩:=uO (c:=eI .i64) (p:=InI) (λr=>aQl) f0 o0;obtain⟨gs,e1,p1⟩:=uO (c:=iR) (p:=FitG) (λr=>bIa) f1 o1;refine⟨⟨ws,gs⟩,r1,?_,⟨p0.1,p1.1,p1.2⟩,h,ho⟩;simp only[avs,e0,e1,bo,List.cons_append,List.nil_append]
end Go.Proofs.YtcgggihjcelmhaaGreat
