/- A host as an argument, opened. -/
import Derived.Test.YtkjabgefacfpfaaGreatLS
import Derived.Test.YtkjabgefacfpfaaGreatPTP
namespace Go.Proofs.YtkjabgefacfpfaaGreat
set_option linter.all false
open Go.ChangeShapes Go.WideShapes Go.ChangeAt Go.RowKit
def aVw:List Sh:=[.int,.bool,.bool]
theorem bHb{ds:List Dat}(h:Fits aVw ds)(ho:oks ds):∃s:DSlot,avs ds=sQ s/\True:=by simp only[aVw]at h;obtain⟨d0,r0,rfl,f0,o0,h,ho⟩:=fG h ho;obtain⟨d1,r1,rfl,f1,o1,h,ho⟩:=fG h ho;obtain⟨d2,r2,rfl,f2,o2,h,ho⟩:=fG h ho;obtain rfl:=aNg h;obtain⟨n0,e0,-⟩:=xO f0 o0;obtain⟨n1,e1,-⟩:=aAu f1 o1;obtain⟨n2,e2,-⟩:=aAu f2 o2;refine⟨⟨n0,n1,n2⟩,?_,trivial⟩;simp only[avs,e0,e1,e2,sQ]
def aPk:List Sh:= .bool::(aWg++[.sl 3 aVw,.sl 1 [.int],.sl 1 [.int]])
theorem bCr{ds:List Dat}(h:Fits aPk ds)(ho:oks ds):∃g:DGuest,avs ds=cX g/\FitG g:=by simp only[aPk]at h;obtain⟨d0,r0,rfl,f0,o0,h,ho⟩:=fG h ho;obtain⟨c,r,ec,pc,h,ho⟩:=bGg h ho;obtain⟨d1,r1,rfl,f1,o1,h,ho⟩:=fG h ho;obtain⟨d2,r2,rfl,f2,o2,h,ho⟩:=fG h ho;obtain⟨d3,r3,rfl,f3,o3,h,ho⟩:=fG h ho;obtain rfl:=aNg h;obtain⟨l,e0,-⟩:=aAu f0 o0;obtain⟨ps,e1,p1⟩:=tA (c:=sQ) (p:=λ_=>True) (λr=>bHb) f1 o1;obtain⟨is,e2,p2⟩:=tA (c:=eI .i64) (p:=InI) (λr=>aHn) f2 o2;obtain⟨os,e3,p3⟩:=tA (c:=eI .i64) (p:=InI) (λr=>aHn) f3 o3;refine⟨⟨l,c,ps,is,os⟩,?_,⟨pc.1,p1.1,p2.1,p3.1⟩⟩;rw[avs,ec];simp only[avs,e0,e1,e2,e3,yL,cX,bo,List.cons_append,List.nil_append]
def aNl:List Sh:=[.sl 1 [.int],.sl 17 aPk]
theorem aRt{ss:List Sh}{ds:List Dat}(h:Fits (aNl++ss) ds)(ho:oks ds):∃(x:DHost) (ds':List Dat),avs ds=[bo (eI .i64) x.Words,bo cX x.Guests]++avs ds'/\FitH x/\Fits ss ds'/\oks ds':=by simp only[aNl,List.cons_append,List.nil_append]at h;obtain⟨d0,r0,rfl,f0,o0,h,ho⟩:=fG h ho;obtain⟨d1,r1,rfl,f1,o1,h,ho⟩:=fG h ho;obtain⟨ws,e0,p0⟩:=tA (c:=eI .i64) (p:=InI) (λr=>aHn) f0 o0;obtain⟨gs,e1,p1⟩:=tA (c:=cX) (p:=FitG) (λr=>bCr) f1 o1;refine⟨⟨ws,gs⟩,r1,?_,⟨p0.1,p1.1,p1.2⟩,h,ho⟩;simp only[avs,e0,e1,bo,List.cons_append,List.nil_append]
end Go.Proofs.YtkjabgefacfpfaaGreat
