/- A core and a machine as arguments, opened. -/
import Derived.Test.YtcgggihjcelmhaaGreatZY
import Derived.Test.YtcgggihjcelmhaaGreatWT
namespace Go.Proofs.YtcgggihjcelmhaaGreat
set_option linter.all false
open Go.ChangeShapes Go.WideShapes Go.ChangeAt Go.RowKit
def aZr:List Sh:=[.sl 1 [.int],.int,.int,.int,.int,.bool,.int,.int,.int,.bool,.bool,.bool,.bool]
theorem bLc{ss:List Sh}{ds:List Dat}(h:Fits (aZr++ss) ds)(ho:oks ds):∃(c:DCore) (ds':List Dat),avs ds=aAx c++avs ds'/\okL InI c.Regs/\Fits ss ds'/\oks ds':=by simp only[aZr,List.cons_append,List.nil_append]at h;obtain⟨d0,r0,rfl,f0,o0,h,ho⟩:=dH h ho;obtain⟨d1,r1,rfl,f1,o1,h,ho⟩:=dH h ho;obtain⟨d2,r2,rfl,f2,o2,h,ho⟩:=dH h ho;obtain⟨d3,r3,rfl,f3,o3,h,ho⟩:=dH h ho;obtain⟨d4,r4,rfl,f4,o4,h,ho⟩:=dH h ho;obtain⟨d5,r5,rfl,f5,o5,h,ho⟩:=dH h ho;obtain⟨d6,r6,rfl,f6,o6,h,ho⟩:=dH h ho;obtain⟨d7,r7,rfl,f7,o7,h,ho⟩:=dH h ho;obtain⟨d8,r8,rfl,f8,o8,h,ho⟩:=dH h ho;obtain⟨d9,r9,rfl,f9,o9,h,ho⟩:=dH h ho;obtain⟨d10,r10,rfl,f10,o10,h,ho⟩:=dH h ho;obtain⟨d11,r11,rfl,f11,o11,h,ho⟩:=dH h ho;obtain⟨d12,r12,rfl,f12,o12,h,ho⟩:=dH h ho;obtain⟨xs,e0,p0⟩:=uO (c:=eI .i64) (p:=InI) (λr=>aQl) f0 o0;obtain⟨n1,e1,-⟩:=sA f1 o1;obtain⟨n2,e2,-⟩:=sA f2 o2;obtain⟨n3,e3,-⟩:=sA f3 o3;obtain⟨n4,e4,-⟩:=sA f4 o4;obtain⟨n5,e5,-⟩:=zM f5 o5;obtain⟨n6,e6,-⟩:=sA f6 o6;obtain⟨n7,e7,-⟩:=sA f7 o7;obtain⟨n8,e8,-⟩:=sA f8 o8;obtain⟨n9,e9,-⟩:=zM f9 o9;obtain⟨n10,e10,-⟩:=zM f10 o10;obtain⟨n11,e11,-⟩:=zM f11 o11;obtain⟨n12,e12,-⟩:=zM f12 o12;refine⟨⟨xs,n1,n2,n3,n4,n5,n6,n7,n8,n9,n10,n11,n12⟩,r12,?_,p0,h,ho⟩;simp only[avs,e0,e1,e2,e3,e4,e5,e6,e7,e8,e9,e10,e11,e12,aAx,bo,List.cons_append,List.nil_append]
end Go.Proofs.YtcgggihjcelmhaaGreat
