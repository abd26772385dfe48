/- Plain functions of the program, and that it hands back what they say. Made by program. -/
import Derived.Test.YtkjabgefacfpfaaWTD
import Derived.Test.YtkjabgefacfpfaaProg
namespace Go.Proofs.Ytkjabgefacfpfaa
open Go.RowKit
set_option maxRecDepth 100000
set_option linter.all false
set_option maxHeartbeats 0
noncomputable def vV  (s1:Unit):Option Bool:=some true
noncomputable def fK (x_a:List Int)(x_b:List Int)(s2:Int):Option (LO Int (JO Unit Bool)):=
 cond (decide (s2<((List.length x_a:Nat):Int)))
  (grd ((0:Int)<=s2/\s2<((List.length x_a:Nat):Int)) (grd ((0:Int)<=s2/\s2<((List.length x_b:Nat):Int)) (cond (!decide ((List.getD x_a (Int.toNat s2) default)=(List.getD x_b (Int.toNat s2) default)))
   (some (.ret (.out false)))
   (some (.next (w64 (s2+(1:Int))))))))
  (some (.ret (.go ())))
noncomputable def cZ (x_a:List Int)(x_b:List Int):Option Bool:=
 cond (!decide (((List.length x_a:Nat):Int)=((List.length x_b:Nat):Int)))
  (some false)
  (Option.bind (Option.bind (iter (fK x_a x_b) (0:Int)) LO.val) λj1=>
   JO.run j1 vV)
noncomputable def g18:Sg tG:=⟨[.row 3,.row 3],.one .b,cZ⟩
theorem s18:Sok 18 g18:=sgx [] trivial (.s .o (.s .o (.j ⟨[],[],[]⟩ (.s .o (.k (.l ⟨[0,1],[],[(.s 5,.i .i64)]⟩ .o))) .o))) kr kr kr
end Go.Proofs.Ytkjabgefacfpfaa
