/- Plain functions of the program, and that it hands back what they say. Made by program. -/
import Derived.Test.YtkjabgefacfpfaaWTD
import Derived.Test.YtkjabgefacfpfaaProg
namespace Go.Proofs.Ytkjabgefacfpfaa
open Go.RowKit
set_option maxRecDepth 100000
set_option linter.all false
set_option maxHeartbeats 0
noncomputable def aHj  (s1:Unit):Option Bool:=some true
noncomputable def lO (x_words:List Int)(s2:Int):Option (LO Int (JO Unit Bool)):=
 cond (decide (s2<((List.length x_words:Nat):Int)))
  (grd ((0:Int)<=s2/\s2<((List.length x_words:Nat):Int)) (cond (!decide ((List.getD x_words (Int.toNat s2) default)=(0:Int)))
   (some (.ret (.out false)))
   (some (.next (w64 (s2+(1:Int)))))))
  (some (.ret (.go ())))
noncomputable def oN (x_words:List Int):Option Bool:=
 Option.bind (Option.bind (iter (lO x_words) (0:Int)) LO.val) λj1=>
  JO.run j1 aHj
noncomputable def g97:Sg tG:=⟨[.row 3],.one .b,oN⟩
theorem s97:Sok 97 g97:=sgx [] trivial (.s .o (.j ⟨[],[],[]⟩ (.s .o (.k (.l ⟨[5,6],[],[(.s 7,.i .i64)]⟩ .o))) .o)) kr kr kr
end Go.Proofs.Ytkjabgefacfpfaa
