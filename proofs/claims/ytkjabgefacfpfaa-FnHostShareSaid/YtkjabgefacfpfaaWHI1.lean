/- Plain functions of the program, and that it hands back what they say. Made by program. -/
import Derived.Test.YtkjabgefacfpfaaWTD
import Derived.Test.YtkjabgefacfpfaaProg
namespace Go.Proofs.Ytkjabgefacfpfaa
open Go.RowKit
set_option maxRecDepth 100000
set_option linter.all false
set_option maxHeartbeats 0
noncomputable def aKw  (s1:Unit):Option Bool:=some false
noncomputable def nG (x_list:List Int)(x_n:Int)(s2:Int):Option (LO Int (JO Unit Bool)):=
 cond (decide (s2<((List.length x_list:Nat):Int)))
  (grd ((0:Int)<=s2/\s2<((List.length x_list:Nat):Int)) (cond (decide ((List.getD x_list (Int.toNat s2) default)=x_n))
   (some (.ret (.out true)))
   (some (.next (w64 (s2+(1:Int)))))))
  (some (.ret (.go ())))
noncomputable def nX (x_list:List Int)(x_n:Int):Option Bool:=
 Option.bind (Option.bind (iter (nG x_list x_n) (0:Int)) LO.val) λj1=>
  JO.run j1 aKw
noncomputable def g17:Sg tG:=⟨[.row 3,.i .i64],.one .b,nX⟩
theorem s17:Sok 17 g17:=sgx [] trivial (.s .o (.j ⟨[],[],[]⟩ (.s .o (.k (.l ⟨[0,1],[],[(.s 5,.i .i64)]⟩ .o))) .o)) kr kr kr
end Go.Proofs.Ytkjabgefacfpfaa
