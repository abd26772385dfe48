/- Plain functions of the program, and that it hands back what they say. Made by program. -/
import Derived.Test.YtogfcdondojfeaaWTD
import Derived.Test.YtogfcdondojfeaaProg
namespace Go.Proofs.Ytogfcdondojfeaa
open Go.RowKit
set_option maxRecDepth 100000
set_option linter.all false
set_option maxHeartbeats 0
noncomputable def F_spec_l1In (x_n:Int) (x_low:Int) (x_high:Int):Option Bool :=
 cond (decide (x_low≤x_n))
  (some (decide (x_n≤x_high)))
  (some false)
noncomputable def g41:Sg tG:=⟨[.i .i64,.i .i64,.i .i64],.one .b,F_spec_l1In⟩
theorem s41:Sok 41 g41:=sgx [] trivial .o kr kr kr
noncomputable def F_impl_WordOk (x_n:Int):Option Bool :=
 cond (decide ((0:Int)≤x_n))
  (some (decide (x_n≤(4095:Int))))
  (some false)
noncomputable def g46:Sg tG:=⟨[.i .i64],.one .b,F_impl_WordOk⟩
theorem s46:Sok 46 g46:=sgx [] trivial .o kr kr kr
end Go.Proofs.Ytogfcdondojfeaa
