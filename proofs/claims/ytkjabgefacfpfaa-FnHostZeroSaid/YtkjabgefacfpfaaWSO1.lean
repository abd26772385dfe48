/- Plain functions of the program, and that it hands back what they say. Made by program. -/
import Derived.Test.YtkjabgefacfpfaaWTD
import Derived.Test.YtkjabgefacfpfaaProg
import Derived.Test.YtkjabgefacfpfaaWHC1
import Derived.Test.YtkjabgefacfpfaaWHV1
import Derived.Test.YtkjabgefacfpfaaWO1
namespace Go.Proofs.Ytkjabgefacfpfaa
open Go.RowKit
set_option maxRecDepth 100000
set_option linter.all false
set_option maxHeartbeats 0
noncomputable def nM (x_words:List Int)(x_s:DSlot):Option (List Int):=
 cond (decide (x_s.Frame=(-1:Int)))
  (some (List.replicate (Int.toNat (8:Int)) (0:Int)))
  (Option.bind (gI x_words x_s.Frame) λv1=>
  some v1)
noncomputable def g98:Sg tG:=⟨[.row 3,.st 43],.one (.rb 3),nM⟩
theorem s98:Sok 98 g98:=sgx [(116,.r bHm)] ⟨bGq,trivial⟩ .o kr kr kr
end Go.Proofs.Ytkjabgefacfpfaa
