/- What the program says of how it was made. -/
import Derived.Test.YtkjabgefacfpfaaRows
import Derived.Test.YtkjabgefacfpfaaZY
namespace Go.Proofs.Ytkjabgefacfpfaa
set_option linter.all false
set_option maxRecDepth 100000
open Go.ChangeShapes Go.WideShapes Go.ChangeAt Go.RowKit
theorem bAh:Try.pinned.checked.prog.mayEnter=true:=by kernel_rfl
theorem bAe:Try.pinned.checked.prog.liftsFinal=false:=by kernel_rfl
theorem bDz:Try.pinned.checked.prog.make=some .cut:=by kernel_rfl
end Go.Proofs.Ytkjabgefacfpfaa
