/- What the program says of how it was made. -/
import Derived.Test.YtkjabgefacfpfaaGreatRows
import Derived.Test.YtkjabgefacfpfaaGreatZY
namespace Go.Proofs.YtkjabgefacfpfaaGreat
set_option linter.all false
set_option maxRecDepth 100000
open Go.ChangeShapes Go.WideShapes Go.ChangeAt Go.RowKit
theorem bQh:Tryz.pinned.checked.prog.mayEnter=true:=by kernel_rfl
theorem bPc:Tryz.pinned.checked.prog.liftsFinal=false:=by kernel_rfl
theorem bRx:Tryz.pinned.checked.prog.make=some .cut:=by kernel_rfl
end Go.Proofs.YtkjabgefacfpfaaGreat
