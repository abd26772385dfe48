/- What the program says of how it was made. -/
import Derived.Test.YtogfcdondojfeaaRows
import Derived.Test.YtogfcdondojfeaaZY
namespace Go.Proofs.Ytogfcdondojfeaa
set_option linter.all false
set_option maxRecDepth 100000
open Go.ChangeShapes Go.WideShapes Go.ChangeAt Go.RowKit
theorem w_enter:Try.pinned.checked.prog.mayEnter=true:=by kernel_rfl
theorem w_lifts:Try.pinned.checked.prog.liftsFinal=false:=by kernel_rfl
theorem w_make:Try.pinned.checked.prog.make=some .cut:=by kernel_rfl
end Go.Proofs.Ytogfcdondojfeaa
