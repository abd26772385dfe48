/- What the program says of how it was made. -/
import Derived.Test.YtobbmlnagjhofaaGreatRows
import Derived.Test.YtobbmlnagjhofaaGreatZY
namespace Go.Proofs.YtobbmlnagjhofaaGreat
set_option linter.all false
set_option maxRecDepth 100000
open Go.ChangeShapes Go.WideShapes Go.ChangeAt Go.RowKit
theorem bKf:Tryz.pinned.checked.prog.mayEnter=true:=by kernel_rfl
theorem bKz:Tryz.pinned.checked.prog.liftsFinal=false:=by kernel_rfl
theorem bOl:Tryz.pinned.checked.prog.make=some .cut:=by kernel_rfl
end Go.Proofs.YtobbmlnagjhofaaGreat
