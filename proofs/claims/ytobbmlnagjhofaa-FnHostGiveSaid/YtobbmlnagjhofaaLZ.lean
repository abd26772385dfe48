/- What the program says of how it was made. -/
import Derived.Test.YtobbmlnagjhofaaRows
import Derived.Test.YtobbmlnagjhofaaZY
namespace Go.Proofs.Ytobbmlnagjhofaa
set_option linter.all false
set_option maxRecDepth 100000
open Go.ChangeShapes Go.WideShapes Go.ChangeAt Go.RowKit
theorem aLc:Try.pinned.checked.prog.mayEnter=true:=by kernel_rfl
theorem aKv:Try.pinned.checked.prog.liftsFinal=false:=by kernel_rfl
theorem aPl:Try.pinned.checked.prog.make=some .cut:=by kernel_rfl
end Go.Proofs.Ytobbmlnagjhofaa
