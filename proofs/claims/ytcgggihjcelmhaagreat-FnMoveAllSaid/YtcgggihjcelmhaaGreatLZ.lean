/- What the program says of how it was made. -/
import Derived.Test.YtcgggihjcelmhaaGreatRows
import Derived.Test.YtcgggihjcelmhaaGreatZY
namespace Go.Proofs.YtcgggihjcelmhaaGreat
set_option linter.all false
set_option maxRecDepth 100000
open Go.ChangeShapes Go.WideShapes Go.ChangeAt Go.RowKit
theorem bXu:Tryz.pinned.checked.prog.mayEnter=true:=by kernel_rfl
theorem bXh:Tryz.pinned.checked.prog.liftsFinal=false:=by kernel_rfl
theorem cBy:Tryz.pinned.checked.prog.make=some .cut:=by kernel_rfl
end Go.Proofs.YtcgggihjcelmhaaGreat
