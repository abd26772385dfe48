/- What the program says of how it was made. -/
import Derived.Test.YtcgggihjcelmhaaRows
import Derived.Test.YtcgggihjcelmhaaZY
namespace Go.Proofs.Ytcgggihjcelmhaa
set_option linter.all false
set_option maxRecDepth 100000
open Go.ChangeShapes Go.WideShapes Go.ChangeAt Go.RowKit
theorem bNu:Try.pinned.checked.prog.mayEnter=true:=by kernel_rfl
theorem bMw:Try.pinned.checked.prog.liftsFinal=false:=by kernel_rfl
theorem bSj:Try.pinned.checked.prog.make=some .cut:=by kernel_rfl
end Go.Proofs.Ytcgggihjcelmhaa
