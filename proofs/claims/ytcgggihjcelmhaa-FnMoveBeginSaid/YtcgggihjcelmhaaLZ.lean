/- What the program says of how it was made. -/
import Derived.Test.YtcgggihjcelmhaaRows
import Derived.Test.YtcgggihjcelmhaaZY
namespace Go.Proofs.Ytcgggihjcelmhaa
set_option linter.all false
set_option maxRecDepth 100000
open Go.ChangeShapes Go.WideShapes Go.ChangeAt Go.RowKit
theorem bJe:Try.pinned.checked.prog.mayEnter=true:=by kernel_rfl
theorem bHo:Try.pinned.checked.prog.liftsFinal=false:=by kernel_rfl
theorem bJp:Try.pinned.checked.prog.make=some .cut:=by kernel_rfl
end Go.Proofs.Ytcgggihjcelmhaa
