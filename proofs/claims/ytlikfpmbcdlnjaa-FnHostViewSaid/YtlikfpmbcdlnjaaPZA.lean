/- Loops over a row, element by element. -/
import Derived.Test.YtlikfpmbcdlnjaaP8
namespace Go.Proofs.Ytlikfpmbcdlnjaa
set_option linter.all false
end Go.Proofs.Ytlikfpmbcdlnjaa
