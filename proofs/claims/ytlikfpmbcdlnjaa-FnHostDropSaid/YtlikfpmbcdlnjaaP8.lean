/- A list's copy and two lists' equality, as the laws have them. -/
import Derived.Test.YtlikfpmbcdlnjaaP0
import Derived.Test.YtlikfpmbcdlnjaaWH1
namespace Go.Proofs.Ytlikfpmbcdlnjaa
set_option linter.all false
end Go.Proofs.Ytlikfpmbcdlnjaa
