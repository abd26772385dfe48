/- The laws' own equality of hosts. -/
import Derived.Test.YtlikfpmbcdlnjaaP6
import Derived.Test.YtlikfpmbcdlnjaaPHA
import Derived.Test.YtlikfpmbcdlnjaaWJ1
namespace Go.Proofs.Ytlikfpmbcdlnjaa
set_option linter.all false
end Go.Proofs.Ytlikfpmbcdlnjaa
