/- Copies of rows and cores. -/
import Derived.Test.YtbnjdmclnojlmaaPO
import Derived.Test.YtbnjdmclnojlmaaWHC1
namespace Go.Proofs.Ytbnjdmclnojlmaa
set_option linter.all false
end Go.Proofs.Ytbnjdmclnojlmaa
