/- Copies of guests; HostDrop. -/
import Derived.Test.YtbnjdmclnojlmaaPHL
import Derived.Test.YtbnjdmclnojlmaaPHQ
import Derived.Test.YtbnjdmclnojlmaaPZA
import Derived.Test.YtbnjdmclnojlmaaWHD1
namespace Go.Proofs.Ytbnjdmclnojlmaa
set_option linter.all false
namespace M
end M
end Go.Proofs.Ytbnjdmclnojlmaa
