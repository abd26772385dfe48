/- Rows with memory of their own, as rows that are only read. Made by program. -/
import Derived.Test.YtbnjdmclnojlmaaWT
import Derived.Test.YtbnjdmclnojlmaaZ5
namespace Go.Proofs.Ytbnjdmclnojlmaa
open Go.RowKit
set_option maxRecDepth 100000
set_option linter.all false
set_option maxHeartbeats 0
theorem th_O_108 : ∀ x, (O_108 x).map AV.thaw = B_108 x := fun _ => rfl
theorem sh_O_108 : ∀ x, Shal (O_108 x) := fun x => (sh_t trivial (sh_t (And.intro (noOwn_fl no_eI) (fl_len len_eI)) (sh_t trivial (sh_t trivial (sh_t trivial (sh_t trivial (sh_t trivial (sh_t trivial (sh_t trivial (sh_t trivial (sh_t trivial (sh_t trivial (sh_t trivial (sh_t trivial (sh_t (And.intro (noOwn_fl no_C_110) (fl_len len_C_110)) (sh_t (And.intro (noOwn_fl no_eI) (fl_len len_eI)) (sh_t (And.intro (noOwn_fl no_eI) (fl_len len_eI)) sh_n)))))))))))))))))
end Go.Proofs.Ytbnjdmclnojlmaa
