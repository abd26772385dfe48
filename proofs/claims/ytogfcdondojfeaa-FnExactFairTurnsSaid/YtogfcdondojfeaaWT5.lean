/- Rows with memory of their own, as rows that are only read. Made by program. -/
import Derived.Test.YtogfcdondojfeaaWT
import Derived.Test.YtogfcdondojfeaaZY
namespace Go.Proofs.Ytogfcdondojfeaa
open Go.RowKit
set_option maxRecDepth 100000
set_option linter.all false
set_option maxHeartbeats 0
theorem sh_O_91:∀ x,Shal (O_91 x):=fun x=>(sh_t trivial (sh_t (And.intro (noOwn_fl no_eI) (fl_len len_eI)) (sh_t trivial (sh_t trivial (sh_t trivial (sh_t trivial (sh_t trivial (sh_t trivial (sh_t trivial (sh_t trivial (sh_t trivial (sh_t trivial (sh_t trivial (sh_t trivial (sh_t (And.intro (noOwn_fl no_C_93) (fl_len len_C_93)) (sh_t (And.intro (noOwn_fl no_eI) (fl_len len_eI)) (sh_t (And.intro (noOwn_fl no_eI) (fl_len len_eI)) sh_n)))))))))))))))))
theorem sh_O_79:∀ x,Shal (O_79 x):=fun x=>(sh_t (And.intro (noOwn_fl no_eI) (fl_len len_eI)) (sh_t trivial sh_n))
theorem sh_O_83:∀ x,Shal (O_83 x):=fun x=>(sh_t (And.intro (noOwn_fl no_eI) (fl_len len_eI)) (sh_t trivial (sh_t trivial (sh_t trivial (sh_t trivial (sh_t trivial (sh_t trivial (sh_t trivial (sh_t trivial (sh_t trivial (sh_t trivial (sh_t trivial (sh_t trivial sh_n)))))))))))))
theorem sh_O_85:∀ x,Shal (O_85 x):=fun x=>(sh_t (And.intro (noOwn_fl no_eI) (fl_len len_eI)) (sh_t trivial (sh_t trivial (sh_t trivial (sh_t trivial (sh_t trivial (sh_t trivial (sh_t trivial (sh_t trivial (sh_t trivial (sh_t trivial (sh_t trivial (sh_t trivial (sh_t (And.intro (noOwn_fl no_eI) (fl_len len_eI)) (sh_t (And.intro (noOwn_fl no_eI) (fl_len len_eI)) (sh_t (And.intro (noOwn_fl no_eI) (fl_len len_eI)) sh_n))))))))))))))))
end Go.Proofs.Ytogfcdondojfeaa
