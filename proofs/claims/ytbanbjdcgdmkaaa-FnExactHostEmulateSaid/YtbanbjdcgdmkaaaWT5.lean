/- Rows with memory of their own, as rows that are only read. Made by program. -/
import Derived.Test.YtbanbjdcgdmkaaaWT
import Derived.Test.YtbanbjdcgdmkaaaZ5
namespace Go.Proofs.Ytbanbjdcgdmkaaa
open Go.RowKit
set_option maxRecDepth 100000
set_option linter.all false
set_option maxHeartbeats 0
theorem th_O_55:∀ x,(O_55 x).map AV.thaw=B_55 x:=fun _=>rfl
theorem sh_O_55:∀ x,Shal (O_55 x):=fun x=>(sh_t trivial (sh_t (And.intro (noOwn_fl no_eI) (fl_len len_eI)) (sh_t trivial (sh_t trivial (sh_t trivial (sh_t trivial (sh_t trivial (sh_t trivial (sh_t trivial (sh_t trivial (sh_t trivial (sh_t trivial (sh_t trivial (sh_t trivial (sh_t (And.intro (noOwn_fl no_C_52) (fl_len len_C_52)) (sh_t (And.intro (noOwn_fl no_eI) (fl_len len_eI)) (sh_t (And.intro (noOwn_fl no_eI) (fl_len len_eI)) sh_n)))))))))))))))))
end Go.Proofs.Ytbanbjdcgdmkaaa
