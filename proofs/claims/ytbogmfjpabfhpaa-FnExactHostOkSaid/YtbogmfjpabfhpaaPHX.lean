/- The exact law of HostOk answers true. -/
import Derived.Test.YtbogmfjpabfhpaaPHB
import Derived.Test.YtbogmfjpabfhpaaPHC
import Derived.Test.YtbogmfjpabfhpaaPZB
import Derived.Test.YtbogmfjpabfhpaaWEO1
namespace Go.Proofs.Ytbogmfjpabfhpaa
set_option linter.all false
theorem exactHostOk {h : DHost} (hf : FitH h) : F_laws_FnExactHostOk h = some true := by
 unfold F_laws_FnExactHostOk
 obtain ⟨v, hv, hs⟩ := szHost_eq hf (left := 1048576) (by omega) (by omega)
 rw [hv]
 simp only [Option.bind_some]
 rcases hs with h0 | ⟨h0, -, hs⟩
 · rw [lt_t h0]; rfl
 · rw [decide_eq_false (by omega), cond_false]
   simp only [toHost_eq hs, hostOk_i hs, hostOk_s hs, Option.bind_some, eqHost_eq hs]
   simp
end Go.Proofs.Ytbogmfjpabfhpaa
