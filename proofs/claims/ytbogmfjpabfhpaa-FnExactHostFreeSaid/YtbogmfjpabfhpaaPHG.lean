/- The exact law of HostFree answers true. -/
import Derived.Test.YtbogmfjpabfhpaaPHF
import Derived.Test.YtbogmfjpabfhpaaPZC
import Derived.Test.YtbogmfjpabfhpaaWEF1
namespace Go.Proofs.Ytbogmfjpabfhpaa
set_option linter.all false
theorem exactHostFree {h : DHost} (hf : FitH h) : F_laws_FnExactHostFree h = some true := by
 unfold F_laws_FnExactHostFree
 obtain ⟨v, hv, hs⟩ := szHost_eq hf (left := 1048576) (by omega) (by omega)
 rw [hv]
 simp only [Option.bind_some]
 rcases hs with h0 | ⟨h0, -, hs⟩
 · rw [lt_t h0]; rfl
 · have hl := hostFree_len (h := h)
   have hp := mHost_pos hs (k := 1) (by omega)
   rw [decide_eq_false (by omega), cond_false]
   simp only [toHost_eq hs, hostFree_i hs, hostFree_s hs, Option.bind_some, eqHost_eq hs, eqIntS_eq (xs := M.hostFree h) (ys := M.hostFree h) (by omega), decide_true, Bool.not_true, cond_false, markHost_eq hs (k := 1) (by omega) (by omega), markHost_len, markIntS_eq (xs := M.hostFree h) (k := 1) (by omega) (by omega) (by omega), upFrom_len, heldIntS_eq (n := (M.hostFree h).length) (k := 1) (by omega) (by omega) (by omega)]
   rw [grd_t True.intro, grd_t True.intro, decide_eq_false (by omega), cond_false, grd_t True.intro, decide_eq_false (by omega)]; rfl
end Go.Proofs.Ytbogmfjpabfhpaa
