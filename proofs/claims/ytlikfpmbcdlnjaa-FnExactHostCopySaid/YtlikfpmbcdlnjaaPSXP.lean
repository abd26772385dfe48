/- The exact law of HostCopy answers true. -/
import Derived.Test.YtlikfpmbcdlnjaaPSG
import Derived.Test.YtlikfpmbcdlnjaaPSH
import Derived.Test.YtlikfpmbcdlnjaaWEP1
namespace Go.Proofs.Ytlikfpmbcdlnjaa
set_option linter.all false
theorem exactHostCopy {h : DHost} {g p : Int} (hf : FitH h) : F_laws_FnExactHostCopy h g p = some true := by
 unfold F_laws_FnExactHostCopy
 obtain ⟨v, hv, hs⟩ := szHost_eq hf (left := 1048576) (by omega) (by omega)
 rw [hv]
 simp only [Option.bind_some]
 rcases hs with h0 | ⟨h0, -, hs⟩
 · rw [lt_t h0]; rfl
 · have hz := small_copy (g := g) (p := p) hs
   have hp := mHost_pos hs (k := 1) (by omega)
   have hp2 := mHost_pos hz (k := 1) (by omega)
   rw [decide_eq_false (by omega), cond_false]
   simp only [toHost_eq hs, hostCopy_i hs, hostCopy_s hs, Option.bind_some, eqHost_eq hs, eqHost_eq hz, decide_true, Bool.not_true, cond_false, markHost_eq hs (k := 1) (by omega) (by omega), markHost_eq hz (k := 1) (by omega) (by omega), markHost_len, heldHost_mk hz (k := 1) (by omega) (by omega)]
   rw [grd_t True.intro, grd_t True.intro, decide_eq_false (by omega), cond_false]; simp only [beq_self_eq_true, Bool.not_true, cond_false]; rw [grd_t True.intro, grd_t True.intro, decide_eq_false (by omega)]; simp only [cond_false]
end Go.Proofs.Ytlikfpmbcdlnjaa
