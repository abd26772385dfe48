/- The exact law of ShadowOf answers true. -/
import Derived.Test.YtlikfpmbcdlnjaaPSA
import Derived.Test.YtlikfpmbcdlnjaaPSM
import Derived.Test.YtlikfpmbcdlnjaaWES1
namespace Go.Proofs.Ytlikfpmbcdlnjaa
set_option linter.all false
theorem exactShadowOf {h : DHost} {g : Int} (hf : FitH h) : F_laws_FnExactShadowOf h g = some true := by
 unfold F_laws_FnExactShadowOf
 obtain ⟨v, hv, hs⟩ := szHost_eq hf (left := 1048576) (by omega) (by omega)
 rw [hv]
 simp only [Option.bind_some]
 rcases hs with h0 | ⟨h0, -, hs⟩
 · rw [lt_t h0]; rfl
 · have hl := shadowOf_len (h := h) (g := g)
   have hp := mHost_pos hs (k := 1) (by omega)
   have hq := mShades_le (xs := M.shadowOf h g) (k := 1)
   rw [decide_eq_false (by omega), cond_false]
   simp only [toHost_eq hs, shadowOf_i hs, shadowOf_s hs, Option.bind_some, eqHost_eq hs, eqShadeS_eq (xs := M.shadowOf h g) (ys := M.shadowOf h g) (by omega), decide_true, Bool.not_true, cond_false, markHost_eq hs (k := 1) (by omega) (by omega), markHost_len, markShadeS_eq (xs := M.shadowOf h g) (k := 1) (by omega) (by omega) (by omega), marks_len, heldShadeS_eq (xs := M.shadowOf h g) (k := 1) (by omega) (by omega) (by omega)]
   rw [grd_t True.intro, grd_t True.intro, decide_eq_false (by omega), cond_false, grd_t True.intro, decide_eq_false (by omega)]; rfl
end Go.Proofs.Ytlikfpmbcdlnjaa
