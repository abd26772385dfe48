/- The exact law of ShadowWalk answers true. -/
import Derived.Test.YtlikfpmbcdlnjaaPSB
import Derived.Test.YtlikfpmbcdlnjaaPZB
import Derived.Test.YtlikfpmbcdlnjaaWEW1
namespace Go.Proofs.Ytlikfpmbcdlnjaa
set_option linter.all false
theorem exactShadowWalk {h : DHost} {g a : Int} {u w : Bool} (hf : FitH h) : F_laws_FnExactShadowWalk h g a u w = some true := by
 unfold F_laws_FnExactShadowWalk
 obtain ⟨v, hv, hs⟩ := szHost_eq hf (left := 1048576) (by omega) (by omega)
 rw [hv]
 simp only [Option.bind_some]
 rcases hs with h0 | ⟨h0, -, hs⟩
 · rw [lt_t h0]; rfl
 · rw [decide_eq_false (by omega), cond_false]
   simp only [toHost_eq hs, shadowWalk_i hs, shadowWalk_s hs, Option.bind_some, eqHost_eq hs, decide_true, Bool.not_true, cond_false]
end Go.Proofs.Ytlikfpmbcdlnjaa
