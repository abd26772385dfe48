/- The exact law of TagsOk answers true. -/
import Derived.Test.YtbnjdmclnojlmaaPYM
import Derived.Test.YtbnjdmclnojlmaaPYL
import Derived.Test.YtbnjdmclnojlmaaWETK1
namespace Go.Proofs.Ytbnjdmclnojlmaa
set_option linter.all false
theorem exactTagsOk {h : DHost} {xs : List DLine} (hf : FitH h) (hx : xs.length ≤ 9223372036854775807) : F_laws_FnExactTagsOk h xs = some true := by
 unfold F_laws_FnExactTagsOk
 obtain ⟨v, hv, hs⟩ := szHost_eq hf (left := 1048576) (by omega) (by omega)
 rw [hv]
 simp only [Option.bind_some]
 rcases hs with h0 | ⟨h0, h1, hs⟩
 · rw [lt_t h0]; rfl
 · rw [decide_eq_false (by omega), cond_false, szLineS_eq hx h0 h1]
   simp only [Option.bind_some]
   split
   · have hl : xs.length ≤ 1048576 := by omega
     rw [decide_eq_false (by omega), cond_false]
     simp only [toHost_eq hs, toLineS_eq hl, tagsOk_i hs hl, tagsOk_s hs hl, Option.bind_some, eqHost_eq hs, eqLineS_eq (xs := xs) (ys := xs) (by omega), decide_true, beq_self_eq_true, Bool.not_true, cond_false]
   · rfl
end Go.Proofs.Ytbnjdmclnojlmaa
