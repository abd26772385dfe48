/- The exact law of TagDrop answers true. -/
import Derived.Test.YtbnjdmclnojlmaaPYD
import Derived.Test.YtbnjdmclnojlmaaPB
import Derived.Test.YtbnjdmclnojlmaaWETD1
namespace Go.Proofs.Ytbnjdmclnojlmaa
set_option linter.all false
theorem exactTagDrop {xs : List DLine} {g : Int} (hf : xs.length ≤ 9223372036854775807) : F_laws_FnExactTagDrop xs g = some true := by
 unfold F_laws_FnExactTagDrop
 rw [szLineS_eq hf (by omega) (by omega)]
 simp only [Option.bind_some]
 split
 · rename_i hl
   have hs : xs.length ≤ 1048576 := by omega
   have hd := drop_len (xs := xs) (g := g)
   have hq := mLines_le (xs := xs) (k := 1)
   have hq2 := mLines_le (xs := M.tagDrop xs g) (k := 1)
   rw [decide_eq_false (by omega), cond_false]
   simp only [toLineS_eq hs, tagDrop_i hs, tagDrop_s hs, Option.bind_some, eqLineS_eq (xs := xs) (ys := xs) (by omega), eqLineS_eq (xs := M.tagDrop xs g) (ys := M.tagDrop xs g) (by omega), decide_true, Bool.not_true, cond_false, markLineS_eq (xs := xs) (k := 1) hs (by omega) (by omega), markLineS_eq (xs := M.tagDrop xs g) (k := 1) (by omega) (by omega) (by omega), marks_len, heldLineS_eq (xs := M.tagDrop xs g) (k := 1) (by omega) (by omega) (by omega)]
   rw [grd_t True.intro, decide_eq_false (by omega), cond_false, grd_t True.intro, decide_eq_false (by omega)]; rfl
 · rfl
end Go.Proofs.Ytbnjdmclnojlmaa
