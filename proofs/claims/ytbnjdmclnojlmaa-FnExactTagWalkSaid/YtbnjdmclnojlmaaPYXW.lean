/- The exact law of TagWalk answers true. -/
import Derived.Test.YtbnjdmclnojlmaaPYM
import Derived.Test.YtbnjdmclnojlmaaPYW
import Derived.Test.YtbnjdmclnojlmaaWETW1
namespace Go.Proofs.Ytbnjdmclnojlmaa
set_option linter.all false
theorem withLine_len {xs : List DLine} {t : DLine} : (M.withLine xs t).length ≤ xs.length + 1 := by
 unfold M.withLine
 cases decide (xs.length = 6) <;> simp
theorem tagWalk_len {h : DHost} {xs : List DLine} {g a : Int} {u w : Bool} : (M.tagWalk h xs g a u w).1.length ≤ 7 := by
 unfold M.tagWalk
 have := withLine_len (xs := xs) (t := ⟨g, a / 8, M.shadeHG h g a⟩)
 cases ht : M.tagsOk h xs with
 | false => simp
 | true =>
  have := (tagsOk_spec ht).2.1
  cases M.there h g && M.inR 0 63 a with
  | false => simp
  | true => cases decide (M.lineFor xs g (a / 8) = -1) <;> simp <;> omega
theorem exactTagWalk {h : DHost} {xs : List DLine} {g a : Int} {u w : Bool} (hf : FitH h) (hx : xs.length ≤ 9223372036854775807) : F_laws_FnExactTagWalk h xs g a u w = some true := by
 unfold F_laws_FnExactTagWalk
 obtain ⟨v, hv, hs⟩ := szHost_eq hf (left := 1048576) (by omega) (by omega)
 rw [hv]
 simp only [Option.bind_some]
 rcases hs with h0 | ⟨h0, h1, hs⟩
 · rw [lt_t h0]; rfl
 · rw [decide_eq_false (by omega), cond_false, szLineS_eq hx h0 h1]
   simp only [Option.bind_some]
   split
   · rename_i hle
     have hl : xs.length ≤ 1048576 := by omega
     have hp := mHost_pos hs (k := 1) (by omega)
     have ht := mHost_top hs (k := 1) (by omega)
     have hq := mLines_le (xs := xs) (k := (mHost h 1).2)
     have hw := tagWalk_len (h := h) (xs := xs) (g := g) (a := a) (u := u) (w := w)
     have hq2 := mLines_le (xs := (M.tagWalk h xs g a u w).1) (k := 1)
     rw [decide_eq_false (by omega), cond_false]
     simp only [toHost_eq hs, toLineS_eq hl, tagWalk_i hs hl, tagWalk_s hs hl, Option.bind_some, eqHost_eq hs, eqLineS_eq (xs := xs) (ys := xs) (by omega), eqLineS_eq (xs := (M.tagWalk h xs g a u w).1) (ys := (M.tagWalk h xs g a u w).1) (by omega), decide_true, Bool.not_true, cond_false, markHost_eq hs (k := 1) (by omega) (by omega), markHost_len, markLineS_eq (xs := xs) (k := (mHost h 1).2) hl hp ht, markLineS_eq (xs := (M.tagWalk h xs g a u w).1) (k := 1) (by omega) (by omega) (by omega), marks_len, heldLineS_eq (xs := (M.tagWalk h xs g a u w).1) (k := 1) (by omega) (by omega) (by omega)]
     rw [grd_t True.intro, grd_t True.intro, grd_t True.intro, decide_eq_false (by omega), cond_false, grd_t True.intro, decide_eq_false (by omega)]; rfl
   · rfl
end Go.Proofs.Ytbnjdmclnojlmaa
