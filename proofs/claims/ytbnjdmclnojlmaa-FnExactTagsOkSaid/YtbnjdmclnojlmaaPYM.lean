/- The laws' helpers on lines, as plain functions. -/
import Derived.Test.YtbnjdmclnojlmaaPZC
import Derived.Test.YtbnjdmclnojlmaaWTL1
import Derived.Test.YtbnjdmclnojlmaaWTM1
namespace Go.Proofs.Ytbnjdmclnojlmaa
set_option linter.all false
noncomputable instance : DecidableEq DShade := fun a b => Classical.propDecidable (a = b)
noncomputable instance : DecidableEq DLine := fun a b => Classical.propDecidable (a = b)
theorem eqShade_eq {a b : DShade} : F_laws_eqShade a b = some (decide (a = b)) := by
 obtain ⟨t, w, u, p, f, r⟩ := a
 obtain ⟨t', w', u', p', f', r'⟩ := b
 unfold F_laws_eqShade
 simp only [DShade.mk.injEq]
 by_cases h : p = p' <;> by_cases h2 : f = f' <;> cases t <;> cases t' <;> cases w <;> cases w' <;> cases u <;> cases u' <;> cases r <;> cases r' <;> simp [h, h2]
theorem eqLine_eq {a b : DLine} : F_laws_eqLine a b = some (decide (a = b)) := by
 obtain ⟨t, p, s⟩ := a
 obtain ⟨t', p', s'⟩ := b
 unfold F_laws_eqLine
 rw [eqShade_eq]
 simp only [DLine.mk.injEq, Option.bind_some]
 by_cases h : t = t' <;> by_cases h2 : p = p' <;> by_cases h3 : s = s' <;> simp [h, h2, h3]
theorem eqLineS_eq {xs ys : List DLine} (h : xs.length ≤ 9223372036854775806) : F_laws_eqLineS xs ys = some (decide (xs = ys)) := by
 unfold F_laws_eqLineS
 by_cases hl : xs.length = ys.length
 · obtain ⟨b, h1, h2⟩ := eq_loop (xs := xs) (ys := ys) (step := F_laws_eqLineS_l2 xs ys) (d := fun x y => decide (x = y)) (fun x _ y => decide_eq_true_iff) hl (fun i hi _ => by
    have e1 : (i : Int) < (xs.length : Int) := by omega
    simp only [F_laws_eqLineS_l2, decide_eq_true e1, cond_true]
    rw [grd_t ⟨by omega, e1⟩, grd_t ⟨by omega, by omega⟩, Int.toNat_natCast]
    show Option.bind (F_laws_eqLine (xs.getD i default) (ys.getD i default)) _ = _
    rw [eqLine_eq, Option.bind_some, w64_in (by omega) (by omega)]
    cases decide (xs.getD i default = ys.getD i default) <;> rfl) (by
    simp only [F_laws_eqLineS_l2]; rw [decide_eq_false (by omega), cond_false])
   rw [h1, decide_eq_true (by omega)]
   have e : decide (xs = ys) = b := by rw [Bool.eq_iff_iff, decide_eq_true_iff]; exact h2.symm
   rw [e]; cases b <;> rfl
 · rw [decide_eq_false (by omega), decide_eq_false (fun e => hl (by rw [e]))]; rfl
theorem toLineS_eq {xs : List DLine} (h : xs.length ≤ 1048576) : F_laws_toLineS xs = some xs := by
 have key := copy_loop (xs := xs) (ys := List.replicate (Int.toNat (xs.length : Int)) (DLine.mk 0 0 (DShade.mk false false false 0 0 false))) (step := F_laws_toLineS_l2 xs) (by simp) (fun k zs hk hz => by
  have h1 : (k : Int) < (xs.length : Int) := by omega
  simp only [F_laws_toLineS_l2, decide_eq_true h1, cond_true, hz]
  rw [grd_t ⟨by omega, h1⟩, Int.toNat_natCast]
  show Option.bind (some (xs.getD k default)) _ = _
  rw [Option.bind_some, grd_t ⟨by omega, h1⟩, w64_in (by omega) (by omega)]) (fun zs hz => by
  simp only [F_laws_toLineS_l2]
  rw [decide_eq_false (by omega), cond_false])
 unfold F_laws_toLineS
 rw [grd_t ⟨by omega, by omega, by omega⟩, key]; rfl
theorem szLineS_eq {xs : List DLine} {left : Int} (h : xs.length ≤ 9223372036854775807) (h0 : 0 ≤ left) (h1 : left ≤ 1048576) : F_laws_szLineS xs left = some (if (xs.length : Int) ≤ left then left - xs.length else -1) := by
 unfold F_laws_szLineS
 rw [w64_in (by omega) (by omega)]
 by_cases hl : (xs.length : Int) ≤ left
 · rw [decide_eq_false (by omega), if_pos hl]; rfl
 · rw [decide_eq_true (by omega), if_neg hl]; rfl
noncomputable def mLine (_ : DLine) (k : Int) : DLine × Int := (⟨k, k + 1, ⟨decide (Int.tmod (k + 1 + 1) 3 = 0), decide (Int.tmod (k + 1 + 1 + 1) 3 = 0), decide (Int.tmod (k + 1 + 1 + 1 + 1) 3 = 0), k + 1 + 1 + 1 + 1 + 1, k + 1 + 1 + 1 + 1 + 1 + 1, decide (Int.tmod (k + 1 + 1 + 1 + 1 + 1 + 1 + 1) 3 = 0)⟩⟩, k + 1 + 1 + 1 + 1 + 1 + 1 + 1 + 1)
theorem mLine_le (x : DLine) (k : Int) : k ≤ (mLine x k).2 ∧ (mLine x k).2 ≤ k + 8 := by simp only [mLine]; omega
theorem markLineS_eq {xs : List DLine} {k : Int} (h : xs.length ≤ 1048576) (h0 : 0 ≤ k) (h1 : k ≤ 4503599627370496) : F_laws_markLineS xs k = some ((marks mLine xs k).1, (marks mLine xs k).2) := by
 have key := mark_loop (m := mLine) (C := 8) (B := 9007199254740992) (step := F_laws_markLineS_l2) (xs := xs) (k := k) (fun x _ k => mLine_le x k) h0 (by omega) (by omega) (fun zs i q hz hi _ hq hb => by
  have e1 : (i : Int) < (zs.length : Int) := by omega
  have g0 : (0 : Int) ≤ (i : Int) ∧ (i : Int) < (zs.length : Int) := ⟨by omega, e1⟩
  simp only [F_laws_markLineS_l2, decide_eq_true e1, cond_true]
  rw [grd_t g0, grd_t g0, grd_t g0, grd_t g0, grd_t g0, grd_t g0, grd_t g0, grd_t g0, Int.toNat_natCast, w_in (z := q + 1) (by omega) (by omega), w_in (z := q + 1 + 1) (by omega) (by omega), w_in (z := q + 1 + 1 + 1) (by omega) (by omega), w_in (z := q + 1 + 1 + 1 + 1) (by omega) (by omega), w_in (z := q + 1 + 1 + 1 + 1 + 1) (by omega) (by omega), w_in (z := q + 1 + 1 + 1 + 1 + 1 + 1) (by omega) (by omega), w_in (z := q + 1 + 1 + 1 + 1 + 1 + 1 + 1) (by omega) (by omega), w_in (z := q + 1 + 1 + 1 + 1 + 1 + 1 + 1 + 1) (by omega) (by omega), w_in (z := (i : Int) + 1) (by omega) (by omega)]
  rfl) (fun zs q _ => by simp only [F_laws_markLineS_l2]; rw [decide_eq_false (by omega), cond_false])
 unfold F_laws_markLineS
 rw [key]; rfl
theorem heldLineS_eq {xs : List DLine} {k : Int} (h : xs.length ≤ 1048576) (h0 : 0 ≤ k) (h1 : k ≤ 4503599627370496) : F_laws_heldLineS (marks mLine xs k).1 k = some (marks mLine xs k).2 := by
 have key := held_loop (m := mLine) (C := 8) (B := 9007199254740992) (step := F_laws_heldLineS_l2) (xs := xs) (k := k) (fun x _ k => mLine_le x k) h0 (by omega) (by omega) (fun zs i x q hz hi _ hq hb hg => by
  have e1 : (i : Int) < (zs.length : Int) := by omega
  have g0 : (0 : Int) ≤ (i : Int) ∧ (i : Int) < (zs.length : Int) := ⟨by omega, e1⟩
  simp only [F_laws_heldLineS_l2, decide_eq_true e1, cond_true]
  rw [grd_t g0, Int.toNat_natCast, hg, w_in (z := q + 1) (by omega) (by omega), w_in (z := q + 1 + 1) (by omega) (by omega), w_in (z := q + 1 + 1 + 1) (by omega) (by omega), w_in (z := q + 1 + 1 + 1 + 1) (by omega) (by omega), w_in (z := q + 1 + 1 + 1 + 1 + 1) (by omega) (by omega), w_in (z := q + 1 + 1 + 1 + 1 + 1 + 1) (by omega) (by omega), w_in (z := q + 1 + 1 + 1 + 1 + 1 + 1 + 1) (by omega) (by omega), w_in (z := q + 1 + 1 + 1 + 1 + 1 + 1 + 1 + 1) (by omega) (by omega), w_in (z := (i : Int) + 1) (by omega) (by omega)]
  simp only [grd_t g0]
  simp [mLine]) (fun zs q _ => by simp only [F_laws_heldLineS_l2]; rw [decide_eq_false (by omega), cond_false])
 unfold F_laws_heldLineS
 rw [key]; rfl
theorem mLines_le {xs : List DLine} {k : Int} : k ≤ (marks mLine xs k).2 := (marks_le (m := mLine) (C := 8) (xs := xs) (k := k) fun x _ k => mLine_le x k).1
theorem mHost_top {h : DHost} (hs : SmallH h) {k : Int} (h1 : k ≤ 1000000000) : (mHost h k).2 ≤ 4503599627370496 := by
 have := (mGuests_le (k := k + h.Words.length) hs.guests hs.all).2
 have := hs.words
 simp only [mHost]; omega
end Go.Proofs.Ytbnjdmclnojlmaa
