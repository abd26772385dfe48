/- The laws' helpers on shadow tables, as plain functions. -/
import Derived.Test.YtlikfpmbcdlnjaaPZC
import Derived.Test.YtlikfpmbcdlnjaaWSM1
namespace Go.Proofs.Ytlikfpmbcdlnjaa
set_option linter.all false
noncomputable instance : DecidableEq DShade := fun a b => Classical.propDecidable (a = b)
theorem eqShade_eq {a b : DShade} : F_laws_eqShade a b = some (decide (a = b)) := by
 obtain ⟨t, w, u, p, f, r⟩ := a
 obtain ⟨t', w', u', p', f', r'⟩ := b
 unfold F_laws_eqShade
 simp only [DShade.mk.injEq]
 by_cases h : p = p' <;> by_cases h2 : f = f' <;> cases t <;> cases t' <;> cases w <;> cases w' <;> cases u <;> cases u' <;> cases r <;> cases r' <;> simp [h, h2]
theorem eqShadeS_eq {xs ys : List DShade} (h : xs.length ≤ 9223372036854775806) : F_laws_eqShadeS xs ys = some (decide (xs = ys)) := by
 unfold F_laws_eqShadeS
 by_cases hl : xs.length = ys.length
 · obtain ⟨b, h1, h2⟩ := eq_loop (xs := xs) (ys := ys) (step := F_laws_eqShadeS_l2 xs ys) (d := fun x y => decide (x = y)) (fun x _ y => decide_eq_true_iff) hl (fun i hi _ => by
    have e1 : (i : Int) < (xs.length : Int) := by omega
    simp only [F_laws_eqShadeS_l2, decide_eq_true e1, cond_true]
    rw [grd_t ⟨by omega, e1⟩, grd_t ⟨by omega, by omega⟩, Int.toNat_natCast]
    show Option.bind (F_laws_eqShade (xs.getD i default) (ys.getD i default)) _ = _
    rw [eqShade_eq, Option.bind_some, w64_in (by omega) (by omega)]
    cases decide (xs.getD i default = ys.getD i default) <;> rfl) (by
    simp only [F_laws_eqShadeS_l2]; rw [decide_eq_false (by omega), cond_false])
   rw [h1, decide_eq_true (by omega)]
   have e : decide (xs = ys) = b := by rw [Bool.eq_iff_iff, decide_eq_true_iff]; exact h2.symm
   rw [e]; cases b <;> rfl
 · rw [decide_eq_false (by omega), decide_eq_false (fun e => hl (by rw [e]))]; rfl
noncomputable def mShade (_ : DShade) (k : Int) : DShade × Int := (⟨decide (Int.tmod k 3 = 0), decide (Int.tmod (k + 1) 3 = 0), decide (Int.tmod (k + 1 + 1) 3 = 0), k + 1 + 1 + 1, k + 1 + 1 + 1 + 1, decide (Int.tmod (k + 1 + 1 + 1 + 1 + 1) 3 = 0)⟩, k + 1 + 1 + 1 + 1 + 1 + 1)
theorem mShade_le (x : DShade) (k : Int) : k ≤ (mShade x k).2 ∧ (mShade x k).2 ≤ k + 6 := by simp only [mShade]; omega
theorem markShadeS_eq {xs : List DShade} {k : Int} (h : xs.length ≤ 1048576) (h0 : 0 ≤ k) (h1 : k ≤ 4503599627370496) : F_laws_markShadeS xs k = some ((marks mShade xs k).1, (marks mShade xs k).2) := by
 have key := mark_loop (m := mShade) (C := 6) (B := 9007199254740992) (step := F_laws_markShadeS_l2) (xs := xs) (k := k) (fun x _ k => mShade_le x k) h0 (by omega) (by omega) (fun zs i q hz hi _ hq hb => by
  have e1 : (i : Int) < (zs.length : Int) := by omega
  have g0 : (0 : Int) ≤ (i : Int) ∧ (i : Int) < (zs.length : Int) := ⟨by omega, e1⟩
  simp only [F_laws_markShadeS_l2, decide_eq_true e1, cond_true]
  rw [grd_t g0, grd_t g0, grd_t g0, grd_t g0, grd_t g0, grd_t g0, Int.toNat_natCast, w_in (z := q + 1) (by omega) (by omega), w_in (z := q + 1 + 1) (by omega) (by omega), w_in (z := q + 1 + 1 + 1) (by omega) (by omega), w_in (z := q + 1 + 1 + 1 + 1) (by omega) (by omega), w_in (z := q + 1 + 1 + 1 + 1 + 1) (by omega) (by omega), w_in (z := q + 1 + 1 + 1 + 1 + 1 + 1) (by omega) (by omega), w_in (z := (i : Int) + 1) (by omega) (by omega)]
  rfl) (fun zs q _ => by simp only [F_laws_markShadeS_l2]; rw [decide_eq_false (by omega), cond_false])
 unfold F_laws_markShadeS
 rw [key]; rfl
theorem heldShadeS_eq {xs : List DShade} {k : Int} (h : xs.length ≤ 1048576) (h0 : 0 ≤ k) (h1 : k ≤ 4503599627370496) : F_laws_heldShadeS (marks mShade xs k).1 k = some (marks mShade xs k).2 := by
 have key := held_loop (m := mShade) (C := 6) (B := 9007199254740992) (step := F_laws_heldShadeS_l2) (xs := xs) (k := k) (fun x _ k => mShade_le x k) h0 (by omega) (by omega) (fun zs i x q hz hi _ hq hb hg => by
  have e1 : (i : Int) < (zs.length : Int) := by omega
  have g0 : (0 : Int) ≤ (i : Int) ∧ (i : Int) < (zs.length : Int) := ⟨by omega, e1⟩
  simp only [F_laws_heldShadeS_l2, decide_eq_true e1, cond_true]
  rw [grd_t g0, Int.toNat_natCast, hg, w_in (z := q + 1) (by omega) (by omega), w_in (z := q + 1 + 1) (by omega) (by omega), w_in (z := q + 1 + 1 + 1) (by omega) (by omega), w_in (z := q + 1 + 1 + 1 + 1) (by omega) (by omega), w_in (z := q + 1 + 1 + 1 + 1 + 1) (by omega) (by omega), w_in (z := q + 1 + 1 + 1 + 1 + 1 + 1) (by omega) (by omega), w_in (z := (i : Int) + 1) (by omega) (by omega)]
  simp only [grd_t g0]
  simp [mShade]) (fun zs q _ => by simp only [F_laws_heldShadeS_l2]; rw [decide_eq_false (by omega), cond_false])
 unfold F_laws_heldShadeS
 rw [key]; rfl
theorem mShades_le {xs : List DShade} {k : Int} : k ≤ (marks mShade xs k).2 := (marks_le (m := mShade) (C := 6) (xs := xs) (k := k) fun x _ k => mShade_le x k).1
end Go.Proofs.Ytlikfpmbcdlnjaa
