/- The plain functions of the laws of EntryWord and EntryFrom answer true. -/
import Derived.Test.YthbefahhpikcaaaZX
import Derived.Test.YthbefahhpikcaaaWE1
namespace Go.Proofs.Ythbefahhpikcaaa
set_option linter.all false

theorem cond_be {b y : Bool} : (cond b (some y) (some false)) = some (b && y) := by cases b <;> rfl
theorem tmod_in {a b : Int} (ha : 0 ≤ a) (hb : 0 < b) : 0 ≤ Int.tmod a b ∧ Int.tmod a b < b := by
  rw [Int.tmod_eq_emod_of_nonneg ha]; exact ⟨Int.emod_nonneg _ (by omega), Int.emod_lt_of_pos _ hb⟩

/-- A draw always answers. -/
theorem pick_ex {r : Dl20Rd} {n : Int} (hn : 1 ≤ n) (h0 : 0 ≤ r.p) (h1 : r.p ≤ 1000000) : ∃ v, F___spec_l20Rd__pick r n = some (⟨r.b, r.p + 1⟩, v) := by
  unfold F___spec_l20Rd__pick
  have e1 : w64 (r.p + 1) = r.p + 1 := w64_in (by omega) (by omega)
  rw [e1, show r.p + 1 - 1 = r.p by omega, w64_in (z := r.p) (by omega) (by omega), decide_eq_false (show ¬ n < 1 by omega), cond_false]
  by_cases hl : ((r.b.length : Nat) : Int) = 0
  · rw [decide_eq_true hl]; exact ⟨_, rfl⟩
  · rw [decide_eq_false hl, cond_false]
    have hb : (0 : Int) < ((r.b.length : Nat) : Int) := by omega
    have hn0 : n ≠ 0 := by omega
    by_cases hk : r.p < ((r.b.length : Nat) : Int)
    · rw [decide_eq_true hk, cond_true, grd_t ⟨h0, hk⟩, grd_t hn0]; exact ⟨_, rfl⟩
    · have e2 : w64 (w64 (r.p * 7) + 3) = r.p * 7 + 3 := by rw [w64_in (z := r.p * 7) (by omega) (by omega), w64_in (by omega) (by omega)]
      rw [decide_eq_false hk, cond_false, e2, grd_t hl, grd_t (tmod_in h0 hb), grd_t hl, grd_t (tmod_in (by omega) hb), grd_t hl, grd_t hn0]
      exact ⟨_, rfl⟩
theorem open_ex {xs : List Int} : ∃ r, F_spec_l20Open xs = some r ∧ r.p = 0 := by
  unfold F_spec_l20Open
  by_cases h : (2000 : Int) < ((xs.length : Nat) : Int)
  · rw [decide_eq_true h, cond_true, grd_t ⟨by omega, by omega, by omega⟩]; exact ⟨_, rfl, rfl⟩
  · rw [decide_eq_false h, cond_false]; exact ⟨_, rfl, rfl⟩
theorem alive_t : F_laws_alive = some true := rfl

def enc (e : DEntry) : Int := 8 * e.Page + (bif e.There then 1 else 0) + (bif e.Write then 2 else 0) + (bif e.User then 4 else 0)
theorem page_cases {p : Int} (h0 : 0 ≤ p) (h7 : p ≤ 7) : p = 0 ∨ p = 1 ∨ p = 2 ∨ p = 3 ∨ p = 4 ∨ p = 5 ∨ p = 6 ∨ p = 7 := by omega
theorem entryWord_i {e : DEntry} (h0 : 0 ≤ e.Page) (h7 : e.Page ≤ 7) : F_impl_EntryWord e = some (enc e) := by
  obtain ⟨t, w, u, p⟩ := e
  rcases page_cases h0 h7 with h | h | h | h | h | h | h | h <;> simp only at h <;> subst h <;> cases t <;> cases w <;> cases u <;> rfl
theorem entryWord_s {e : DEntry} (h0 : 0 ≤ e.Page) (h7 : e.Page ≤ 7) : F_spec_EntryWord e = some (enc e) := by
  obtain ⟨t, w, u, p⟩ := e
  rcases page_cases h0 h7 with h | h | h | h | h | h | h | h <;> simp only at h <;> subst h <;> cases t <;> cases w <;> cases u <;> rfl
theorem entryFrom_enc {e : DEntry} (h0 : 0 ≤ e.Page) (h7 : e.Page ≤ 7) : F_impl_EntryFrom (enc e) = some e := by
  obtain ⟨t, w, u, p⟩ := e
  rcases page_cases h0 h7 with h | h | h | h | h | h | h | h <;> simp only at h <;> subst h <;> cases t <;> cases w <;> cases u <;> rfl
theorem enc_in {e : DEntry} (h0 : 0 ≤ e.Page) (h7 : e.Page ≤ 7) : 0 ≤ enc e ∧ enc e < 64 := by
  obtain ⟨t, w, u, p⟩ := e
  simp only at h0 h7
  cases t <;> cases w <;> cases u <;> simp only [enc, cond_true, cond_false] <;> omega
theorem entryWord_bad {e : DEntry} (h : ¬ (0 ≤ e.Page ∧ e.Page ≤ 7)) : F_impl_EntryWord e = some (-1) ∧ F_spec_EntryWord e = some (-1) := by
  unfold F_impl_EntryWord F_spec_EntryWord F_impl_pageOk F_spec_l1In
  rw [cond_be, cond_be]
  have e1 : (decide (0 ≤ e.Page) && decide (e.Page < 8)) = false := by rw [Bool.eq_false_iff]; simp; omega
  have e2 : (decide (0 ≤ e.Page) && decide (e.Page ≤ 7)) = false := by rw [Bool.eq_false_iff]; simp; omega
  rw [e1, e2]; exact ⟨rfl, rfl⟩

theorem fnEntryWord_t (xs : List Int) : F_laws_FnEntryWord xs = some true := by
  unfold F_laws_FnEntryWord
  by_cases hx : (1048576 : Int) < ((xs.length : Nat) : Int)
  · rw [decide_eq_true hx]; rfl
  · rw [decide_eq_false hx, cond_false]
    have hd : ∃ e, F_spec_DrawEntryWord xs = some e := by
      unfold F_spec_DrawEntryWord
      obtain ⟨r, hr, p0⟩ := open_ex (xs := xs)
      obtain ⟨v1, h1⟩ := pick_ex (r := r) (n := 2) (by omega) (by omega) (by omega)
      obtain ⟨v2, h2⟩ := pick_ex (r := ⟨r.b, r.p + 1⟩) (n := 2) (by omega) (by simp only; omega) (by simp only; omega)
      obtain ⟨v3, h3⟩ := pick_ex (r := ⟨r.b, r.p + 1 + 1⟩) (n := 2) (by omega) (by simp only; omega) (by simp only; omega)
      obtain ⟨v4, h4⟩ := pick_ex (r := ⟨r.b, r.p + 1 + 1 + 1⟩) (n := 10) (by omega) (by simp only; omega) (by simp only; omega)
      simp only [hr, h1, h2, h3, h4, Option.bind_some]
      exact ⟨_, rfl⟩
    obtain ⟨e, he⟩ := hd
    rw [he, Option.bind_some]
    by_cases hp : 0 ≤ e.Page ∧ e.Page ≤ 7
    · obtain ⟨g0, g1⟩ := enc_in hp.1 hp.2
      rw [entryWord_i hp.1 hp.2, Option.bind_some, entryWord_s hp.1 hp.2, Option.bind_some]
      rw [decide_eq_true (rfl : enc e = enc e), decide_eq_false (show ¬ enc e < 0 by omega), decide_eq_true g1, Bool.not_true, cond_false, cond_false, cond_true, entryFrom_enc hp.1 hp.2, Option.bind_some]
      simp
    · rw [(entryWord_bad hp).1, (entryWord_bad hp).2]
      simp only [Option.bind_some, alive_t]
      rfl

theorem wordOk_ie (n : Int) : F_impl_WordOk n = some (decide (0 ≤ n) && decide (n ≤ 4095)) := by
  unfold F_impl_WordOk; rw [cond_be]
theorem wordOk_se (n : Int) : F_spec_WordOk n = some (decide (0 ≤ n) && decide (n ≤ 4095)) := by
  unfold F_spec_WordOk F_spec_l1In; rw [cond_be]; rfl
def dec (w : Int) : DEntry := ⟨decide (w % 2 = 1), decide (w / 2 % 2 = 1), decide (w / 4 % 2 = 1), w / 8 % 8⟩
theorem div_in {w k : Int} (h0 : 0 ≤ w) (h1 : w ≤ 4095) (hk : 1 ≤ k) : w64 (Int.tdiv w k) = w / k ∧ 0 ≤ w / k := by
  have e : Int.tdiv w k = w / k := Int.tdiv_eq_ediv_of_nonneg h0
  have g0 : 0 ≤ w / k := Int.ediv_nonneg h0 (by omega)
  have g1 : w / k ≤ w := Int.ediv_le_self k h0
  rw [e, w64_in (by omega) (by omega)]; exact ⟨rfl, g0⟩
theorem entryFrom_i {w : Int} (h0 : 0 ≤ w) (h1 : w ≤ 4095) : F_impl_EntryFrom w = some (dec w) := by
  unfold F_impl_EntryFrom
  rw [wordOk_ie, decide_eq_true h0, decide_eq_true h1]
  simp only [Option.bind_some, Bool.and_self, Bool.not_true, cond_false]
  rw [(div_in h0 h1 (k := 1) (by omega)).1, (div_in h0 h1 (k := 2) (by omega)).1, (div_in h0 h1 (k := 4) (by omega)).1, (div_in h0 h1 (k := 8) (by omega)).1, Int.tmod_eq_emod_of_nonneg (div_in h0 h1 (k := 1) (by omega)).2, Int.tmod_eq_emod_of_nonneg (div_in h0 h1 (k := 2) (by omega)).2, Int.tmod_eq_emod_of_nonneg (div_in h0 h1 (k := 4) (by omega)).2, Int.tmod_eq_emod_of_nonneg (div_in h0 h1 (k := 8) (by omega)).2, Int.ediv_one]
  rfl
theorem entryFrom_s {w : Int} (h0 : 0 ≤ w) (h1 : w ≤ 4095) : F_spec_EntryFrom w = some (dec w) := by
  unfold F_spec_EntryFrom
  rw [wordOk_se, decide_eq_true h0, decide_eq_true h1]
  simp only [Option.bind_some, Bool.and_self, Bool.not_true, cond_false]
  rw [(div_in h0 h1 (k := 2) (by omega)).1, (div_in h0 h1 (k := 4) (by omega)).1, (div_in h0 h1 (k := 8) (by omega)).1, Int.tmod_eq_emod_of_nonneg h0, Int.tmod_eq_emod_of_nonneg (div_in h0 h1 (k := 2) (by omega)).2, Int.tmod_eq_emod_of_nonneg (div_in h0 h1 (k := 4) (by omega)).2, Int.tmod_eq_emod_of_nonneg (div_in h0 h1 (k := 8) (by omega)).2]
  rfl
theorem enc_dec {w : Int} (h0 : 0 ≤ w) : enc (dec w) = w % 64 := by
  simp only [enc, dec]
  by_cases a : w % 2 = 1 <;> by_cases b : w / 2 % 2 = 1 <;> by_cases c : w / 4 % 2 = 1 <;> simp only [a, b, c, decide_true, decide_false, cond_true, cond_false] <;> omega

theorem fnEntryFrom_t (xs : List Int) : F_laws_FnEntryFrom xs = some true := by
  unfold F_laws_FnEntryFrom
  by_cases hx : (1048576 : Int) < ((xs.length : Nat) : Int)
  · rw [decide_eq_true hx]; rfl
  · rw [decide_eq_false hx, cond_false]
    have hd : ∃ w, F_spec_DrawEntryFrom xs = some w := by
      unfold F_spec_DrawEntryFrom F___spec_l20Rd__word
      obtain ⟨r, hr, p0⟩ := open_ex (xs := xs)
      obtain ⟨v1, h1⟩ := pick_ex (r := r) (n := 16) (by omega) (by omega) (by omega)
      obtain ⟨v2, h2⟩ := pick_ex (r := ⟨r.b, r.p + 1⟩) (n := 256) (by omega) (by simp only; omega) (by simp only; omega)
      obtain ⟨v3, h3⟩ := pick_ex (r := ⟨r.b, r.p + 1 + 1⟩) (n := 9) (by omega) (by simp only; omega) (by simp only; omega)
      simp only [hr, h1, h2, h3, Option.bind_some]
      exact ⟨_, rfl⟩
    obtain ⟨w, hw⟩ := hd
    rw [hw, Option.bind_some]
    by_cases hp : 0 ≤ w ∧ w ≤ 4095
    · obtain ⟨h0, h1⟩ := hp
      have hpg : 0 ≤ (dec w).Page ∧ (dec w).Page ≤ 7 := by simp only [dec]; omega
      rw [entryFrom_i h0 h1, entryFrom_s h0 h1]
      simp only [Option.bind_some, wordOk_ie, decide_eq_true h0, decide_eq_true h1, alive_t, entryWord_i hpg.1 hpg.2, enc_dec h0, Int.tmod_eq_emod_of_nonneg h0]
      simp
    · have e : (decide (0 ≤ w) && decide (w ≤ 4095)) = false := by rw [Bool.eq_false_iff]; simp; omega
      unfold F_impl_EntryFrom F_spec_EntryFrom
      simp only [wordOk_ie, wordOk_se, e, Option.bind_some, alive_t]
      rfl
end Go.Proofs.Ythbefahhpikcaaa
