/- A remainder lies in its range. -/
import Derived.Test.YtlikfpmbcdlnjaaZY
import Derived.Test.YtlikfpmbcdlnjaaWD1
namespace Go.Proofs.Ytlikfpmbcdlnjaa
set_option linter.all false
theorem tmod_in {a b : Int} (ha : 0 ≤ a) (hb : 0 < b) : 0 ≤ Int.tmod a b ∧ Int.tmod a b < b := by
 rw [Int.tmod_eq_emod_of_nonneg ha]; exact ⟨Int.emod_nonneg _ (by omega), Int.emod_lt_of_pos _ hb⟩
theorem alive_t : F_laws_alive = some true := rfl
def enc (e : DEntry) : Int := 8 * e.Page + (bif e.There then 1 else 0) + (bif e.Write then 2 else 0) + (bif e.User then 4 else 0)
theorem page_cases {p : Int} (h0 : 0 ≤ p) (h7 : p ≤ 7) : p = 0 ∨ p = 1 ∨ p = 2 ∨ p = 3 ∨ p = 4 ∨ p = 5 ∨ p = 6 ∨ p = 7 := by omega
theorem entryWord_s {e : DEntry} (h0 : 0 ≤ e.Page) (h7 : e.Page ≤ 7) : F_spec_EntryWord e = some (enc e) := by
 obtain ⟨t, w, u, p⟩ := e
 rcases page_cases h0 h7 with h | h | h | h | h | h | h | h <;> simp only at h <;> subst h <;> cases t <;> cases w <;> cases u <;> rfl
theorem entryWord_bad_s {e : DEntry} (h : ¬ (0 ≤ e.Page ∧ e.Page ≤ 7)) : F_spec_EntryWord e = some (-1) := by
 unfold F_spec_EntryWord F_spec_l1In
 rw [show ∀ b y : Bool, (cond b (some y) (some false)) = some (b && y) from fun b y => by cases b <;> rfl]
 have e1 : (decide (0 ≤ e.Page) && decide (e.Page ≤ 7)) = false := by rw [Bool.eq_false_iff]; simp; omega
 rw [e1]; rfl
end Go.Proofs.Ytlikfpmbcdlnjaa
