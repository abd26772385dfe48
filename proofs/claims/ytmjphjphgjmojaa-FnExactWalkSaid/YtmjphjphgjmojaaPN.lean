/- Entries are read: the program and the model answer alike. -/
import Derived.Test.YtmjphjphgjmojaaZX
import Derived.Test.YtmjphjphgjmojaaWN1
namespace Go.Proofs.Ytmjphjphgjmojaa
set_option linter.all false
theorem cond_be {b y : Bool} : (cond b (some y) (some false)) = some (b && y) := by cases b <;> rfl
theorem wordOk_ie (n : Int) : F_impl_WordOk n = some (decide (0 ≤ n) && decide (n ≤ 4095)) := by
 unfold F_impl_WordOk; rw [cond_be]
theorem wordOk_se (n : Int) : F_spec_WordOk n = some (decide (0 ≤ n) && decide (n ≤ 4095)) := by
 unfold F_spec_WordOk F_spec_l1In; rw [cond_be]; rfl
def dec (w : Int) : DEntry := ⟨decide (w % 2 = 1), decide (w / 2 % 2 = 1), decide (w / 4 % 2 = 1), w / 8 % 8⟩
theorem div_in {w k : Int} (h0 : 0 ≤ w) (h1 : w ≤ 4095) (hk : 1 ≤ k) : w64 (Int.tdiv w k) = w / k ∧ 0 ≤ w / k := by
 have e : Int.tdiv w k = w / k := Int.tdiv_eq_ediv_of_nonneg h0
 have g0 : 0 ≤ w / k := Int.ediv_nonneg h0 (by omega)
 have g1 : w / k ≤ w := Int.ediv_le_self k h0
 rw [e, w64_in (by omega) (by omega)]; exact ⟨rfl, g0⟩
theorem entryFrom_i {w : Int} (h0 : 0 ≤ w) (h1 : w ≤ 4095) : F_impl_EntryFrom w = some (dec w) := by
 unfold F_impl_EntryFrom
 rw [wordOk_ie, decide_eq_true h0, decide_eq_true h1]
 simp only [Option.bind_some, Bool.and_self, Bool.not_true, cond_false]
 rw [(div_in h0 h1 (k := 1) (by omega)).1, (div_in h0 h1 (k := 2) (by omega)).1, (div_in h0 h1 (k := 4) (by omega)).1, (div_in h0 h1 (k := 8) (by omega)).1, Int.tmod_eq_emod_of_nonneg (div_in h0 h1 (k := 1) (by omega)).2, Int.tmod_eq_emod_of_nonneg (div_in h0 h1 (k := 2) (by omega)).2, Int.tmod_eq_emod_of_nonneg (div_in h0 h1 (k := 4) (by omega)).2, Int.tmod_eq_emod_of_nonneg (div_in h0 h1 (k := 8) (by omega)).2, Int.ediv_one]
 rfl
theorem entryFrom_s {w : Int} (h0 : 0 ≤ w) (h1 : w ≤ 4095) : F_spec_EntryFrom w = some (dec w) := by
 unfold F_spec_EntryFrom
 rw [wordOk_se, decide_eq_true h0, decide_eq_true h1]
 simp only [Option.bind_some, Bool.and_self, Bool.not_true, cond_false]
 rw [(div_in h0 h1 (k := 2) (by omega)).1, (div_in h0 h1 (k := 4) (by omega)).1, (div_in h0 h1 (k := 8) (by omega)).1, Int.tmod_eq_emod_of_nonneg h0, Int.tmod_eq_emod_of_nonneg (div_in h0 h1 (k := 2) (by omega)).2, Int.tmod_eq_emod_of_nonneg (div_in h0 h1 (k := 4) (by omega)).2, Int.tmod_eq_emod_of_nonneg (div_in h0 h1 (k := 8) (by omega)).2]
 rfl
end Go.Proofs.Ytmjphjphgjmojaa
