/- Entries are read: the program and the model answer alike. -/
import Derived.Test.YtbnjdmclnojlmaaP0
import Derived.Test.YtbnjdmclnojlmaaWSO1
namespace Go.Proofs.Ytbnjdmclnojlmaa
set_option linter.all false
def dec (w : Int) : DEntry := ⟨decide (w % 2 = 1), decide (w / 2 % 2 = 1), decide (w / 4 % 2 = 1), w / 8 % 8⟩
theorem dec_page (w : Int) : 0 ≤ (dec w).Page ∧ (dec w).Page ≤ 7 := by simp only [dec]; omega
theorem div_in {w k : Int} (h0 : 0 ≤ w) (h1 : w ≤ 4095) (hk : 1 ≤ k) : w64 (Int.tdiv w k) = w / k ∧ 0 ≤ w / k := by
 have e : Int.tdiv w k = w / k := Int.tdiv_eq_ediv_of_nonneg h0
 have g0 : 0 ≤ w / k := Int.ediv_nonneg h0 (by omega)
 have g1 : w / k ≤ w := Int.ediv_le_self k h0
 rw [e, w64_in (by omega) (by omega)]; exact ⟨rfl, g0⟩
theorem entryFrom_i {w : Int} (h0 : 0 ≤ w) (h1 : w ≤ 4095) : F_impl_EntryFrom w = some (dec w) := by
 unfold F_impl_EntryFrom
 rw [wordOk_i, show M.wordOk w = true from M.inR_iff.2 ⟨h0, h1⟩]
 simp only [Option.bind_some, Bool.not_true, cond_false]
 rw [(div_in h0 h1 (k := 1) (by omega)).1, (div_in h0 h1 (k := 2) (by omega)).1, (div_in h0 h1 (k := 4) (by omega)).1, (div_in h0 h1 (k := 8) (by omega)).1, Int.tmod_eq_emod_of_nonneg (div_in h0 h1 (k := 1) (by omega)).2, Int.tmod_eq_emod_of_nonneg (div_in h0 h1 (k := 2) (by omega)).2, Int.tmod_eq_emod_of_nonneg (div_in h0 h1 (k := 4) (by omega)).2, Int.tmod_eq_emod_of_nonneg (div_in h0 h1 (k := 8) (by omega)).2, Int.ediv_one]
 rfl
theorem entryFrom_s {w : Int} (h0 : 0 ≤ w) (h1 : w ≤ 4095) : F_spec_EntryFrom w = some (dec w) := by
 unfold F_spec_EntryFrom
 rw [wordOk_s, show M.wordOk w = true from M.inR_iff.2 ⟨h0, h1⟩]
 simp only [Option.bind_some, Bool.not_true, cond_false]
 rw [(div_in h0 h1 (k := 2) (by omega)).1, (div_in h0 h1 (k := 4) (by omega)).1, (div_in h0 h1 (k := 8) (by omega)).1, Int.tmod_eq_emod_of_nonneg h0, Int.tmod_eq_emod_of_nonneg (div_in h0 h1 (k := 2) (by omega)).2, Int.tmod_eq_emod_of_nonneg (div_in h0 h1 (k := 4) (by omega)).2, Int.tmod_eq_emod_of_nonneg (div_in h0 h1 (k := 8) (by omega)).2]
 rfl
end Go.Proofs.Ytbnjdmclnojlmaa
