/- A remainder lies in its range. -/
import Derived.Test.YtbogmfjpabfhpaaZY
import Derived.Test.YtbogmfjpabfhpaaWD1
namespace Go.Proofs.Ytbogmfjpabfhpaa
set_option linter.all false
theorem tmod_in {a b : Int} (ha : 0 ≤ a) (hb : 0 < b) : 0 ≤ Int.tmod a b ∧ Int.tmod a b < b := by
 rw [Int.tmod_eq_emod_of_nonneg ha]; exact ⟨Int.emod_nonneg _ (by omega), Int.emod_lt_of_pos _ hb⟩
end Go.Proofs.Ytbogmfjpabfhpaa
