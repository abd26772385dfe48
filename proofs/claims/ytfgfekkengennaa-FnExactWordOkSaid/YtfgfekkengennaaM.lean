/- Plain mathematics of chapter 1 (words and instructions): no program is named here. -/
import Derived.WalkKit
namespace Go.Proofs.Ytfgfekkengennaa
namespace M

def wordOk (n : Int) : Bool := decide (0 ≤ n) && decide (n ≤ 4095)
def insOk (op a n : Int) : Bool := (decide (0 ≤ op) && decide (op ≤ 15)) && (decide (0 ≤ a) && decide (a ≤ 3)) && (decide (0 ≤ n) && decide (n ≤ 63))
def insWord (op a n : Int) : Int := if insOk op a n then 256 * op + 64 * a + n else -1
def insKernel (op a n : Int) : Bool := insOk op a n && (decide (op = 0) || (decide (8 ≤ op) && decide (op ≤ 14)))
def insOp (w : Int) : Int := if wordOk w then w / 256 else 0
def insA (w : Int) : Int := if wordOk w then w / 64 % 4 else 0
def insN (w : Int) : Int := if wordOk w then w % 64 else 0

theorem wordOk_iff (n : Int) : wordOk n = true ↔ 0 ≤ n ∧ n ≤ 4095 := by simp [wordOk]
theorem wordOk_no (n : Int) : wordOk n = false ↔ ¬ (0 ≤ n ∧ n ≤ 4095) := by rw [← Bool.not_eq_true, wordOk_iff]
theorem insOk_iff (op a n : Int) : insOk op a n = true ↔ (0 ≤ op ∧ op ≤ 15) ∧ (0 ≤ a ∧ a ≤ 3) ∧ (0 ≤ n ∧ n ≤ 63) := by simp [insOk, and_assoc]
theorem insOk_no (op a n : Int) : insOk op a n = false ↔ ¬ ((0 ≤ op ∧ op ≤ 15) ∧ (0 ≤ a ∧ a ≤ 3) ∧ (0 ≤ n ∧ n ≤ 63)) := by rw [← Bool.not_eq_true, insOk_iff]

theorem insOk_from (w : Int) : insOk (insOp w) (insA w) (insN w) = true := by
  by_cases h : wordOk w = true
  · have := (wordOk_iff w).1 h
    rw [insOk_iff]; simp only [insOp, insA, insN, h, if_true]; omega
  · rw [insOk_iff]; simp [insOp, insA, insN, h]
theorem insWord_from {w : Int} (h : wordOk w = true) : insWord (insOp w) (insA w) (insN w) = w := by
  have := (wordOk_iff w).1 h
  simp only [insWord, insOk_from, if_true]
  simp only [insOp, insA, insN, h, if_true]; omega

end M
end Go.Proofs.Ytfgfekkengennaa
