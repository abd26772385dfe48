/- What the laws' own helpers answer, as plain functions. -/
import Derived.Test.YtbnjdmclnojlmaaP8
import Derived.Test.YtbnjdmclnojlmaaWH1
namespace Go.Proofs.Ytbnjdmclnojlmaa
set_option linter.all false
def upFrom (k : Int) (n : Nat) : List Int := (List.range n).map fun (i : Nat) => k + (i : Int)
theorem upFrom_len {k : Int} {n : Nat} : (upFrom k n).length = n := by simp [upFrom]
theorem markIntS_eq {xs : List Int} {k : Int} (h : xs.length ≤ 9007199254740992) (h0 : 0 ≤ k) (h1 : k ≤ 9007199254740992) : F_laws_markIntS xs k = some (upFrom k xs.length, k + xs.length) := by
 have key : ∀ s : List Int × Int × Int, (0 ≤ s.2.2 ∧ s.2.2 ≤ (xs.length : Int) ∧ s.2.1 = k + s.2.2 ∧ s.1.length = xs.length ∧ ∀ i, i < s.2.2.toNat → s.1[i]? = some (k + i)) → iter F_laws_markIntS_l2 s = some (.ret (.go (k + xs.length, upFrom k xs.length))) := by
  refine iter_rec _ (fun s => xs.length - s.2.2.toNat) _ ?_
  rintro ⟨ys, q, i⟩ ⟨a0, a1, a2, a3, a4⟩
  simp only at a0 a1 a2 a3 a4
  by_cases hi : i < xs.length
  · refine .inl ⟨(ys.set i.toNat q, q + 1, i + 1), ?_, ⟨by simp only; omega, by simp only; omega, by simp only; omega, by simpa using a3, ?_⟩, by simp only; omega, rfl⟩
    · simp only [F_laws_markIntS_l2, a3, decide_eq_true hi, cond_true, grd]
      rw [if_pos ⟨a0, hi⟩, w64_in (by omega) (by omega), w64_in (by omega) (by omega)]
    · intro j hj
      simp only at hj ⊢
      rw [List.getElem?_set]
      by_cases e : i.toNat = j
      · subst e; rw [if_pos rfl, if_pos (by omega)]; congr 1; omega
      · rw [if_neg e]; exact a4 j (by omega)
  · have hi2 : i = xs.length := by omega
    have hy : ys = upFrom k xs.length := by
     apply List.ext_getElem?
     intro j
     by_cases hj : j < xs.length
     · rw [a4 j (by omega)]; simp [upFrom, hj]
     · rw [List.getElem?_eq_none (by omega), List.getElem?_eq_none (by rw [upFrom_len]; omega)]
    have hf : decide (i < (ys.length : Int)) = false := by simp; omega
    refine .inr ⟨?_, ?_⟩
    · intro s'; simp only [F_laws_markIntS_l2, hf, cond_false]; simp
    · simp only [F_laws_markIntS_l2, hf, cond_false, a2, hi2, hy]
      rw [← hy, a3]; simp
 unfold F_laws_markIntS
 rw [key _ ⟨by simp, by simp, by simp, rfl, by simp⟩]
 rfl
theorem szIntS_eq {xs : List Int} {left : Int} (h : xs.length ≤ 9223372036854775807) (h0 : 0 ≤ left) (h1 : left ≤ 1048576) : F_laws_szIntS xs left = some (if (xs.length : Int) ≤ left then left - xs.length else -1) := by
 unfold F_laws_szIntS
 rw [w64_in (by omega) (by omega)]
 by_cases hl : (xs.length : Int) ≤ left
 · have : decide (left - (xs.length : Int) < 0) = false := by simp; omega
   rw [this, if_pos hl]; rfl
 · have : decide (left - (xs.length : Int) < 0) = true := by simp; omega
   rw [this, if_neg hl]; rfl
end Go.Proofs.Ytbnjdmclnojlmaa
