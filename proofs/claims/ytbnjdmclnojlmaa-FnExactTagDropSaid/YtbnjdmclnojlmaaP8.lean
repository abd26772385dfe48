/- A list's copy and two lists' equality, as the laws have them. -/
import Derived.Test.YtbnjdmclnojlmaaP0
import Derived.Test.YtbnjdmclnojlmaaWH1
namespace Go.Proofs.Ytbnjdmclnojlmaa
set_option linter.all false
theorem toIntS_eq {xs : List Int} (h : xs.length ≤ 1048576) : F_laws_toIntS xs = some xs := by
 have key : ∀ s : List Int × Int, (0 ≤ s.2 ∧ s.2 ≤ (xs.length : Int) ∧ s.1.length = xs.length ∧ ∀ i, i < s.2.toNat → s.1[i]? = xs[i]?) → iter (F_laws_toIntS_l2 xs) s = some (.ret (.go xs)) := by
  refine iter_rec _ (fun s => xs.length - s.2.toNat) _ ?_
  rintro ⟨ys, k⟩ ⟨h0, h1, h2, h3⟩
  simp only at h0 h1 h2 h3
  by_cases hk : k < xs.length
  · refine .inl ⟨(ys.set k.toNat (xs.getD k.toNat default), k + 1), ?_, ⟨by simp only; omega, by simp only; omega, by simpa using h2, ?_⟩, by simp only; omega, rfl⟩
    · simp only [F_laws_toIntS_l2, decide_eq_true hk, cond_true, grd, h2]
      rw [if_pos ⟨h0, hk⟩, if_pos ⟨h0, hk⟩, w64_in (by omega) (by omega)]
    · intro j hj
      simp only at hj ⊢
      rw [List.getElem?_set]
      by_cases e : k.toNat = j
      · subst e; rw [if_pos rfl, if_pos (by omega), getD_lt (by omega), List.getElem?_eq_getElem (by omega)]
      · rw [if_neg e]; exact h3 j (by omega)
  · have hy : ys = xs := by
     apply List.ext_getElem?
     intro j
     by_cases hj : j < xs.length
     · exact h3 j (by omega)
     · rw [List.getElem?_eq_none (by omega), List.getElem?_eq_none (by omega)]
    have hf : decide (k < (xs.length : Int)) = false := by simp; omega
    refine .inr ⟨?_, ?_⟩
    · intro s'; simp only [F_laws_toIntS_l2, hf, cond_false]; simp
    · simp only [F_laws_toIntS_l2, hf, cond_false, hy]
 unfold F_laws_toIntS
 rw [grd_t ⟨by omega, by omega, by omega⟩, key _ ⟨by simp, by simp, by simp, by simp⟩]
 rfl
theorem eqIntS_eq {xs ys : List Int} (h : xs.length ≤ 9223372036854775807) : F_laws_eqIntS xs ys = some (decide (xs = ys)) := by
 unfold F_laws_eqIntS
 by_cases hl : xs.length = ys.length
 · have key : ∀ k : Int, (0 ≤ k ∧ k ≤ (xs.length : Int)) → iter (F_laws_eqIntS_l2 xs ys) k = some (.ret (bif decide (xs.drop k.toNat = ys.drop k.toNat) then .go () else .out false)) := by
    refine iter_rec _ (fun k => xs.length - k.toNat) _ ?_
    rintro k ⟨h0, h1⟩
    by_cases hk : k < xs.length
    · have e1 : xs.drop k.toNat = xs.getD k.toNat default :: xs.drop (k + 1).toNat := by
       rw [getD_lt (by omega), show (k + 1).toNat = k.toNat + 1 by omega]; exact List.drop_eq_getElem_cons (by omega)
      have e2 : ys.drop k.toNat = ys.getD k.toNat default :: ys.drop (k + 1).toNat := by
       rw [getD_lt (by omega), show (k + 1).toNat = k.toNat + 1 by omega]; exact List.drop_eq_getElem_cons (by omega)
      by_cases he : xs.getD k.toNat default = ys.getD k.toNat default
      · refine .inl ⟨k + 1, ?_, ⟨by omega, by omega⟩, by omega, ?_⟩
        · simp only [F_laws_eqIntS_l2, decide_eq_true hk, cond_true, grd]
          rw [if_pos ⟨h0, hk⟩, if_pos ⟨h0, by omega⟩, he, w64_in (by omega) (by omega)]
          simp
        · rw [e1, e2, he]; simp
      · have hf : (!decide (xs.getD k.toNat default = ys.getD k.toNat default)) = true := by rw [decide_eq_false he]; rfl
        refine .inr ⟨?_, ?_⟩
        · intro s'
          simp only [F_laws_eqIntS_l2, decide_eq_true hk, cond_true, grd]
          rw [if_pos ⟨h0, hk⟩, if_pos ⟨h0, by omega⟩, hf]
          simp
        · simp only [F_laws_eqIntS_l2, decide_eq_true hk, cond_true, grd]
          rw [if_pos ⟨h0, hk⟩, if_pos ⟨h0, by omega⟩, hf, e1, e2]
          have : decide (xs.getD k.toNat default :: xs.drop (k + 1).toNat = ys.getD k.toNat default :: ys.drop (k + 1).toNat) = false := decide_eq_false fun e => he (List.cons.inj e).1
          rw [this]; rfl
    · have hk2 : k = xs.length := by omega
      subst hk2
      refine .inr ⟨?_, ?_⟩
      · intro s'; simp [F_laws_eqIntS_l2]
      · simp [F_laws_eqIntS_l2, hl]
   rw [key 0 ⟨by omega, by omega⟩]
   have : decide ((xs.length : Int) = (ys.length : Int)) = true := by simp [hl]
   rw [this]
   by_cases e : xs = ys
   · subst e; simp [LO.val, JO.run, F_laws_eqIntS_j1]
   · simp [e, LO.val, JO.run]
 · have : decide ((xs.length : Int) = (ys.length : Int)) = false := by simp; omega
   rw [this]
   have e : xs ≠ ys := fun e => hl (by rw [e])
   simp [e]
end Go.Proofs.Ytbnjdmclnojlmaa
