/- The laws' own equality of machines. -/
import Derived.Test.YtlikfpmbcdlnjaaPO
import Derived.Test.YtlikfpmbcdlnjaaWI1
namespace Go.Proofs.Ytlikfpmbcdlnjaa
set_option linter.all false
theorem sameInts_eq {xs ys : List Int} (h : xs.length ≤ 9223372036854775806) : F_laws_sameInts xs ys = some (decide (xs = ys)) := by
 unfold F_laws_sameInts
 by_cases hl : xs.length = ys.length
 · have key : ∀ k : Int, (0 ≤ k ∧ k ≤ (xs.length : Int)) → iter (F_laws_sameInts_l2 xs ys) k = some (.ret (bif decide (xs.drop k.toNat = ys.drop k.toNat) then .go () else .out false)) := by
    refine iter_rec _ (fun k => xs.length - k.toNat) _ ?_
    rintro k ⟨h0, h1⟩
    by_cases hk : k < xs.length
    · have e1 : xs.drop k.toNat = xs.getD k.toNat default :: xs.drop (k + 1).toNat := by
       rw [getD_lt (by omega), show (k + 1).toNat = k.toNat + 1 by omega]; exact List.drop_eq_getElem_cons (by omega)
      have e2 : ys.drop k.toNat = ys.getD k.toNat default :: ys.drop (k + 1).toNat := by
       rw [getD_lt (by omega), show (k + 1).toNat = k.toNat + 1 by omega]; exact List.drop_eq_getElem_cons (by omega)
      have es : F_laws_sameInts_l2 xs ys k = cond (!decide (xs.getD k.toNat default = ys.getD k.toNat default)) (some (.ret (.out false))) (some (.next (k + 1))) := by
       unfold F_laws_sameInts_l2
       rw [decide_eq_true hk, cond_true, grd_t ⟨h0, hk⟩, grd_t ⟨h0, by omega⟩, w64_in (by omega) (by omega)]
      by_cases he : xs.getD k.toNat default = ys.getD k.toNat default
      · refine .inl ⟨k + 1, by rw [es, decide_eq_true he]; rfl, ⟨by omega, by omega⟩, by omega, ?_⟩
        rw [e1, e2, he]; simp
      · refine .inr ⟨fun s' => by rw [es, decide_eq_false he]; simp, ?_⟩
        rw [es, decide_eq_false he, e1, e2]
        have : decide (xs.getD k.toNat default :: xs.drop (k + 1).toNat = ys.getD k.toNat default :: ys.drop (k + 1).toNat) = false := decide_eq_false fun e => he (List.cons.inj e).1
        rw [this]; rfl
    · have hk2 : k = xs.length := by omega
      subst hk2
      refine .inr ⟨?_, ?_⟩
      · intro s'; simp [F_laws_sameInts_l2]
      · simp [F_laws_sameInts_l2, hl]
   rw [key 0 ⟨by omega, by omega⟩]
   have : decide ((xs.length : Int) = (ys.length : Int)) = true := by simp [hl]
   rw [this]
   by_cases e : xs = ys
   · subst e; simp [LO.val, JO.run, F_laws_sameInts_j1]
   · simp [e, LO.val, JO.run]
 · have : decide ((xs.length : Int) = (ys.length : Int)) = false := by simp; omega
   rw [this]
   have e : xs ≠ ys := fun e => hl (by rw [e])
   simp [e]
theorem sameCore_refl {a : DCore} (h : a.Regs.length ≤ 9223372036854775806) : F_laws_sameCore a a = some true := by
 unfold F_laws_sameCore
 rw [sameInts_eq h]
 simp
theorem sameBare_refl {a : DBare} (h : SmallB a) : F_laws_sameBare a a = some true := by
 have := h.c.regs; have := h.mem; have := h.i; have := h.o
 unfold F_laws_sameBare
 rw [sameCore_refl (by omega), sameInts_eq (by omega), sameInts_eq (by omega), sameInts_eq (by omega)]
 simp
end Go.Proofs.Ytlikfpmbcdlnjaa
