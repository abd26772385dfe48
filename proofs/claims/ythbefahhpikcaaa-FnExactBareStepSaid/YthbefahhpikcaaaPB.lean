/- The laws' helpers on cores and machines, and the exact laws of CoreOk and BareOk. -/
import Derived.Test.YthbefahhpikcaaaPA
namespace Go.Proofs.Ythbefahhpikcaaa
set_option linter.all false

theorem toCore_eq {c : DCore} (h : SmallC c) : F_laws_toCore c = some c := by
  unfold F_laws_toCore; rw [toIntS_eq h.regs]; rfl
theorem toBare_eq {b : DBare} (h : SmallB b) : F_laws_toBare b = some b := by
  unfold F_laws_toBare; rw [toCore_eq h.c, toIntS_eq h.mem, toIntS_eq h.i, toIntS_eq h.o]; rfl
noncomputable instance : DecidableEq DCore := fun a b => Classical.propDecidable (a = b)
noncomputable instance : DecidableEq DBare := fun a b => Classical.propDecidable (a = b)
theorem eqCore_eq {a b : DCore} (h : a.Regs.length ≤ 9223372036854775807) : F_laws_eqCore a b = some (decide (a = b)) := by
  unfold F_laws_eqCore
  rw [eqIntS_eq h]
  obtain ⟨r, p1, p2, p3, p4, p5, p6, p7, p8, p9, p10, p11, p12⟩ := a
  obtain ⟨r', q1, q2, q3, q4, q5, q6, q7, q8, q9, q10, q11, q12⟩ := b
  simp only [Option.bind_some, DCore.mk.injEq]
  by_cases h0 : r = r' <;> by_cases h1 : p1 = q1 <;> by_cases h2 : p2 = q2 <;> by_cases h3 : p3 = q3 <;> by_cases h4 : p4 = q4 <;> by_cases h6 : p6 = q6 <;> by_cases h7 : p7 = q7 <;> by_cases h8 : p8 = q8 <;> simp [*]
  cases p5 <;> cases q5 <;> cases p9 <;> cases q9 <;> cases p10 <;> cases q10 <;> cases p11 <;> cases q11 <;> cases p12 <;> cases q12 <;> rfl
theorem eqBare_eq {a b : DBare} (h : SmallB a) : F_laws_eqBare a b = some (decide (a = b)) := by
  have := h.c.regs; have := h.mem; have := h.i; have := h.o
  unfold F_laws_eqBare
  rw [eqCore_eq (by omega), eqIntS_eq (by omega), eqIntS_eq (by omega), eqIntS_eq (by omega)]
  obtain ⟨c, m, i, o⟩ := a
  obtain ⟨c', m', i', o'⟩ := b
  simp only [Option.bind_some, DBare.mk.injEq]
  by_cases h0 : c = c' <;> by_cases h1 : m = m' <;> by_cases h2 : i = i' <;> by_cases h3 : o = o' <;> simp [*]

/-- What the sizes tell. -/
theorem szCore_eq {c : DCore} {left : Int} (h : c.Regs.length ≤ 9223372036854775807) (h0 : 0 ≤ left) (h1 : left ≤ 1048576) : F_laws_szCore c left = some (if (c.Regs.length : Int) ≤ left then left - c.Regs.length else -1) := by
  unfold F_laws_szCore
  rw [szIntS_eq h h0 h1]
  simp only [Option.bind_some]
  split
  · have : decide (left - (c.Regs.length : Int) < 0) = false := by simp; omega
    rw [this]; rfl
  · rfl
theorem szBare_eq {b : DBare} (h1 : b.C.Regs.length ≤ 9223372036854775807) (h2 : b.Mem.length ≤ 9223372036854775807) (h3 : b.In.length ≤ 9223372036854775807) (h4 : b.Out.length ≤ 9223372036854775807) :
    ∃ v, F_laws_szBare b 1048576 = some v ∧ (v < 0 ∨ SmallB b) := by
  unfold F_laws_szBare
  rw [szCore_eq h1 (by omega) (by omega)]
  simp only [Option.bind_some]
  split
  · rename_i e1
    rw [show decide ((1048576 : Int) - (b.C.Regs.length : Int) < 0) = false by simp; omega, cond_false, szIntS_eq h2 (by omega) (by omega)]
    simp only [Option.bind_some]
    split
    · rename_i e2
      rw [show decide ((1048576 : Int) - (b.C.Regs.length : Int) - (b.Mem.length : Int) < 0) = false by simp; omega, cond_false, szIntS_eq h3 (by omega) (by omega)]
      simp only [Option.bind_some]
      split
      · rename_i e3
        rw [show decide ((1048576 : Int) - (b.C.Regs.length : Int) - (b.Mem.length : Int) - (b.In.length : Int) < 0) = false by simp; omega, cond_false, szIntS_eq h4 (by omega) (by omega)]
        simp only [Option.bind_some]
        split
        · rename_i e4
          exact ⟨_, by rw [show decide ((1048576 : Int) - (b.C.Regs.length : Int) - (b.Mem.length : Int) - (b.In.length : Int) - (b.Out.length : Int) < 0) = false by simp; omega]; rfl, .inr ⟨⟨by omega⟩, by omega, by omega, by omega⟩⟩
        · exact ⟨-1, rfl, .inl (by omega)⟩
      · exact ⟨-1, rfl, .inl (by omega)⟩
    · exact ⟨-1, rfl, .inl (by omega)⟩
  · exact ⟨-1, rfl, .inl (by omega)⟩

theorem lt_t {v : Int} (h : v < 0) : decide (v < 0) = true := decide_eq_true h
end Go.Proofs.Ythbefahhpikcaaa
