/- The laws' helpers on cores, as plain functions. -/
import Derived.Test.YtbnjdmclnojlmaaPA
import Derived.Test.YtbnjdmclnojlmaaPO
namespace Go.Proofs.Ytbnjdmclnojlmaa
set_option linter.all false
theorem toCore_eq {c : DCore} (h : SmallC c) : F_laws_toCore c = some c := by
 unfold F_laws_toCore; rw [toIntS_eq h.regs]; rfl
theorem eqCore_eq {a b : DCore} (h : a.Regs.length ≤ 9223372036854775807) : F_laws_eqCore a b = some (decide (a = b)) := by
 unfold F_laws_eqCore
 rw [eqIntS_eq h]
 obtain ⟨r, p1, p2, p3, p4, p5, p6, p7, p8, p9, p10, p11, p12⟩ := a
 obtain ⟨r', q1, q2, q3, q4, q5, q6, q7, q8, q9, q10, q11, q12⟩ := b
 simp only [Option.bind_some, DCore.mk.injEq]
 by_cases h0 : r = r' <;> by_cases h1 : p1 = q1 <;> by_cases h2 : p2 = q2 <;> by_cases h3 : p3 = q3 <;> by_cases h4 : p4 = q4 <;> by_cases h6 : p6 = q6 <;> by_cases h7 : p7 = q7 <;> by_cases h8 : p8 = q8 <;> simp [*]
 cases p5 <;> cases q5 <;> cases p9 <;> cases q9 <;> cases p10 <;> cases q10 <;> cases p11 <;> cases q11 <;> cases p12 <;> cases q12 <;> rfl
theorem szCore_eq {c : DCore} {left : Int} (h : c.Regs.length ≤ 9223372036854775807) (h0 : 0 ≤ left) (h1 : left ≤ 1048576) : F_laws_szCore c left = some (if (c.Regs.length : Int) ≤ left then left - c.Regs.length else -1) := by
 unfold F_laws_szCore
 rw [szIntS_eq h h0 h1]
 simp only [Option.bind_some]
 split
 · have : decide (left - (c.Regs.length : Int) < 0) = false := by simp; omega
   rw [this]; rfl
 · rfl
theorem lt_t {v : Int} (h : v < 0) : decide (v < 0) = true := decide_eq_true h
end Go.Proofs.Ytbnjdmclnojlmaa
