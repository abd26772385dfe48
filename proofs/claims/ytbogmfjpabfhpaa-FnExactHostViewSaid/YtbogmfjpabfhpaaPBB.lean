/- The laws' helpers on machines, as plain functions. -/
import Derived.Test.YtbogmfjpabfhpaaPB
import Derived.Test.YtbogmfjpabfhpaaWHX1
namespace Go.Proofs.Ytbogmfjpabfhpaa
set_option linter.all false
theorem eqBare_eq {a b : DBare} (h : SmallB a) : F_laws_eqBare a b = some (decide (a = b)) := by
 have := h.c.regs; have := h.mem; have := h.i; have := h.o
 unfold F_laws_eqBare
 rw [eqCore_eq (by omega), eqIntS_eq (by omega), eqIntS_eq (by omega), eqIntS_eq (by omega)]
 obtain ⟨c, m, i, o⟩ := a
 obtain ⟨c', m', i', o'⟩ := b
 simp only [Option.bind_some, DBare.mk.injEq]
 by_cases h0 : c = c' <;> by_cases h1 : m = m' <;> by_cases h2 : i = i' <;> by_cases h3 : o = o' <;> simp [*]
end Go.Proofs.Ytbogmfjpabfhpaa
