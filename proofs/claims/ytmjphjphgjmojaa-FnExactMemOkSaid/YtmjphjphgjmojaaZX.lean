/- Loops of plain functions. No program is named here. -/
import Derived.Test.YtmjphjphgjmojaaZU
namespace Go.Proofs.Ytmjphjphgjmojaa
set_option linter.all false
section
variable {S R : Type}
theorem iter_rec {step : S → Option (LO S R)} (Inv : S → Prop) (μ : S → Nat) (g : S → Option (LO S R))
 (h : ∀ s, Inv s → (∃ s', step s = some (.next s') ∧ Inv s' ∧ μ s' < μ s ∧ g s = g s') ∨ ((∀ s', step s ≠ some (.next s')) ∧ g s = step s)) : ∀ s, Inv s → iter step s = g s := by
 have key : ∀ k s, μ s < k → Inv s → iter step s = g s := by
  intro k
  induction k with
  | zero => intro s hs; omega
  | succ k ih =>
   intro s hs hi
   rw [iter_eq]
   rcases h s hi with ⟨s', h1, h2, h3, h4⟩ | ⟨h1, h2⟩
   · rw [h1, h4]; exact ih s' (by omega) h2
   · rw [h2]
     cases e : step s with
     | none => rfl
     | some o =>
      cases o with
      | next s' => exact absurd e (h1 s')
      | brk s' => rfl
      | ret r => rfl
 exact fun s hi => key (μ s + 1) s (Nat.lt_succ_self _) hi
theorem wrap_in {z : Int} (h0 : -9223372036854775808 ≤ z) (h1 : z ≤ 9223372036854775807) : IntKind.i64.wrap z = z := by rw [IntKind.wrap_i64]; omega
theorem w64_in {z : Int} (h0 : -9223372036854775808 ≤ z) (h1 : z ≤ 9223372036854775807) : w64 z = z := wrap_in h0 h1
end
end Go.Proofs.Ytmjphjphgjmojaa
