/- Whether a guest is there. -/
import Derived.Test.YtbnjdmclnojlmaaPHB
import Derived.Test.YtbnjdmclnojlmaaPHC
import Derived.Test.YtbnjdmclnojlmaaPHK
import Derived.Test.YtbnjdmclnojlmaaWHC1
namespace Go.Proofs.Ytbnjdmclnojlmaa
set_option linter.all false
namespace M
noncomputable def there (h : DHost) (g : Int) : Bool := hostOk h && (inR 0 2 g && (h.Guests.getD g.toNat default).Live)
end M
theorem there_iff {h : DHost} {g : Int} : M.there h g = true ↔ HOk h ∧ 0 ≤ g ∧ g ≤ 2 ∧ (h.Guests.getD g.toNat default).Live = true := by
 unfold M.there
 rw [Bool.and_eq_true, Bool.and_eq_true, hOk_iff, M.inR_iff]
 exact ⟨fun ⟨a, ⟨b, c⟩, d⟩ => ⟨a, b, c, d⟩, fun ⟨a, b, c, d⟩ => ⟨a, ⟨b, c⟩, d⟩⟩
theorem isThere_i {gs : List DGuest} {g : Int} (h3 : gs.length = 3) : F_impl_isThere gs g = some (M.inR 0 2 g && (gs.getD g.toNat default).Live) := by
 unfold F_impl_isThere M.inR
 by_cases h0 : 0 ≤ g
 · by_cases h1 : g < 3
   · rw [decide_eq_true h0, decide_eq_true h1, decide_eq_true (p := g ≤ 2) (by omega), cond_true, cond_true, grd_t ⟨h0, by omega⟩]; rfl
   · rw [decide_eq_true h0, decide_eq_false h1, decide_eq_false (p := g ≤ 2) (by omega)]; rfl
 · rw [decide_eq_false h0]; rfl
theorem live_s {h : DHost} {g : Int} (hs : SmallH h) : F_spec_l4Live h g = some (M.there h g) := by
 unfold F_spec_l4Live M.there
 rw [hostOk_s hs, Option.bind_some]
 cases hh : M.hostOk h with
 | false => rfl
 | true =>
  have hk := hOk_iff.1 hh
  have := hk.three
  rw [cond_true, Bool.true_and, l1In_s, Option.bind_some]
  cases hi : M.inR 0 2 g with
  | false => rfl
  | true =>
   have := M.inR_iff.1 hi
   rw [cond_true, Bool.true_and, grd_t ⟨by omega, by omega⟩]
end Go.Proofs.Ytbnjdmclnojlmaa
