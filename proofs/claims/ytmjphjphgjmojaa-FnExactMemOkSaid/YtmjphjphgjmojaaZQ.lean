/- The data of this program (numbers, truth values, slices of rows of them), and what it is that a value reads as such a datum in a world. No program is named here. -/
import Derived.WalkKit
import Derived.ProofKit
import Derived.Carry
namespace Go.Proofs.Ytmjphjphgjmojaa
set_option linter.all false
open Go.ChangeShapes Go.WideShapes Go.ChangeAt Go.RowKit
inductive Dat where
 | int (n : Int)
 | u8 (n : Int)
 | bool (b : Bool)
 | sl (sz n : Nat) (xs : List Dat)
def RowW (w : World) (s : Option Addr) (vs : List Value) : Prop :=
 vs = [] ∨ ∃ b o, s = some ⟨b, o, none⟩ ∧ b < w.heap.size ∧ ∀ i, i < vs.length → w.cell? ⟨b, o + i, none⟩ = some (vs.getD i undef)
mutual
def Rep (w : World) : Dat → Value → Prop
 | .int n, v => v = .int .i64 n ∧ -9223372036854775808 ≤ n ∧ n ≤ 9223372036854775807
 | .u8 n, v => v = .int .u8 n ∧ 0 ≤ n ∧ n ≤ 255
 | .bool b, v => v = .bool b
 | .sl sz n xs, v => ∃ s cap vs, v = .slice s n cap ∧ n ≤ cap ∧ cap ≤ 9223372036854775807 ∧ xs.length = n * sz ∧ RowW w s vs ∧ Reps w xs vs
def Reps (w : World) : List Dat → List Value → Prop
 | [], vs => vs = []
 | x :: xs, vs => ∃ v vs', vs = v :: vs' ∧ Rep w x v ∧ Reps w xs vs'
end
theorem RowW.below {w w' : World} {s : Option Addr} {vs : List Value} (h : RowW w s vs) (hb : Below w.heap.size w w') : RowW w' s vs := by
 rcases h with h | ⟨b, o, e, hlt, hc⟩
 · exact .inl h
 · exact .inr ⟨b, o, e, Nat.lt_of_lt_of_le hlt hb.size, fun i hi => (hb.cell (p := ⟨b, o + i, none⟩) hlt).trans (hc i hi)⟩
mutual
theorem Rep.below {w w' : World} (hb : Below w.heap.size w w') : ∀ {d : Dat} {v : Value}, Rep w d v → Rep w' d v
 | .int _, _, h => by simpa only [Rep] using h
 | .u8 _, _, h => by simpa only [Rep] using h
 | .bool _, _, h => by simpa only [Rep] using h
 | .sl _ _ _, _, h => by
  simp only [Rep] at h ⊢
  obtain ⟨s, cap, vs, h1, h2, h3, h4, h5, h6⟩ := h
  exact ⟨s, cap, vs, h1, h2, h3, h4, h5.below hb, Reps.below hb h6⟩
theorem Reps.below {w w' : World} (hb : Below w.heap.size w w') : ∀ {ds : List Dat} {vs : List Value}, Reps w ds vs → Reps w' ds vs
 | [], _, h => by simpa only [Reps] using h
 | _ :: _, _, h => by
  simp only [Reps] at h ⊢
  obtain ⟨v, vs', e, h1, h2⟩ := h
  exact ⟨v, vs', e, Rep.below hb h1, Reps.below hb h2⟩
end
theorem Reps.length {w : World} : ∀ {ds : List Dat} {vs : List Value}, Reps w ds vs → vs.length = ds.length
 | [], _, h => by simp only [Reps] at h; simp [h]
 | _ :: _, _, h => by
  simp only [Reps] at h
  obtain ⟨v, vs', rfl, _, h2⟩ := h
  simp [Reps.length h2]
theorem Reps.append {w : World} : ∀ {ds es : List Dat} {vs us : List Value}, Reps w ds vs → Reps w es us → Reps w (ds ++ es) (vs ++ us)
 | [], _, _, _, h, k => by simp only [Reps] at h; subst h; simpa using k
 | _ :: _, _, _, _, h, k => by
  simp only [Reps, List.cons_append] at h ⊢
  obtain ⟨v, vs', rfl, h1, h2⟩ := h
  exact ⟨v, vs' ++ _, rfl, h1, Reps.append h2 k⟩
end Go.Proofs.Ytmjphjphgjmojaa
