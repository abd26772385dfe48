/- Partial functions that answer: rules to show that they do, and what they answer. No program is named here. -/
import Derived.Test.YthbefahhpikcaaaZX
namespace Go.Proofs.Ythbefahhpikcaaa
set_option linter.all false
section
variable {α β S R T : Type}
def Ex (x : Option α) (Q : α → Prop) : Prop := ∃ a, x = some a ∧ Q a
theorem Ex.ret {a : α} {Q : α → Prop} (h : Q a) : Ex (some a) Q := ⟨a, rfl, h⟩
theorem Ex.grd {c : Prop} [Decidable c] {x : Option α} {Q : α → Prop} (hc : c) (h : Ex x Q) : Ex (grd c x) Q := by unfold Ex; rw [grd_t hc]; exact h
theorem Ex.cond {b : Bool} {x y : Option α} {Q : α → Prop} (h1 : b = true → Ex x Q) (h2 : b = false → Ex y Q) : Ex (cond b x y) Q := by
 cases b
 · exact h2 rfl
 · exact h1 rfl
theorem Ex.bind {x : Option α} {k : α → Option β} {P : α → Prop} {Q : β → Prop} (h : Ex x P) (hk : ∀ a, P a → Ex (k a) Q) : Ex (Option.bind x k) Q := by
 obtain ⟨a, h1, h2⟩ := h
 unfold Ex; rw [h1]; exact hk a h2
theorem Ex.mono {x : Option α} {P Q : α → Prop} (h : Ex x P) (hk : ∀ a, P a → Q a) : Ex x Q := by
 obtain ⟨a, h1, h2⟩ := h; exact ⟨a, h1, hk a h2⟩
theorem Ex.join {x : Option (JO S R)} {k : S → Option R} {P : S → Prop} {Q : R → Prop} (h : Ex x (fun j => ∃ s, j = .go s ∧ P s)) (hk : ∀ s, P s → Ex (k s) Q) : Ex (Option.bind x (fun j => JO.run j k)) Q := by
 obtain ⟨_, h1, s, rfl, h2⟩ := h
 unfold Ex; rw [h1]; exact hk s h2
theorem Ex.loop {step : S → Option (LO S R)} (Inv : S → Prop) (μ : S → Nat) {Q : LO S R → Prop}
 (h : ∀ s, Inv s → Ex (step s) (fun o => (∃ s', o = .next s' ∧ Inv s' ∧ μ s' < μ s) ∨ ((∀ s', o ≠ .next s') ∧ Q o))) : ∀ s, Inv s → Ex (iter step s) Q := by
 have key : ∀ k s, μ s < k → Inv s → Ex (iter step s) Q := by
  intro k
  induction k with
  | zero => intro s hs; omega
  | succ k ih =>
   intro s hs hi
   obtain ⟨o, h1, h2⟩ := h s hi
   rcases h2 with ⟨s', rfl, h3, h4⟩ | ⟨h3, h4⟩
   · obtain ⟨a, g1, g2⟩ := ih s' (by omega) h3
     refine ⟨a, ?_, g2⟩
     rw [iter_eq, h1]; exact g1
   · refine ⟨o, ?_, h4⟩
     rw [iter_eq, h1]
     cases o with
     | next s' => exact absurd rfl (h3 s')
     | brk s' => rfl
     | ret r => rfl
 exact fun s hi => key (μ s + 1) s (Nat.lt_succ_self _) hi
theorem Ex.loopv {step : S → Option (LO S (JO T R))} (Inv : S → Prop) (μ : S → Nat) (P : T → Prop) {s : S} (hi : Inv s)
 (h : ∀ s, Inv s → Ex (step s) (fun o => (∃ s', o = .next s' ∧ Inv s' ∧ μ s' < μ s) ∨ ∃ t, o = .ret (.go t) ∧ P t)) : Ex (Option.bind (iter step s) LO.val) (fun j => ∃ t, j = .go t ∧ P t) := by
 refine Ex.bind (Ex.loop Inv μ (Q := fun o => ∃ t, o = .ret (.go t) ∧ P t) (fun s hs => (h s hs).mono ?_) s hi) ?_
 · rintro o (h | ⟨t, rfl, h⟩)
   · exact .inl h
   · exact .inr ⟨fun s' => by simp, t, rfl, h⟩
 · rintro o ⟨t, rfl, h⟩
   exact ⟨_, rfl, t, rfl, h⟩
end
end Go.Proofs.Ythbefahhpikcaaa
