/- A call that only reads, as a call on own memory. No program is named here. -/
import Derived.Test.YtmjphjphgjmojaaZM4
namespace Go.Proofs.Ytmjphjphgjmojaa
set_option linter.all false
open Go.RowKit
section
variable {P : Program} {H : Heap} {n : Nat}
theorem Clo.clean0 {Φ : Fz} {n' : Nat} {β β' : Spots} : ∀ {x y : AV} {v : Value}, Clo [] x y → RV Φ n β x v → RV Φ n' β' y v := by
 have dead : ∀ r π, Heap.get [] r π = none := fun r π => by
  have h : Heap.get [] r [] = none := rfl
  simpa using get_dead h π
 intro x y v h
 refine Clo.rec (motive_1 := fun x y _ => ∀ v, RV Φ n β x v → RV Φ n' β' y v) (motive_2 := fun xs ys _ => ∀ vs, RVs Φ n β xs vs → RVs Φ n' β' ys vs) ?_ ?_ ?_ ?_ ?_ ?_ ?_ ?_ ?_ ?_ ?_ h v
 · intro v h; simpa only [RV] using h
 · intro v h; simp only [RV] at h ⊢; exact ⟨none, 0, [], h, Nat.le_refl _, Nat.zero_le _, .inl rfl, by simp [RVs]⟩
 · intro v h; simp only [RV] at h ⊢
   obtain ⟨s, rfl⟩ := h
   exact ⟨s, 0, [], rfl, Nat.le_refl _, Nat.zero_le _, .inl rfl, by simp [RVs]⟩
 · intro b v h; simpa only [RV] using h
 · intro k z v h; simpa only [RV] using h
 · intro m m' cs cs' hm _ ih v h
   subst hm
   simp only [RV] at h ⊢
   obtain ⟨s, cap, vs, h1, h2, h3, h4, h5⟩ := h
   exact ⟨s, cap, vs, h1, h2, h3, h4, ih vs h5⟩
 · intro x hx v h; exact RV.clean (fun _ _ h => h) hx h
 · intro r π o m m' sz t cs hr; rw [dead] at hr; cases hr
 · intro vs us _ ih v h
   simp only [RV] at h ⊢
   obtain ⟨arr, h1, h2⟩ := h
   exact ⟨arr, h1, ih _ h2⟩
 · intro vs h; simpa only [RVs] using h
 · intro v u vs us _ _ ih1 ih2 ws h
   simp only [RVs] at h ⊢
   obtain ⟨v', vs', e, o, g1, g2⟩ := h
   exact ⟨v', vs', e, o, ih1 _ g1, ih2 _ g2⟩
theorem Cloz.clean0 {Φ : Fz} {n' : Nat} {β β' : Spots} : ∀ {xs ys : List AV} {vs : List Value}, Cloz [] xs ys → RVt Φ n β xs vs → RVt Φ n' β' ys vs
 | [], ys, vs, h, k => by simp only [Cloz] at h; subst h; simpa only [RVt] using k
 | x :: xs, ys, vs, h, k => by
  simp only [Cloz] at h
  obtain ⟨y, ys', rfl, h1, h2⟩ := h
  simp only [RVt] at k ⊢
  obtain ⟨v, vs', e, k1, k2⟩ := k
  exact ⟨v, vs', e, h1.clean0 k1, h2.clean0 k2⟩
theorem Inl.of_fn0 {f : FuncId} {args args' : List AV} {r : AV} (hc : Cloz [] args args') (hp : Fn P f args' r) (hr : r.noRef = true) :
 Inl P f args H n (nameV n r).1 ((nameV n r).2.1 ++ H) (nameV n r).2.2 := by
 intro Φ w β vs hK hH hv
 have hv' : RVt (Φ.all w false) 0 (fun _ _ => ⟨false, 0, 0⟩) args' vs := by
  have h1 : RVt Φ 0 (fun _ _ => ⟨false, 0, 0⟩) args' vs := hc.clean0 hv
  exact h1.moreT Fz.le_all.tle (Nat.le_refl _) fun _ _ => rfl
 obtain ⟨u1, u2, u3⟩ := nameV_up (d := n) (n := 0) hr
 rw [Nat.zero_add] at u1 u2 u3
 refine (hp (Φ.all w false) w _ vs hK.all RH.empty hv').mono fun e w' ⟨v, Φ1, β1, he, g1, g2, g3, g4, g5, g6, g7⟩ => ?_
 generalize hΦ2 : (fun b => match Φ1 b with | some (true, o) => some (true, o) | _ => Φ b : Fz) = Φ2
 have hup : ∀ b x, Φ b = some x → Φ1 b = some x := fun b x h => g3 b x (Fz.le_all b x h)
 have h2 : ∀ b, Φ2 b = match Φ1 b with | some (true, o) => some (true, o) | _ => Φ b := fun b => by rw [← hΦ2]
 have hle : Φ.le Φ2 := fun b x h => by
  rw [h2, hup b x h]
  obtain ⟨f, o⟩ := x
  cases f
  · exact h
  · rfl
 have htle : Φ1.tle Φ2 := fun b o h => by rw [h2, h]
 have hK2 : Keep Φ2 w' := fun b x h => by
  rw [h2] at h
  split at h
  · rename_i o ho; cases h; exact g4 b _ ho
  · exact g4 b x (hup b x h)
 refine ⟨v, Φ2, fun i => if i < n then β i else β1 (i - n), he, by rw [← u3]; omega, fun i hi => by simp [hi], hle, hK2, ?_, ?_, g7⟩
 · rw [← u1, ← u3, Nat.add_comm]
   exact RV.up htle (fun i _ => by simp [show ¬ i + n < n by omega]) g5
 · rw [← u2, ← u3, Nat.add_comm]
   have hall : ∀ r π t, H.get r π = some t → (β r π).ex = true → ∃ o, w.heap[(β r π).b]? = some o ∧ Φ (β r π).b = none ∧ Φ1 (β r π).b = some (false, o) := fun r π t hr hx => by
    obtain ⟨k1, cur, k2, _⟩ := hH.own hr hx
    exact ⟨_, k2, k1, g3 _ _ (by simp [Fz.all, k1, k2])⟩
   refine RH.join hH g6 (fun r π t hr hx => ?_) hle.tle (fun xs vs h _ => h.moreT htle (Nat.le_refl _) fun _ _ => rfl) fun b hb => ?_
   · obtain ⟨o, k1, k2, k3⟩ := hall r π t hr hx
     refine ⟨by simp [k3], by rw [k1]; exact g4 _ _ k3, ?_⟩
     rw [h2, k3]; exact k2
   · rw [h2, hb]
     cases e : Φ b with
     | none => rfl
     | some x => rw [hup b x e] at hb; cases hb
end
end Go.Proofs.Ytmjphjphgjmojaa
