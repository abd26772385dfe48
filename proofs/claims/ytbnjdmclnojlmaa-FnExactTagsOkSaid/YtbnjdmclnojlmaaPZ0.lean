/- Loops over a row that look at each element and go on, with a state. -/
import Derived.Test.YtbnjdmclnojlmaaP0
import Derived.Test.YtbnjdmclnojlmaaZ5
namespace Go.Proofs.Ytbnjdmclnojlmaa
set_option linter.all false
section
variable {T σ S R : Type} [Inhabited T]
theorem chk_loop {xs : List T} {step : S → Option (LO S R)} (enc : σ → Int → S) (p : T → Bool) (g : σ → T → σ) (fin : σ → R) (r : R) (Inv : Nat → σ → Prop)
 (hs : ∀ (i : Nat) x s, (i : Int) < (xs.length : Int) → x ∈ xs → xs.getD i default = x → Inv i s → step (enc s i) = some (bif p x then .next (enc (g s x) ((i : Int) + 1)) else .ret r) ∧ (p x = true → Inv (i + 1) (g s x)))
 (he : ∀ s, Inv xs.length s → step (enc s xs.length) = some (.ret (fin s))) (s : σ) (hi : Inv 0 s) :
 iter step (enc s 0) = some (.ret (bif xs.all p then fin (xs.foldl g s) else r)) ∧ (xs.all p = true → Inv xs.length (xs.foldl g s)) := by
 have key : ∀ (suf pre : List T) (s : σ), xs = pre ++ suf → Inv pre.length s → iter step (enc s pre.length) = some (.ret (bif suf.all p then fin (suf.foldl g s) else r)) ∧ (suf.all p = true → Inv xs.length (suf.foldl g s)) := by
  intro suf
  induction suf with
  | nil =>
   intro pre s hx hi
   rw [List.append_nil] at hx
   subst hx
   rw [iter_eq, he s hi]; exact ⟨rfl, fun _ => hi⟩
  | cons x suf ih =>
   intro pre s hx hi
   obtain ⟨h1, h2⟩ := hs pre.length x s (by rw [hx]; simp; omega) (by rw [hx]; simp) (by rw [hx]; simp [List.getD]) hi
   rw [iter_eq, h1]
   cases hp : p x with
   | false => simp [List.all_cons, hp]
   | true =>
    obtain ⟨g1, g2⟩ := ih (pre ++ [x]) (g s x) (by rw [hx]; simp) (by simpa using h2 hp)
    simp only [List.length_append, List.length_cons, List.length_nil, Nat.zero_add, Int.natCast_add] at g1
    simp only [cond_true, List.all_cons, hp, Bool.true_and, List.foldl_cons]
    exact ⟨g1, g2⟩
 simpa using key xs [] s rfl hi
theorem fold_loop {xs : List T} {step : S → Option (LO S R)} (enc : σ → Int → S) (g : σ → T → σ) (fin : σ → R) (Inv : Nat → σ → Prop)
 (hs : ∀ (i : Nat) x s, (i : Int) < (xs.length : Int) → x ∈ xs → xs.getD i default = x → Inv i s → step (enc s i) = some (.next (enc (g s x) ((i : Int) + 1))) ∧ Inv (i + 1) (g s x))
 (he : ∀ s, Inv xs.length s → step (enc s xs.length) = some (.ret (fin s))) (s : σ) (hi : Inv 0 s) :
 iter step (enc s 0) = some (.ret (fin (xs.foldl g s))) ∧ Inv xs.length (xs.foldl g s) := by
 have h := chk_loop (p := fun _ => true) enc g fin (fin s) Inv (fun i x s h1 h2 h3 h4 => ⟨(hs i x s h1 h2 h3 h4).1, fun _ => (hs i x s h1 h2 h3 h4).2⟩) he s hi
 have e : xs.all (fun _ => true) = true := by simp
 rw [e] at h
 exact ⟨h.1, h.2 rfl⟩
theorem count_loop {n : Nat} {step : S → Option (LO S R)} (enc : σ → Int → S) (g : σ → Nat → σ) (fin : σ → R) (Inv : Nat → σ → Prop)
 (hs : ∀ (i : Nat) s, i < n → Inv i s → step (enc s i) = some (.next (enc (g s i) ((i : Int) + 1))) ∧ Inv (i + 1) (g s i))
 (he : ∀ s, Inv n s → step (enc s n) = some (.ret (fin s))) (s : σ) (hi : Inv 0 s) :
 iter step (enc s 0) = some (.ret (fin ((List.range n).foldl g s))) ∧ Inv n ((List.range n).foldl g s) := by
 have h := fold_loop (xs := List.range n) enc g fin Inv (fun i x s h1 h2 h3 h4 => by
  have hi : i < n := by simpa using h1
  have : x = i := by rw [← h3]; simp [List.getD, hi]
  subst this
  exact hs x s hi h4) (by simpa using he) s hi
 simpa using h
theorem chkn_loop {n : Nat} {step : S → Option (LO S R)} (enc : Int → S) (p : Nat → Bool) (a r : R)
 (hs : ∀ (i : Nat), i < n → step (enc i) = some (bif p i then .next (enc ((i : Int) + 1)) else .ret r))
 (he : step (enc n) = some (.ret a)) :
 iter step (enc 0) = some (.ret (bif (List.range n).all p then a else r)) := by
 have h := chk_loop (xs := List.range n) (σ := Unit) (fun _ k => enc k) p (fun _ _ => ()) (fun _ => a) r (fun _ _ => True) (fun i x s h1 h2 h3 h4 => by
  have hi : i < n := by simpa using h1
  have : x = i := by rw [← h3]; simp [List.getD, hi]
  subst this
  exact ⟨hs x hi, fun _ => trivial⟩) (fun s _ => by simpa using he) () trivial
 exact h.1
theorem walk_loop {n : Nat} {step : S → Option (LO S R)} (st : Nat → S) (ok : Nat → Bool) (a r : R)
 (hs : ∀ (i : Nat), i < n → (∀ j, j < i → ok j = true) → step (st i) = some (bif ok i then .next (st (i + 1)) else .ret r))
 (he : (∀ j, j < n → ok j = true) → step (st n) = some (.ret a)) :
 iter step (st 0) = some (.ret (bif (List.range n).all ok then a else r)) := by
 have key : ∀ m i, i + m = n → (∀ j, j < i → ok j = true) → iter step (st i) = some (.ret (bif (List.range n).all ok then a else r)) := by
  intro m
  induction m with
  | zero =>
   intro i hi ho
   have : i = n := by omega
   subst this
   have e : (List.range i).all ok = true := by simp only [List.all_eq_true, List.mem_range]; exact ho
   rw [iter_eq, he ho, e]; rfl
  | succ m ih =>
   intro i hi ho
   rw [iter_eq, hs i (by omega) ho]
   cases e : ok i with
   | true =>
    refine ih (i + 1) (by omega) ?_
    intro j hj
    by_cases h : j = i
    · rw [h, e]
    · exact ho j (by omega)
   | false =>
    have e2 : (List.range n).all ok = false := by
     rw [List.all_eq_false]
     exact ⟨i, by rw [List.mem_range]; omega, by rw [e]; simp⟩
    rw [e2]; rfl
 exact key n 0 (by omega) fun j hj => by omega
end
theorem foldl_flatMap' {α β σ : Type} {f : α → List β} {g : σ → β → σ} : ∀ {xs : List α} {s : σ}, xs.foldl (fun s x => (f x).foldl g s) s = (xs.flatMap f).foldl g s
 | [], _ => rfl
 | x :: xs, s => by simp only [List.foldl_cons, List.flatMap_cons, List.foldl_append]; exact foldl_flatMap'
end Go.Proofs.Ytbnjdmclnojlmaa
