/- Loops over a row, element by element. -/
import Derived.Test.YtbnjdmclnojlmaaP8
namespace Go.Proofs.Ytbnjdmclnojlmaa
set_option linter.all false
theorem getD_mid {T : Type} [Inhabited T] {pre suf : List T} {x : T} : (pre ++ x :: suf).getD pre.length default = x := by simp [List.getD]
theorem copy_loop {T : Type} [Inhabited T] {xs ys : List T} {step : List T × Int → Option (LO (List T × Int) (JO (List T) (List T)))} (hl : ys.length = xs.length)
 (hs : ∀ (k : Nat) (zs : List T), k < xs.length → zs.length = xs.length → step (zs, (k : Int)) = some (.next (zs.set k (xs.getD k default), (k : Int) + 1)))
 (he : ∀ zs : List T, zs.length = xs.length → step (zs, (xs.length : Int)) = some (.ret (.go zs))) : iter step (ys, 0) = some (.ret (.go xs)) := by
 have key : ∀ (n k : Nat) (zs : List T), k + n = xs.length → zs.length = xs.length → (∀ i, i < k → zs[i]? = xs[i]?) → iter step (zs, (k : Int)) = some (.ret (.go xs)) := by
  intro n
  induction n with
  | zero =>
   intro k zs hk hz h
   have e : zs = xs := by
    apply List.ext_getElem?
    intro i
    by_cases hi : i < k
    · exact h i hi
    · rw [List.getElem?_eq_none (by omega), List.getElem?_eq_none (by omega)]
   have hk : k = xs.length := by omega
   rw [iter_eq, hk, he zs hz, e]
  | succ n ih =>
   intro k zs hk hz h
   rw [iter_eq, hs k zs (by omega) hz]
   have := ih (k + 1) (zs.set k (xs.getD k default)) (by omega) (by simpa using hz) (fun i hi => by
    rw [List.getElem?_set]
    by_cases e : k = i
    · subst e; rw [if_pos rfl, if_pos (by omega), getD_lt (by omega), List.getElem?_eq_getElem (by omega)]
    · rw [if_neg e]; exact h i (by omega))
   simpa using this
 simpa using key xs.length 0 ys (by omega) hl (by simp)
def marks {T : Type} (m : T → Int → T × Int) : List T → Int → List T × Int
 | [], k => ([], k)
 | x :: xs, k => ((m x k).1 :: (marks m xs (m x k).2).1, (marks m xs (m x k).2).2)
theorem marks_len {T : Type} {m : T → Int → T × Int} : ∀ {xs : List T} {k : Int}, (marks m xs k).1.length = xs.length
 | [], _ => rfl
 | x :: xs, k => by simp [marks, marks_len]
theorem marks_le {T : Type} {m : T → Int → T × Int} {C : Int} : ∀ {xs : List T} {k : Int}, (∀ x ∈ xs, ∀ k, k ≤ (m x k).2 ∧ (m x k).2 ≤ k + C) → k ≤ (marks m xs k).2 ∧ (marks m xs k).2 ≤ k + xs.length * C
 | [], k, _ => by simp [marks]
 | x :: xs, k, h => by
  have h1 := h x (by simp) k
  have h2 := marks_le (xs := xs) (k := (m x k).2) fun y hy => h y (by simp [hy])
  simp only [marks, List.length_cons]
  have : ((xs.length + 1 : Nat) : Int) * C = (xs.length : Int) * C + C := by rw [Int.natCast_add, Int.add_mul]; simp
  omega
theorem mark_loop {T : Type} [Inhabited T] {m : T → Int → T × Int} {C B : Int} {step : List T × Int × Int → Option (LO (List T × Int × Int) (JO (Int × List T) (List T × Int)))} {xs : List T} {k : Int}
 (hm : ∀ x ∈ xs, ∀ k, k ≤ (m x k).2 ∧ (m x k).2 ≤ k + C) (hk : 0 ≤ k) (hB : k + xs.length * C ≤ B) (hC : 0 ≤ C)
 (hs : ∀ (zs : List T) (i : Nat) (q : Int), zs.length = xs.length → i < zs.length → zs.getD i default ∈ xs → 0 ≤ q → q ≤ B - C → step (zs, q, (i : Int)) = some (.next (zs.set i (m (zs.getD i default) q).1, (m (zs.getD i default) q).2, (i : Int) + 1)))
 (he : ∀ (zs : List T) (q : Int), zs.length = xs.length → step (zs, q, (zs.length : Int)) = some (.ret (.go (q, zs)))) : iter step (xs, k, 0) = some (.ret (.go ((marks m xs k).2, (marks m xs k).1))) := by
 have key : ∀ (suf pre : List T) (q : Int), (pre ++ suf).length = xs.length → (∀ x ∈ suf, x ∈ xs) → 0 ≤ q → q + suf.length * C ≤ B → iter step (pre ++ suf, q, (pre.length : Int)) = some (.ret (.go ((marks m suf q).2, pre ++ (marks m suf q).1))) := by
  intro suf
  induction suf with
  | nil =>
   intro pre q hl _ _ _
   rw [List.append_nil] at hl ⊢
   rw [iter_eq, he pre q hl]; simp [marks]
  | cons x suf ih =>
   intro pre q hl hx hq hb
   have e1 : (pre ++ x :: suf).getD pre.length default = x := getD_mid
   have hb1 : ((suf.length + 1 : Nat) : Int) * C = (suf.length : Int) * C + C := by rw [Int.natCast_add, Int.add_mul]; simp
   have hnn : 0 ≤ (suf.length : Int) * C := Int.mul_nonneg (by omega) hC
   simp only [List.length_cons] at hb
   have h1 := hm x (hx x (by simp)) q
   rw [iter_eq, hs (pre ++ x :: suf) pre.length q hl (by simp) (by rw [e1]; exact hx x (by simp)) hq (by omega)]
   rw [e1]
   have e2 : (pre ++ x :: suf).set pre.length (m x q).1 = (pre ++ [(m x q).1]) ++ suf := by simp
   have := ih (pre ++ [(m x q).1]) (m x q).2 (by simpa using hl) (fun y hy => hx y (by simp [hy])) (by omega) (by omega)
   simp only [List.length_append, List.length_cons, List.length_nil, Nat.zero_add, Int.natCast_add] at this
   simp only [e2]
   rw [show (((1 : Nat) : Int)) = 1 from rfl] at this
   rw [this]
   simp [marks]
 simpa using key xs [] k rfl (fun _ h => h) hk hB
theorem held_loop {T : Type} [Inhabited T] {m : T → Int → T × Int} {C B : Int} {step : List T → Int × Int → Option (LO (Int × Int) (JO Int Int))} {xs : List T} {k : Int}
 (hm : ∀ x ∈ xs, ∀ k, k ≤ (m x k).2 ∧ (m x k).2 ≤ k + C) (hk : 0 ≤ k) (hB : k + xs.length * C ≤ B) (hC : 0 ≤ C)
 (hs : ∀ (zs : List T) (i : Nat) (x : T) (q : Int), zs.length = xs.length → i < zs.length → x ∈ xs → 0 ≤ q → q ≤ B - C → zs.getD i default = (m x q).1 → step zs (q, (i : Int)) = some (.next ((m x q).2, (i : Int) + 1)))
 (he : ∀ (zs : List T) (q : Int), zs.length = xs.length → step zs (q, (zs.length : Int)) = some (.ret (.go q))) : iter (step (marks m xs k).1) (k, 0) = some (.ret (.go (marks m xs k).2)) := by
 have key : ∀ (suf pre : List T) (q : Int), (pre ++ suf).length = xs.length → (∀ x ∈ suf, x ∈ xs) → 0 ≤ q → q + suf.length * C ≤ B → iter (step (pre ++ (marks m suf q).1)) (q, (pre.length : Int)) = some (.ret (.go (marks m suf q).2)) := by
  intro suf
  induction suf with
  | nil =>
   intro pre q hl _ _ _
   simp only [marks]
   rw [List.append_nil] at hl ⊢
   rw [iter_eq, he pre q hl]
  | cons x suf ih =>
   intro pre q hl hx hq hb
   have hb1 : ((suf.length + 1 : Nat) : Int) * C = (suf.length : Int) * C + C := by rw [Int.natCast_add, Int.add_mul]; simp
   have hnn : 0 ≤ (suf.length : Int) * C := Int.mul_nonneg (by omega) hC
   simp only [List.length_cons] at hb
   have h1 := hm x (hx x (by simp)) q
   simp only [marks]
   have e1 : (pre ++ (m x q).1 :: (marks m suf (m x q).2).1).getD pre.length default = (m x q).1 := getD_mid
   rw [iter_eq, hs _ pre.length x q (by simpa [marks_len] using hl) (by simp) (hx x (by simp)) hq (by omega) e1]
   have := ih (pre ++ [(m x q).1]) (m x q).2 (by simpa using hl) (fun y hy => hx y (by simp [hy])) (by omega) (by omega)
   simp only [List.length_append, List.length_cons, List.length_nil, Nat.zero_add, Int.natCast_add, List.append_assoc, List.cons_append, List.nil_append] at this
   rw [show (((1 : Nat) : Int)) = 1 from rfl] at this
   exact this
 simpa using key xs [] k rfl (fun _ h => h) hk hB
theorem eq_loop {T : Type} [Inhabited T] {xs ys : List T} {step : Int → Option (LO Int (JO Unit Bool))} {d : T → T → Bool} (hd : ∀ x ∈ xs, ∀ y, d x y = true ↔ x = y) (hl : xs.length = ys.length)
 (hs : ∀ i : Nat, i < xs.length → xs.getD i default ∈ xs → step (i : Int) = some (bif d (xs.getD i default) (ys.getD i default) then .next ((i : Int) + 1) else .ret (.out false)))
 (he : step (xs.length : Int) = some (.ret (.go ()))) : ∃ b : Bool, iter step 0 = some (.ret (bif b then .go () else .out false)) ∧ (b = true ↔ xs = ys) := by
 have key : ∀ (n k : Nat), k + n = xs.length → ∃ b : Bool, iter step (k : Int) = some (.ret (bif b then .go () else .out false)) ∧ (b = true ↔ xs.drop k = ys.drop k) := by
  intro n
  induction n with
  | zero =>
   intro k hk
   have hk : k = xs.length := by omega
   refine ⟨true, by rw [iter_eq, hk, he]; rfl, ?_⟩
   subst hk
   simp [hl]
  | succ n ih =>
   intro k hk
   have hm : xs.getD k default ∈ xs := by rw [getD_lt (by omega)]; exact List.getElem_mem _
   have e1 : xs.drop k = xs.getD k default :: xs.drop (k + 1) := by rw [getD_lt (by omega)]; exact List.drop_eq_getElem_cons (by omega)
   have e2 : ys.drop k = ys.getD k default :: ys.drop (k + 1) := by rw [getD_lt (by omega)]; exact List.drop_eq_getElem_cons (by omega)
   rw [iter_eq, hs k (by omega) hm, e1, e2]
   cases hdd : d (xs.getD k default) (ys.getD k default) with
   | true =>
    obtain ⟨b, h1, h2⟩ := ih (k + 1) (by omega)
    refine ⟨b, by simpa using h1, ?_⟩
    rw [h2, (hd _ hm _).1 hdd]; simp
   | false =>
    refine ⟨false, by simp, ?_⟩
    have : xs.getD k default ≠ ys.getD k default := fun e => by rw [(hd _ hm _).2 e] at hdd; cases hdd
    simp only [List.cons.injEq, Bool.false_eq_true, false_iff]
    exact fun h => this h.1
 obtain ⟨b, h1, h2⟩ := key xs.length 0 (by omega)
 exact ⟨b, by simpa using h1, by simpa using h2⟩
end Go.Proofs.Ytbnjdmclnojlmaa
