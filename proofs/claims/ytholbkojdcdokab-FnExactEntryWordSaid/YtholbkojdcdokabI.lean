/- Regions: walked once. No program is named here. -/
import Derived.Test.YtholbkojdcdokabH
namespace Go.Proofs.Ytholbkojdcdokab
open Go.RowKit

mutual
/-- A value of own memory and numbers alone. -/
def AV.own : AV → Bool
  | .nil | .bool _ | .int _ _ | .und | .ptr _ _ | .sref _ _ _ _ => true
  | .agg vs => owns vs
  | .tup vs => owns vs
  | _ => false
def owns : List AV → Bool
  | [] => true
  | v :: vs => v.own && owns vs
end

def upHeap (d : Nat) : Heap → Heap
  | [] => []
  | (r, t) :: H => (r + d, t.map fun t => ⟨t.e, ups d t.cs⟩) :: upHeap d H

def ownHeap : Heap → Bool
  | [] => true
  | (_, none) :: H => ownHeap H
  | (_, some t) :: H => owns t.cs && ownHeap H

def flat1 : AV → Bool
  | .bool _ | .int _ _ => true
  | _ => false

def AV.isFlat : AV → Bool
  | .bool _ | .int _ _ => true
  | .agg vs => vs.all flat1
  | _ => false

def conc1 : AV → Value
  | .bool b => .bool b
  | .int k z => .int k z
  | _ => undef

def AV.conc : AV → Value
  | .agg vs => .agg (vs.map conc1).toArray
  | x => conc1 x

section
variable {w0 w1 : World} {n m : Nat} {β β' : Nat → Spot} {H : Heap} {w : World}

mutual
theorem RV.up (hb : ∀ i, i < m → β' (i + n) = β i) : ∀ {x : AV} {v : Value}, x.own = true → RV w1 m β x v → RV w0 (n + m) β' (x.up n) v
  | .unk, _, h, _ => by simp [AV.own] at h
  | .und, _, _, h => by simpa only [RV, AV.up] using h
  | .nil, _, _, h => by simpa only [RV, AV.up] using h
  | .bool _, _, _, h => by simpa only [RV, AV.up] using h
  | .int _ _, _, _, h => by simpa only [RV, AV.up] using h
  | .ptr r o, _, _, h => by
    simp only [RV, AV.up] at h ⊢
    exact ⟨by omega, by rw [hb r h.1]; exact h.2⟩
  | .sref r o k sz, _, _, h => by
    simp only [RV, AV.up] at h ⊢
    obtain ⟨s, cap, h1, h2, h3, h4⟩ := h
    refine ⟨s, cap, h1, h2, h3, h4.imp id fun ⟨a, b, c⟩ => ⟨by omega, ?_, ?_⟩⟩ <;> rw [hb r a] <;> assumption
  | .bor _ _, _, h, _ => by simp [AV.own] at h
  | .bptr _ _, _, h, _ => by simp [AV.own] at h
  | .agg vs, _, hc, h => by
    simp only [AV.own] at hc
    simp only [RV, AV.up] at h ⊢
    obtain ⟨arr, h1, h2⟩ := h
    exact ⟨arr, h1, RVs.up hb hc h2⟩
  | .tup vs, _, hc, h => by
    simp only [AV.own] at hc
    simp only [RV, AV.up] at h ⊢
    obtain ⟨arr, h1, h2⟩ := h
    exact ⟨arr, h1, RVt.up hb hc h2⟩
theorem RVs.up (hb : ∀ i, i < m → β' (i + n) = β i) : ∀ {xs : List AV} {vs : List Value}, owns xs = true → RVs w1 m β xs vs → RVs w0 (n + m) β' (ups n xs) vs
  | [], _, _, h => by simpa only [RVs, ups] using h
  | _ :: _, _, hc, h => by
    simp only [owns, Bool.and_eq_true] at hc
    simp only [RVs, ups] at h ⊢
    obtain ⟨v, vs', e, o, h1, h2⟩ := h
    exact ⟨v, vs', e, o, RV.up hb hc.1 h1, RVs.up hb hc.2 h2⟩
theorem RVt.up (hb : ∀ i, i < m → β' (i + n) = β i) : ∀ {xs : List AV} {vs : List Value}, owns xs = true → RVt w1 m β xs vs → RVt w0 (n + m) β' (ups n xs) vs
  | [], _, _, h => by simpa only [RVt, ups] using h
  | _ :: _, _, hc, h => by
    simp only [owns, Bool.and_eq_true] at hc
    simp only [RVt, ups] at h ⊢
    obtain ⟨v, vs', e, h1, h2⟩ := h
    exact ⟨v, vs', e, RV.up hb hc.1 h1, RVt.up hb hc.2 h2⟩
end

theorem ups_length (d : Nat) : ∀ l : List AV, (ups d l).length = l.length
  | [] => rfl
  | _ :: l => by simp [ups, ups_length d l]

theorem get_up (d : Nat) : ∀ (Hr H : Heap) (r : Nat), ownHeap Hr = true → Heap.get (upHeap d Hr ++ H) r = if d ≤ r then (match Hr.get (r - d) with | some t => some ⟨t.e, ups d t.cs⟩ | none => if Hr.any (·.1 = r - d) then none else H.get r) else H.get r
  | [], H, r, _ => by simp [upHeap, Heap.get]
  | (k, t) :: Hr, H, r, ho => by
    have ho' : ownHeap Hr = true := by cases t <;> simp_all [ownHeap]
    have ih := get_up d Hr H r ho'
    simp only [upHeap, List.cons_append, Heap.get]
    by_cases hk : k + d = r
    · have e : r - d = k := by omega
      rw [if_pos hk, if_pos (show d ≤ r by omega), e, if_pos rfl]
      cases t <;> simp
    · rw [if_neg hk, ih]
      by_cases hd : d ≤ r
      · rw [if_pos hd, if_pos hd, if_neg (show ¬ k = r - d by omega)]
        cases Heap.get Hr (r - d) with
        | some t => rfl
        | none =>
          have hne : ¬ k = r - d := by omega
          simp only [List.any_cons, hne, decide_false, Bool.false_or]
      · rw [if_neg hd, if_neg hd]

theorem own_get : ∀ {Hr : Heap} {r : Nat} {t : Root}, ownHeap Hr = true → Hr.get r = some t → owns t.cs = true
  | [], _, _, _, h => by simp [Heap.get] at h
  | (k, t') :: Hr, r, t, ho, h => by
    simp only [Heap.get] at h
    split at h
    · subst h; simp only [ownHeap, Bool.and_eq_true] at ho; exact ho.1
    · exact own_get (by cases t' <;> simp_all [ownHeap]) h

/-- The caller's memory, and the fresh memory of a callee behind it. -/
theorem RH.join {Hr : Heap} {w' : World} (hH : RH w0 n β H w) (hB : Below w0.heap.size w0 w) (ho : ownHeap Hr = true) (hr : RH w m β' Hr w') (hb : Below w.heap.size w w'):
    RH w0 (n + m) (fun i => if i < n then β i else β' (i - n)) (upHeap n Hr ++ H) w' := by
  have hlow : ∀ i, i < n → (fun i => if i < n then β i else β' (i - n)) i = β i := fun i hi => by simp [hi]
  have hup : ∀ i, i < m → (fun i => if i < n then β i else β' (i - n)) (i + n) = β' i := fun i _ => by simp [show ¬ i + n < n by omega]
  have hold := hH.kept (n' := n + m) (w' := w') (by omega) hlow (fun r t h => hb.block _ (hH.lt h))
  have cases' : ∀ r t, Heap.get (upHeap n Hr ++ H) r = some t → (n ≤ r ∧ ∃ t', Hr.get (r - n) = some t' ∧ t = ⟨t'.e, ups n t'.cs⟩) ∨ (r < n ∧ H.get r = some t) := by
    intro r t h
    rw [get_up n Hr H r ho] at h
    by_cases hd : n ≤ r
    · rw [if_pos hd] at h
      split at h
      · rename_i t' ht'
        cases h
        exact .inl ⟨hd, t', ht', rfl⟩
      · split at h
        · cases h
        · have := (hH.root r t h).1; omega
    · rw [if_neg hd] at h
      exact .inr ⟨by omega, h⟩
  refine ⟨fun r t h => ?_, fun r r' h1 h2 he => ?_⟩
  · rcases cases' r t h with ⟨hd, t', ht', rfl⟩ | ⟨hlt, h⟩
    · obtain ⟨g1, g2, cur, g3, g4, g5, g6⟩ := hr.root _ _ ht'
      have hw : ¬ r < n := by omega
      simp only [if_neg hw]
      refine ⟨by omega, Nat.le_trans hB.size g2, cur, g3, g4, by simpa [ups_length] using g5, ?_⟩
      have := RVs.up (w0 := w0) (n := n) (β' := fun i => if i < n then β i else β' (i - n)) hup (own_get ho ht') g6
      simpa [ups_length] using this
    · have := hold.root r t h
      exact this
  · obtain ⟨t, ht⟩ := Option.isSome_iff_exists.1 h1
    obtain ⟨t', ht'⟩ := Option.isSome_iff_exists.1 h2
    rcases cases' r t ht with ⟨hd, u, hu, _⟩ | ⟨hlt, hu⟩ <;> rcases cases' r' t' ht' with ⟨hd', u', hu', _⟩ | ⟨hlt', hu'⟩
    · simp only [if_neg (show ¬ r < n by omega), if_neg (show ¬ r' < n by omega)] at he
      have := hr.apart (r - n) (r' - n) (by simp [hu]) (by simp [hu']) he
      omega
    · simp only [if_neg (show ¬ r < n by omega), if_pos hlt'] at he
      have h3 := (hr.root _ _ hu).2.1
      have h4 := hH.lt hu'
      omega
    · simp only [if_pos hlt, if_neg (show ¬ r' < n by omega)] at he
      have h3 := (hr.root _ _ hu').2.1
      have h4 := hH.lt hu
      omega
    · simp only [if_pos hlt, if_pos hlt'] at he
      exact hH.apart r r' (by simp [hu]) (by simp [hu']) he

variable {P : Program}

/-- A function that only reads its arguments, called where they are own memory or not. -/
theorem Inl.of_pur {f : FuncId} {args args' : List AV} {r : AV} {Hr : Heap} (hc : Cloz H args args') (hp : Pur P f args' r Hr m) (h1 : r.own = true) (h2 : ownHeap Hr = true) :
    Inl P f args H n (r.up n) (upHeap n Hr ++ H) (n + m) := by
  intro w0 w β vs hB hH hv
  refine (hp w β vs (hc.sound hH hB hv)).mono fun e w' ⟨v, β', he, g1, g2, g3⟩ => ?_
  refine ⟨v, fun i => if i < n then β i else β' (i - n), he, by omega, fun i hi => by simp [hi], ?_, ?_, ?_⟩
  · exact RV.up (fun i _ => by simp [show ¬ i + n < n by omega]) h1 g1
  · exact RH.join hH hB h2 g2 g3
  · exact hB.trans (g3.mono hB.size)

theorem RVs.conc1 : ∀ {xs : List AV} {vs : List Value}, xs.all flat1 = true → RVs w0 n β xs vs → vs = xs.map Go.Proofs.Ytholbkojdcdokab.conc1
  | [], vs, _, h => by simp only [RVs] at h; simp [h]
  | x :: xs, vs, hf, h => by
    simp only [List.all_cons, Bool.and_eq_true] at hf
    simp only [RVs] at h
    obtain ⟨v, vs', rfl, _, h1, h2⟩ := h
    rw [RVs.conc1 hf.2 h2]
    cases x <;> simp only [flat1, Bool.false_eq_true, false_and] at hf
    all_goals simp only [RV] at h1; simp [Go.Proofs.Ytholbkojdcdokab.conc1, h1]

theorem RV.conc {x : AV} {v : Value} (hf : x.isFlat = true) (h : RV w0 n β x v) : v = x.conc := by
  cases x <;> simp only [AV.isFlat, Bool.false_eq_true] at hf
  case bool b => simp only [RV] at h; subst h; rfl
  case int k z => simp only [RV] at h; exact h.1
  case agg vs =>
    simp only [RV] at h
    obtain ⟨arr, rfl, h2⟩ := h
    simp only [AV.conc]
    rw [← RVs.conc1 hf h2]
end
end Go.Proofs.Ytholbkojdcdokab
