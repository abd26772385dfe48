/- An abstract machine for plain functions (numbers, truth values, structs, slices): its values, its memory, and when a value of the model is one of its values. No program is named here. -/
import Derived.WalkKit
import Derived.Deep.Quiet
import Derived.Carry
import Derived.Test.YtholbkojdcdokabQ
namespace Go.Proofs.Ytholbkojdcdokab
open Go.RowKit

/-- 'unk': nothing is known. 'und': what a skipped operation leaves. 'ptr', 'sref': into own memory (root, cell). 'bor', 'bptr': memory that is only read, with what it holds. -/
inductive AV where
  | unk
  | und
  | nil
  | bool (b : Bool)
  | int (k : IntKind) (n : Int)
  | ptr (r o : Nat)
  | sref (r o n sz : Nat)
  | bor (n : Nat) (cs : List AV)
  | bptr (cs : List AV) (o : Nat)
  | agg (vs : List AV)
  | tup (vs : List AV)

/-- A block of own memory: its element's type, and the cells that are known. -/
structure Root where
  e : TypeId
  cs : List AV

abbrev Heap := List (Nat × Option Root)

def Heap.get : Heap → Nat → Option Root
  | [], _ => none
  | (k, r) :: h, i => if k = i then r else Heap.get h i

/-- Where a root lies: its block, and how many cells that has. -/
structure Spot where
  b : Nat
  tot : Nat

mutual
def RV (w0 : World) (n : Nat) (β : Nat → Spot) : AV → Value → Prop
  | .unk, _ => True
  | .und, v => v = undef
  | .nil, v => v = .slice none 0 0
  | .bool b, v => v = .bool b
  | .int k z, v => v = .int k z ∧ k.min ≤ z ∧ z ≤ k.max
  | .ptr r o, v => r < n ∧ v = .pointer (some ⟨(β r).b, o, none⟩)
  | .sref r o m sz, v => ∃ s cap, v = .slice s m cap ∧ m ≤ cap ∧ cap ≤ maxLen ∧ ((m = 0 ∧ cap = 0) ∨ (r < n ∧ s = some ⟨(β r).b, o, none⟩ ∧ o + cap * sz = (β r).tot))
  | .bor m cs, v => ∃ s cap vs, v = .slice s m cap ∧ m ≤ cap ∧ cap ≤ maxLen ∧ RowOf w0 s vs ∧ RVs w0 n β cs vs
  | .bptr cs o, v => ∃ s p vs, v = .pointer (some p) ∧ RowOf w0 s vs ∧ RVs w0 n β cs vs ∧ (∀ q, s = some q → p = q.add o)
  | .agg vs, v => ∃ arr, v = .agg arr ∧ RVs w0 n β vs arr.toList
  | .tup vs, v => ∃ arr, v = .tuple arr ∧ RVt w0 n β vs arr.toList
def RVs (w0 : World) (n : Nat) (β : Nat → Spot) : List AV → List Value → Prop
  | [], vs => vs = []
  | x :: xs, vs => ∃ v vs', vs = v :: vs' ∧ v.oneCell' = true ∧ RV w0 n β x v ∧ RVs w0 n β xs vs'
def RVt (w0 : World) (n : Nat) (β : Nat → Spot) : List AV → List Value → Prop
  | [], vs => vs = []
  | x :: xs, vs => ∃ v vs', vs = v :: vs' ∧ RV w0 n β x v ∧ RVt w0 n β xs vs'
end

/-- The memory H, in the world w. -/
structure RH (w0 : World) (n : Nat) (β : Nat → Spot) (H : Heap) (w : World) : Prop where
  root : ∀ r t, H.get r = some t → r < n ∧ w0.heap.size ≤ (β r).b ∧ ∃ cur, w.heap[(β r).b]? = some (.cells cur t.e (0, 0)) ∧ cur.size = (β r).tot ∧ t.cs.length ≤ cur.size ∧ RVs w0 n β t.cs (cur.toList.take t.cs.length)
  apart : ∀ r r', (H.get r).isSome = true → (H.get r').isSome = true → (β r).b = (β r').b → r = r'

section
variable {w0 : World} {n n' : Nat} {β β' : Nat → Spot}

mutual
theorem RV.more (hn : n ≤ n') (hb : ∀ i, i < n → β' i = β i) : ∀ {x : AV} {v : Value}, RV w0 n β x v → RV w0 n' β' x v
  | .unk, _, _ => by simp [RV]
  | .und, _, h => by simpa only [RV] using h
  | .nil, _, h => by simpa only [RV] using h
  | .bool _, _, h => by simpa only [RV] using h
  | .int _ _, _, h => by simpa only [RV] using h
  | .ptr r o, _, h => by
    simp only [RV] at h ⊢
    exact ⟨by omega, by rw [hb r h.1]; exact h.2⟩
  | .sref r o m sz, _, h => by
    simp only [RV] at h ⊢
    obtain ⟨s, cap, h1, h2, h3, h4⟩ := h
    refine ⟨s, cap, h1, h2, h3, h4.imp id fun ⟨a, b, c⟩ => ⟨by omega, ?_, ?_⟩⟩ <;> rw [hb r a] <;> assumption
  | .bor m cs, _, h => by
    simp only [RV] at h ⊢
    obtain ⟨s, cap, vs, h1, h2, h3, h4, h5⟩ := h
    exact ⟨s, cap, vs, h1, h2, h3, h4, RVs.more hn hb h5⟩
  | .bptr cs o, _, h => by
    simp only [RV] at h ⊢
    obtain ⟨s, p, vs, h1, h2, h3, h4⟩ := h
    exact ⟨s, p, vs, h1, h2, RVs.more hn hb h3, h4⟩
  | .agg vs, _, h => by
    simp only [RV] at h ⊢
    obtain ⟨arr, h1, h2⟩ := h
    exact ⟨arr, h1, RVs.more hn hb h2⟩
  | .tup vs, _, h => by
    simp only [RV] at h ⊢
    obtain ⟨arr, h1, h2⟩ := h
    exact ⟨arr, h1, RVt.more hn hb h2⟩
theorem RVs.more (hn : n ≤ n') (hb : ∀ i, i < n → β' i = β i) : ∀ {xs : List AV} {vs : List Value}, RVs w0 n β xs vs → RVs w0 n' β' xs vs
  | [], _, h => by simpa only [RVs] using h
  | _ :: _, _, h => by
    simp only [RVs] at h ⊢
    obtain ⟨v, vs', e, o, h1, h2⟩ := h
    exact ⟨v, vs', e, o, RV.more hn hb h1, RVs.more hn hb h2⟩
theorem RVt.more (hn : n ≤ n') (hb : ∀ i, i < n → β' i = β i) : ∀ {xs : List AV} {vs : List Value}, RVt w0 n β xs vs → RVt w0 n' β' xs vs
  | [], _, h => by simpa only [RVt] using h
  | _ :: _, _, h => by
    simp only [RVt] at h ⊢
    obtain ⟨v, vs', e, h1, h2⟩ := h
    exact ⟨v, vs', e, RV.more hn hb h1, RVt.more hn hb h2⟩
end

theorem RVs.length : ∀ {xs : List AV} {vs : List Value}, RVs w0 n β xs vs → vs.length = xs.length
  | [], _, h => by simp only [RVs] at h; simp [h]
  | _ :: _, _, h => by
    simp only [RVs] at h
    obtain ⟨v, vs', rfl, _, _, h2⟩ := h
    simp [RVs.length h2]

theorem RVt.length : ∀ {xs : List AV} {vs : List Value}, RVt w0 n β xs vs → vs.length = xs.length
  | [], _, h => by simp only [RVt] at h; simp [h]
  | _ :: _, _, h => by
    simp only [RVt] at h
    obtain ⟨v, vs', rfl, _, h2⟩ := h
    simp [RVt.length h2]

theorem RVs.append : ∀ {xs ys : List AV} {vs us : List Value}, RVs w0 n β xs vs → RVs w0 n β ys us → RVs w0 n β (xs ++ ys) (vs ++ us)
  | [], _, _, _, h, k => by simp only [RVs] at h; subst h; simpa using k
  | _ :: _, _, _, _, h, k => by
    simp only [RVs, List.cons_append] at h ⊢
    obtain ⟨v, vs', rfl, o, h1, h2⟩ := h
    exact ⟨v, vs' ++ _, rfl, o, h1, h2.append k⟩

theorem RVs.get : ∀ {xs : List AV} {vs : List Value}, RVs w0 n β xs vs → ∀ (i : Nat), i < xs.length → RV w0 n β (xs.getD i .unk) (vs.getD i undef) ∧ (vs.getD i undef).oneCell' = true
  | [], _, _, _, hi => by simp at hi
  | x :: xs, _, h, i, hi => by
    simp only [RVs] at h
    obtain ⟨v, vs', rfl, o, h1, h2⟩ := h
    cases i with
    | zero => exact ⟨h1, o⟩
    | succ i => simpa using h2.get i (by simpa using hi)

theorem RVs.of_get : ∀ {xs : List AV} {vs : List Value}, vs.length = xs.length → (∀ i, i < xs.length → RV w0 n β (xs.getD i .unk) (vs.getD i undef) ∧ (vs.getD i undef).oneCell' = true) → RVs w0 n β xs vs
  | [], vs, h, _ => by simp only [RVs]; exact List.length_eq_zero_iff.1 (by simpa using h)
  | x :: xs, [], h, _ => by simp at h
  | x :: xs, v :: vs, h, k => by
    simp only [RVs]
    refine ⟨v, vs, rfl, (k 0 (by simp)).2, (k 0 (by simp)).1, RVs.of_get (by simpa using h) fun i hi => ?_⟩
    simpa using k (i + 1) (by simpa using hi)

theorem RVs.drop {xs : List AV} {vs : List Value} (h : RVs w0 n β xs vs) (k : Nat) : RVs w0 n β (xs.drop k) (vs.drop k) := by
  have hl := h.length
  refine RVs.of_get (by simp [hl]) fun i hi => ?_
  simp only [List.length_drop] at hi
  have := h.get (k + i) (by omega)
  simpa [List.getD, List.getElem?_drop] using this

theorem RVs.take {xs : List AV} {vs : List Value} (h : RVs w0 n β xs vs) (k : Nat) : RVs w0 n β (xs.take k) (vs.take k) := by
  have hl := h.length
  refine RVs.of_get (by simp [hl]) fun i hi => ?_
  simp only [List.length_take] at hi
  have := h.get i (by omega)
  simpa [List.getD, List.getElem?_take, show i < k by omega] using this

theorem getD_set {α : Type} (l : List α) (i j : Nat) (x d : α) : (l.set i x).getD j d = if i = j ∧ j < l.length then x else l.getD j d := by
  simp only [List.getD, List.getElem?_set]
  by_cases h : i = j
  · subst h; by_cases h2 : i < l.length <;> simp [h2]
  · simp [h]

theorem RVs.set {xs : List AV} {vs : List Value} (h : RVs w0 n β xs vs) (k : Nat) {x : AV} {v : Value} (hx : RV w0 n β x v) (ho : v.oneCell' = true) : RVs w0 n β (xs.set k x) (vs.set k v) := by
  have hl := h.length
  refine RVs.of_get (by simp [hl]) fun i hi => ?_
  simp only [List.length_set] at hi
  have := h.get i hi
  rw [getD_set, getD_set, hl]
  split
  · exact ⟨hx, ho⟩
  · exact this
end

/-- A store into, or a new block behind, what is not among the roots' blocks. -/
theorem RH.kept {w0 : World} {n n' : Nat} {β β' : Nat → Spot} {H : Heap} {w w' : World} (h : RH w0 n β H w) (hn : n ≤ n') (hb : ∀ i, i < n → β' i = β i)
    (hk : ∀ r t, H.get r = some t → w'.heap[(β r).b]? = w.heap[(β r).b]?) : RH w0 n' β' H w' := by
  refine ⟨fun r t hr => ?_, fun r r' hr hr' he => ?_⟩
  · obtain ⟨h1, h2, cur, h3, h4, h5, h6⟩ := h.root r t hr
    refine ⟨by omega, by rw [hb r h1]; exact h2, cur, ?_, by rw [hb r h1]; exact h4, h5, h6.more hn hb⟩
    rw [hb r h1, hk r t hr]; exact h3
  · obtain ⟨t, ht⟩ := Option.isSome_iff_exists.1 hr
    obtain ⟨t', ht'⟩ := Option.isSome_iff_exists.1 hr'
    rw [hb r (h.root r t ht).1, hb r' (h.root r' t' ht').1] at he
    exact h.apart r r' hr hr' he

theorem RH.lt {w0 : World} {n : Nat} {β : Nat → Spot} {H : Heap} {w : World} (h : RH w0 n β H w) {r : Nat} {t : Root} (hr : H.get r = some t) : (β r).b < w.heap.size := by
  obtain ⟨_, _, cur, h3, _⟩ := h.root r t hr
  exact (Array.getElem?_eq_some_iff.1 h3).1

theorem heap_alloc' (w : World) (o : Obj) (k : Nat) (h : k < w.heap.size) : ({ w with heap := w.heap.push o } : World).heap[k]? = w.heap[k]? := Below.heap_alloc w o k h

/-- A new root at the end of the heap. -/
theorem RH.alloc {w0 : World} {n : Nat} {β : Nat → Spot} {H : Heap} {w : World} (h : RH w0 n β H w) (hw : w0.heap.size ≤ w.heap.size) {e : TypeId} {cs : List AV} {cur : Array Value}
    (hc : cs.length ≤ cur.size) (hv : RVs w0 n β cs (cur.toList.take cs.length)) :
    RH w0 (n + 1) (fun i => if i = n then ⟨w.heap.size, cur.size⟩ else β i) ((n, some ⟨e, cs⟩) :: H) { w with heap := w.heap.push (.cells cur e (0, 0)) } := by
  have hb : ∀ i, i < n → (fun i => if i = n then (⟨w.heap.size, cur.size⟩ : Spot) else β i) i = β i := fun i hi => by simp [show i ≠ n by omega]
  have hk := h.kept (n' := n + 1) (w' := { w with heap := w.heap.push (.cells cur e (0, 0)) }) (Nat.le_succ _) hb (fun r t hr => heap_alloc' w _ _ (h.lt hr))
  refine ⟨fun r t hr => ?_, fun r r' hr hr' he => ?_⟩
  · simp only [Heap.get] at hr
    split at hr
    · rename_i e1
      subst e1
      simp only [Option.some.injEq] at hr
      subst hr
      refine ⟨Nat.lt_succ_self _, by simpa using hw, cur, by simp, by simp, hc, hv.more (Nat.le_succ _) hb⟩
    · exact hk.root r t hr
  · simp only [Heap.get] at hr hr'
    by_cases e1 : n = r <;> by_cases e2 : n = r'
    · omega
    · rw [if_neg e2] at hr'
      obtain ⟨t', ht'⟩ := Option.isSome_iff_exists.1 hr'
      have := h.lt ht'
      have := (h.root _ _ ht').1
      subst e1
      simp [show r' ≠ n by omega] at he
      omega
    · rw [if_neg e1] at hr
      obtain ⟨t, ht⟩ := Option.isSome_iff_exists.1 hr
      have := h.lt ht
      have := (h.root _ _ ht).1
      subst e2
      simp [show r ≠ n by omega] at he
      omega
    · rw [if_neg e1] at hr
      rw [if_neg e2] at hr'
      exact hk.apart r r' hr hr' he

/-- A cell of a root is written. -/
theorem RH.setCell {w0 : World} {n : Nat} {β : Nat → Spot} {H : Heap} {w : World} (h : RH w0 n β H w) {r : Nat} {t : Root} (hr : H.get r = some t) {o : Nat} (ho : o < t.cs.length)
    {x : AV} {v : Value} (hx : RV w0 n β x v) (h1 : v.oneCell' = true) : RH w0 n β ((r, some ⟨t.e, t.cs.set o x⟩) :: H) (w.setCell ⟨(β r).b, o, none⟩ v) := by
  have hm : ∀ r', (Heap.get ((r, some ⟨t.e, t.cs.set o x⟩) :: H) r').isSome = true → (H.get r').isSome = true := fun r' hr' => by
    simp only [Heap.get] at hr'
    split at hr'
    · rename_i e; subst e; simp [hr]
    · exact hr'
  refine ⟨fun r' t' hr' => ?_, fun r1 r2 h1 h2 he => h.apart r1 r2 (hm r1 h1) (hm r2 h2) he⟩
  obtain ⟨a1, a2, cur, a3, a4, a5, a6⟩ := h.root r t hr
  simp only [Heap.get] at hr'
  split at hr'
  · rename_i e
    subst e
    simp only [Option.some.injEq] at hr'
    subst hr'
    refine ⟨a1, a2, cur.setIfInBounds o v, ?_, by simpa using a4, by simpa using a5, ?_⟩
    · simp only [World.setCell, Array.getElem?_modify, if_true, a3]; rfl
    · have := a6.set o hx h1
      simpa [List.take_set] using this
  · rename_i e
    obtain ⟨b1, b2, cur', b3, b4, b5, b6⟩ := h.root r' t' hr'
    refine ⟨b1, b2, cur', ?_, b4, b5, b6⟩
    rw [Below.heap_setCell _ _ _ _ (fun e' => e (h.apart r' r (by simp [hr']) (by simp [hr]) e').symm)]
    exact b3
end Go.Proofs.Ytholbkojdcdokab
