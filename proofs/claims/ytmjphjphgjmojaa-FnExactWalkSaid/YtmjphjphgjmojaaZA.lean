/- An abstract machine with memory in trees: its values, its memory, and when a value of the model is one of its values. No program is named here. -/
import Derived.WalkKit
import Derived.Deep.Quiet
import Derived.Carry
namespace Go.Proofs.Ytmjphjphgjmojaa
set_option linter.all false
open Go.RowKit
inductive AV where
 | unk
 | und
 | nil
 | emp
 | bool (b : Bool)
 | int (k : IntKind) (n : Int)
 | ptr (r : Nat) (π : List Nat) (o : Nat)
 | sref (r : Nat) (π : List Nat) (o n sz : Nat)
 | bor (n : Nat) (cs : List AV)
 | bptr (cs : List AV) (o : Nat)
 | own (e : TypeId) (sz n : Nat) (cs : List AV)
 | agg (vs : List AV)
 | tup (vs : List AV)
structure Root where
 e : TypeId
 cs : List AV
abbrev Heap := List (Nat × Option Root)
def AV.node : AV → Option Root
 | .own e _ _ cs => some ⟨e, cs⟩
 | _ => none
def Heap.get1 : Heap → Nat → Option Root
 | [], _ => none
 | (k, r) :: h, i => if k = i then r else Heap.get1 h i
def Heap.get (H : Heap) (r : Nat) : List Nat → Option Root
 | [] => H.get1 r
 | i :: π => match Heap.get H r π with
  | some t => (t.cs.getD i .unk).node
  | none => none
def Heap.put (H : Heap) (r : Nat) : List Nat → List AV → Heap
 | [], cs => match H.get1 r with
  | some t => (r, some ⟨t.e, cs⟩) :: H
  | none => H
 | i :: π, cs => match H.get r π with
  | some t => match t.cs.getD i .unk with
   | .own e sz m _ => Heap.put H r π (t.cs.set i (.own e sz m cs))
   | _ => H
  | none => H
def Heap.kill (H : Heap) (r : Nat) : List Nat → Heap
 | [] => (r, none) :: H
 | i :: π => match H.get r π with
  | some t => Heap.put H r π (t.cs.set i .unk)
  | none => H
def AV.at (r : Nat) (π : List Nat) (i : Nat) : AV → AV
 | .own _ sz m _ => .sref r (i :: π) 0 m sz
 | x => x
def refer (r : Nat) (π : List Nat) : Nat → List AV → List AV
 | _, [] => []
 | i, c :: cs => c.at r π i :: refer r π (i + 1) cs
structure Spot where
 ex : Bool
 b : Nat
 tot : Nat
abbrev Spots := Nat → List Nat → Spot
abbrev Fz := Nat → Option (Bool × Obj)
def Keep (Φ : Fz) (w : World) : Prop := ∀ b x, Φ b = some x → w.heap[b]? = some x.2
def Fz.le (Φ Φ' : Fz) : Prop := ∀ b x, Φ b = some x → Φ' b = some x
theorem Fz.le_refl (Φ : Fz) : Φ.le Φ := fun _ _ h => h
theorem Fz.le.trans {Φ Φ' Φ'' : Fz} (h : Φ.le Φ') (k : Φ'.le Φ'') : Φ.le Φ'' := fun b x e => k b x (h b x e)
def RowOf (Φ : Fz) (s : Option Addr) (vs : List Value) : Prop :=
 vs = [] ∨ ∃ b p cs e fz, s = some ⟨b, p, none⟩ ∧ Φ b = some (true, .cells cs e fz) ∧ ∀ i, i < vs.length → cs[p + i]? = some (vs.getD i undef)
def Fz.tle (Φ Φ' : Fz) : Prop := ∀ b o, Φ b = some (true, o) → Φ' b = some (true, o)
theorem Fz.le.tle {Φ Φ' : Fz} (h : Φ.le Φ') : Φ.tle Φ' := fun b o e => h b _ e
theorem RowOf.le {Φ Φ' : Fz} {s : Option Addr} {vs : List Value} (h : RowOf Φ s vs) (hl : Φ.tle Φ') : RowOf Φ' s vs :=
 h.imp id fun ⟨b, p, cs, e, fz, h1, h2, h3⟩ => ⟨b, p, cs, e, fz, h1, hl _ _ h2, h3⟩
mutual
def RV (Φ : Fz) (n : Nat) (β : Spots) : AV → Value → Prop
 | .unk, _ => True
 | .und, v => v = undef
 | .nil, v => v = .slice none 0 0
 | .emp, v => ∃ s, v = .slice s 0 0
 | .bool b, v => v = .bool b
 | .int k z, v => v = .int k z ∧ k.min ≤ z ∧ z ≤ k.max
 | .ptr r π o, v => r < n ∧ (β r π).ex = true ∧ v = .pointer (some ⟨(β r π).b, o, none⟩)
 | .sref r π o m sz, v => r < n ∧ ∃ s cap, v = .slice s m cap ∧ m ≤ cap ∧ cap ≤ maxLen ∧ ((m = 0 ∧ cap = 0 ∧ (o ≠ 0 ∨ (β r π).ex = false)) ∨ ((β r π).ex = true ∧ s = some ⟨(β r π).b, o, none⟩ ∧ o + cap * sz = (β r π).tot))
 | .bor m cs, v => ∃ s cap vs, v = .slice s m cap ∧ m ≤ cap ∧ cap ≤ maxLen ∧ RowOf Φ s vs ∧ RVs Φ n β cs vs
 | .bptr cs o, v => ∃ s p vs, v = .pointer (some p) ∧ RowOf Φ s vs ∧ RVs Φ n β cs vs ∧ (∀ q, s = some q → p = q.add o)
 | .own _ _ _ _, _ => False
 | .agg vs, v => ∃ arr, v = .agg arr ∧ RVs Φ n β vs arr.toList
 | .tup vs, v => ∃ arr, v = .tuple arr ∧ RVt Φ n β vs arr.toList
def RVs (Φ : Fz) (n : Nat) (β : Spots) : List AV → List Value → Prop
 | [], vs => vs = []
 | x :: xs, vs => ∃ v vs', vs = v :: vs' ∧ v.oneCell' = true ∧ RV Φ n β x v ∧ RVs Φ n β xs vs'
def RVt (Φ : Fz) (n : Nat) (β : Spots) : List AV → List Value → Prop
 | [], vs => vs = []
 | x :: xs, vs => ∃ v vs', vs = v :: vs' ∧ RV Φ n β x v ∧ RVt Φ n β xs vs'
end
def NodeIs (Φ : Fz) (n : Nat) (β : Spots) (w : World) (r : Nat) (π : List Nat) (t : Root) : Prop :=
 ((β r π).ex = false ∧ t.cs = []) ∨
 ((β r π).ex = true ∧ Φ (β r π).b = none ∧ ∃ cur, w.heap[(β r π).b]? = some (.cells cur t.e (0, 0)) ∧ cur.size = (β r π).tot ∧ t.cs.length ≤ cur.size ∧ RVs Φ n β (refer r π 0 t.cs) (cur.toList.take t.cs.length))
structure RH (Φ : Fz) (n : Nat) (β : Spots) (H : Heap) (w : World) : Prop where
 root : ∀ r π t, H.get r π = some t → r < n ∧ NodeIs Φ n β w r π t
 apart : ∀ r π r' π', (H.get r π).isSome = true → (H.get r' π').isSome = true → (β r π).ex = true → (β r' π').ex = true → (β r π).b = (β r' π').b → r = r' ∧ π = π'
section
variable {Φ Φ' : Fz} {n n' : Nat} {β β' : Spots}
mutual
theorem RV.moreT (hΦ : Φ.tle Φ') (hn : n ≤ n') (hb : ∀ i, i < n → β' i = β i) : ∀ {x : AV} {v : Value}, RV Φ n β x v → RV Φ' n' β' x v
 | .unk, _, _ => by simp [RV]
 | .und, _, h => by simpa only [RV] using h
 | .nil, _, h => by simpa only [RV] using h
 | .emp, _, h => by simpa only [RV] using h
 | .bool _, _, h => by simpa only [RV] using h
 | .int _ _, _, h => by simpa only [RV] using h
 | .own _ _ _ _, _, h => by simp only [RV] at h
 | .ptr r π o, _, h => by
  simp only [RV] at h ⊢
  rw [hb r h.1]; exact ⟨by omega, h.2⟩
 | .sref r π o m sz, _, h => by
  simp only [RV] at h ⊢
  rw [hb r h.1]; exact ⟨by omega, h.2⟩
 | .bor m cs, _, h => by
  simp only [RV] at h ⊢
  obtain ⟨s, cap, vs, h1, h2, h3, h4, h5⟩ := h
  exact ⟨s, cap, vs, h1, h2, h3, h4.le hΦ, RVs.moreT hΦ hn hb h5⟩
 | .bptr cs o, _, h => by
  simp only [RV] at h ⊢
  obtain ⟨s, p, vs, h1, h2, h3, h4⟩ := h
  exact ⟨s, p, vs, h1, h2.le hΦ, RVs.moreT hΦ hn hb h3, h4⟩
 | .agg vs, _, h => by
  simp only [RV] at h ⊢
  obtain ⟨arr, h1, h2⟩ := h
  exact ⟨arr, h1, RVs.moreT hΦ hn hb h2⟩
 | .tup vs, _, h => by
  simp only [RV] at h ⊢
  obtain ⟨arr, h1, h2⟩ := h
  exact ⟨arr, h1, RVt.moreT hΦ hn hb h2⟩
theorem RVs.moreT (hΦ : Φ.tle Φ') (hn : n ≤ n') (hb : ∀ i, i < n → β' i = β i) : ∀ {xs : List AV} {vs : List Value}, RVs Φ n β xs vs → RVs Φ' n' β' xs vs
 | [], _, h => by simpa only [RVs] using h
 | _ :: _, _, h => by
  simp only [RVs] at h ⊢
  obtain ⟨v, vs', e, o, h1, h2⟩ := h
  exact ⟨v, vs', e, o, RV.moreT hΦ hn hb h1, RVs.moreT hΦ hn hb h2⟩
theorem RVt.moreT (hΦ : Φ.tle Φ') (hn : n ≤ n') (hb : ∀ i, i < n → β' i = β i) : ∀ {xs : List AV} {vs : List Value}, RVt Φ n β xs vs → RVt Φ' n' β' xs vs
 | [], _, h => by simpa only [RVt] using h
 | _ :: _, _, h => by
  simp only [RVt] at h ⊢
  obtain ⟨v, vs', e, h1, h2⟩ := h
  exact ⟨v, vs', e, RV.moreT hΦ hn hb h1, RVt.moreT hΦ hn hb h2⟩
end
theorem RV.more (hΦ : Φ.le Φ') (hn : n ≤ n') (hb : ∀ i, i < n → β' i = β i) {x : AV} {v : Value} (h : RV Φ n β x v) : RV Φ' n' β' x v := h.moreT hΦ.tle hn hb
theorem RVs.more (hΦ : Φ.le Φ') (hn : n ≤ n') (hb : ∀ i, i < n → β' i = β i) {x : List AV} {v : List Value} (h : RVs Φ n β x v) : RVs Φ' n' β' x v := h.moreT hΦ.tle hn hb
theorem RVt.more (hΦ : Φ.le Φ') (hn : n ≤ n') (hb : ∀ i, i < n → β' i = β i) {x : List AV} {v : List Value} (h : RVt Φ n β x v) : RVt Φ' n' β' x v := h.moreT hΦ.tle hn hb
theorem RVs.length : ∀ {xs : List AV} {vs : List Value}, RVs Φ n β xs vs → vs.length = xs.length
 | [], _, h => by simp only [RVs] at h; simp [h]
 | _ :: _, _, h => by
  simp only [RVs] at h
  obtain ⟨v, vs', rfl, _, _, h2⟩ := h
  simp [RVs.length h2]
theorem RVt.length : ∀ {xs : List AV} {vs : List Value}, RVt Φ n β xs vs → vs.length = xs.length
 | [], _, h => by simp only [RVt] at h; simp [h]
 | _ :: _, _, h => by
  simp only [RVt] at h
  obtain ⟨v, vs', rfl, _, h2⟩ := h
  simp [RVt.length h2]
theorem RVs.append : ∀ {xs ys : List AV} {vs us : List Value}, RVs Φ n β xs vs → RVs Φ n β ys us → RVs Φ n β (xs ++ ys) (vs ++ us)
 | [], _, _, _, h, k => by simp only [RVs] at h; subst h; simpa using k
 | _ :: _, _, _, _, h, k => by
  simp only [RVs, List.cons_append] at h ⊢
  obtain ⟨v, vs', rfl, o, h1, h2⟩ := h
  exact ⟨v, vs' ++ _, rfl, o, h1, h2.append k⟩
theorem RVs.get : ∀ {xs : List AV} {vs : List Value}, RVs Φ n β xs vs → ∀ (i : Nat), i < xs.length → RV Φ n β (xs.getD i .unk) (vs.getD i undef) ∧ (vs.getD i undef).oneCell' = true
 | [], _, _, _, hi => by simp at hi
 | x :: xs, _, h, i, hi => by
  simp only [RVs] at h
  obtain ⟨v, vs', rfl, o, h1, h2⟩ := h
  cases i with
  | zero => exact ⟨h1, o⟩
  | succ i => simpa using h2.get i (by simpa using hi)
theorem RVs.of_get : ∀ {xs : List AV} {vs : List Value}, vs.length = xs.length → (∀ i, i < xs.length → RV Φ n β (xs.getD i .unk) (vs.getD i undef) ∧ (vs.getD i undef).oneCell' = true) → RVs Φ n β xs vs
 | [], vs, h, _ => by simp only [RVs]; exact List.length_eq_zero_iff.1 (by simpa using h)
 | x :: xs, [], h, _ => by simp at h
 | x :: xs, v :: vs, h, k => by
  simp only [RVs]
  refine ⟨v, vs, rfl, (k 0 (by simp)).2, (k 0 (by simp)).1, RVs.of_get (by simpa using h) fun i hi => ?_⟩
  simpa using k (i + 1) (by simpa using hi)
theorem RVs.drop {xs : List AV} {vs : List Value} (h : RVs Φ n β xs vs) (k : Nat) : RVs Φ n β (xs.drop k) (vs.drop k) := by
 have hl := h.length
 refine RVs.of_get (by simp [hl]) fun i hi => ?_
 simp only [List.length_drop] at hi
 have := h.get (k + i) (by omega)
 simpa [List.getD, List.getElem?_drop] using this
theorem RVs.take {xs : List AV} {vs : List Value} (h : RVs Φ n β xs vs) (k : Nat) : RVs Φ n β (xs.take k) (vs.take k) := by
 have hl := h.length
 refine RVs.of_get (by simp [hl]) fun i hi => ?_
 simp only [List.length_take] at hi
 have := h.get i (by omega)
 simpa [List.getD, List.getElem?_take, show i < k by omega] using this
theorem getD_set {α : Type} (l : List α) (i j : Nat) (x d : α) : (l.set i x).getD j d = if i = j ∧ j < l.length then x else l.getD j d := by
 simp only [List.getD, List.getElem?_set]
 by_cases h : i = j
 · subst h; by_cases h2 : i < l.length <;> simp [h2]
 · simp [h]
theorem RVs.set {xs : List AV} {vs : List Value} (h : RVs Φ n β xs vs) (k : Nat) {x : AV} {v : Value} (hx : RV Φ n β x v) (ho : v.oneCell' = true) : RVs Φ n β (xs.set k x) (vs.set k v) := by
 have hl := h.length
 refine RVs.of_get (by simp [hl]) fun i hi => ?_
 simp only [List.length_set] at hi
 have := h.get i hi
 rw [getD_set, getD_set, hl]
 split
 · exact ⟨hx, ho⟩
 · exact this
end
theorem refer_length (r : Nat) (π : List Nat) : ∀ (i : Nat) (cs : List AV), (refer r π i cs).length = cs.length
 | _, [] => rfl
 | i, c :: cs => by simp [refer, refer_length r π (i + 1) cs]
theorem refer_getD (r : Nat) (π : List Nat) : ∀ (k : Nat) (cs : List AV) (i : Nat), (refer r π k cs).getD i .unk = (cs.getD i .unk).at r π (k + i)
 | _, [], i => by simp [refer, AV.at]
 | k, c :: cs, 0 => by simp [refer]
 | k, c :: cs, i + 1 => by
  have := refer_getD r π (k + 1) cs i
  simp only [refer, List.getD_cons_succ]
  rw [this]; congr 1; omega
theorem at_of_no {r : Nat} {π : List Nat} {i : Nat} {x : AV} (h : x.node = none) : x.at r π i = x := by cases x <;> simp_all [AV.node, AV.at]
theorem ext_getD {xs ys : List AV} (hl : xs.length = ys.length) (h : ∀ i, i < xs.length → xs.getD i .unk = ys.getD i .unk) : xs = ys := by
 apply List.ext_getElem hl
 intro i h1 h2
 have := h i h1
 simpa [List.getD, h1, h2] using this
theorem refer_drop (r : Nat) (π : List Nat) : ∀ (o k : Nat) (cs : List AV), (refer r π k cs).drop o = refer r π (k + o) (cs.drop o)
 | 0, _, _ => by simp
 | o + 1, k, [] => by simp [refer]
 | o + 1, k, c :: cs => by
  simp only [refer, List.drop_succ_cons]
  rw [refer_drop r π o (k + 1) cs]; congr 1; omega
theorem refer_take (r : Nat) (π : List Nat) : ∀ (m k : Nat) (cs : List AV), (refer r π k cs).take m = refer r π k (cs.take m)
 | 0, _, _ => by simp [refer]
 | m + 1, k, [] => by simp [refer]
 | m + 1, k, c :: cs => by simp [refer, refer_take r π m (k + 1) cs]
def noOwn (cs : List AV) : Bool := cs.all fun x => x.node.isNone
theorem refer_no {r : Nat} {π : List Nat} : ∀ {k : Nat} {cs : List AV}, noOwn cs = true → refer r π k cs = cs
 | _, [], _ => rfl
 | k, c :: cs, h => by
  simp only [noOwn, List.all_cons, Bool.and_eq_true, Option.isNone_iff_eq_none] at h
  simp only [refer, at_of_no h.1]
  rw [refer_no (by simpa [noOwn] using h.2)]
theorem node_rv {Φ : Fz} {n : Nat} {β : Spots} {x : AV} {v : Value} (h : RV Φ n β x v) : x.node = none := by cases x <;> simp_all [RV, AV.node]
theorem noOwn_rvs {Φ : Fz} {n : Nat} {β : Spots} : ∀ {xs : List AV} {vs : List Value}, RVs Φ n β xs vs → noOwn xs = true
 | [], _, _ => rfl
 | x :: xs, _, h => by
  simp only [RVs] at h
  obtain ⟨v, vs', _, _, h1, h2⟩ := h
  have := noOwn_rvs h2
  simp only [noOwn, List.all_cons, Bool.and_eq_true, Option.isNone_iff_eq_none] at this ⊢
  exact ⟨node_rv h1, this⟩
theorem noOwn_get {cs : List AV} (h : noOwn cs = true) (j : Nat) : (cs.getD j .unk).node = none := by
 rcases Nat.lt_or_ge j cs.length with h1 | h1
 · simp only [noOwn, List.all_eq_true, Option.isNone_iff_eq_none] at h
   have := h cs[j] (List.getElem_mem h1)
   simpa [List.getD, h1] using this
 · simp [List.getD, Nat.not_lt.2 h1, AV.node]
theorem get_same {H H' : Heap} {r r' : Nat} {ρ ρ' : List Nat} (h : H'.get r' ρ' = H.get r ρ) : ∀ σ : List Nat, H'.get r' (σ ++ ρ') = H.get r (σ ++ ρ)
 | [] => h
 | i :: σ => by simp only [List.cons_append, Heap.get]; rw [get_same h σ]
theorem get_node {H H' : Heap} {r r' : Nat} {ρ ρ' : List Nat} {i i' : Nat} {t t' : Root} (h1 : H'.get r' ρ' = some t') (h2 : H.get r ρ = some t) (h : (t'.cs.getD i' .unk).node = (t.cs.getD i .unk).node) (σ : List Nat) :
 H'.get r' (σ ++ i' :: ρ') = H.get r (σ ++ i :: ρ) := by
 apply get_same
 simp only [Heap.get, h1, h2, h]
theorem get_dead {H : Heap} {r : Nat} {ρ : List Nat} (h : H.get r ρ = none) : ∀ σ : List Nat, H.get r (σ ++ ρ) = none
 | [] => h
 | i :: σ => by simp only [List.cons_append, Heap.get]; rw [get_dead h σ]
theorem get_cons_ne {H : Heap} {k r : Nat} {t : Option Root} (h : k ≠ r) : ∀ π, Heap.get ((k, t) :: H) r π = H.get r π
 | [] => by simp [Heap.get, Heap.get1, h]
 | i :: π => by simp only [Heap.get]; rw [get_cons_ne h π]
theorem own_lt {cs : List AV} {i : Nat} {e : TypeId} {sz m : Nat} {ds : List AV} (h : cs.getD i .unk = .own e sz m ds) : i < cs.length := by
 rcases Nat.lt_or_ge i cs.length with h1 | h1
 · exact h1
 · simp [List.getD, Nat.not_lt.2 h1] at h
theorem put_get {H : Heap} {r : Nat} : ∀ {π : List Nat} {t : Root} {cs : List AV}, H.get r π = some t → (H.put r π cs).get r π = some ⟨t.e, cs⟩
 | [], t, cs, h => by
  simp only [Heap.get] at h
  simp [Heap.put, h, Heap.get, Heap.get1]
 | i :: π, t, cs, h => by
  simp only [Heap.get] at h
  split at h
  · rename_i tp htp
    cases hc : tp.cs.getD i .unk <;> rw [hc] at h <;> simp only [AV.node, Option.some.injEq, reduceCtorEq] at h
    rename_i e sz m ds
    subst h
    simp only [Heap.put, htp, hc]
    have := put_get (cs := tp.cs.set i (.own e sz m cs)) htp
    simp only [Heap.get, this]
    rw [getD_set, if_pos ⟨rfl, own_lt hc⟩]
    rfl
  · cases h
def Under (ρ π : List Nat) : Prop := ∃ σ, π = σ ++ ρ
theorem Under.refl (ρ : List Nat) : Under ρ ρ := ⟨[], rfl⟩
theorem Under.nil (π : List Nat) : Under [] π := ⟨π, by simp⟩
theorem put_other {H : Heap} {r : Nat} : ∀ {π : List Nat} {t : Root} {cs : List AV}, H.get r π = some t → ∀ r' π' t', (H.put r π cs).get r' π' = some t' →
 (r' = r ∧ Under π π') ∨ ∃ t0, H.get r' π' = some t0 ∧ t'.e = t0.e ∧ t'.cs.length = t0.cs.length ∧ refer r' π' 0 t'.cs = refer r' π' 0 t0.cs
 | [], t, cs, h, r', π', t', h' => by
  by_cases hr : r = r'
  · exact .inl ⟨hr.symm, Under.nil _⟩
  · simp only [Heap.get] at h
    simp only [Heap.put, h] at h'
    rw [get_cons_ne hr] at h'
    exact .inr ⟨t', h', rfl, rfl, rfl⟩
 | i :: π, t, cs, h, r', π', t', h' => by
  simp only [Heap.get] at h
  split at h
  · rename_i tp htp
    cases hc : tp.cs.getD i .unk <;> rw [hc] at h <;> simp only [AV.node, Option.some.injEq, reduceCtorEq] at h
    rename_i e sz m ds
    subst h
    simp only [Heap.put, htp, hc] at h'
    have hA := put_get (cs := tp.cs.set i (.own e sz m cs)) htp
    rcases put_other htp r' π' t' h' with ⟨rfl, σ, rfl⟩ | h2
    · rcases List.eq_nil_or_concat σ with rfl | ⟨σ, j, rfl⟩
      · simp only [List.nil_append] at h' ⊢
        rw [hA] at h'
        cases h'
        refine .inr ⟨tp, htp, rfl, by simp, ext_getD (by simp [refer_length]) fun k hk => ?_⟩
        rw [refer_getD, refer_getD, getD_set]
        split
        · rename_i hk2; obtain ⟨rfl, _⟩ := hk2; rw [hc]; rfl
        · rfl
      · simp only [List.concat_eq_append, List.append_assoc, List.singleton_append] at h' ⊢
        by_cases hj : j = i
        · subst hj; exact .inl ⟨trivial, σ, rfl⟩
        · refine .inr ⟨t', ?_, rfl, rfl, rfl⟩
          rw [← h']
          refine (get_node hA htp ?_ σ).symm
          rw [getD_set, if_neg (fun h => hj h.1.symm)]
    · exact .inr h2
  · cases h
def Less (cs' cs : List AV) : Prop := cs'.length = cs.length ∧ ∀ j, (cs'.getD j .unk).node = none ∨ (cs'.getD j .unk).node = (cs.getD j .unk).node
theorem put_less {H : Heap} {r : Nat} {π : List Nat} {t : Root} {cs : List AV} (h : H.get r π = some t) (hl : Less cs t.cs) (r' : Nat) (π' : List Nat) (t' : Root) (h' : (H.put r π cs).get r' π' = some t') :
 (r' = r ∧ π' = π ∧ t' = ⟨t.e, cs⟩) ∨ (¬ (r' = r ∧ π' = π) ∧ ∃ t0, H.get r' π' = some t0 ∧ t'.e = t0.e ∧ t'.cs.length = t0.cs.length ∧ refer r' π' 0 t'.cs = refer r' π' 0 t0.cs) := by
 by_cases hsame : r' = r ∧ π' = π
 · obtain ⟨rfl, rfl⟩ := hsame
   rw [put_get h] at h'
   cases h'
   exact .inl ⟨rfl, rfl, rfl⟩
 · refine .inr ⟨hsame, ?_⟩
   rcases put_other h r' π' t' h' with ⟨rfl, σ, rfl⟩ | h2
   · rcases List.eq_nil_or_concat σ with rfl | ⟨σ, j, rfl⟩
     · exact absurd ⟨rfl, rfl⟩ hsame
     · simp only [List.append_assoc, List.singleton_append, List.concat_eq_append] at h' ⊢
       rcases hl.2 j with hj | hj
       · have hd : (H.put r' π cs).get r' (j :: π) = none := by simp only [Heap.get, put_get h]; exact hj
         rw [get_dead hd σ] at h'
         cases h'
       · exact ⟨t', by rw [← h']; exact (get_node (put_get h) h hj σ).symm, rfl, rfl, rfl⟩
   · exact h2
theorem put_some {H : Heap} {r : Nat} {π : List Nat} {t : Root} {cs : List AV} (h : H.get r π = some t) (hl : Less cs t.cs) {r' : Nat} {π' : List Nat} (h' : ((H.put r π cs).get r' π').isSome = true) : (H.get r' π').isSome = true := by
 obtain ⟨t', ht'⟩ := Option.isSome_iff_exists.1 h'
 rcases put_less h hl r' π' t' ht' with ⟨rfl, rfl, _⟩ | ⟨_, t0, h0, _⟩
 · simp [h]
 · simp [h0]
section
variable {Φ Φ' : Fz} {n n' : Nat} {β β' : Spots} {H : Heap} {w w' : World}
theorem NodeIs.keep {r : Nat} {π : List Nat} {t : Root} (h : NodeIs Φ n β w r π t) (hr : r < n) (hΦ : Φ.le Φ') (hn : n ≤ n') (hb : ∀ i, i < n → β' i = β i) (h0 : (β r π).ex = true → Φ' (β r π).b = none)
 (hk : (β r π).ex = true → w'.heap[(β r π).b]? = w.heap[(β r π).b]?) : NodeIs Φ' n' β' w' r π t := by
 unfold NodeIs at *
 rw [hb r hr]
 refine h.imp id fun ⟨h1, h2, cur, h3, h4, h5, h6⟩ => ⟨h1, h0 h1, cur, by rw [hk h1]; exact h3, h4, h5, h6.more hΦ hn hb⟩
theorem RH.kept (h : RH Φ n β H w) (hΦ : Φ.le Φ') (hn : n ≤ n') (hb : ∀ i, i < n → β' i = β i) (h0 : ∀ r π t, H.get r π = some t → (β r π).ex = true → Φ' (β r π).b = none)
 (hk : ∀ r π t, H.get r π = some t → (β r π).ex = true → w'.heap[(β r π).b]? = w.heap[(β r π).b]?) : RH Φ' n' β' H w' := by
 refine ⟨fun r π t hr => ?_, fun r π r' π' hr hr' hx hx' he => ?_⟩
 · obtain ⟨h1, h2⟩ := h.root r π t hr
   exact ⟨by omega, h2.keep h1 hΦ hn hb (h0 r π t hr) (hk r π t hr)⟩
 · obtain ⟨t, ht⟩ := Option.isSome_iff_exists.1 hr
   obtain ⟨t', ht'⟩ := Option.isSome_iff_exists.1 hr'
   rw [hb r (h.root r π t ht).1] at he hx
   rw [hb r' (h.root r' π' t' ht').1] at he hx'
   exact h.apart r π r' π' hr hr' hx hx' he
theorem RH.lt (h : RH Φ n β H w) {r : Nat} {π : List Nat} {t : Root} (hr : H.get r π = some t) (hx : (β r π).ex = true) : (β r π).b < w.heap.size := by
 obtain ⟨_, h2⟩ := h.root r π t hr
 rcases h2 with ⟨h3, _⟩ | ⟨_, _, cur, h3, _⟩
 · rw [hx] at h3; cases h3
 · exact (Array.getElem?_eq_some_iff.1 h3).1
theorem RH.own (h : RH Φ n β H w) {r : Nat} {π : List Nat} {t : Root} (hr : H.get r π = some t) (hx : (β r π).ex = true) : Φ (β r π).b = none ∧ ∃ cur, w.heap[(β r π).b]? = some (.cells cur t.e (0, 0)) ∧ cur.size = (β r π).tot ∧ t.cs.length ≤ cur.size ∧ RVs Φ n β (refer r π 0 t.cs) (cur.toList.take t.cs.length) := by
 rcases (h.root r π t hr).2 with ⟨h3, _⟩ | ⟨_, h3⟩
 · rw [hx] at h3; cases h3
 · exact h3
theorem RH.full (h : RH Φ n β H w) {r : Nat} {π : List Nat} {t : Root} (hr : H.get r π = some t) (hc : 0 < t.cs.length) : (β r π).ex = true := by
 rcases (h.root r π t hr).2 with ⟨_, h4⟩ | ⟨h3, _⟩
 · rw [h4] at hc; simp at hc
 · exact h3
theorem Keep.lt (h : Keep Φ w) {b : Nat} {x : Bool × Obj} (hb : Φ b = some x) : b < w.heap.size := (Array.getElem?_eq_some_iff.1 (h b x hb)).1
theorem Keep.new (h : Keep Φ w) : Φ w.heap.size = none := by
 cases e : Φ w.heap.size with
 | none => rfl
 | some x => have := h.lt e; omega
theorem Keep.alloc (h : Keep Φ w) (o : Obj) : Keep Φ { w with heap := w.heap.push o } := fun b x hb => by
 have hlt := h.lt hb
 rw [show ({ w with heap := w.heap.push o } : World).heap[b]? = w.heap[b]? from Below.heap_alloc w o b hlt]
 exact h b x hb
theorem Keep.setCell (h : Keep Φ w) {a : Addr} (ha : Φ a.block = none) (u : Value) : Keep Φ (w.setCell a u) := fun b x hb => by
 rw [Below.heap_setCell w a u b (fun e => by subst e; rw [ha] at hb; cases hb)]
 exact h b x hb
theorem RH.alloc (h : RH Φ n β H w) (hw : Keep Φ w) {e : TypeId} {cs : List AV} {cur : Array Value} (hc : cs.length ≤ cur.size) (hv : RVs Φ n β cs (cur.toList.take cs.length)) :
 RH Φ (n + 1) (fun i => if i = n then fun _ => ⟨true, w.heap.size, cur.size⟩ else β i) ((n, some ⟨e, cs⟩) :: H) { w with heap := w.heap.push (.cells cur e (0, 0)) } := by
 have hb : ∀ i, i < n → (fun i => if i = n then fun _ => (⟨true, w.heap.size, cur.size⟩ : Spot) else β i) i = β i := fun i hi => by simp [show i ≠ n by omega]
 have hk := h.kept (n' := n + 1) (w' := { w with heap := w.heap.push (.cells cur e (0, 0)) }) (Fz.le_refl Φ) (Nat.le_succ _) hb (fun r π t hr hx => (h.own hr hx).1) (fun r π t hr hx => Below.heap_alloc w _ _ (h.lt hr hx))
 have hno := noOwn_rvs hv
 have hnew : ∀ π t, Heap.get ((n, some ⟨e, cs⟩) :: H) n π = some t → π = [] ∧ t = ⟨e, cs⟩ := by
  intro π t ht
  rcases List.eq_nil_or_concat π with rfl | ⟨σ, j, rfl⟩
  · simp only [Heap.get, Heap.get1, if_true, Option.some.injEq] at ht
    exact ⟨rfl, ht.symm⟩
  · have hd : Heap.get ((n, some ⟨e, cs⟩) :: H) n [j] = none := by
     have hnj := noOwn_get hno j
     simp only [Heap.get, Heap.get1, if_true]; exact hnj
    rw [List.concat_eq_append, get_dead hd σ] at ht
    cases ht
 refine ⟨fun r π t hr => ?_, fun r π r' π' hr hr' hx hx' he => ?_⟩
 · by_cases e1 : n = r
   · subst e1
     obtain ⟨rfl, rfl⟩ := hnew π t hr
     refine ⟨Nat.lt_succ_self _, .inr ⟨by simp, by simpa using hw.new, cur, by simp, by simp, hc, ?_⟩⟩
     rw [refer_no hno]
     exact hv.more (Fz.le_refl Φ) (Nat.le_succ _) hb
   · rw [get_cons_ne e1] at hr
     exact hk.root r π t hr
 · obtain ⟨t, ht⟩ := Option.isSome_iff_exists.1 hr
   obtain ⟨t', ht'⟩ := Option.isSome_iff_exists.1 hr'
   by_cases e1 : n = r <;> by_cases e2 : n = r'
   · subst e1; subst e2
     obtain ⟨rfl, _⟩ := hnew π t ht
     obtain ⟨rfl, _⟩ := hnew π' t' ht'
     exact ⟨rfl, rfl⟩
   · rw [get_cons_ne e2] at ht'
     have h1 := (h.root _ _ _ ht').1
     subst e1
     have hx2 : (β r' π').ex = true := by simpa [show r' ≠ n by omega] using hx'
     have := h.lt ht' hx2
     simp [show r' ≠ n by omega] at he
     omega
   · rw [get_cons_ne e1] at ht
     have h1 := (h.root _ _ _ ht).1
     subst e2
     have hx2 : (β r π).ex = true := by simpa [show r ≠ n by omega] using hx
     have := h.lt ht hx2
     simp [show r ≠ n by omega] at he
     omega
   · rw [get_cons_ne e1] at hr
     rw [get_cons_ne e2] at hr'
     exact hk.apart r π r' π' hr hr' hx hx' he
theorem RH.putCells (h : RH Φ n β H w) {r : Nat} {π : List Nat} {t : Root} (hr : H.get r π = some t) (hx : (β r π).ex = true) {cs : List AV} (hl : Less cs t.cs) {cur : Array Value}
 (hcur : w'.heap[(β r π).b]? = some (.cells cur t.e (0, 0))) (hs : cur.size = (β r π).tot) (hcs : RVs Φ n β (refer r π 0 cs) (cur.toList.take cs.length))
 (hk : ∀ b, b ≠ (β r π).b → w'.heap[b]? = w.heap[b]?) : RH Φ n β (H.put r π cs) w' := by
 refine ⟨fun r' π' t' h' => ?_, fun r1 π1 r2 π2 h1 h2 hx1 hx2 he => h.apart r1 π1 r2 π2 (put_some hr hl h1) (put_some hr hl h2) hx1 hx2 he⟩
 rcases put_less hr hl r' π' t' h' with ⟨rfl, rfl, rfl⟩ | ⟨hne, t0, h0, e1, e2, e3⟩
 · obtain ⟨g1, cur0, g2, g3, g4, g5⟩ := h.own hr hx
   refine ⟨(h.root _ _ _ hr).1, .inr ⟨hx, g1, cur, hcur, hs, ?_, hcs⟩⟩
   have := hcs.length
   simp only [List.length_take, Array.length_toList, refer_length] at this
   show cs.length ≤ cur.size
   omega
 · obtain ⟨g1, g2⟩ := h.root r' π' t0 h0
   refine ⟨g1, g2.imp (fun ⟨k1, k2⟩ => ⟨k1, List.length_eq_zero_iff.1 (by rw [e2, k2]; rfl)⟩) fun ⟨k1, k2, cur', k3, k4, k5, k6⟩ => ⟨k1, k2, cur', ?_, k4, by omega, by rw [e3, e2]; exact k6⟩⟩
   rw [hk _ fun e => hne (h.apart r' π' r π (by simp [h0]) (by simp [hr]) k1 hx e), e1]
   exact k3
theorem less_set {cs : List AV} {o : Nat} {x : AV} (h : x.node = none) : Less (cs.set o x) cs := by
 refine ⟨by simp, fun j => ?_⟩
 rw [getD_set]
 split
 · exact .inl h
 · exact .inr rfl
theorem refer_set {r : Nat} {π : List Nat} {cs : List AV} {o : Nat} {x : AV} (h : x.node = none) : refer r π 0 (cs.set o x) = (refer r π 0 cs).set o x := by
 refine ext_getD (by simp [refer_length]) fun i hi => ?_
 rw [refer_getD, getD_set, getD_set, refer_getD, refer_length]
 split
 · exact at_of_no h
 · rfl
theorem RH.setCell (h : RH Φ n β H w) {r : Nat} {π : List Nat} {t : Root} (hr : H.get r π = some t) {o : Nat} (ho : o < t.cs.length)
 {x : AV} {v : Value} (hx : RV Φ n β x v) (h1 : v.oneCell' = true) : RH Φ n β (H.put r π (t.cs.set o x)) (w.setCell ⟨(β r π).b, o, none⟩ v) := by
 have hex := h.full hr (by omega)
 obtain ⟨g1, cur, g2, g3, g4, g5⟩ := h.own hr hex
 refine h.putCells hr hex (less_set (node_rv hx)) (cur := cur.setIfInBounds o v) ?_ (by simpa using g3) ?_ fun b hb => Below.heap_setCell _ _ _ _ hb
 · simp only [World.setCell, Array.getElem?_modify, if_true, g2]; rfl
 · rw [refer_set (node_rv hx)]
   have := g5.set o hx h1
   simpa [List.take_set] using this
end
end Go.Proofs.Ytmjphjphgjmojaa
