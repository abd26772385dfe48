/- Regions of the abstract machine, and functions' bodies. No program is named here. -/
import Derived.Test.YtholbkojdcdokabG
namespace Go.Proofs.Ytholbkojdcdokab
open Go.RowKit

/-- Values without places. -/
def AV.flat : AV → Bool
  | .bool _ | .int _ _ => true
  | _ => false

mutual
/-- A value that names no place of own memory. -/
def AV.clean : AV → Bool
  | .nil | .bool _ | .int _ _ | .und => true
  | .bor _ cs => cleans cs
  | .bptr cs _ => cleans cs
  | .agg vs => cleans vs
  | .tup vs => cleans vs
  | _ => false
def cleans : List AV → Bool
  | [] => true
  | v :: vs => v.clean && cleans vs
end

mutual
/-- What a value reads as to a callee that only reads: own memory is handed on as memory to be read. -/
inductive Clo (H : Heap) : AV → AV → Prop
  | nil : Clo H .nil .nil
  | bool (b) : Clo H (.bool b) (.bool b)
  | int (k z) : Clo H (.int k z) (.int k z)
  | bor (m cs) : cleans cs = true → Clo H (.bor m cs) (.bor m cs)
  | sref (r o m sz t cs) : H.get r = some t → o + m * sz ≤ t.cs.length → Clos H ((t.cs.drop o).take (m * sz)) cs → Clo H (.sref r o m sz) (.bor m cs)
  | agg (vs us) : Clos H vs us → Clo H (.agg vs) (.agg us)
inductive Clos (H : Heap) : List AV → List AV → Prop
  | nil : Clos H [] []
  | cons (v u vs us) : Clo H v u → Clos H vs us → Clos H (v :: vs) (u :: us)
end

/-- A function, called on these values (which it only reads), hands back r, fresh memory Hr with it; all that was there is as it was. -/
def Pur (P : Program) (f : FuncId) (args : List AV) (r : AV) (Hr : Heap) (m : Nat) : Prop :=
  ∀ (w : World) (β : Nat → Spot) (vs : List Value), RVt w 0 β args vs →
    Calls P f vs.toArray w fun e w' => ∃ v β', e = .returned v ∧ RV w m β' r v ∧ RH w m β' Hr w' ∧ Below w.heap.size w w'

section
variable {w0 w1 : World} {n n' : Nat} {β β' : Nat → Spot} {H : Heap} {w : World}

mutual
theorem RV.clean (hb : Below w0.heap.size w0 w) : ∀ {x : AV} {v : Value}, x.clean = true → RV w0 n β x v → RV w n' β' x v
  | .unk, _, h, _ => by simp [AV.clean] at h
  | .und, _, _, h => by simpa only [RV] using h
  | .nil, _, _, h => by simpa only [RV] using h
  | .bool _, _, _, h => by simpa only [RV] using h
  | .int _ _, _, _, h => by simpa only [RV] using h
  | .ptr _ _, _, h, _ => by simp [AV.clean] at h
  | .sref _ _ _ _, _, h, _ => by simp [AV.clean] at h
  | .bor m cs, _, hc, h => by
    simp only [AV.clean] at hc
    simp only [RV] at h ⊢
    obtain ⟨s, cap, vs, h1, h2, h3, h4, h5⟩ := h
    exact ⟨s, cap, vs, h1, h2, h3, h4.below hb, RVs.clean hb hc h5⟩
  | .bptr cs o, _, hc, h => by
    simp only [AV.clean] at hc
    simp only [RV] at h ⊢
    obtain ⟨s, p, vs, h1, h2, h3, h4⟩ := h
    exact ⟨s, p, vs, h1, h2.below hb, RVs.clean hb hc h3, h4⟩
  | .agg vs, _, hc, h => by
    simp only [AV.clean] at hc
    simp only [RV] at h ⊢
    obtain ⟨arr, h1, h2⟩ := h
    exact ⟨arr, h1, RVs.clean hb hc h2⟩
  | .tup vs, _, hc, h => by
    simp only [AV.clean] at hc
    simp only [RV] at h ⊢
    obtain ⟨arr, h1, h2⟩ := h
    exact ⟨arr, h1, RVt.clean hb hc h2⟩
theorem RVs.clean (hb : Below w0.heap.size w0 w) : ∀ {xs : List AV} {vs : List Value}, cleans xs = true → RVs w0 n β xs vs → RVs w n' β' xs vs
  | [], _, _, h => by simpa only [RVs] using h
  | _ :: _, _, hc, h => by
    simp only [cleans, Bool.and_eq_true] at hc
    simp only [RVs] at h ⊢
    obtain ⟨v, vs', e, o, h1, h2⟩ := h
    exact ⟨v, vs', e, o, RV.clean hb hc.1 h1, RVs.clean hb hc.2 h2⟩
theorem RVt.clean (hb : Below w0.heap.size w0 w) : ∀ {xs : List AV} {vs : List Value}, cleans xs = true → RVt w0 n β xs vs → RVt w n' β' xs vs
  | [], _, _, h => by simpa only [RVt] using h
  | _ :: _, _, hc, h => by
    simp only [cleans, Bool.and_eq_true] at hc
    simp only [RVt] at h ⊢
    obtain ⟨v, vs', e, h1, h2⟩ := h
    exact ⟨v, vs', e, RV.clean hb hc.1 h1, RVt.clean hb hc.2 h2⟩
end

theorem row_own {r : Nat} {t : Root} (hH : RH w0 n β H w) (hr : H.get r = some t) {o m : Nat} (hl : o + m ≤ t.cs.length) :
    ∃ vs, RowOf w (some ⟨(β r).b, o, none⟩) vs ∧ RVs w0 n β ((t.cs.drop o).take m) vs := by
  obtain ⟨h1, h2, cur, h3, h4, h5, h6⟩ := hH.root r t hr
  refine ⟨((cur.toList.take t.cs.length).drop o).take m, .inr ⟨_, _, rfl, (Array.getElem?_eq_some_iff.1 h3).1, fun i hi => ?_⟩, (h6.drop o).take m⟩
  simp only [List.length_take, List.length_drop, Array.length_toList] at hi
  have e : (((cur.toList.take t.cs.length).drop o).take m).getD i undef = cur[o + i]'(by omega) := by
    simp [List.getD, List.getElem?_take, List.getElem?_drop, show i < m by omega, show o + i < t.cs.length by omega, show o + i < cur.size by omega]
  rw [e]
  simp [World.cell?, h3, show o + i < cur.size by omega]

mutual
theorem Clo.sound (hH : RH w0 n β H w) (hb : Below w0.heap.size w0 w) : ∀ {x y : AV} {v : Value}, Clo H x y → RV w0 n β x v → RV w n' β' y v
  | _, _, _, .nil, h => by simpa only [RV] using h
  | _, _, _, .bool _, h => by simpa only [RV] using h
  | _, _, _, .int _ _, h => by simpa only [RV] using h
  | _, _, _, .bor m cs hc, h => RV.clean hb (by simpa [AV.clean] using hc) h
  | _, _, _, .sref r o m sz t cs hr hl hc, h => by
    simp only [RV] at h ⊢
    obtain ⟨s, cap, h1, h2, h3, h4⟩ := h
    obtain ⟨vs, g1, g2⟩ := row_own hH hr hl
    have g3 := Clos.sound hH hb hc g2
    rcases h4 with ⟨rfl, rfl⟩ | ⟨h4, rfl, h5⟩
    · have e : cs = [] := by
        have := g2.length
        have h6 := g3.length
        simp at this
        subst this
        exact List.length_eq_zero_iff.1 (by simpa using h6.symm)
      subst e
      exact ⟨s, 0, [], h1, h2, h3, .inl rfl, by simp [RVs]⟩
    · exact ⟨_, cap, vs, h1, h2, h3, g1, g3⟩
  | _, _, _, .agg vs us hc, h => by
    simp only [RV] at h ⊢
    obtain ⟨arr, h1, h2⟩ := h
    exact ⟨arr, h1, Clos.sound hH hb hc h2⟩
theorem Clos.sound (hH : RH w0 n β H w) (hb : Below w0.heap.size w0 w) : ∀ {xs ys : List AV} {vs : List Value}, Clos H xs ys → RVs w0 n β xs vs → RVs w n' β' ys vs
  | _, _, _, .nil, h => by simpa only [RVs] using h
  | _, _, _, .cons v u vs us h1 h2, h => by
    simp only [RVs] at h ⊢
    obtain ⟨v', vs', e, o, g1, g2⟩ := h
    exact ⟨v', vs', e, o, Clo.sound hH hb h1 g1, Clos.sound hH hb h2 g2⟩
end

/-- The same for a list of arguments. -/
def Cloz (H : Heap) : List AV → List AV → Prop
  | [], ys => ys = []
  | x :: xs, ys => ∃ y ys', ys = y :: ys' ∧ Clo H x y ∧ Cloz H xs ys'

theorem Cloz.sound (hH : RH w0 n β H w) (hb : Below w0.heap.size w0 w) : ∀ {xs ys : List AV} {vs : List Value}, Cloz H xs ys → RVt w0 n β xs vs → RVt w n' β' ys vs
  | [], ys, vs, h, k => by simp only [Cloz] at h; subst h; simpa only [RVt] using k
  | x :: xs, ys, vs, h, k => by
    simp only [Cloz] at h
    obtain ⟨y, ys', rfl, h1, h2⟩ := h
    simp only [RVt] at k ⊢
    obtain ⟨v, vs', e, k1, k2⟩ := k
    exact ⟨v, vs', e, h1.sound hH hb k1, h2.sound hH hb k2⟩
end

/-! ### The ids of fresh memory, moved behind the caller's -/
mutual
def AV.up (d : Nat) : AV → AV
  | .ptr r o => .ptr (r + d) o
  | .sref r o m sz => .sref (r + d) o m sz
  | .bor m cs => .bor m (ups d cs)
  | .bptr cs o => .bptr (ups d cs) o
  | .agg vs => .agg (ups d vs)
  | .tup vs => .tup (ups d vs)
  | .unk => .unk
  | .und => .und
  | .nil => .nil
  | .bool b => .bool b
  | .int k z => .int k z
def ups (d : Nat) : List AV → List AV
  | [] => []
  | v :: vs => v.up d :: ups d vs
end
end Go.Proofs.Ytholbkojdcdokab
