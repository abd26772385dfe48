/- Calls in the machine with trees: what a callee that only reads is handed, and what it hands back. No program is named here. -/
import Derived.Test.YtmjphjphgjmojaaZG
namespace Go.Proofs.Ytmjphjphgjmojaa
set_option linter.all false
open Go.RowKit
mutual
def AV.clean : AV → Bool
 | .nil | .emp | .bool _ | .int _ _ | .und => true
 | .bor _ cs => cleans cs
 | .bptr cs _ => cleans cs
 | .agg vs => cleans vs
 | .tup vs => cleans vs
 | _ => false
def cleans : List AV → Bool
 | [] => true
 | v :: vs => v.clean && cleans vs
end
mutual
def AV.noRef : AV → Bool
 | .nil | .emp | .bool _ | .int _ _ | .und => true
 | .bor _ cs => noRefs cs
 | .own _ _ _ cs => noRefs cs
 | .agg vs => noRefs vs
 | .tup vs => noRefs vs
 | _ => false
def noRefs : List AV → Bool
 | [] => true
 | v :: vs => v.noRef && noRefs vs
end
mutual
def AV.noBor : AV → Bool
 | .nil | .emp | .bool _ | .int _ _ | .und => true
 | .sref _ _ _ _ _ => true
 | .ptr _ _ _ => true
 | .own _ _ _ cs => noBors cs
 | .agg vs => noBors vs
 | .tup vs => noBors vs
 | _ => false
def noBors : List AV → Bool
 | [] => true
 | v :: vs => v.noBor && noBors vs
end
mutual
inductive Clo (H : Heap) : AV → AV → Prop
 | nil : Clo H .nil .nil
 | nil0 : Clo H .nil (.bor 0 [])
 | emp0 : Clo H .emp (.bor 0 [])
 | bool (b) : Clo H (.bool b) (.bool b)
 | int (k z) : Clo H (.int k z) (.int k z)
 | bor (m m' cs cs') : m = m' → Clos H cs cs' → Clo H (.bor m cs) (.bor m' cs')
 | clean (x) : x.clean = true → Clo H x x
 | sref (r π o m m' sz t cs) : H.get r π = some t → o + m * sz ≤ t.cs.length → m = m' → Clos H (((refer r π 0 t.cs).drop o).take (m * sz)) cs → Clo H (.sref r π o m sz) (.bor m' cs)
 | agg (vs us) : Clos H vs us → Clo H (.agg vs) (.agg us)
inductive Clos (H : Heap) : List AV → List AV → Prop
 | nil : Clos H [] []
 | cons (v u vs us) : Clo H v u → Clos H vs us → Clos H (v :: vs) (u :: us)
end
def Cloz (H : Heap) : List AV → List AV → Prop
 | [], ys => ys = []
 | x :: xs, ys => ∃ y ys', ys = y :: ys' ∧ Clo H x y ∧ Cloz H xs ys'
section
variable {Φ Φ' : Fz} {n n' : Nat} {β β' : Spots} {H : Heap} {w : World}
mutual
theorem RV.clean (hΦ : Φ.tle Φ') : ∀ {x : AV} {v : Value}, x.clean = true → RV Φ n β x v → RV Φ' n' β' x v
 | .unk, _, h, _ => by simp [AV.clean] at h
 | .und, _, _, h => by simpa only [RV] using h
 | .nil, _, _, h => by simpa only [RV] using h
 | .emp, _, _, h => by simpa only [RV] using h
 | .bool _, _, _, h => by simpa only [RV] using h
 | .int _ _, _, _, h => by simpa only [RV] using h
 | .ptr _ _ _, _, h, _ => by simp [AV.clean] at h
 | .sref _ _ _ _ _, _, h, _ => by simp [AV.clean] at h
 | .own _ _ _ _, _, h, _ => by simp [AV.clean] at h
 | .bor m cs, _, hc, h => by
  simp only [AV.clean] at hc
  simp only [RV] at h ⊢
  obtain ⟨s, cap, vs, h1, h2, h3, h4, h5⟩ := h
  exact ⟨s, cap, vs, h1, h2, h3, h4.le hΦ, RVs.clean hΦ hc h5⟩
 | .bptr cs o, _, hc, h => by
  simp only [AV.clean] at hc
  simp only [RV] at h ⊢
  obtain ⟨s, p, vs, h1, h2, h3, h4⟩ := h
  exact ⟨s, p, vs, h1, h2.le hΦ, RVs.clean hΦ hc h3, h4⟩
 | .agg vs, _, hc, h => by
  simp only [AV.clean] at hc
  simp only [RV] at h ⊢
  obtain ⟨arr, h1, h2⟩ := h
  exact ⟨arr, h1, RVs.clean hΦ hc h2⟩
 | .tup vs, _, hc, h => by
  simp only [AV.clean] at hc
  simp only [RV] at h ⊢
  obtain ⟨arr, h1, h2⟩ := h
  exact ⟨arr, h1, RVt.clean hΦ hc h2⟩
theorem RVs.clean (hΦ : Φ.tle Φ') : ∀ {xs : List AV} {vs : List Value}, cleans xs = true → RVs Φ n β xs vs → RVs Φ' n' β' xs vs
 | [], _, _, h => by simpa only [RVs] using h
 | _ :: _, _, hc, h => by
  simp only [cleans, Bool.and_eq_true] at hc
  simp only [RVs] at h ⊢
  obtain ⟨v, vs', e, o, h1, h2⟩ := h
  exact ⟨v, vs', e, o, RV.clean hΦ hc.1 h1, RVs.clean hΦ hc.2 h2⟩
theorem RVt.clean (hΦ : Φ.tle Φ') : ∀ {xs : List AV} {vs : List Value}, cleans xs = true → RVt Φ n β xs vs → RVt Φ' n' β' xs vs
 | [], _, _, h => by simpa only [RVt] using h
 | _ :: _, _, hc, h => by
  simp only [cleans, Bool.and_eq_true] at hc
  simp only [RVt] at h ⊢
  obtain ⟨v, vs', e, h1, h2⟩ := h
  exact ⟨v, vs', e, RV.clean hΦ hc.1 h1, RVt.clean hΦ hc.2 h2⟩
end
def Fz.all (Φ : Fz) (w : World) (f : Bool) : Fz := fun b => match Φ b with
 | some x => some x
 | none => (w.heap[b]?).map fun o => (f, o)
theorem Fz.le_all {f : Bool} : Φ.le (Φ.all w f) := fun b x h => by simp [Fz.all, h]
theorem Keep.all {f : Bool} (h : Keep Φ w) : Keep (Φ.all w f) w := fun b x hb => by
 unfold Fz.all at hb
 split at hb
 · rename_i y hy; cases hb; exact h b _ hy
 · obtain ⟨o, ho, rfl⟩ := Option.map_eq_some_iff.1 hb
   exact ho
theorem row_all {r : Nat} {π : List Nat} {t : Root} (hH : RH Φ n β H w) (hr : H.get r π = some t) (hx : (β r π).ex = true) {o m : Nat} (hl : o + m ≤ t.cs.length) :
 ∃ vs, RowOf (Φ.all w true) (some ⟨(β r π).b, o, none⟩) vs ∧ RVs Φ n β (((refer r π 0 t.cs).drop o).take m) vs := by
 obtain ⟨h2, cur, h3, h4, h5, h6⟩ := hH.own hr hx
 refine ⟨((cur.toList.take t.cs.length).drop o).take m, .inr ⟨_, _, cur, t.e, (0, 0), rfl, by simp [Fz.all, h2, h3], fun i hi => ?_⟩, (h6.drop o).take m⟩
 simp only [List.length_take, List.length_drop, Array.length_toList] at hi
 have e : (((cur.toList.take t.cs.length).drop o).take m).getD i undef = cur[o + i]'(by omega) := by
  simp [List.getD, List.getElem?_take, List.getElem?_drop, show i < m by omega, show o + i < t.cs.length by omega, show o + i < cur.size by omega]
 rw [e]
 simp [show o + i < cur.size by omega]
mutual
theorem Clo.sound (hH : RH Φ n β H w) : ∀ {x y : AV} {v : Value}, Clo H x y → RV Φ n β x v → RV (Φ.all w true) n' β' y v
 | _, _, _, .nil, h => by simpa only [RV] using h
 | _, _, _, .nil0, h => by
  simp only [RV] at h ⊢
  exact ⟨none, 0, [], h, Nat.le_refl _, Nat.zero_le _, .inl rfl, by simp [RVs]⟩
 | _, _, _, .emp0, h => by
  simp only [RV] at h ⊢
  obtain ⟨s, rfl⟩ := h
  exact ⟨s, 0, [], rfl, Nat.le_refl _, Nat.zero_le _, .inl rfl, by simp [RVs]⟩
 | _, _, _, .bool _, h => by simpa only [RV] using h
 | _, _, _, .int _ _, h => by simpa only [RV] using h
 | _, _, _, .bor m m' cs cs' hm hc, h => by
  subst hm
  simp only [RV] at h ⊢
  obtain ⟨s, cap, vs, h1, h2, h3, h4, h5⟩ := h
  exact ⟨s, cap, vs, h1, h2, h3, h4.le Fz.le_all.tle, Clos.sound hH hc h5⟩
 | _, _, _, .clean x hc, h => RV.clean Fz.le_all.tle hc h
 | _, _, _, .sref r π o m m' sz t cs hr hl hm hc, h => by
  subst hm
  simp only [RV] at h ⊢
  obtain ⟨hrn, s, cap, h1, h2, h3, h4⟩ := h
  rcases h4 with ⟨rfl, rfl, _⟩ | ⟨h4, rfl, h5⟩
  · have e : cs = [] := by
     rw [Nat.zero_mul, List.take_zero] at hc
     cases hc; rfl
    subst e
    exact ⟨s, 0, [], h1, h2, h3, .inl rfl, by simp [RVs]⟩
  · obtain ⟨vs, g1, g2⟩ := row_all hH hr h4 hl
    exact ⟨_, cap, vs, h1, h2, h3, g1, Clos.sound hH hc g2⟩
 | _, _, _, .agg vs us hc, h => by
  simp only [RV] at h ⊢
  obtain ⟨arr, h1, h2⟩ := h
  exact ⟨arr, h1, Clos.sound hH hc h2⟩
theorem Clos.sound (hH : RH Φ n β H w) : ∀ {xs ys : List AV} {vs : List Value}, Clos H xs ys → RVs Φ n β xs vs → RVs (Φ.all w true) n' β' ys vs
 | _, _, _, .nil, h => by simpa only [RVs] using h
 | _, _, _, .cons v u vs us h1 h2, h => by
  simp only [RVs] at h ⊢
  obtain ⟨v', vs', e, o, g1, g2⟩ := h
  exact ⟨v', vs', e, o, Clo.sound hH h1 g1, Clos.sound hH h2 g2⟩
end
theorem Cloz.sound (hH : RH Φ n β H w) : ∀ {xs ys : List AV} {vs : List Value}, Cloz H xs ys → RVt Φ n β xs vs → RVt (Φ.all w true) n' β' ys vs
 | [], ys, vs, h, k => by simp only [Cloz] at h; subst h; simpa only [RVt] using k
 | x :: xs, ys, vs, h, k => by
  simp only [Cloz] at h
  obtain ⟨y, ys', rfl, h1, h2⟩ := h
  simp only [RVt] at k ⊢
  obtain ⟨v, vs', e, k1, k2⟩ := k
  exact ⟨v, vs', e, h1.sound hH k1, h2.sound hH k2⟩
end
def name1 (n : Nat) : AV → AV × Heap × Nat
 | .own e sz m cs => (.sref n [] 0 m sz, [(n, some ⟨e, cs⟩)], n + 1)
 | x => (x, [], n)
def nameL (n : Nat) : List AV → List AV × Heap × Nat
 | [] => ([], [], n)
 | x :: xs => ((name1 n x).1 :: (nameL (name1 n x).2.2 xs).1, (nameL (name1 n x).2.2 xs).2.1 ++ (name1 n x).2.1, (nameL (name1 n x).2.2 xs).2.2)
def nameA (n : Nat) : AV → AV × Heap × Nat
 | .agg vs => (.agg (nameL n vs).1, (nameL n vs).2.1, (nameL n vs).2.2)
 | x => name1 n x
def nameT (n : Nat) : List AV → List AV × Heap × Nat
 | [] => ([], [], n)
 | x :: xs => ((nameA n x).1 :: (nameT (nameA n x).2.2 xs).1, (nameT (nameA n x).2.2 xs).2.1 ++ (nameA n x).2.1, (nameT (nameA n x).2.2 xs).2.2)
def nameV (n : Nat) : AV → AV × Heap × Nat
 | .tup vs => (.tup (nameT n vs).1, (nameT n vs).2.1, (nameT n vs).2.2)
 | x => nameA n x
def Fn (P : Program) (f : FuncId) (args : List AV) (r : AV) : Prop := Inl P f args [] 0 (nameV 0 r).1 (nameV 0 r).2.1 (nameV 0 r).2.2
mutual
def AV.up (d : Nat) : AV → AV
 | .ptr r π o => .ptr (r + d) π o
 | .sref r π o m sz => .sref (r + d) π o m sz
 | .bor m cs => .bor m (ups d cs)
 | .bptr cs o => .bptr (ups d cs) o
 | .own e sz m cs => .own e sz m (ups d cs)
 | .agg vs => .agg (ups d vs)
 | .tup vs => .tup (ups d vs)
 | .unk => .unk
 | .und => .und
 | .nil => .nil
 | .emp => .emp
 | .bool b => .bool b
 | .int k z => .int k z
def ups (d : Nat) : List AV → List AV
 | [] => []
 | v :: vs => v.up d :: ups d vs
end
mutual
theorem up_noRef {d : Nat} : ∀ {x : AV}, x.noRef = true → x.up d = x
 | .unk, _ => rfl
 | .und, _ => rfl
 | .nil, _ => rfl
 | .emp, _ => rfl
 | .bool _, _ => rfl
 | .int _ _, _ => rfl
 | .ptr _ _ _, h => by simp [AV.noRef] at h
 | .sref _ _ _ _ _, h => by simp [AV.noRef] at h
 | .bptr _ _, h => by simp [AV.noRef] at h
 | .bor m cs, h => by simp only [AV.up]; rw [ups_noRef (by simpa [AV.noRef] using h)]
 | .own _ _ m cs, h => by simp only [AV.up]; rw [ups_noRef (by simpa [AV.noRef] using h)]
 | .agg vs, h => by simp only [AV.up]; rw [ups_noRef (by simpa [AV.noRef] using h)]
 | .tup vs, h => by simp only [AV.up]; rw [ups_noRef (by simpa [AV.noRef] using h)]
theorem ups_noRef {d : Nat} : ∀ {xs : List AV}, noRefs xs = true → ups d xs = xs
 | [], _ => rfl
 | _ :: _, h => by
  simp only [noRefs, Bool.and_eq_true] at h
  simp only [ups, up_noRef h.1, ups_noRef h.2]
end
def upHeap (d : Nat) : Heap → Heap
 | [] => []
 | (r, t) :: H => (r + d, t.map fun t => ⟨t.e, ups d t.cs⟩) :: upHeap d H
theorem upHeap_append {d : Nat} : ∀ {A B : Heap}, upHeap d (A ++ B) = upHeap d A ++ upHeap d B
 | [], _ => rfl
 | (r, t) :: A, B => by simp only [List.cons_append, upHeap, upHeap_append (A := A)]
theorem name1_up {d n : Nat} {x : AV} (h : x.noRef = true) : ((name1 n x).1.up d = (name1 (n + d) x).1) ∧ upHeap d (name1 n x).2.1 = (name1 (n + d) x).2.1 ∧ (name1 n x).2.2 + d = (name1 (n + d) x).2.2 := by
 cases x
 case own e sz m cs =>
  have : ups d cs = cs := ups_noRef (by simpa [AV.noRef] using h)
  simp only [name1, AV.up, upHeap, Option.map_some, this]
  exact ⟨trivial, trivial, by omega⟩
 all_goals exact ⟨up_noRef h, rfl, rfl⟩
theorem nameL_up {d : Nat} : ∀ {n : Nat} {xs : List AV}, noRefs xs = true → ups d (nameL n xs).1 = (nameL (n + d) xs).1 ∧ upHeap d (nameL n xs).2.1 = (nameL (n + d) xs).2.1 ∧ (nameL n xs).2.2 + d = (nameL (n + d) xs).2.2
 | _, [], _ => ⟨rfl, rfl, rfl⟩
 | n, x :: xs, h => by
  simp only [noRefs, Bool.and_eq_true] at h
  obtain ⟨a1, a2, a3⟩ := name1_up (d := d) (n := n) h.1
  obtain ⟨b1, b2, b3⟩ := nameL_up (d := d) (n := (name1 n x).2.2) h.2
  simp only [nameL, ups, upHeap_append, a1, a2, b1, b2, b3, a3, and_self]
theorem nameA_up {d n : Nat} {x : AV} (h : x.noRef = true) : ((nameA n x).1.up d = (nameA (n + d) x).1) ∧ upHeap d (nameA n x).2.1 = (nameA (n + d) x).2.1 ∧ (nameA n x).2.2 + d = (nameA (n + d) x).2.2 := by
 cases x
 case agg vs =>
  obtain ⟨b1, b2, b3⟩ := nameL_up (d := d) (n := n) (xs := vs) (by simpa [AV.noRef] using h)
  simp only [nameA, AV.up, b1, b2, b3, and_self]
 all_goals exact name1_up h
theorem nameT_up {d : Nat} : ∀ {n : Nat} {xs : List AV}, noRefs xs = true → ups d (nameT n xs).1 = (nameT (n + d) xs).1 ∧ upHeap d (nameT n xs).2.1 = (nameT (n + d) xs).2.1 ∧ (nameT n xs).2.2 + d = (nameT (n + d) xs).2.2
 | _, [], _ => ⟨rfl, rfl, rfl⟩
 | n, x :: xs, h => by
  simp only [noRefs, Bool.and_eq_true] at h
  obtain ⟨a1, a2, a3⟩ := nameA_up (d := d) (n := n) h.1
  obtain ⟨b1, b2, b3⟩ := nameT_up (d := d) (n := (nameA n x).2.2) h.2
  simp only [nameT, ups, upHeap_append, a1, a2, b1, b2, b3, a3, and_self]
theorem nameV_up {d n : Nat} {x : AV} (h : x.noRef = true) : ((nameV n x).1.up d = (nameV (n + d) x).1) ∧ upHeap d (nameV n x).2.1 = (nameV (n + d) x).2.1 ∧ (nameV n x).2.2 + d = (nameV (n + d) x).2.2 := by
 cases x
 case tup vs =>
  obtain ⟨b1, b2, b3⟩ := nameT_up (d := d) (n := n) (xs := vs) (by simpa [AV.noRef] using h)
  simp only [nameV, AV.up, b1, b2, b3, and_self]
 all_goals exact nameA_up h
section
variable {Φ Φ' : Fz} {n m : Nat} {β β' : Spots} {H : Heap} {w : World}
mutual
theorem RV.up (hΦ : Φ.tle Φ') (hb : ∀ i, i < m → β' (i + n) = β i) : ∀ {x : AV} {v : Value}, RV Φ m β x v → RV Φ' (n + m) β' (x.up n) v
 | .unk, _, _ => by simp [RV, AV.up]
 | .und, _, h => by simpa only [RV, AV.up] using h
 | .nil, _, h => by simpa only [RV, AV.up] using h
 | .emp, _, h => by simpa only [RV, AV.up] using h
 | .bool _, _, h => by simpa only [RV, AV.up] using h
 | .int _ _, _, h => by simpa only [RV, AV.up] using h
 | .own _ _ _ _, _, h => by simp only [RV] at h
 | .ptr r π o, _, h => by
  simp only [RV, AV.up] at h ⊢
  rw [hb r h.1]
  exact ⟨by omega, h.2⟩
 | .sref r π o k sz, _, h => by
  simp only [RV, AV.up] at h ⊢
  rw [hb r h.1]
  exact ⟨by omega, h.2⟩
 | .bor k cs, _, h => by
  simp only [RV, AV.up] at h ⊢
  obtain ⟨s, cap, vs, h1, h2, h3, h4, h5⟩ := h
  exact ⟨s, cap, vs, h1, h2, h3, h4.le hΦ, RVs.up hΦ hb h5⟩
 | .bptr cs o, _, h => by
  simp only [RV, AV.up] at h ⊢
  obtain ⟨s, p, vs, h1, h2, h3, h4⟩ := h
  exact ⟨s, p, vs, h1, h2.le hΦ, RVs.up hΦ hb h3, h4⟩
 | .agg vs, _, h => by
  simp only [RV, AV.up] at h ⊢
  obtain ⟨arr, h1, h2⟩ := h
  exact ⟨arr, h1, RVs.up hΦ hb h2⟩
 | .tup vs, _, h => by
  simp only [RV, AV.up] at h ⊢
  obtain ⟨arr, h1, h2⟩ := h
  exact ⟨arr, h1, RVt.up hΦ hb h2⟩
theorem RVs.up (hΦ : Φ.tle Φ') (hb : ∀ i, i < m → β' (i + n) = β i) : ∀ {xs : List AV} {vs : List Value}, RVs Φ m β xs vs → RVs Φ' (n + m) β' (ups n xs) vs
 | [], _, h => by simpa only [RVs, ups] using h
 | _ :: _, _, h => by
  simp only [RVs, ups] at h ⊢
  obtain ⟨v, vs', e, o, h1, h2⟩ := h
  exact ⟨v, vs', e, o, RV.up hΦ hb h1, RVs.up hΦ hb h2⟩
theorem RVt.up (hΦ : Φ.tle Φ') (hb : ∀ i, i < m → β' (i + n) = β i) : ∀ {xs : List AV} {vs : List Value}, RVt Φ m β xs vs → RVt Φ' (n + m) β' (ups n xs) vs
 | [], _, h => by simpa only [RVt, ups] using h
 | _ :: _, _, h => by
  simp only [RVt, ups] at h ⊢
  obtain ⟨v, vs', e, h1, h2⟩ := h
  exact ⟨v, vs', e, RV.up hΦ hb h1, RVt.up hΦ hb h2⟩
end
mutual
theorem RV.noBor : ∀ {x : AV} {v : Value}, x.noBor = true → RV Φ m β x v → RV Φ' m β x v
 | .unk, _, h, _ => by simp [AV.noBor] at h
 | .und, _, _, h => by simpa only [RV] using h
 | .nil, _, _, h => by simpa only [RV] using h
 | .emp, _, _, h => by simpa only [RV] using h
 | .bool _, _, _, h => by simpa only [RV] using h
 | .int _ _, _, _, h => by simpa only [RV] using h
 | .own _ _ _ _, _, _, h => by simp only [RV] at h
 | .ptr r π o, _, _, h => by simpa only [RV] using h
 | .sref r π o k sz, _, _, h => by simpa only [RV] using h
 | .bor k cs, _, h, _ => by simp [AV.noBor] at h
 | .bptr cs o, _, h, _ => by simp [AV.noBor] at h
 | .agg vs, _, hc, h => by
  simp only [AV.noBor] at hc
  simp only [RV] at h ⊢
  obtain ⟨arr, h1, h2⟩ := h
  exact ⟨arr, h1, RVs.noBor hc h2⟩
 | .tup vs, _, hc, h => by
  simp only [AV.noBor] at hc
  simp only [RV] at h ⊢
  obtain ⟨arr, h1, h2⟩ := h
  exact ⟨arr, h1, RVt.noBor hc h2⟩
theorem RVs.noBor : ∀ {xs : List AV} {vs : List Value}, noBors xs = true → RVs Φ m β xs vs → RVs Φ' m β xs vs
 | [], _, _, h => by simpa only [RVs] using h
 | _ :: _, _, hc, h => by
  simp only [noBors, Bool.and_eq_true] at hc
  simp only [RVs] at h ⊢
  obtain ⟨v, vs', e, o, h1, h2⟩ := h
  exact ⟨v, vs', e, o, RV.noBor hc.1 h1, RVs.noBor hc.2 h2⟩
theorem RVt.noBor : ∀ {xs : List AV} {vs : List Value}, noBors xs = true → RVt Φ m β xs vs → RVt Φ' m β xs vs
 | [], _, _, h => by simpa only [RVt] using h
 | _ :: _, _, hc, h => by
  simp only [noBors, Bool.and_eq_true] at hc
  simp only [RVt] at h ⊢
  obtain ⟨v, vs', e, h1, h2⟩ := h
  exact ⟨v, vs', e, RV.noBor hc.1 h1, RVt.noBor hc.2 h2⟩
end
theorem ups_length (d : Nat) : ∀ l : List AV, (ups d l).length = l.length
 | [] => rfl
 | _ :: l => by simp [ups, ups_length d l]
theorem ups_getD (d : Nat) : ∀ (l : List AV) (i : Nat), (ups d l).getD i .unk = (l.getD i .unk).up d
 | [], i => by simp [ups, AV.up]
 | x :: l, 0 => by simp [ups]
 | x :: l, i + 1 => by simp only [ups, List.getD_cons_succ]; exact ups_getD d l i
theorem at_up {d r i : Nat} {π : List Nat} {x : AV} : (x.up d).at (r + d) π i = (x.at r π i).up d := by cases x <;> rfl
theorem refer_up {d r : Nat} {π : List Nat} : ∀ {k : Nat} {cs : List AV}, refer (r + d) π k (ups d cs) = ups d (refer r π k cs)
 | _, [] => rfl
 | k, c :: cs => by simp only [ups, refer, at_up, refer_up]
theorem node_up {d : Nat} {x : AV} : (x.up d).node = x.node.map fun t => ⟨t.e, ups d t.cs⟩ := by cases x <;> rfl
theorem get_of_get1 {A B : Heap} {r : Nat} (h : A.get1 r = B.get1 r) : ∀ π, A.get r π = B.get r π
 | [] => h
 | i :: π => by simp only [Heap.get]; rw [get_of_get1 h π]
theorem get1_up {d : Nat} : ∀ {A : Heap} {r : Nat}, (upHeap d A).get1 (r + d) = (A.get1 r).map fun t => ⟨t.e, ups d t.cs⟩
 | [], _ => rfl
 | (k, t) :: A, r => by
  simp only [upHeap, Heap.get1]
  by_cases h : k = r
  · subst h; simp
  · rw [if_neg (by omega), if_neg h]; exact get1_up
theorem get_up {d : Nat} {A : Heap} {r : Nat} : ∀ {π : List Nat}, (upHeap d A).get (r + d) π = (A.get r π).map fun t => ⟨t.e, ups d t.cs⟩
 | [] => get1_up
 | i :: π => by
  simp only [Heap.get]
  rw [get_up (π := π)]
  cases A.get r π with
  | none => rfl
  | some t => simp only [Option.map_some, ups_getD, node_up]
def Heap.has : Heap → Nat → Bool
 | [], _ => false
 | (k, _) :: A, r => k == r || Heap.has A r
theorem has_low {d : Nat} : ∀ {A : Heap} {r : Nat}, r < d → (upHeap d A).has r = false
 | [], _, _ => rfl
 | (k, t) :: A, r, h => by simp only [upHeap, Heap.has, has_low (A := A) h, Bool.or_false, beq_eq_false_iff_ne]; omega
theorem get1_append : ∀ {A B : Heap} {r : Nat}, (A ++ B).get1 r = if A.has r then A.get1 r else B.get1 r
 | [], B, r => by simp [Heap.has]
 | (k, t) :: A, B, r => by
  simp only [List.cons_append, Heap.get1, Heap.has]
  by_cases h : k = r
  · simp [h]
  · have hb : (k == r) = false := by simpa using h
    have ih := get1_append (A := A) (B := B) (r := r)
    simp only [h, if_false, hb, Bool.false_or]
    exact ih
theorem RH.join {Hr : Heap} {Φ1 : Fz} {w' : World} (hH : RH Φ n β H w) (hr : RH Φ1 m β' Hr w') (hsep : ∀ r π t, H.get r π = some t → (β r π).ex = true → (Φ1 (β r π).b).isSome = true ∧ w'.heap[(β r π).b]? = w.heap[(β r π).b]? ∧ Φ' (β r π).b = none)
 (hle : Φ.tle Φ') (h1 : ∀ xs vs, RVs Φ1 m β' xs vs → (∃ r π t, Hr.get r π = some t ∧ xs = refer r π 0 t.cs) → RVs Φ' m β' xs vs) (hn1 : ∀ b, Φ1 b = none → Φ' b = none) :
 RH Φ' (n + m) (fun i => if i < n then β i else β' (i - n)) (upHeap n Hr ++ H) w' := by
 generalize hβ : (fun i => if i < n then β i else β' (i - n)) = βj
 have hlow : ∀ i, i < n → βj i = β i := fun i hi => by rw [← hβ]; simp [hi]
 have hup : ∀ i, i < m → βj (i + n) = β' i := fun i _ => by rw [← hβ]; simp [show ¬ i + n < n by omega]
 have hcases : ∀ r π t, Heap.get (upHeap n Hr ++ H) r π = some t → (∃ r0 t0, r = r0 + n ∧ Hr.get r0 π = some t0 ∧ t = ⟨t0.e, ups n t0.cs⟩) ∨ (r < n ∧ H.get r π = some t) := by
  intro r π t h
  by_cases hh : (upHeap n Hr).has r = true
  · have e : (upHeap n Hr ++ H).get r π = (upHeap n Hr).get r π := get_of_get1 (by rw [get1_append, if_pos hh]) π
    rw [e] at h
    by_cases hlt : r < n
    · rw [has_low hlt] at hh; cases hh
    · obtain ⟨r0, rfl⟩ : ∃ r0, r = r0 + n := ⟨r - n, by omega⟩
      rw [get_up] at h
      obtain ⟨t0, ht0, rfl⟩ := Option.map_eq_some_iff.1 h
      exact .inl ⟨r0, t0, rfl, ht0, rfl⟩
  · have e : (upHeap n Hr ++ H).get r π = H.get r π := get_of_get1 (by rw [get1_append, if_neg hh]) π
    rw [e] at h
    exact .inr ⟨(hH.root r π t h).1, h⟩
 refine ⟨fun r π t h => ?_, fun r π r' π' h1' h2' hx hx' he => ?_⟩
 · rcases hcases r π t h with ⟨r0, t0, rfl, ht0, rfl⟩ | ⟨hlt, h⟩
   · obtain ⟨g1, g2⟩ := hr.root _ _ _ ht0
     refine ⟨by omega, ?_⟩
     unfold NodeIs at g2 ⊢
     rw [hup r0 g1]
     refine g2.imp (fun ⟨k1, k2⟩ => ⟨k1, by simp [k2, ups]⟩) fun ⟨k1, k2, cur, k3, k4, k5, k6⟩ => ⟨k1, hn1 _ k2, cur, k3, k4, by simpa [ups_length] using k5, ?_⟩
     simp only [ups_length]
     rw [refer_up]
     exact RVs.up (fun _ _ h => h) hup (h1 _ _ k6 ⟨r0, π, t0, ht0, rfl⟩)
   · obtain ⟨g1, g2⟩ := hH.root _ _ _ h
     refine ⟨by omega, ?_⟩
     unfold NodeIs at g2 ⊢
     rw [hlow r hlt]
     refine g2.imp id fun ⟨k1, k2, cur, k3, k4, k5, k6⟩ => ⟨k1, (hsep r π t h k1).2.2, cur, by rw [(hsep r π t h k1).2.1]; exact k3, k4, k5, k6.moreT hle (by omega) hlow⟩
 · obtain ⟨t, ht⟩ := Option.isSome_iff_exists.1 h1'
   obtain ⟨t', ht'⟩ := Option.isSome_iff_exists.1 h2'
   rcases hcases r π t ht with ⟨r0, t0, rfl, ht0, rfl⟩ | ⟨hlt, hu⟩ <;> rcases hcases r' π' t' ht' with ⟨r0', t0', rfl, ht0', rfl⟩ | ⟨hlt', hu'⟩
   · have g1 := (hr.root _ _ _ ht0).1
     have g1' := (hr.root _ _ _ ht0').1
     rw [hup r0 g1] at hx he
     rw [hup r0' g1'] at hx' he
     obtain ⟨rfl, rfl⟩ := hr.apart _ _ _ _ (by simp [ht0]) (by simp [ht0']) hx hx' he
     exact ⟨rfl, rfl⟩
   · have g1 := (hr.root _ _ _ ht0).1
     rw [hup r0 g1] at hx he
     rw [hlow r' hlt'] at hx' he
     have h3 := (hr.own ht0 hx).1
     have h4 := (hsep _ _ _ hu' hx').1
     rw [he] at h3; rw [h3] at h4; cases h4
   · have g1 := (hr.root _ _ _ ht0').1
     rw [hup r0' g1] at hx' he
     rw [hlow r hlt] at hx he
     have h3 := (hr.own ht0' hx').1
     have h4 := (hsep _ _ _ hu hx).1
     rw [← he] at h3; rw [h3] at h4; cases h4
   · rw [hlow r hlt] at hx he
     rw [hlow r' hlt'] at hx' he
     exact hH.apart _ _ _ _ (by simp [hu]) (by simp [hu']) hx hx' he
end
section
variable {P : Program} {n : Nat} {H : Heap}
theorem RH.empty {Φ : Fz} {n : Nat} {β : Spots} {w : World} : RH Φ n β [] w := by
 have : ∀ r π, Heap.get [] r π = none := fun r π => by
  have h : Heap.get [] r [] = none := rfl
  simpa using get_dead h π
 refine ⟨fun r π t h => ?_, fun r π r' π' h => ?_⟩
 · rw [this] at h; cases h
 · rw [this] at h; cases h
theorem noBors_getD : ∀ {xs : List AV}, noBors xs = true → ∀ i, i < xs.length → (xs.getD i .unk).noBor = true
 | [], _, i, hi => by simp at hi
 | x :: xs, h, 0, _ => by simp only [noBors, Bool.and_eq_true] at h; exact h.1
 | x :: xs, h, i + 1, hi => by
  simp only [noBors, Bool.and_eq_true] at h
  simpa using noBors_getD h.2 i (by simpa using hi)
theorem noBors_refer {r : Nat} {π : List Nat} : ∀ {k : Nat} {cs : List AV}, noBors cs = true → noBors (refer r π k cs) = true
 | _, [], _ => rfl
 | k, c :: cs, h => by
  simp only [noBors, Bool.and_eq_true] at h
  simp only [refer, noBors, Bool.and_eq_true]
  refine ⟨?_, noBors_refer h.2⟩
  cases c <;> first | exact h.1 | rfl
def noBorH : Heap → Bool
 | [] => true
 | (_, none) :: A => noBorH A
 | (_, some t) :: A => noBors t.cs && noBorH A
theorem noBorH_get1 : ∀ {A : Heap} {r : Nat} {t : Root}, noBorH A = true → A.get1 r = some t → noBors t.cs = true
 | [], _, _, _, h => by simp [Heap.get1] at h
 | (k, t') :: A, r, t, ho, h => by
  simp only [Heap.get1] at h
  split at h
  · subst h; simp only [noBorH, Bool.and_eq_true] at ho; exact ho.1
  · exact noBorH_get1 (by cases t' <;> simp_all [noBorH]) h
theorem noBorH_get {A : Heap} {r : Nat} (hA : noBorH A = true) : ∀ {π : List Nat} {t : Root}, A.get r π = some t → noBors t.cs = true
 | [], t, h => noBorH_get1 hA h
 | i :: π, t, h => by
  simp only [Heap.get] at h
  split at h
  · rename_i tp htp
    have h1 := noBorH_get hA htp
    cases hc : tp.cs.getD i .unk <;> rw [hc] at h <;> simp only [AV.node, Option.some.injEq, reduceCtorEq] at h
    subst h
    have := noBors_getD h1 i (own_lt hc)
    rw [hc] at this
    simpa [AV.noBor] using this
  · cases h
theorem noBorH_append : ∀ {A B : Heap}, noBorH A = true → noBorH B = true → noBorH (A ++ B) = true
 | [], _, _, h => h
 | (k, none) :: A, B, h, h2 => by simp only [List.cons_append, noBorH] at h ⊢; exact noBorH_append h h2
 | (k, some t) :: A, B, h, h2 => by
  simp only [List.cons_append, noBorH, Bool.and_eq_true] at h ⊢; exact ⟨h.1, noBorH_append h.2 h2⟩
theorem name1_noBor {n : Nat} {x : AV} (h : x.noBor = true) : (name1 n x).1.noBor = true ∧ noBorH (name1 n x).2.1 = true := by
 cases x
 case own e sz m cs => simpa [name1, noBorH, AV.noBor] using h
 all_goals exact ⟨h, rfl⟩
theorem nameL_noBor : ∀ {n : Nat} {xs : List AV}, noBors xs = true → noBors (nameL n xs).1 = true ∧ noBorH (nameL n xs).2.1 = true
 | _, [], _ => ⟨rfl, rfl⟩
 | n, x :: xs, h => by
  simp only [noBors, Bool.and_eq_true] at h
  obtain ⟨a1, a2⟩ := name1_noBor (n := n) h.1
  obtain ⟨b1, b2⟩ := nameL_noBor (n := (name1 n x).2.2) h.2
  simp only [nameL, noBors, a1, b1, Bool.and_self, true_and]
  exact noBorH_append b2 a2
theorem nameA_noBor {n : Nat} {x : AV} (h : x.noBor = true) : (nameA n x).1.noBor = true ∧ noBorH (nameA n x).2.1 = true := by
 cases x
 case agg vs => exact nameL_noBor (by simpa [AV.noBor] using h)
 all_goals exact name1_noBor h
theorem nameT_noBor : ∀ {n : Nat} {xs : List AV}, noBors xs = true → noBors (nameT n xs).1 = true ∧ noBorH (nameT n xs).2.1 = true
 | _, [], _ => ⟨rfl, rfl⟩
 | n, x :: xs, h => by
  simp only [noBors, Bool.and_eq_true] at h
  obtain ⟨a1, a2⟩ := nameA_noBor (n := n) h.1
  obtain ⟨b1, b2⟩ := nameT_noBor (n := (nameA n x).2.2) h.2
  simp only [nameT, noBors, a1, b1, Bool.and_self, true_and]
  exact noBorH_append b2 a2
theorem nameV_noBor {n : Nat} {x : AV} (h : x.noBor = true) : (nameV n x).1.noBor = true ∧ noBorH (nameV n x).2.1 = true := by
 cases x
 case tup vs => exact nameT_noBor (by simpa [AV.noBor] using h)
 all_goals exact nameA_noBor h
theorem Inl.of_fn_read {f : FuncId} {args args' : List AV} {r : AV} (hc : Cloz H args args') (hp : Fn P f args' r) (hr : r.noRef = true) (hb : r.noBor = true) :
 Inl P f args H n (nameV n r).1 ((nameV n r).2.1 ++ H) (nameV n r).2.2 := by
 intro Φ w β vs hK hH hv
 have hv' : RVt (Φ.all w true) 0 (fun _ _ => ⟨false, 0, 0⟩) args' vs := hc.sound hH hv
 obtain ⟨u1, u2, u3⟩ := nameV_up (d := n) (n := 0) hr
 rw [Nat.zero_add] at u1 u2 u3
 obtain ⟨b1, b2⟩ := nameV_noBor (n := 0) hb
 refine (hp (Φ.all w true) w _ vs hK.all RH.empty hv').mono fun e w' ⟨v, Φ1, β1, he, g1, g2, g3, g4, g5, g6, g7⟩ => ?_
 have hup : ∀ b x, Φ b = some x → Φ1 b = some x := fun b x h => g3 b x (Fz.le_all b x h)
 have hK2 : Keep Φ w' := fun b x h => g4 b x (hup b x h)
 refine ⟨v, Φ, fun i => if i < n then β i else β1 (i - n), he, by rw [← u3]; omega, fun i hi => by simp [hi], Fz.le_refl Φ, hK2, ?_, ?_, g7⟩
 · rw [← u1, ← u3, Nat.add_comm]
   exact RV.up (fun _ _ h => h) (fun i _ => by simp [show ¬ i + n < n by omega]) (RV.noBor b1 g5)
 · rw [← u2, ← u3, Nat.add_comm]
   have hall : ∀ r π t, H.get r π = some t → (β r π).ex = true → ∃ o, w.heap[(β r π).b]? = some o ∧ Φ (β r π).b = none ∧ Φ1 (β r π).b = some (true, o) := fun r π t hr hx => by
    obtain ⟨k1, cur, k2, _⟩ := hH.own hr hx
    exact ⟨_, k2, k1, g3 _ _ (by simp [Fz.all, k1, k2])⟩
   refine RH.join hH g6 (fun r π t hr hx => ?_) (fun _ _ h => h) (fun xs vs h ⟨r, π, t, hr, hx⟩ => ?_) fun b hb => ?_
   · obtain ⟨o, k1, k2, k3⟩ := hall r π t hr hx
     exact ⟨by simp [k3], by rw [k1]; exact g4 _ _ k3, k2⟩
   · subst hx
     exact RVs.noBor (noBors_refer (noBorH_get b2 hr)) h
   · cases e : Φ b with
     | none => rfl
     | some x => rw [hup b x e] at hb; cases hb
end
end Go.Proofs.Ytmjphjphgjmojaa
