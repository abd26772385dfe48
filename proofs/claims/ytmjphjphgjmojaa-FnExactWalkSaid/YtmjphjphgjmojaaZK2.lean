/- States that say less: names turned, slots forgotten, own memory folded. No program is named here. -/
import Derived.Test.YtmjphjphgjmojaaZK
namespace Go.Proofs.Ytmjphjphgjmojaa
set_option linter.all false
open Go.RowKit
mutual
def Ren (ρ : Nat → Option Nat) (n : Nat) : AV → AV → Prop
 | .unk, _ => True
 | .und, y => y = .und
 | .nil, y => y = .nil
 | .emp, y => y = .nil ∨ y = .emp
 | .bool b, y => y = .bool b
 | .int k z, y => y = .int k z
 | .ptr r π o, y => r < n ∧ ∃ j, ρ r = some j ∧ y = .ptr j π o
 | .sref r π o m sz, y => r < n ∧ ((∃ j, ρ r = some j ∧ y = .sref j π o m sz) ∨ (ρ r = none ∧ m = 0 ∧ (y = .nil ∨ y = .emp)))
 | .bor m cs, y => (∃ us, y = .bor m us ∧ Rens ρ n cs us) ∨ ((y = .nil ∨ y = .emp) ∧ m = 0 ∧ cs = [])
 | .bptr cs o, y => ∃ us, y = .bptr us o ∧ Rens ρ n cs us
 | .own e sz m cs, y => ∃ us, y = .own e sz m us ∧ Rens ρ n cs us
 | .agg vs, y => ∃ us, y = .agg us ∧ Rens ρ n vs us
 | .tup vs, y => ∃ us, y = .tup us ∧ Rens ρ n vs us
def Rens (ρ : Nat → Option Nat) (n : Nat) : List AV → List AV → Prop
 | [], ys => ys = []
 | x :: xs, ys => ∃ y us, ys = y :: us ∧ Ren ρ n x y ∧ Rens ρ n xs us
end
def renS (ρ : Nat → Option Nat) (β : Spots) : Spots := fun i π => match ρ i with
 | some j => β j π
 | none => ⟨false, 0, 0⟩
section
variable {Φ : Fz} {n n2 : Nat} {β : Spots} {ρ : Nat → Option Nat}
mutual
theorem RV.ren : ∀ {x y : AV} {v : Value}, Ren ρ n2 x y → RV Φ n β y v → RV Φ n2 (renS ρ β) x v
 | .unk, _, _, _, _ => by simp [RV]
 | .und, _, _, h, k => by simp only [Ren] at h; subst h; simpa only [RV] using k
 | .nil, _, _, h, k => by simp only [Ren] at h; subst h; simpa only [RV] using k
 | .emp, _, _, h, k => by
  simp only [Ren] at h
  rcases h with rfl | rfl
  · simp only [RV] at k ⊢; exact ⟨none, k⟩
  · simpa only [RV] using k
 | .bool _, _, _, h, k => by simp only [Ren] at h; subst h; simpa only [RV] using k
 | .int _ _, _, _, h, k => by simp only [Ren] at h; subst h; simpa only [RV] using k
 | .own _ _ _ _, _, _, h, k => by
  simp only [Ren] at h
  obtain ⟨us, rfl, _⟩ := h
  simp only [RV] at k
 | .ptr r π o, _, _, h, k => by
  simp only [Ren] at h
  obtain ⟨h1, j, h2, rfl⟩ := h
  simp only [RV, renS, h2] at k ⊢
  exact ⟨h1, k.2⟩
 | .sref r π o m sz, _, _, h, k => by
  simp only [Ren] at h
  rcases h with ⟨h1, ⟨j, h2, rfl⟩ | ⟨h2, rfl, rfl | rfl⟩⟩
  · simp only [RV, renS, h2] at k ⊢
    exact ⟨h1, k.2⟩
  · simp only [RV, renS, h2] at k ⊢
    exact ⟨h1, none, 0, k, Nat.le_refl _, Nat.zero_le _, .inl ⟨trivial, rfl, .inr trivial⟩⟩
  · simp only [RV, renS, h2] at k ⊢
    obtain ⟨s, k⟩ := k
    exact ⟨h1, s, 0, k, Nat.le_refl _, Nat.zero_le _, .inl ⟨trivial, rfl, .inr trivial⟩⟩
 | .bor m cs, _, _, h, k => by
  simp only [Ren] at h
  rcases h with ⟨us, rfl, h⟩ | ⟨rfl | rfl, rfl, rfl⟩
  · simp only [RV] at k ⊢
    obtain ⟨s, cap, vs, k1, k2, k3, k4, k5⟩ := k
    exact ⟨s, cap, vs, k1, k2, k3, k4, RVs.ren h k5⟩
  · simp only [RV] at k ⊢
    exact ⟨none, 0, [], k, Nat.le_refl _, Nat.zero_le _, .inl rfl, by simp [RVs]⟩
  · simp only [RV] at k ⊢
    obtain ⟨s, k⟩ := k
    exact ⟨s, 0, [], k, Nat.le_refl _, Nat.zero_le _, .inl rfl, by simp [RVs]⟩
 | .bptr cs o, _, _, h, k => by
  simp only [Ren] at h
  obtain ⟨us, rfl, h⟩ := h
  simp only [RV] at k ⊢
  obtain ⟨s, p, vs, k1, k2, k3, k4⟩ := k
  exact ⟨s, p, vs, k1, k2, RVs.ren h k3, k4⟩
 | .agg vs, _, _, h, k => by
  simp only [Ren] at h
  obtain ⟨us, rfl, h⟩ := h
  simp only [RV] at k ⊢
  obtain ⟨arr, k1, k2⟩ := k
  exact ⟨arr, k1, RVs.ren h k2⟩
 | .tup vs, _, _, h, k => by
  simp only [Ren] at h
  obtain ⟨us, rfl, h⟩ := h
  simp only [RV] at k ⊢
  obtain ⟨arr, k1, k2⟩ := k
  exact ⟨arr, k1, RVt.ren h k2⟩
theorem RVs.ren : ∀ {xs ys : List AV} {vs : List Value}, Rens ρ n2 xs ys → RVs Φ n β ys vs → RVs Φ n2 (renS ρ β) xs vs
 | [], _, _, h, k => by simp only [Rens] at h; subst h; simpa only [RVs] using k
 | _ :: _, _, _, h, k => by
  simp only [Rens] at h
  obtain ⟨y, us, rfl, h1, h2⟩ := h
  simp only [RVs] at k ⊢
  obtain ⟨v, vs', e, o, k1, k2⟩ := k
  exact ⟨v, vs', e, o, RV.ren h1 k1, RVs.ren h2 k2⟩
theorem RVt.ren : ∀ {xs ys : List AV} {vs : List Value}, Rens ρ n2 xs ys → RVt Φ n β ys vs → RVt Φ n2 (renS ρ β) xs vs
 | [], _, _, h, k => by simp only [Rens] at h; subst h; simpa only [RVt] using k
 | _ :: _, _, _, h, k => by
  simp only [Rens] at h
  obtain ⟨y, us, rfl, h1, h2⟩ := h
  simp only [RVt] at k ⊢
  obtain ⟨v, vs', e, k1, k2⟩ := k
  exact ⟨v, vs', e, RV.ren h1 k1, RVt.ren h2 k2⟩
end
theorem Rens.length : ∀ {xs ys : List AV}, Rens ρ n xs ys → ys.length = xs.length
 | [], _, h => by simp only [Rens] at h; simp [h]
 | _ :: _, _, h => by simp only [Rens] at h; obtain ⟨y, us, rfl, _, h2⟩ := h; simp [Rens.length h2]
theorem Rens.get : ∀ {xs ys : List AV}, Rens ρ n xs ys → ∀ t, Ren ρ n (xs.getD t .unk) (ys.getD t .unk)
 | [], _, h, t => by simp [Ren]
 | _ :: _, _, h, t => by
  simp only [Rens] at h
  obtain ⟨y, us, rfl, h1, h2⟩ := h
  cases t with
  | zero => simpa using h1
  | succ t => simpa using h2.get t
structure HSub (ρ : Nat → Option Nat) (n2 : Nat) (H2 H : Heap) : Prop where
 root : ∀ r t2, H2.get1 r = some t2 → r < n2 ∧ ((ρ r = none ∧ t2.cs = []) ∨ ∃ j t, ρ r = some j ∧ H.get1 j = some t ∧ t.e = t2.e ∧ Rens ρ n2 t2.cs t.cs)
 inj : ∀ r r' j, (H2.get1 r).isSome = true → (H2.get1 r').isSome = true → ρ r = some j → ρ r' = some j → r = r'
theorem HSub.node {H2 H : Heap} (hs : HSub ρ n2 H2 H) {r : Nat} : ∀ {π : List Nat} {t2 : Root}, H2.get r π = some t2 → r < n2 ∧ ((ρ r = none ∧ π = [] ∧ t2.cs = []) ∨ ∃ j t, ρ r = some j ∧ H.get j π = some t ∧ t.e = t2.e ∧ Rens ρ n2 t2.cs t.cs)
 | [], t2, h => by
  obtain ⟨h1, h2⟩ := hs.root r t2 h
  exact ⟨h1, h2.imp (fun ⟨a, b⟩ => ⟨a, rfl, b⟩) id⟩
 | i :: π, t2, h => by
  simp only [Heap.get] at h
  split at h
  · rename_i tp htp
    obtain ⟨h1, h2⟩ := hs.node htp
    cases hc : tp.cs.getD i .unk <;> rw [hc] at h <;> simp only [AV.node, Option.some.injEq, reduceCtorEq] at h
    rename_i e sz m ds
    subst h
    rcases h2 with ⟨_, _, h3⟩ | ⟨j, t, h3, h4, h5, h6⟩
    · rw [h3] at hc; simp at hc
    · have h7 := h6.get i
      rw [hc] at h7
      simp only [Ren] at h7
      obtain ⟨us, h8, h9⟩ := h7
      exact ⟨h1, .inr ⟨j, ⟨e, us⟩, h3, by simp only [Heap.get, h4, h8, AV.node], rfl, h9⟩⟩
  · cases h
theorem Rens.refer {r j : Nat} {π : List Nat} (hj : ρ r = some j) (hr : r < n2) : ∀ {k : Nat} {xs ys : List AV}, Rens ρ n2 xs ys → Rens ρ n2 (refer r π k xs) (Go.Proofs.Ytmjphjphgjmojaa.refer j π k ys)
 | _, [], _, h => by simp only [Rens] at h; subst h; simp [Go.Proofs.Ytmjphjphgjmojaa.refer, Rens]
 | k, x :: xs, _, h => by
  simp only [Rens] at h
  obtain ⟨y, us, rfl, h1, h2⟩ := h
  simp only [Go.Proofs.Ytmjphjphgjmojaa.refer, Rens]
  refine ⟨_, _, rfl, ?_, Rens.refer hj hr h2⟩
  cases hx : x.node with
  | some t =>
   cases x <;> simp only [AV.node, reduceCtorEq] at hx
   simp only [Ren] at h1
   obtain ⟨us', rfl, _⟩ := h1
   simp only [AV.at, Ren]
   exact ⟨hr, .inl ⟨j, hj, rfl⟩⟩
  | none =>
   rw [at_of_no hx]
   have hy : x = .unk ∨ y.node = none := by
    cases x <;> simp only [AV.node, reduceCtorEq] at hx <;> simp only [Ren] at h1
    case unk => exact .inl rfl
    all_goals right
    case und => subst h1; rfl
    case nil => subst h1; rfl
    case emp => rcases h1 with rfl | rfl <;> rfl
    case bool => subst h1; rfl
    case int => subst h1; rfl
    case ptr => obtain ⟨_, j, _, rfl⟩ := h1; rfl
    case sref => rcases h1 with ⟨_, ⟨j, _, rfl⟩ | ⟨_, _, rfl | rfl⟩⟩ <;> rfl
    case bor => rcases h1 with ⟨us, rfl, _⟩ | ⟨rfl | rfl, _⟩ <;> rfl
    case bptr => obtain ⟨us, rfl, _⟩ := h1; rfl
    case agg => obtain ⟨us, rfl, _⟩ := h1; rfl
    case tup => obtain ⟨us, rfl, _⟩ := h1; rfl
   rcases hy with rfl | hy
   · simp [Ren]
   · rw [at_of_no hy]; exact h1
theorem RH.ren {H H2 : Heap} {w : World} (h : RH Φ n β H w) (hs : HSub ρ n2 H2 H) : RH Φ n2 (renS ρ β) H2 w := by
 refine ⟨fun r π t2 hr => ?_, fun r π r' π' h1 h2 hx hx' he => ?_⟩
 · obtain ⟨hlt, hc⟩ := hs.node hr
   refine ⟨hlt, ?_⟩
   rcases hc with ⟨h1, rfl, h2⟩ | ⟨j, t, h1, h2, h3, h4⟩
   · exact .inl ⟨by simp [renS, h1], h2⟩
   · have hb : renS ρ β r π = β j π := by simp [renS, h1]
     have hl := h4.length
     unfold NodeIs
     rw [hb]
     refine (h.root _ _ t h2).2.imp (fun ⟨k1, k2⟩ => ⟨k1, ?_⟩) fun ⟨k1, k2, cur, k3, k4, k5, k6⟩ => ⟨k1, k2, cur, by rw [← h3]; exact k3, k4, by omega, ?_⟩
     · exact List.length_eq_zero_iff.1 (by rw [← hl, k2]; rfl)
     · rw [← hl]; exact RVs.ren (h4.refer h1 hlt) k6
 · obtain ⟨t, ht⟩ := Option.isSome_iff_exists.1 h1
   obtain ⟨t', ht'⟩ := Option.isSome_iff_exists.1 h2
   have root1 : ∀ {r : Nat} {π : List Nat} {t : Root}, H2.get r π = some t → (H2.get1 r).isSome = true := by
    intro r π t ht
    cases e : H2.get1 r with
    | some _ => rfl
    | none =>
     have : H2.get r [] = none := e
     have := get_dead this π
     rw [List.append_nil, ht] at this
     cases this
   rcases (hs.node ht).2 with ⟨a1, _, _⟩ | ⟨j, u, a1, a2, _⟩
   · simp [renS, a1] at hx
   · rcases (hs.node ht').2 with ⟨b1, _, _⟩ | ⟨j', u', b1, b2, _⟩
     · simp [renS, b1] at hx'
     · simp only [renS, a1, b1] at hx hx' he
       obtain ⟨rfl, rfl⟩ := h.apart _ _ _ _ (by simp [a2]) (by simp [b2]) hx hx' he
       exact ⟨hs.inj r r' j (root1 ht) (root1 ht') a1 b1, rfl⟩
theorem Ent.sub {m : Nat} {xs2 xs : List AV} {H2 H : Heap} (ρ : Nat → Option Nat) (h1 : ∀ i, i < m → ρ i = some i) (h2 : m ≤ n2) (h3 : Rens ρ n2 xs2 xs) (h4 : HSub ρ n2 H2 H) : Ent m xs2 H2 n2 xs H n :=
 fun Φ β _ _ _ hK hH hv => ⟨Φ, renS ρ β, h2, fun i hi => funext fun π => by simp [renS, h1 i hi], Fz.le_refl Φ, hK, hH.ren h4, hv.ren h3⟩
end
mutual
def AV.okB (n : Nat) : AV → Bool
 | .ptr r _ _ => decide (r < n)
 | .sref r _ _ _ _ => decide (r < n)
 | .bor _ cs => okBs n cs
 | .bptr cs _ => okBs n cs
 | .own _ _ _ cs => okBs n cs
 | .agg vs => okBs n vs
 | .tup vs => okBs n vs
 | .unk => true
 | .und => true
 | .nil => true
 | .emp => true
 | .bool _ => true
 | .int _ _ => true
def okBs (n : Nat) : List AV → Bool
 | [] => true
 | v :: vs => v.okB n && okBs n vs
end
mutual
theorem Ren.ok {n : Nat} : ∀ {x : AV}, x.okB n = true → Ren some n x x
 | .unk, _ => by simp [Ren]
 | .und, _ => by simp [Ren]
 | .nil, _ => by simp [Ren]
 | .emp, _ => by simp [Ren]
 | .bool _, _ => by simp [Ren]
 | .int _ _, _ => by simp [Ren]
 | .ptr r _ _, h => by simp only [AV.okB, decide_eq_true_eq] at h; simp [Ren, h]
 | .sref r _ _ _ _, h => by simp only [AV.okB, decide_eq_true_eq] at h; simp [Ren, h]
 | .bor m cs, h => by simp only [Ren]; exact .inl ⟨_, rfl, Rens.ok (by simpa [AV.okB] using h)⟩
 | .bptr cs o, h => by simp only [Ren]; exact ⟨_, rfl, Rens.ok (by simpa [AV.okB] using h)⟩
 | .own e sz m cs, h => by simp only [Ren]; exact ⟨_, rfl, Rens.ok (by simpa [AV.okB] using h)⟩
 | .agg vs, h => by simp only [Ren]; exact ⟨_, rfl, Rens.ok (by simpa [AV.okB] using h)⟩
 | .tup vs, h => by simp only [Ren]; exact ⟨_, rfl, Rens.ok (by simpa [AV.okB] using h)⟩
theorem Rens.ok {n : Nat} : ∀ {xs : List AV}, okBs n xs = true → Rens some n xs xs
 | [], _ => by simp [Rens]
 | _ :: _, h => by
  simp only [okBs, Bool.and_eq_true] at h
  simp only [Rens]
  exact ⟨_, _, rfl, Ren.ok h.1, Rens.ok h.2⟩
end
mutual
theorem Ren.noRef {ρ : Nat → Option Nat} {n : Nat} : ∀ {x : AV}, x.noRef = true → Ren ρ n x x
 | .unk, h => by simp [AV.noRef] at h
 | .und, _ => by simp [Ren]
 | .nil, _ => by simp [Ren]
 | .emp, _ => by simp [Ren]
 | .bool _, _ => by simp [Ren]
 | .int _ _, _ => by simp [Ren]
 | .ptr _ _ _, h => by simp [AV.noRef] at h
 | .sref _ _ _ _ _, h => by simp [AV.noRef] at h
 | .bptr _ _, h => by simp [AV.noRef] at h
 | .bor m cs, h => by simp only [Ren]; exact .inl ⟨_, rfl, Rens.noRef (by simpa [AV.noRef] using h)⟩
 | .own e sz m cs, h => by simp only [Ren]; exact ⟨_, rfl, Rens.noRef (by simpa [AV.noRef] using h)⟩
 | .agg vs, h => by simp only [Ren]; exact ⟨_, rfl, Rens.noRef (by simpa [AV.noRef] using h)⟩
 | .tup vs, h => by simp only [Ren]; exact ⟨_, rfl, Rens.noRef (by simpa [AV.noRef] using h)⟩
theorem Rens.noRef {ρ : Nat → Option Nat} {n : Nat} : ∀ {xs : List AV}, noRefs xs = true → Rens ρ n xs xs
 | [], _ => by simp [Rens]
 | _ :: _, h => by
  simp only [noRefs, Bool.and_eq_true] at h
  simp only [Rens]
  exact ⟨_, _, rfl, Ren.noRef h.1, Rens.noRef h.2⟩
end
def live (ls : List Nat) (i : Nat) : Bool := ls.any (fun j => j == i)
def forget (ls : List Nat) : Nat → List AV → List AV
 | _, [] => []
 | i, v :: vs => (match live ls i with | true => v | false => .unk) :: forget ls (i + 1) vs
theorem Rens.forget {n : Nat} {ls : List Nat} : ∀ {i : Nat} {xs : List AV}, okBs n (Go.Proofs.Ytmjphjphgjmojaa.forget ls i xs) = true → Rens some n (Go.Proofs.Ytmjphjphgjmojaa.forget ls i xs) xs
 | _, [], _ => by simp [Go.Proofs.Ytmjphjphgjmojaa.forget, Rens]
 | i, x :: xs, h => by
  simp only [Go.Proofs.Ytmjphjphgjmojaa.forget, okBs, Bool.and_eq_true] at h
  simp only [Go.Proofs.Ytmjphjphgjmojaa.forget, Rens]
  refine ⟨_, _, rfl, ?_, Rens.forget h.2⟩
  cases hl : live ls i with
  | true => rw [hl] at h; exact Ren.ok h.1
  | false => simp [Ren]
end Go.Proofs.Ytmjphjphgjmojaa
