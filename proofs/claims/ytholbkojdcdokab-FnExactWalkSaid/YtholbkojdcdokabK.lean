/- Loops and functions of the abstract machine. No program is named here. -/
import Derived.Test.YtholbkojdcdokabJ
namespace Go.Proofs.Ytholbkojdcdokab
open Go.RowKit

mutual
/-- x is what y is, its places named anew, or less is known of it. -/
def Ren (ρ : Nat → Nat) (n : Nat) : AV → AV → Prop
  | .unk, _ => True
  | .und, y => y = .und
  | .nil, y => y = .nil
  | .bool b, y => y = .bool b
  | .int k z, y => y = .int k z
  | .ptr r o, y => r < n ∧ y = .ptr (ρ r) o
  | .sref r o m sz, y => r < n ∧ y = .sref (ρ r) o m sz
  | .bor m cs, y => ∃ us, y = .bor m us ∧ Rens ρ n cs us
  | .bptr cs o, y => ∃ us, y = .bptr us o ∧ Rens ρ n cs us
  | .agg vs, y => ∃ us, y = .agg us ∧ Rens ρ n vs us
  | .tup vs, y => ∃ us, y = .tup us ∧ Rens ρ n vs us
def Rens (ρ : Nat → Nat) (n : Nat) : List AV → List AV → Prop
  | [], ys => ys = []
  | x :: xs, ys => ∃ y us, ys = y :: us ∧ Ren ρ n x y ∧ Rens ρ n xs us
end

section
variable {w0 : World} {n n2 : Nat} {β : Nat → Spot} {ρ : Nat → Nat}

mutual
theorem RV.ren : ∀ {x y : AV} {v : Value}, Ren ρ n2 x y → RV w0 n β y v → RV w0 n2 (fun i => β (ρ i)) x v
  | .unk, _, _, _, _ => by simp [RV]
  | .und, _, _, h, k => by simp only [Ren] at h; subst h; simpa only [RV] using k
  | .nil, _, _, h, k => by simp only [Ren] at h; subst h; simpa only [RV] using k
  | .bool _, _, _, h, k => by simp only [Ren] at h; subst h; simpa only [RV] using k
  | .int _ _, _, _, h, k => by simp only [Ren] at h; subst h; simpa only [RV] using k
  | .ptr r o, _, _, h, k => by
    simp only [Ren] at h
    obtain ⟨h1, rfl⟩ := h
    simp only [RV] at k ⊢
    exact ⟨h1, k.2⟩
  | .sref r o m sz, _, _, h, k => by
    simp only [Ren] at h
    obtain ⟨h1, rfl⟩ := h
    simp only [RV] at k ⊢
    obtain ⟨s, cap, k1, k2, k3, k4⟩ := k
    exact ⟨s, cap, k1, k2, k3, k4.imp id fun ⟨_, b, c⟩ => ⟨h1, b, c⟩⟩
  | .bor m cs, _, _, h, k => by
    simp only [Ren] at h
    obtain ⟨us, rfl, h⟩ := h
    simp only [RV] at k ⊢
    obtain ⟨s, cap, vs, k1, k2, k3, k4, k5⟩ := k
    exact ⟨s, cap, vs, k1, k2, k3, k4, RVs.ren h k5⟩
  | .bptr cs o, _, _, h, k => by
    simp only [Ren] at h
    obtain ⟨us, rfl, h⟩ := h
    simp only [RV] at k ⊢
    obtain ⟨s, p, vs, k1, k2, k3, k4⟩ := k
    exact ⟨s, p, vs, k1, k2, RVs.ren h k3, k4⟩
  | .agg vs, _, _, h, k => by
    simp only [Ren] at h
    obtain ⟨us, rfl, h⟩ := h
    simp only [RV] at k ⊢
    obtain ⟨arr, k1, k2⟩ := k
    exact ⟨arr, k1, RVs.ren h k2⟩
  | .tup vs, _, _, h, k => by
    simp only [Ren] at h
    obtain ⟨us, rfl, h⟩ := h
    simp only [RV] at k ⊢
    obtain ⟨arr, k1, k2⟩ := k
    exact ⟨arr, k1, RVt.ren h k2⟩
theorem RVs.ren : ∀ {xs ys : List AV} {vs : List Value}, Rens ρ n2 xs ys → RVs w0 n β ys vs → RVs w0 n2 (fun i => β (ρ i)) xs vs
  | [], _, _, h, k => by simp only [Rens] at h; subst h; simpa only [RVs] using k
  | _ :: _, _, _, h, k => by
    simp only [Rens] at h
    obtain ⟨y, us, rfl, h1, h2⟩ := h
    simp only [RVs] at k ⊢
    obtain ⟨v, vs', e, o, k1, k2⟩ := k
    exact ⟨v, vs', e, o, RV.ren h1 k1, RVs.ren h2 k2⟩
theorem RVt.ren : ∀ {xs ys : List AV} {vs : List Value}, Rens ρ n2 xs ys → RVt w0 n β ys vs → RVt w0 n2 (fun i => β (ρ i)) xs vs
  | [], _, _, h, k => by simp only [Rens] at h; subst h; simpa only [RVt] using k
  | _ :: _, _, _, h, k => by
    simp only [Rens] at h
    obtain ⟨y, us, rfl, h1, h2⟩ := h
    simp only [RVt] at k ⊢
    obtain ⟨v, vs', e, k1, k2⟩ := k
    exact ⟨v, vs', e, RV.ren h1 k1, RVt.ren h2 k2⟩
end

theorem Rens.length : ∀ {xs ys : List AV}, Rens ρ n xs ys → ys.length = xs.length
  | [], _, h => by simp only [Rens] at h; simp [h]
  | _ :: _, _, h => by simp only [Rens] at h; obtain ⟨y, us, rfl, _, h2⟩ := h; simp [Rens.length h2]

theorem Rens.get : ∀ {xs ys : List AV}, Rens ρ n xs ys → ∀ t, Ren ρ n (xs.getD t .unk) (ys.getD t .unk)
  | [], _, h, t => by simp [Ren]
  | _ :: _, _, h, t => by
    simp only [Rens] at h
    obtain ⟨y, us, rfl, h1, h2⟩ := h
    cases t with
    | zero => simpa using h1
    | succ t => simpa using h2.get t

mutual
theorem Ren.clean : ∀ {x : AV}, x.clean = true → Ren ρ n x x
  | .unk, h => by simp [AV.clean] at h
  | .und, _ => by simp [Ren]
  | .nil, _ => by simp [Ren]
  | .bool _, _ => by simp [Ren]
  | .int _ _, _ => by simp [Ren]
  | .ptr _ _, h => by simp [AV.clean] at h
  | .sref _ _ _ _, h => by simp [AV.clean] at h
  | .bor m cs, h => by simp only [Ren]; exact ⟨_, rfl, Rens.clean (by simpa [AV.clean] using h)⟩
  | .bptr cs o, h => by simp only [Ren]; exact ⟨_, rfl, Rens.clean (by simpa [AV.clean] using h)⟩
  | .agg vs, h => by simp only [Ren]; exact ⟨_, rfl, Rens.clean (by simpa [AV.clean] using h)⟩
  | .tup vs, h => by simp only [Ren]; exact ⟨_, rfl, Rens.clean (by simpa [AV.clean] using h)⟩
theorem Rens.clean : ∀ {xs : List AV}, cleans xs = true → Rens ρ n xs xs
  | [], _ => by simp [Rens]
  | _ :: _, h => by
    simp only [cleans, Bool.and_eq_true] at h
    simp only [Rens]
    exact ⟨_, _, rfl, Ren.clean h.1, Rens.clean h.2⟩
end

/-- The memory H2 is H, or less of it, its places named anew. -/
structure HSub (ρ : Nat → Nat) (n2 : Nat) (H2 H : Heap) : Prop where
  root : ∀ r t2, H2.get r = some t2 → r < n2 ∧ ∃ t, H.get (ρ r) = some t ∧ t.e = t2.e ∧ Rens ρ n2 t2.cs t.cs
  inj : ∀ r r', (H2.get r).isSome = true → (H2.get r').isSome = true → ρ r = ρ r' → r = r'

theorem RH.ren {H H2 : Heap} {w : World} (h : RH w0 n β H w) (hs : HSub ρ n2 H2 H) : RH w0 n2 (fun i => β (ρ i)) H2 w := by
  refine ⟨fun r t2 hr => ?_, fun r r' h1 h2 he => ?_⟩
  · obtain ⟨hlt, t, ht, he, hc⟩ := hs.root r t2 hr
    obtain ⟨g1, g2, cur, g3, g4, g5, g6⟩ := h.root _ t ht
    have hl := hc.length
    refine ⟨hlt, g2, cur, by rw [← he]; exact g3, g4, by omega, ?_⟩
    rw [← hl]
    exact RVs.ren hc g6
  · obtain ⟨t, ht⟩ := Option.isSome_iff_exists.1 h1
    obtain ⟨t', ht'⟩ := Option.isSome_iff_exists.1 h2
    obtain ⟨_, u, hu, _⟩ := hs.root r t ht
    obtain ⟨_, u', hu', _⟩ := hs.root r' t' ht'
    exact hs.inj r r' h1 h2 (h.apart _ _ (by simp [hu]) (by simp [hu']) he)
end

/-- A state that says less, its places named anew but those below m. -/
def Sub (m : Nat) (env2 : List AV) (H2 : Heap) (n2 : Nat) (env : List AV) (H : Heap) : Prop :=
  ∃ ρ : Nat → Nat, (∀ i, i < m → ρ i = i) ∧ m ≤ n2 ∧ Rens ρ n2 env2 env ∧ HSub ρ n2 H2 H

theorem Rel.sub {w0 : World} {n m n2 : Nat} {β : Nat → Spot} {env env2 : List AV} {H H2 : Heap} {a : Act} {w : World} (h : Rel w0 n β env H a w) (hs : Sub m env2 H2 n2 env H) :
    ∃ β2, (∀ i, i < m → β2 i = β i) ∧ m ≤ n2 ∧ Rel w0 n2 β2 env2 H2 a w := by
  obtain ⟨ρ, h1, h2, h3, h4⟩ := hs
  refine ⟨fun i => β (ρ i), fun i hi => by simp [h1 i hi], h2, ⟨⟨fun t => RV.ren (h3.get t) (h.env.rel t), ?_⟩, h.heap.ren h4, h.below, h.defers⟩⟩
  rw [← h.env.len, h3.length]

theorem least (p : Nat → Prop) : ∀ k, p k → ∃ k, p k ∧ ∀ j, p j → k ≤ j := by
  intro k
  induction k using Nat.strongRecOn with
  | _ k ih =>
    intro hk
    by_cases h : ∃ j, j < k ∧ p j
    · obtain ⟨j, hj, hp⟩ := h
      exact ih j hj hp
    · exact ⟨k, hk, fun j hj => Nat.le_of_not_lt fun hlt => h ⟨j, hlt, hj⟩⟩

section
variable {P : Program} {Q : Post} {env : List AV} {H : Heap} {n : Nat}

/-- What is to hold at a loop's head again. -/
def Again (I : List AV → Heap → Nat → Prop) (μ : List AV → Heap → Nat → Nat) (m k : Nat) (Q : Post) : Post
  | .normal => fun env H _ => ∃ env2 H2 n2, Sub m env2 H2 n2 env H ∧ I env2 H2 n2 ∧ μ env2 H2 n2 < k
  | e => Q e

theorem Aw.loop {x : LCode} (I : List AV → Heap → Nat → Prop) (μ : List AV → Heap → Nat → Nat) (h0 : ∃ env2 H2 n2, Sub n env2 H2 n2 env H ∧ I env2 H2 n2)
    (round : ∀ env2 H2 n2, I env2 H2 n2 → Aw P x (Again I μ n (μ env2 H2 n2) Q) env2 H2 n2) : Aw P (.loop x) Q env H n := by
  intro cc hcc w0 β a w hR
  cases cc <;> simp only [lowCode, Option.some.injEq, reduceCtorEq] at hcc
  case loop cx =>
    obtain ⟨lx, g1, g2⟩ := Option.map_eq_some_iff.1 hcc
    cases g2
    let J : Nat → Act → World → Prop := fun k a w => ∃ env2 H2 n2 β2, I env2 H2 n2 ∧ μ env2 H2 n2 = k ∧ n ≤ n2 ∧ (∀ i, i < n → β2 i = β i) ∧ Rel w0 n2 β2 env2 H2 a w
    let ν : Act → World → Nat := fun a w => open Classical in if h : ∃ k, J k a w then Classical.choose (least (fun k => J k a w) h.choose h.choose_spec) else 0
    have hν : ∀ a w, (∃ k, J k a w) → J (ν a w) a w ∧ ∀ j, J j a w → ν a w ≤ j := fun a w h => by
      have e : ν a w = Classical.choose (least (fun k => J k a w) h.choose h.choose_spec) := by simp only [ν]; rw [dif_pos h]
      rw [e]
      exact Classical.choose_spec (least (fun k => J k a w) h.choose h.choose_spec)
    refine wp_loop (fun a w => ∃ k, J k a w) ν ?_ ?_
    · obtain ⟨env2, H2, n2, hs, hI⟩ := h0
      obtain ⟨β2, k1, k2, k3⟩ := hR.sub hs
      exact ⟨_, env2, H2, n2, β2, hI, rfl, k2, k1, k3⟩
    · intro a w hJ
      obtain ⟨⟨env2, H2, n2, β2, hI, hμ, k2, k1, k3⟩, _⟩ := hν a w hJ
      refine wp_mono (round env2 H2 n2 hI cx g1 w0 β2 a w k3) fun e a' w' hq => ?_
      obtain ⟨o, env', H', n', β', q1, q2, q3, q4, q5⟩ := hq
      cases e <;> simp only [outOf, Option.some.injEq, reduceCtorEq] at q1 <;> subst q1
      case normal =>
        obtain ⟨env3, H3, n3, hs, hI3, hlt⟩ := q2
        obtain ⟨β3, l1, l2, l3⟩ := q5.sub hs
        have hJ3 : J (μ env3 H3 n3) a' w' := ⟨env3, H3, n3, β3, hI3, rfl, l2, fun i hi => by rw [l1 i hi, q4 i (Nat.lt_of_lt_of_le hi k2), k1 i hi], l3⟩
        refine ⟨⟨_, hJ3⟩, ?_⟩
        have := (hν a' w' ⟨_, hJ3⟩).2 _ hJ3
        omega
      case exit i => exact ⟨_, env', H', n', β', rfl, q2, Nat.le_trans k2 q3, fun i hi => (q4 i (Nat.lt_of_lt_of_le hi k2)).trans (k1 i hi), q5⟩
      case ret => exact ⟨_, env', H', n', β', rfl, q2, Nat.le_trans k2 q3, fun i hi => (q4 i (Nat.lt_of_lt_of_le hi k2)).trans (k1 i hi), q5⟩
  case region => split at hcc <;> simp at hcc
  case seq => split at hcc <;> simp at hcc
  case cond => split at hcc <;> simp at hcc
  all_goals simp at hcc

theorem Aw.mono {x : LCode} {Q' : Post} (h : Aw P x Q env H n) (hq : ∀ o env H n, Q o env H n → Q' o env H n) : Aw P x Q' env H n :=
  fun c hc w0 β a w hR => wp_mono (h c hc w0 β a w hR) fun _ _ _ ⟨o, env', H', n', β', h1, h2, h3, h4, h5⟩ => ⟨o, env', H', n', β', h1, hq _ _ _ _ h2, h3, h4, h5⟩
end

/-! ### Functions -/
inductive LRes where
  | tmp (t : Nat)
  | cell (t : Nat) (ag : Bool) (m : Nat)

def lowRes (P : Program) : ResultVar → Option LRes
  | .tmp t => some (.tmp t)
  | .cell a t => match aggB P t, P.info? t with
    | some ag, some inf => some (.cell a ag inf.size)
    | _, _ => none

def lowRess (P : Program) : List ResultVar → Option (List LRes)
  | [] => some []
  | r :: rs => match lowRes P r, lowRess P rs with | some x, some xs => some (x :: xs) | _, _ => none

structure LFun where
  ntmps : Nat
  res : List LRes
  body : LCode

def lowFun (P : Program) (f : FuncId) : Option LFun :=
  match P.funcs[f]? with
  | some fn => match fn.body with
    | some c => match lowCode P c, lowRess P fn.results.toList with
      | some lc, some rs => some ⟨fn.ntmps, rs, lc⟩
      | _, _ => none
    | none => none
  | none => none

def resVal (env : List AV) (H : Heap) : LRes → Option AV
  | .tmp t => some (env.getD t .unk)
  | .cell t ag m => match env.getD t .unk with
    | .ptr r o => match H.get r with
      | some u => if o + m ≤ u.cs.length ∧ (ag = false → m = 1) then some (pickCells ag u.cs o m) else none
      | none => none
    | _ => none

def resVals (env : List AV) (H : Heap) : List LRes → Option (List AV)
  | [] => some []
  | r :: rs => match resVal env H r, resVals env H rs with | some x, some xs => some (x :: xs) | _, _ => none

def resOut (env : List AV) (H : Heap) (rs : List LRes) : Option AV :=
  match resVals env H rs with
  | some [v] => some v
  | some vs => some (.tup vs)
  | none => none

section
variable {P : Program} {w0 : World} {n : Nat} {β : Nat → Spot} {env : List AV} {H : Heap} {a : Act} {w : World}

theorem res_sound (h : Rel w0 n β env H a w) : ∀ (rs : List ResultVar) (ls : List LRes) (vs : List AV), lowRess P rs = some ls → resVals env H ls = some vs →
    ∃ us, (rs.mapM fun | .tmp t => pure (a.tmps.getD t undef) | .cell x t => do loadVar t (← asAddr (a.tmps.getD x undef)) : Sem (List Value)).run P w = .ok us w ∧ RVt w0 n β vs us
  | [], ls, vs, hl, hv => by
    simp only [lowRess, Option.some.injEq] at hl
    subst hl
    simp only [resVals, Option.some.injEq] at hv
    subst hv
    exact ⟨[], by simp, by simp [RVt]⟩
  | r :: rs, ls, vs, hl, hv => by
    simp only [lowRess] at hl
    split at hl
    · rename_i l ls' h1 h2
      cases hl
      simp only [resVals] at hv
      split at hv
      · rename_i x xs e1 e2
        cases hv
        obtain ⟨us, g1, g2⟩ := res_sound h rs ls' xs h2 e2
        have key : ∃ u, ((match r with | .tmp t => pure (a.tmps.getD t undef) | .cell x t => do loadVar t (← asAddr (a.tmps.getD x undef))) : Sem Value).run P w = .ok u w ∧ RV w0 n β x u := by
          cases r with
          | tmp t =>
            simp only [lowRes, Option.some.injEq] at h1
            subst h1
            simp only [resVal, Option.some.injEq] at e1
            subst e1
            exact ⟨_, rfl, h.env.rel t⟩
          | cell s t =>
            simp only [lowRes] at h1
            split at h1
            · rename_i ag inf k1 k2
              cases h1
              simp only [resVal] at e1
              split at e1
              · rename_i q p hp
                split at e1
                · rename_i t' hr
                  split at e1
                  · rename_i hb
                    cases e1
                    have h0 := h.env.rel s
                    rw [hp] at h0
                    simp only [RV] at h0
                    obtain ⟨v, hv1, hv2⟩ := pick_sound (q := ⟨(β q).b, 0, none⟩) (o := p) k1 k2 rfl hb.1 hb.2 (fun j hj => by
                      obtain ⟨v, e1, e2, e3, _⟩ := cell_own h.heap hr j hj
                      exact ⟨v, by rw [addr_add, Nat.zero_add]; exact e1, e2, e3⟩)
                    have hv1 := hv1 w (Below.refl _ _)
                    rw [addr_add, Nat.zero_add] at hv1
                    refine ⟨v, ?_, hv2⟩
                    simpa [h0.2, asAddr, Instr.loadAt, Instr.sureAddr] using hv1
                  · cases e1
                · cases e1
              · cases e1
            · cases h1
        obtain ⟨u, k1, k2⟩ := key
        refine ⟨u :: us, ?_, by simp only [RVt]; exact ⟨u, us, rfl, k2, g2⟩⟩
        simp only [List.mapM_cons, Sem.run_bind, k1, Result.andThen_ok, g1, Sem.run_pure]
      · cases hv
    · cases hl

theorem results_sound {fn : Func} {ls : List LRes} {r : AV} (h : Rel w0 n β env H a w) (hl : lowRess P fn.results.toList = some ls) (hr : resOut env H ls = some r) :
    ∃ v, (results fn a.tmps).run P w = .ok v w ∧ RV w0 n β r v := by
  unfold resOut at hr
  have harr : (results fn a.tmps).run P w = (((fn.results.toList.mapM fun | .tmp t => pure (a.tmps.getD t undef) | .cell x t => do loadVar t (← asAddr (a.tmps.getD x undef))) : Sem (List Value)).run P w).andThen
      fun us w' => .ok (if h : us.length = 1 then us[0] else .tuple us.toArray) w' := by
    unfold results
    obtain ⟨l, hl⟩ : ∃ l, fn.results = ⟨l⟩ := ⟨fn.results.toList, rfl⟩
    rw [hl]
    simp only [List.mapM_toArray, Sem.run_bind, Sem.run_map, Sem.run_pure]
    generalize Sem.run P _ w = q
    cases q <;> simp
  rw [harr]
  split at hr
  · rename_i v hv
    cases hr
    obtain ⟨us, g1, g2⟩ := res_sound h _ _ _ hl hv
    simp only [RVt] at g2
    obtain ⟨u, us', rfl, g3, rfl⟩ := g2
    exact ⟨u, by rw [g1]; simp, g3⟩
  · rename_i vs hne hv
    cases hr
    obtain ⟨us, g1, g2⟩ := res_sound h _ _ _ hl hv
    have hlen := g2.length
    have : ¬ us.length = 1 := fun e => by
      rw [e] at hlen
      cases vs with
      | nil => simp at hlen
      | cons v vs =>
        cases vs with
        | nil => exact hne v rfl
        | cons _ _ => simp at hlen
    exact ⟨.tuple us.toArray, by rw [g1]; simp [this], by simp only [RV]; exact ⟨_, rfl, g2⟩⟩
  · cases hr

theorem RVt.get : ∀ {xs : List AV} {vs : List Value}, RVt w0 n β xs vs → ∀ (i : Nat), i < xs.length → RV w0 n β (xs.getD i .unk) (vs.getD i undef)
  | [], _, _, _, hi => by simp at hi
  | x :: xs, _, h, i, hi => by
    simp only [RVt] at h
    obtain ⟨v, vs', rfl, h1, h2⟩ := h
    cases i with
    | zero => exact h1
    | succ i => simpa using h2.get i (by simpa using hi)

/-- What a function hands back, said with less, its places named anew but those below n. -/
def Gives (n : Nat) (r : AV) (H2 : Heap) (n2 : Nat) (ls : List LRes) : Post
  | .exit _ => fun _ _ _ => False
  | _ => fun env H _ => ∃ r', resOut env H ls = some r' ∧ ∃ ρ : Nat → Nat, (∀ i, i < n → ρ i = i) ∧ n ≤ n2 ∧ Ren ρ n2 r r' ∧ HSub ρ n2 H2 H

theorem Inl.of_aw {f : FuncId} {lf : LFun} {args : List AV} {r : AV} {H2 : Heap} {n2 : Nat} (hl : lowFun P f = some lf)
    (h : Aw P lf.body (Gives n r H2 n2 lf.res) (args ++ List.replicate (lf.ntmps - args.length) .und) H n) : Inl P f args H n r H2 n2 := by
  intro w0 w β vs hB hH hv
  unfold lowFun at hl
  split at hl
  · rename_i fn hfn
    split at hl
    · rename_i c hc
      split at hl
      · rename_i lc rs h1 h2
        cases hl
        have hlen := hv.length
        refine calls_of_wp hfn hc ?_
        have hR : Rel w0 n β (args ++ List.replicate (fn.ntmps - args.length) .und) H { tmps := vs.toArray ++ Array.replicate (fn.ntmps - vs.toArray.size) undef, defers := [] } w := by
          refine ⟨⟨fun t => ?_, by simp [hlen]⟩, hH, hB, rfl⟩
          have e : (vs.toArray ++ Array.replicate (fn.ntmps - vs.toArray.size) undef).getD t undef = if t < vs.length then vs.getD t undef else undef := by
            simp only [Array.getD_eq_getD_getElem?]
            by_cases ht : t < vs.length
            · rw [if_pos ht, Array.getElem?_append_left (by simpa using ht)]; simp [List.getD]
            · rw [if_neg ht, Array.getElem?_append_right (by simpa using ht)]
              simp only [Array.getElem?_replicate]
              split <;> rfl
          rw [e]
          by_cases ht : t < args.length
          · have := hv.get t ht
            rw [if_pos (by omega)]
            simpa [List.getD, List.getElem?_append_left ht] using this
          · rw [if_neg (by omega)]
            by_cases h3 : t < args.length + (fn.ntmps - args.length)
            · have : (args ++ List.replicate (fn.ntmps - args.length) AV.und).getD t .unk = .und := by
                simp only [List.getD]
                rw [List.getElem?_append_right (by omega), List.getElem?_replicate, if_pos (by omega)]; rfl
              rw [this]; simp [RV]
            · have : (args ++ List.replicate (fn.ntmps - args.length) AV.und).getD t .unk = .unk := by
                simp only [List.getD]
                rw [List.getElem?_append_right (by omega), List.getElem?_replicate, if_neg (by omega)]; rfl
              rw [this]; simp [RV]
        refine wp_mono (h c h1 w0 β _ w hR) fun e a' w' hq => ?_
        obtain ⟨o, env', H', n', β', q1, q2, q3, q4, q5⟩ := hq
        have fin : (∃ r', resOut env' H' rs = some r' ∧ ∃ ρ : Nat → Nat, (∀ i, i < n → ρ i = i) ∧ n ≤ n2 ∧ Ren ρ n2 r r' ∧ HSub ρ n2 H2 H') → a'.defers = [] ∧ ∃ v, (results fn a'.tmps).run P w' = .ok v w' ∧
            ∃ v1 β'1, Ending.returned v = .returned v1 ∧ n ≤ n2 ∧ (∀ i, i < n → β'1 i = β i) ∧ RV w0 n2 β'1 r v1 ∧ RH w0 n2 β'1 H2 w' ∧ Below w0.heap.size w0 w' := by
          rintro ⟨r', k1, ρ, k2, k3, k4, k5⟩
          obtain ⟨v, l1, l2⟩ := results_sound q5 h2 k1
          exact ⟨q5.defers, v, l1, v, fun i => β' (ρ i), rfl, k3, fun i hi => by simp [k2 i hi, q4 i hi], RV.ren k4 l2, q5.heap.ren k5, q5.below⟩
        cases e <;> simp only [outOf, Option.some.injEq, reduceCtorEq] at q1 <;> subst q1
        case normal => exact fin q2
        case exit i => exact q2.elim
        case ret => exact fin q2
      · cases hl
    · cases hl
  · cases hl

theorem Pur.of_inl {f : FuncId} {args : List AV} {r : AV} {Hr : Heap} {m : Nat} (h : Inl P f args [] 0 r Hr m) : Pur P f args r Hr m := by
  intro w β vs hv
  refine (h w w β vs (Below.refl _ _) ⟨fun r t hr => by simp [Heap.get] at hr, fun r r' hr => by simp [Heap.get] at hr⟩ hv).mono fun e w' ⟨v, β', h1, _, _, h4, h5, h6⟩ => ⟨v, β', h1, h4, h5, h6⟩
end
/-! ### Words for the walks -/
section
variable {P : Program} {Q : Post} {env : List AV} {H : Heap} {n : Nat}

theorem then_normal {b : LCode} : Post.then P b Q .normal = Aw P b Q := (rfl)
theorem then_ret {b : LCode} : Post.then P b Q .ret = Q .ret := (rfl)
theorem then_exit {b : LCode} {i : Nat} : Post.then P b Q (.exit i) = Q (.exit i) := (rfl)
theorem block_normal {i : Nat} : Post.inBlock i Q .normal = Q .normal := (rfl)
theorem block_ret {i : Nat} : Post.inBlock i Q .ret = Q .ret := (rfl)
theorem block_same {i : Nat} : Post.inBlock i Q (.exit i) = Q .normal := by simp [Post.inBlock]
theorem block_exit {i j : Nat} (h : ¬ j = i) : Post.inBlock i Q (.exit j) = Q (.exit j) := by simp [Post.inBlock, h]
theorem again_ret {I : List AV → Heap → Nat → Prop} {μ : List AV → Heap → Nat → Nat} {m k : Nat} : Again I μ m k Q .ret = Q .ret := (rfl)
theorem again_exit {I : List AV → Heap → Nat → Prop} {μ : List AV → Heap → Nat → Nat} {m k i : Nat} : Again I μ m k Q (.exit i) = Q (.exit i) := (rfl)

/-- A value that is handed on as it is. -/
def plainV : AV → Bool
  | .nil | .bool _ | .int _ _ => true
  | .bor _ cs => cleans cs
  | _ => false

def plainA : AV → Bool
  | .agg vs => vs.all plainV
  | x => plainV x

theorem Clo.plainV {x : AV} (h : Go.Proofs.Ytholbkojdcdokab.plainV x = true) : Clo H x x := by
  cases x <;> simp only [Go.Proofs.Ytholbkojdcdokab.plainV, Bool.false_eq_true] at h
  case nil => exact .nil
  case bool b => exact .bool b
  case int k z => exact .int k z
  case bor m cs => exact .bor m cs h

theorem Clos.plain : ∀ {xs : List AV}, xs.all Go.Proofs.Ytholbkojdcdokab.plainV = true → Clos H xs xs
  | [], _ => .nil
  | x :: xs, h => by
    simp only [List.all_cons, Bool.and_eq_true] at h
    exact .cons x x xs xs (Clo.plainV h.1) (Clos.plain h.2)

theorem Clo.plain {x : AV} (h : plainA x = true) : Clo H x x := by
  cases x with
  | agg vs => exact .agg vs vs (Clos.plain h)
  | nil => exact Clo.plainV h
  | bool b => exact Clo.plainV h
  | int k z => exact Clo.plainV h
  | bor m cs => exact Clo.plainV h
  | _ => simp [plainA, Go.Proofs.Ytholbkojdcdokab.plainV] at h

theorem Cloz.plain : ∀ {xs : List AV}, xs.all plainA = true → Cloz H xs xs
  | [], _ => by simp [Cloz]
  | x :: xs, h => by
    simp only [List.all_cons, Bool.and_eq_true] at h
    simp only [Cloz]
    exact ⟨x, xs, rfl, Clo.plain h.1, Cloz.plain h.2⟩

theorem up_flat1 {d : Nat} {x : AV} (h : flat1 x = true) : x.up d = x := by cases x <;> simp_all [flat1, AV.up]
theorem ups_flat {d : Nat} : ∀ {xs : List AV}, xs.all flat1 = true → ups d xs = xs
  | [], _ => rfl
  | x :: xs, h => by
    simp only [List.all_cons, Bool.and_eq_true] at h
    simp [ups, up_flat1 h.1, ups_flat h.2]
theorem up_flat {d : Nat} {x : AV} (h : x.isFlat = true) : x.up d = x := by
  cases x with
  | agg vs => simp only [AV.up]; rw [ups_flat h]
  | _ => simp_all [AV.isFlat, AV.up]
theorem owns_flat : ∀ {xs : List AV}, xs.all flat1 = true → owns xs = true
  | [], _ => rfl
  | x :: xs, h => by
    simp only [List.all_cons, Bool.and_eq_true] at h
    simp only [owns, Bool.and_eq_true]
    exact ⟨by cases x <;> simp_all [flat1, AV.own], owns_flat h.2⟩
theorem own_flat {x : AV} (h : x.isFlat = true) : x.own = true := by
  cases x with
  | agg vs => simp only [AV.own]; exact owns_flat h
  | _ => simp_all [AV.isFlat, AV.own]

/-- A call of a function that hands back a plain value. -/
theorem Inl.flat {f : FuncId} {args args' : List AV} {r : AV} (hc : Cloz H args args') (hp : Pur P f args' r [] 0) (hf : r.isFlat = true) : Inl P f args H n r H n := by
  have := Inl.of_pur (H := H) (n := n) hc hp (own_flat hf) rfl
  simpa [upHeap, up_flat hf] using this

theorem clean_flat1 {x : AV} (h : flat1 x = true) : x.clean = true := by cases x <;> simp_all [flat1, AV.clean]
theorem cleans_flat : ∀ {xs : List AV}, xs.all flat1 = true → cleans xs = true
  | [], _ => rfl
  | x :: xs, h => by
    simp only [List.all_cons, Bool.and_eq_true] at h
    simp only [cleans, Bool.and_eq_true]
    exact ⟨clean_flat1 h.1, cleans_flat h.2⟩
theorem clean_flat {x : AV} (h : x.isFlat = true) : x.clean = true := by
  cases x with
  | agg vs => simp only [AV.clean]; exact cleans_flat h
  | _ => simp_all [AV.isFlat, AV.clean]

/-- A plain answer. -/
theorem gives_ret {r r' : AV} {ls : List LRes} (h : resOut env H ls = some r') (he : r' = r) (hf : r.isFlat = true) : Gives 0 r [] 0 ls .ret env H n := by
  subst he
  exact ⟨r', h, id, fun _ _ => rfl, Nat.le_refl _, Ren.clean (clean_flat hf), ⟨fun r t hr => by simp [Heap.get] at hr, fun r r' hr => by simp [Heap.get] at hr⟩⟩

theorem getD_set_same {l : List AV} {i : Nat} {x d : AV} (h : i < l.length) : (l.set i x).getD i d = x := by rw [getD_set, if_pos ⟨rfl, h⟩]
end

/-! ### Forgetting at a loop's head -/
mutual
def AV.okB (n : Nat) : AV → Bool
  | .ptr r _ => decide (r < n)
  | .sref r _ _ _ => decide (r < n)
  | .bor _ cs => okBs n cs
  | .bptr cs _ => okBs n cs
  | .agg vs => okBs n vs
  | .tup vs => okBs n vs
  | .unk => true
  | .und => true
  | .nil => true
  | .bool _ => true
  | .int _ _ => true
def okBs (n : Nat) : List AV → Bool
  | [] => true
  | v :: vs => v.okB n && okBs n vs
end

mutual
theorem Ren.ok {n : Nat} : ∀ {x : AV}, x.okB n = true → Ren id n x x
  | .unk, _ => by simp [Ren]
  | .und, _ => by simp [Ren]
  | .nil, _ => by simp [Ren]
  | .bool _, _ => by simp [Ren]
  | .int _ _, _ => by simp [Ren]
  | .ptr r _, h => by simp only [AV.okB, decide_eq_true_eq] at h; simp [Ren, h]
  | .sref r _ _ _, h => by simp only [AV.okB, decide_eq_true_eq] at h; simp [Ren, h]
  | .bor m cs, h => by simp only [Ren]; exact ⟨_, rfl, Rens.ok (by simpa [AV.okB] using h)⟩
  | .bptr cs o, h => by simp only [Ren]; exact ⟨_, rfl, Rens.ok (by simpa [AV.okB] using h)⟩
  | .agg vs, h => by simp only [Ren]; exact ⟨_, rfl, Rens.ok (by simpa [AV.okB] using h)⟩
  | .tup vs, h => by simp only [Ren]; exact ⟨_, rfl, Rens.ok (by simpa [AV.okB] using h)⟩
theorem Rens.ok {n : Nat} : ∀ {xs : List AV}, okBs n xs = true → Rens id n xs xs
  | [], _ => by simp [Rens]
  | _ :: _, h => by
    simp only [okBs, Bool.and_eq_true] at h
    simp only [Rens]
    exact ⟨_, _, rfl, Ren.ok h.1, Rens.ok h.2⟩
end

theorem okBs_ints {n : Nat} {k : IntKind} : ∀ {xs : List Int}, okBs n (xs.map (AV.int k)) = true
  | [] => rfl
  | _ :: xs => by simp [okBs, AV.okB, okBs_ints (xs := xs)]
theorem cleans_ints {k : IntKind} : ∀ {xs : List Int}, cleans (xs.map (AV.int k)) = true
  | [] => rfl
  | _ :: xs => by simp [cleans, AV.clean, cleans_ints (xs := xs)]
theorem owns_ints {k : IntKind} : ∀ {xs : List Int}, owns (xs.map (AV.int k)) = true
  | [] => rfl
  | _ :: xs => by simp [owns, AV.own, owns_ints (xs := xs)]
theorem ups_ints {d : Nat} {k : IntKind} : ∀ {xs : List Int}, ups d (xs.map (AV.int k)) = xs.map (AV.int k)
  | [] => rfl
  | _ :: xs => by simp [ups, AV.up, ups_ints (xs := xs)]
theorem okBs_append {n : Nat} : ∀ {xs ys : List AV}, okBs n (xs ++ ys) = (okBs n xs && okBs n ys)
  | [], _ => by simp [okBs]
  | _ :: xs, ys => by simp [okBs, okBs_append (xs := xs) (ys := ys), Bool.and_assoc]

def live (ls : List Nat) (i : Nat) : Bool := ls.any (fun j => j == i)

/-- The slots of ls stay, of the others nothing is known. -/
def forget (ls : List Nat) : Nat → List AV → List AV
  | _, [] => []
  | i, v :: vs => (match live ls i with | true => v | false => .unk) :: forget ls (i + 1) vs

theorem Rens.forget {n : Nat} {ls : List Nat} : ∀ {i : Nat} {xs : List AV}, okBs n (Go.Proofs.Ytholbkojdcdokab.forget ls i xs) = true → Rens id n (Go.Proofs.Ytholbkojdcdokab.forget ls i xs) xs
  | _, [], _ => by simp [Go.Proofs.Ytholbkojdcdokab.forget, Rens]
  | i, x :: xs, h => by
    simp only [Go.Proofs.Ytholbkojdcdokab.forget, okBs, Bool.and_eq_true] at h
    simp only [Go.Proofs.Ytholbkojdcdokab.forget, Rens]
    refine ⟨_, _, rfl, ?_, Rens.forget h.2⟩
    cases hl : live ls i with
    | true => rw [hl] at h; exact Ren.ok h.1
    | false => simp [Ren]

theorem hsub_nil {n2 : Nat} {H : Heap} : HSub id n2 [] H := ⟨fun r t h => by simp [Heap.get] at h, fun r r' h => by simp [Heap.get] at h⟩
theorem hsub_cons {n2 : Nat} {r : Nat} {t : Root} {H2 H : Heap} (hr : H.get r = some t) (hn : r < n2) (hc : okBs n2 t.cs = true) (h : HSub id n2 H2 H) : HSub id n2 ((r, some t) :: H2) H := by
  refine ⟨fun r' t' h' => ?_, fun r1 r2 _ _ e => e⟩
  simp only [Heap.get] at h'
  split at h'
  · rename_i e; subst e; cases h'; exact ⟨hn, t, hr, rfl, Rens.ok hc⟩
  · exact h.root r' t' h'

theorem sub_forget {m n2 : Nat} (ls : List Nat) {env : List AV} {H H2 : Heap} (hm : m ≤ n2) (he : okBs n2 (forget ls 0 env) = true) (hH : HSub id n2 H2 H) : Sub m (forget ls 0 env) H2 n2 env H :=
  ⟨id, fun _ _ => rfl, hm, Rens.forget he, hH⟩

def intOfA : AV → Nat
  | .int _ z => z.toNat
  | _ => 0

/-- An answer with fresh memory. -/
theorem gives_fresh {r : AV} {H H2 : Heap} {env : List AV} {n n2 : Nat} {ls : List LRes} (ρ : Nat → Nat) {r' : AV} (h : resOut env H ls = some r') (hr : Ren ρ n2 r r') (hH : HSub ρ n2 H2 H) : Gives 0 r H2 n2 ls .ret env H n :=
  ⟨r', h, ρ, fun i hi => absurd hi (Nat.not_lt_zero i), Nat.zero_le _, hr, hH⟩

theorem wrap_in {x : Int} (h1 : -9223372036854775808 ≤ x) (h2 : x ≤ 9223372036854775807) : IntKind.i64.wrap x = x := by rw [IntKind.wrap_i64]; omega

theorem Aw.cond_true {P : Program} {Q : Post} {env : List AV} {H : Heap} {n : Nat} {c : Opd} {x y : LCode} (hc : c.val env = .bool true) (h1 : Aw P x Q env H n) : Aw P (.cond c x y) Q env H n := Aw.cond hc (fun _ => h1) (fun h => by cases h)
theorem Aw.cond_false {P : Program} {Q : Post} {env : List AV} {H : Heap} {n : Nat} {c : Opd} {x y : LCode} (hc : c.val env = .bool false) (h1 : Aw P y Q env H n) : Aw P (.cond c x y) Q env H n := Aw.cond hc (fun h => by cases h) (fun _ => h1)

theorem id_aw {P : Program} {Q : Post} {env : List AV} {H : Heap} {n : Nat} {c : LCode} (h : Aw P c Q env H n) : Aw P c Q env H n := h
theorem id_cond {P : Program} {Q : Post} {env : List AV} {H : Heap} {n : Nat} {c : Opd} {x y : LCode} (h : Aw P (.cond c x y) Q env H n) : Aw P (.cond c x y) Q env H n := h

/-! ### One operation at a time -/
section
variable {P : Program} {env : List AV} {H : Heap} {n : Nat} {K : List AV → Heap → Nat → Prop} {Kq : List AV → Prop} {K1 : AV → Heap → Nat → Prop} {os : List LOper} {d : Option Nat} {op : LOp} {t : Nat} {want b : Bool}

theorem xops_nil : xops P K [] env H n = K env H n := (rfl)
theorem xops_none : xops P K (⟨d, op, none⟩ :: os) env H n = xop P env H n (fun v H' n' => xops P K os (put env d v) H' n') op := (rfl)
theorem xqs_nil : xqs P H n Kq [] env = Kq env := (rfl)
theorem xqs_none : xqs P H n Kq (⟨d, op, none⟩ :: os) env = xq P env H n (fun v => xqs P H n Kq os (put env d v)) op := (rfl)

theorem id_st (h : xops P K (⟨d, op, some (t, want)⟩ :: os) env H n) : xops P K (⟨d, op, some (t, want)⟩ :: os) env H n := h
theorem id_sq (h : xqs P H n Kq (⟨d, op, some (t, want)⟩ :: os) env) : xqs P H n Kq (⟨d, op, some (t, want)⟩ :: os) env := h
theorem st_run (hb : env.getD t .unk = .bool want) (h : xops P K (⟨d, op, none⟩ :: os) env H n) : xops P K (⟨d, op, some (t, want)⟩ :: os) env H n := by
  simp only [xops, hb, if_true] at h ⊢; exact h
theorem st_skip (hb : env.getD t .unk = .bool (!want)) (h : xops P K os (put env d .und) H n) : xops P K (⟨d, op, some (t, want)⟩ :: os) env H n := by
  simp only [xops, hb]; rw [if_neg (by cases want <;> simp)]; exact h
theorem st_und (hb : env.getD t .unk = .und) (h : xops P K os (put env d .und) H n) : xops P K (⟨d, op, some (t, want)⟩ :: os) env H n := by
  simp only [xops, hb]; exact h
theorem st_if (hb : env.getD t .unk = .bool b) (h1 : b = true → xops P K (⟨d, op, some (t, want)⟩ :: os) env H n) (h2 : b = false → xops P K (⟨d, op, some (t, want)⟩ :: os) env H n) : xops P K (⟨d, op, some (t, want)⟩ :: os) env H n := by
  cases b
  · exact h2 rfl
  · exact h1 rfl
theorem sq_run (hb : env.getD t .unk = .bool want) (h : xqs P H n Kq (⟨d, op, none⟩ :: os) env) : xqs P H n Kq (⟨d, op, some (t, want)⟩ :: os) env := by
  simp only [xqs, hb, if_true] at h ⊢; exact h
theorem sq_skip (hb : env.getD t .unk = .bool (!want)) (h : xqs P H n Kq os (put env d .und)) : xqs P H n Kq (⟨d, op, some (t, want)⟩ :: os) env := by
  simp only [xqs, hb]; rw [if_neg (by cases want <;> simp)]; exact h
theorem sq_und (hb : env.getD t .unk = .und) (h : xqs P H n Kq os (put env d .und)) : xqs P H n Kq (⟨d, op, some (t, want)⟩ :: os) env := by
  simp only [xqs, hb]; exact h
theorem sq_if (hb : env.getD t .unk = .bool b) (h1 : b = true → xqs P H n Kq (⟨d, op, some (t, want)⟩ :: os) env) (h2 : b = false → xqs P H n Kq (⟨d, op, some (t, want)⟩ :: os) env) : xqs P H n Kq (⟨d, op, some (t, want)⟩ :: os) env := by
  cases b
  · exact h2 rfl
  · exact h1 rfl

theorem xops_mv {a0 : Opd} : xops P K (⟨d, .mv a0, none⟩ :: os) env H n = xop P env H n (fun v H' n' => xops P K os (put env d v) H' n') (.mv a0) := (rfl)
theorem xqs_mv {a0 : Opd} : xqs P H n Kq (⟨d, .mv a0, none⟩ :: os) env = xq P env H n (fun v => xqs P H n Kq os (put env d v)) (.mv a0) := (rfl)
theorem xops_box {a0 : TypeId} {a1 : Opd} : xops P K (⟨d, .box a0 a1, none⟩ :: os) env H n = xop P env H n (fun v H' n' => xops P K os (put env d v) H' n') (.box a0 a1) := (rfl)
theorem xqs_box {a0 : TypeId} {a1 : Opd} : xqs P H n Kq (⟨d, .box a0 a1, none⟩ :: os) env = xq P env H n (fun v => xqs P H n Kq os (put env d v)) (.box a0 a1) := (rfl)
theorem xops_fresh {a0 : TypeId} {a1 : List AV} : xops P K (⟨d, .fresh a0 a1, none⟩ :: os) env H n = xop P env H n (fun v H' n' => xops P K os (put env d v) H' n') (.fresh a0 a1) := (rfl)
theorem xqs_fresh {a0 : TypeId} {a1 : List AV} : xqs P H n Kq (⟨d, .fresh a0 a1, none⟩ :: os) env = xq P env H n (fun v => xqs P H n Kq os (put env d v)) (.fresh a0 a1) := (rfl)
theorem xops_bld {a0 : List AV} {a1 : List (Nat × Nat × Opd)} : xops P K (⟨d, .bld a0 a1, none⟩ :: os) env H n = xop P env H n (fun v H' n' => xops P K os (put env d v) H' n') (.bld a0 a1) := (rfl)
theorem xqs_bld {a0 : List AV} {a1 : List (Nat × Nat × Opd)} : xqs P H n Kq (⟨d, .bld a0 a1, none⟩ :: os) env = xq P env H n (fun v => xqs P H n Kq os (put env d v)) (.bld a0 a1) := (rfl)
theorem xops_bsl {a0 : TypeId} {a1 : Nat} {a2 : Nat} {a3 : List AV} {a4 : List (Nat × Nat × Opd)} : xops P K (⟨d, .bsl a0 a1 a2 a3 a4, none⟩ :: os) env H n = xop P env H n (fun v H' n' => xops P K os (put env d v) H' n') (.bsl a0 a1 a2 a3 a4) := (rfl)
theorem xqs_bsl {a0 : TypeId} {a1 : Nat} {a2 : Nat} {a3 : List AV} {a4 : List (Nat × Nat × Opd)} : xqs P H n Kq (⟨d, .bsl a0 a1 a2 a3 a4, none⟩ :: os) env = xq P env H n (fun v => xqs P H n Kq os (put env d v)) (.bsl a0 a1 a2 a3 a4) := (rfl)
theorem xops_load {a0 : Bool} {a1 : Nat} {a2 : Opd} : xops P K (⟨d, .load a0 a1 a2, none⟩ :: os) env H n = xop P env H n (fun v H' n' => xops P K os (put env d v) H' n') (.load a0 a1 a2) := (rfl)
theorem xqs_load {a0 : Bool} {a1 : Nat} {a2 : Opd} : xqs P H n Kq (⟨d, .load a0 a1 a2, none⟩ :: os) env = xq P env H n (fun v => xqs P H n Kq os (put env d v)) (.load a0 a1 a2) := (rfl)
theorem xops_store {a0 : Nat} {a1 : Opd} {a2 : Opd} : xops P K (⟨d, .store a0 a1 a2, none⟩ :: os) env H n = xop P env H n (fun v H' n' => xops P K os (put env d v) H' n') (.store a0 a1 a2) := (rfl)
theorem xqs_store {a0 : Nat} {a1 : Opd} {a2 : Opd} : xqs P H n Kq (⟨d, .store a0 a1 a2, none⟩ :: os) env = xq P env H n (fun v => xqs P H n Kq os (put env d v)) (.store a0 a1 a2) := (rfl)
theorem xops_bin {a0 : BinOp} {a1 : Opd} {a2 : Opd} : xops P K (⟨d, .bin a0 a1 a2, none⟩ :: os) env H n = xop P env H n (fun v H' n' => xops P K os (put env d v) H' n') (.bin a0 a1 a2) := (rfl)
theorem xqs_bin {a0 : BinOp} {a1 : Opd} {a2 : Opd} : xqs P H n Kq (⟨d, .bin a0 a1 a2, none⟩ :: os) env = xq P env H n (fun v => xqs P H n Kq os (put env d v)) (.bin a0 a1 a2) := (rfl)
theorem xops_binb {a0 : Bool} {a1 : Opd} {a2 : Opd} : xops P K (⟨d, .binb a0 a1 a2, none⟩ :: os) env H n = xop P env H n (fun v H' n' => xops P K os (put env d v) H' n') (.binb a0 a1 a2) := (rfl)
theorem xqs_binb {a0 : Bool} {a1 : Opd} {a2 : Opd} : xqs P H n Kq (⟨d, .binb a0 a1 a2, none⟩ :: os) env = xq P env H n (fun v => xqs P H n Kq os (put env d v)) (.binb a0 a1 a2) := (rfl)
theorem xops_un {a0 : UnOp} {a1 : Opd} : xops P K (⟨d, .un a0 a1, none⟩ :: os) env H n = xop P env H n (fun v H' n' => xops P K os (put env d v) H' n') (.un a0 a1) := (rfl)
theorem xqs_un {a0 : UnOp} {a1 : Opd} : xqs P H n Kq (⟨d, .un a0 a1, none⟩ :: os) env = xq P env H n (fun v => xqs P H n Kq os (put env d v)) (.un a0 a1) := (rfl)
theorem xops_mk {a0 : TypeId} {a1 : Nat} {a2 : Nat} {a3 : List AV} {a4 : Opd} : xops P K (⟨d, .mk a0 a1 a2 a3 a4, none⟩ :: os) env H n = xop P env H n (fun v H' n' => xops P K os (put env d v) H' n') (.mk a0 a1 a2 a3 a4) := (rfl)
theorem xqs_mk {a0 : TypeId} {a1 : Nat} {a2 : Nat} {a3 : List AV} {a4 : Opd} : xqs P H n Kq (⟨d, .mk a0 a1 a2 a3 a4, none⟩ :: os) env = xq P env H n (fun v => xqs P H n Kq os (put env d v)) (.mk a0 a1 a2 a3 a4) := (rfl)
theorem xops_slc {a0 : Nat} {a1 : Opd} {a2 : Option Opd} {a3 : Option Opd} : xops P K (⟨d, .slc a0 a1 a2 a3, none⟩ :: os) env H n = xop P env H n (fun v H' n' => xops P K os (put env d v) H' n') (.slc a0 a1 a2 a3) := (rfl)
theorem xqs_slc {a0 : Nat} {a1 : Opd} {a2 : Option Opd} {a3 : Option Opd} : xqs P H n Kq (⟨d, .slc a0 a1 a2 a3, none⟩ :: os) env = xq P env H n (fun v => xqs P H n Kq os (put env d v)) (.slc a0 a1 a2 a3) := (rfl)
theorem xops_fadr {a0 : Nat} {a1 : Opd} : xops P K (⟨d, .fadr a0 a1, none⟩ :: os) env H n = xop P env H n (fun v H' n' => xops P K os (put env d v) H' n') (.fadr a0 a1) := (rfl)
theorem xqs_fadr {a0 : Nat} {a1 : Opd} : xqs P H n Kq (⟨d, .fadr a0 a1, none⟩ :: os) env = xq P env H n (fun v => xqs P H n Kq os (put env d v)) (.fadr a0 a1) := (rfl)
theorem xops_fld {a0 : Bool} {a1 : Nat} {a2 : Nat} {a3 : Opd} : xops P K (⟨d, .fld a0 a1 a2 a3, none⟩ :: os) env H n = xop P env H n (fun v H' n' => xops P K os (put env d v) H' n') (.fld a0 a1 a2 a3) := (rfl)
theorem xqs_fld {a0 : Bool} {a1 : Nat} {a2 : Nat} {a3 : Opd} : xqs P H n Kq (⟨d, .fld a0 a1 a2 a3, none⟩ :: os) env = xq P env H n (fun v => xqs P H n Kq os (put env d v)) (.fld a0 a1 a2 a3) := (rfl)
theorem xops_iadr {a0 : Nat} {a1 : Opd} {a2 : Opd} : xops P K (⟨d, .iadr a0 a1 a2, none⟩ :: os) env H n = xop P env H n (fun v H' n' => xops P K os (put env d v) H' n') (.iadr a0 a1 a2) := (rfl)
theorem xqs_iadr {a0 : Nat} {a1 : Opd} {a2 : Opd} : xqs P H n Kq (⟨d, .iadr a0 a1 a2, none⟩ :: os) env = xq P env H n (fun v => xqs P H n Kq os (put env d v)) (.iadr a0 a1 a2) := (rfl)
theorem xops_ext {a0 : Opd} {a1 : Nat} : xops P K (⟨d, .ext a0 a1, none⟩ :: os) env H n = xop P env H n (fun v H' n' => xops P K os (put env d v) H' n') (.ext a0 a1) := (rfl)
theorem xqs_ext {a0 : Opd} {a1 : Nat} : xqs P H n Kq (⟨d, .ext a0 a1, none⟩ :: os) env = xq P env H n (fun v => xqs P H n Kq os (put env d v)) (.ext a0 a1) := (rfl)
theorem xops_len {a0 : Opd} : xops P K (⟨d, .len a0, none⟩ :: os) env H n = xop P env H n (fun v H' n' => xops P K os (put env d v) H' n') (.len a0) := (rfl)
theorem xqs_len {a0 : Opd} : xqs P H n Kq (⟨d, .len a0, none⟩ :: os) env = xq P env H n (fun v => xqs P H n Kq os (put env d v)) (.len a0) := (rfl)
theorem xops_app {a0 : TypeId} {a1 : Nat} {a2 : Nat} {a3 : List AV} {a4 : Opd} {a5 : Opd} : xops P K (⟨d, .app a0 a1 a2 a3 a4 a5, none⟩ :: os) env H n = xop P env H n (fun v H' n' => xops P K os (put env d v) H' n') (.app a0 a1 a2 a3 a4 a5) := (rfl)
theorem xqs_app {a0 : TypeId} {a1 : Nat} {a2 : Nat} {a3 : List AV} {a4 : Opd} {a5 : Opd} : xqs P H n Kq (⟨d, .app a0 a1 a2 a3 a4 a5, none⟩ :: os) env = xq P env H n (fun v => xqs P H n Kq os (put env d v)) (.app a0 a1 a2 a3 a4 a5) := (rfl)
theorem xops_cpy {a0 : Nat} {a1 : Opd} {a2 : Opd} : xops P K (⟨d, .cpy a0 a1 a2, none⟩ :: os) env H n = xop P env H n (fun v H' n' => xops P K os (put env d v) H' n') (.cpy a0 a1 a2) := (rfl)
theorem xqs_cpy {a0 : Nat} {a1 : Opd} {a2 : Opd} : xqs P H n Kq (⟨d, .cpy a0 a1 a2, none⟩ :: os) env = xq P env H n (fun v => xqs P H n Kq os (put env d v)) (.cpy a0 a1 a2) := (rfl)
theorem xops_cvt {a0 : IntKind} {a1 : Opd} : xops P K (⟨d, .cvt a0 a1, none⟩ :: os) env H n = xop P env H n (fun v H' n' => xops P K os (put env d v) H' n') (.cvt a0 a1) := (rfl)
theorem xqs_cvt {a0 : IntKind} {a1 : Opd} : xqs P H n Kq (⟨d, .cvt a0 a1, none⟩ :: os) env = xq P env H n (fun v => xqs P H n Kq os (put env d v)) (.cvt a0 a1) := (rfl)

theorem id_pk {c x y : Opd} (h : xops P K (⟨d, .pick c x y, none⟩ :: os) env H n) : xops P K (⟨d, .pick c x y, none⟩ :: os) env H n := h
theorem id_pq {c x y : Opd} (h : xqs P H n Kq (⟨d, .pick c x y, none⟩ :: os) env) : xqs P H n Kq (⟨d, .pick c x y, none⟩ :: os) env := h
theorem pk_true {c x y : Opd} (hb : c.val env = .bool true) (h : xops P K os (put env d (x.val env)) H n) : xops P K (⟨d, .pick c x y, none⟩ :: os) env H n := by simp only [xops, xop, hb, if_true]; exact h
theorem pk_false {c x y : Opd} (hb : c.val env = .bool false) (h : xops P K os (put env d (y.val env)) H n) : xops P K (⟨d, .pick c x y, none⟩ :: os) env H n := by simp only [xops, xop, hb]; rw [if_neg (by simp)]; exact h
theorem pk_if {c x y : Opd} (hb : c.val env = .bool b) (h1 : b = true → xops P K os (put env d (x.val env)) H n) (h2 : b = false → xops P K os (put env d (y.val env)) H n) : xops P K (⟨d, .pick c x y, none⟩ :: os) env H n := by
  cases b
  · exact pk_false hb (h2 rfl)
  · exact pk_true hb (h1 rfl)
theorem pq_true {c x y : Opd} (hb : c.val env = .bool true) (h : xqs P H n Kq os (put env d (x.val env))) : xqs P H n Kq (⟨d, .pick c x y, none⟩ :: os) env := by simp only [xqs, xq, LOp.quiet, xop, hb, if_true, true_and]; exact h
theorem pq_false {c x y : Opd} (hb : c.val env = .bool false) (h : xqs P H n Kq os (put env d (y.val env))) : xqs P H n Kq (⟨d, .pick c x y, none⟩ :: os) env := by simp only [xqs, xq, LOp.quiet, xop, hb, true_and]; rw [if_neg (by simp)]; exact h
theorem pq_if {c x y : Opd} (hb : c.val env = .bool b) (h1 : b = true → xqs P H n Kq os (put env d (x.val env))) (h2 : b = false → xqs P H n Kq os (put env d (y.val env))) : xqs P H n Kq (⟨d, .pick c x y, none⟩ :: os) env := by
  cases b
  · exact pq_false hb (h2 rfl)
  · exact pq_true hb (h1 rfl)

/-- A call of a function that hands back a plain value. -/
theorem call_flat {f : FuncId} {xs : List Opd} {args' : List AV} {r : AV} (hp : Pur P f args' r [] 0) (hc : Cloz H (xs.map (·.val env)) args') (hf : r.isFlat = true) (hk : xops P K os (put env d r) H n) :
    xops P K (⟨d, .call f xs, none⟩ :: os) env H n := by
  simp only [xops, xop]
  exact ⟨r, H, n, Inl.flat hc hp hf, hk⟩

theorem call_pur {f : FuncId} {xs : List Opd} {args' : List AV} {r : AV} {Hr : Heap} {m : Nat} (hp : Pur P f args' r Hr m) (hc : Cloz H (xs.map (·.val env)) args') (h1 : r.own = true) (h2 : ownHeap Hr = true)
    (hk : xops P K os (put env d (r.up n)) (upHeap n Hr ++ H) (n + m)) : xops P K (⟨d, .call f xs, none⟩ :: os) env H n := by
  simp only [xops, xop]
  exact ⟨_, _, _, Inl.of_pur hc hp h1 h2, hk⟩

theorem call_inl {f : FuncId} {xs : List Opd} {r : AV} {H' : Heap} {n' : Nat} (hp : Inl P f (xs.map (·.val env)) H n r H' n') (hk : xops P K os (put env d r) H' n') : xops P K (⟨d, .call f xs, none⟩ :: os) env H n := by
  simp only [xops, xop]
  exact ⟨_, _, _, hp, hk⟩

theorem callq_flat {f : FuncId} {xs : List Opd} {args' : List AV} {r : AV} (hp : Pur P f args' r [] 0) (hc : Cloz H (xs.map (·.val env)) args') (hf : r.isFlat = true) (hk : xqs P H n Kq os (put env d r)) :
    xqs P H n Kq (⟨d, .call f xs, none⟩ :: os) env := by
  simp only [xqs, xq]
  exact ⟨args', r, hc, hf, hp, hk⟩
end

/-! ### The same, by the value that is looked at -/
section
variable {P : Program} {Q : Post} {env : List AV} {H : Heap} {n : Nat} {K : List AV → Heap → Nat → Prop} {Kq : List AV → Prop} {os : List LOper} {d : Option Nat} {op : LOp} {t : Nat} {want b : Bool} {x y : Opd} {cx cy : LCode}

def CondK (v : AV) (P : Program) (cx cy : LCode) (Q : Post) (env : List AV) (H : Heap) (n : Nat) : Prop :=
  match v with
  | .bool true => Aw P cx Q env H n
  | .bool false => Aw P cy Q env H n
  | _ => False
theorem CondK_true : CondK (.bool true) P cx cy Q env H n = Aw P cx Q env H n := (rfl)
theorem CondK_false : CondK (.bool false) P cx cy Q env H n = Aw P cy Q env H n := (rfl)
theorem CondK_if (h1 : b = true → CondK (.bool true) P cx cy Q env H n) (h2 : b = false → CondK (.bool false) P cx cy Q env H n) : CondK (.bool b) P cx cy Q env H n := by
  cases b
  · exact h2 rfl
  · exact h1 rfl
theorem Aw.cond_of {c : Opd} (h : CondK (c.val env) P cx cy Q env H n) : Aw P (.cond c cx cy) Q env H n := by
  unfold CondK at h
  split at h
  · rename_i e; exact Aw.cond_true e h
  · rename_i e; exact Aw.cond_false e h
  · exact h.elim

def GK (v : AV) (want : Bool) (P : Program) (K : List AV → Heap → Nat → Prop) (d : Option Nat) (op : LOp) (os : List LOper) (env : List AV) (H : Heap) (n : Nat) : Prop :=
  match v with
  | .bool b => if b = want then xops P K (⟨d, op, none⟩ :: os) env H n else xops P K os (put env d .und) H n
  | .und => xops P K os (put env d .und) H n
  | _ => False
theorem xops_g : xops P K (⟨d, op, some (t, want)⟩ :: os) env H n = GK (env.getD t .unk) want P K d op os env H n := (rfl)
theorem GK_tt : GK (.bool true) true P K d op os env H n = xops P K (⟨d, op, none⟩ :: os) env H n := (rfl)
theorem GK_ff : GK (.bool false) false P K d op os env H n = xops P K (⟨d, op, none⟩ :: os) env H n := (rfl)
theorem GK_tf : GK (.bool true) false P K d op os env H n = xops P K os (put env d .und) H n := (rfl)
theorem GK_ft : GK (.bool false) true P K d op os env H n = xops P K os (put env d .und) H n := (rfl)
theorem GK_und : GK .und want P K d op os env H n = xops P K os (put env d .und) H n := (rfl)
theorem GK_if (h1 : b = true → GK (.bool true) want P K d op os env H n) (h2 : b = false → GK (.bool false) want P K d op os env H n) : GK (.bool b) want P K d op os env H n := by
  cases b
  · exact h2 rfl
  · exact h1 rfl

def GQ (v : AV) (want : Bool) (P : Program) (Kq : List AV → Prop) (d : Option Nat) (op : LOp) (os : List LOper) (env : List AV) (H : Heap) (n : Nat) : Prop :=
  match v with
  | .bool b => if b = want then xqs P H n Kq (⟨d, op, none⟩ :: os) env else xqs P H n Kq os (put env d .und)
  | .und => xqs P H n Kq os (put env d .und)
  | _ => False
theorem xqs_g : xqs P H n Kq (⟨d, op, some (t, want)⟩ :: os) env = GQ (env.getD t .unk) want P Kq d op os env H n := (rfl)
theorem GQ_tt : GQ (.bool true) true P Kq d op os env H n = xqs P H n Kq (⟨d, op, none⟩ :: os) env := (rfl)
theorem GQ_ff : GQ (.bool false) false P Kq d op os env H n = xqs P H n Kq (⟨d, op, none⟩ :: os) env := (rfl)
theorem GQ_tf : GQ (.bool true) false P Kq d op os env H n = xqs P H n Kq os (put env d .und) := (rfl)
theorem GQ_ft : GQ (.bool false) true P Kq d op os env H n = xqs P H n Kq os (put env d .und) := (rfl)
theorem GQ_und : GQ .und want P Kq d op os env H n = xqs P H n Kq os (put env d .und) := (rfl)
theorem GQ_if (h1 : b = true → GQ (.bool true) want P Kq d op os env H n) (h2 : b = false → GQ (.bool false) want P Kq d op os env H n) : GQ (.bool b) want P Kq d op os env H n := by
  cases b
  · exact h2 rfl
  · exact h1 rfl

def PK (v : AV) (P : Program) (K : List AV → Heap → Nat → Prop) (d : Option Nat) (x y : AV) (os : List LOper) (env : List AV) (H : Heap) (n : Nat) : Prop :=
  match v with
  | .bool true => xops P K os (put env d x) H n
  | .bool false => xops P K os (put env d y) H n
  | _ => False
theorem xops_pick {c : Opd} : xops P K (⟨d, .pick c x y, none⟩ :: os) env H n = PK (c.val env) P K d (x.val env) (y.val env) os env H n := by
  simp only [xops, xop, PK]
  cases c.val env <;> try rfl
  rename_i b
  cases b <;> simp
theorem PK_true {x y : AV} : PK (.bool true) P K d x y os env H n = xops P K os (put env d x) H n := (rfl)
theorem PK_false {x y : AV} : PK (.bool false) P K d x y os env H n = xops P K os (put env d y) H n := (rfl)
theorem PK_if {x y : AV} (h1 : b = true → PK (.bool true) P K d x y os env H n) (h2 : b = false → PK (.bool false) P K d x y os env H n) : PK (.bool b) P K d x y os env H n := by
  cases b
  · exact h2 rfl
  · exact h1 rfl

def PQ (v : AV) (P : Program) (Kq : List AV → Prop) (d : Option Nat) (x y : AV) (os : List LOper) (env : List AV) (H : Heap) (n : Nat) : Prop :=
  match v with
  | .bool true => xqs P H n Kq os (put env d x)
  | .bool false => xqs P H n Kq os (put env d y)
  | _ => False
theorem xqs_pick {c : Opd} : xqs P H n Kq (⟨d, .pick c x y, none⟩ :: os) env = PQ (c.val env) P Kq d (x.val env) (y.val env) os env H n := by
  simp only [xqs, xq, LOp.quiet, xop, PQ, true_and]
  cases c.val env <;> try rfl
  rename_i b
  cases b <;> simp
theorem PQ_true {x y : AV} : PQ (.bool true) P Kq d x y os env H n = xqs P H n Kq os (put env d x) := (rfl)
theorem PQ_false {x y : AV} : PQ (.bool false) P Kq d x y os env H n = xqs P H n Kq os (put env d y) := (rfl)
theorem PQ_if {x y : AV} (h1 : b = true → PQ (.bool true) P Kq d x y os env H n) (h2 : b = false → PQ (.bool false) P Kq d x y os env H n) : PQ (.bool b) P Kq d x y os env H n := by
  cases b
  · exact h2 rfl
  · exact h1 rfl
end

/-! ### What is not read (for the printer) -/
def tagOf : Op → Nat
  | .build .. => 1 | .buildSlice .. => 2 | .load .. => 3 | .store .. => 4 | .nilCheck _ => 5 | .binOp .. => 6 | .unOp .. => 7 | .convert .. => 8 | .makeSlice .. => 9 | .slice .. => 10
  | .fieldAddr .. => 11 | .field .. => 12 | .indexAddr .. => 13 | .index .. => 14 | .extract .. => 15 | .call { callee := .builtin .append, .. } => 16 | .call { callee := .builtin .copy, .. } => 17
  | .call { callee := .builtin .len, .. } => 18 | .call { callee := .builtin .max, .. } => 19 | .call { callee := .builtin .min, .. } => 20 | .call _ => 21 | .alloc _ => 22 | .box .. => 23 | _ => 99

def missOps (P : Program) (all : List Oper) (id : Nat) : List Oper → List (Nat × Nat)
  | [] => []
  | o :: os => (if (lowOper P all o).isNone then [(id, tagOf o.op)] else []) ++ missOps P all id os

def missCode (P : Program) : Code → List (Nat × Nat)
  | .seq a b => missCode P a ++ missCode P b
  | .cond c a b => (if (lowOpd c).isNone then [(0, 101)] else []) ++ missCode P a ++ missCode P b
  | .block _ a => missCode P a
  | .loop a => missCode P a
  | .region id ops draw => (if draw && !(Region.lexB .any ops) then [(id, 100)] else []) ++ missOps P ops.toList id ops.toList
  | .label _ => [(0, 102)]
  | .scope _ => [(0, 103)]
  | .rangeFunc .. => [(0, 104)]
  | .goto _ => [(0, 105)]
  | _ => []

def missFun (P : Program) (f : FuncId) : List (Nat × Nat) :=
  match P.funcs[f]? with
  | some fn => match fn.body with
    | some c => missCode P c ++ (if (lowRess P fn.results.toList).isNone then [(0, 106)] else [])
    | none => []
  | none => []
end Go.Proofs.Ytholbkojdcdokab
