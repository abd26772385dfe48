/- The machine with trees, walked by reckoning: operations whose checks are truth values, frames with few slots named, functions that need not answer, loops by their steps. No program is named here. -/
import Derived.Test.YtmjphjphgjmojaaZL2
import Derived.KernelRfl
namespace Go.Proofs.Ytmjphjphgjmojaa
set_option linter.all false
open Go.RowKit
structure Hld (p : Prop) : Prop where
 un : p
def grd (c : Prop) [Decidable c] {α : Type} (x : Option α) : Option α := if c then x else none
theorem grd_some {c : Prop} [Decidable c] {α : Type} {x : Option α} {r : α} (h : grd c x = some r) : c ∧ x = some r := by
 unfold grd at h
 split at h
 · rename_i hc; exact ⟨hc, h⟩
 · cases h
theorem grd_t {c : Prop} [Decidable c] {α : Type} {x : Option α} (h : c) : grd c x = x := if_pos h
theorem cond_some {α : Type} {b : Bool} {x y : Option α} {r : α} (h : cond b x y = some r) : (b = true ∧ x = some r) ∨ (b = false ∧ y = some r) := by
 cases b
 · exact .inr ⟨rfl, h⟩
 · exact .inl ⟨rfl, h⟩
theorem bind_some {α β : Type} {x : Option α} {k : α → Option β} {r : β} (h : x.bind k = some r) : ∃ v, x = some v ∧ k v = some r := by
 cases x with
 | none => cases h
 | some v => exact ⟨v, rfl, h⟩
theorem bind_t {α β : Type} {x : Option α} {v : α} {k : α → Option β} (h : x = some v) : x.bind k = k v := by rw [h]; rfl
theorem some_some {α : Type} {x r : α} (h : some x = some r) : r = x := (Option.some.inj h).symm
inductive LO (S R : Type) where
 | next (s : S)
 | brk (s : S)
 | ret (r : R)
inductive JO (S R : Type) where
 | go (s : S)
 | out (r : R)
def JO.run {S R : Type} (j : JO S R) (k : S → Option R) : Option R := match j with
 | .go s => k s
 | .out r => some r
def LO.val {S R : Type} (j : LO S R) : Option R := match j with
 | .ret r => some r
 | _ => none
section
variable {S R : Type}
def iterN (step : S → Option (LO S R)) : Nat → S → Option (LO S R)
 | 0, _ => none
 | n + 1, s => match step s with
  | some (.next s') => iterN step n s'
  | some (.brk s') => some (.brk s')
  | some (.ret r) => some (.ret r)
  | none => none
theorem iterN_more {step : S → Option (LO S R)} : ∀ {n : Nat} {s : S} {o : LO S R}, iterN step n s = some o → iterN step (n + 1) s = some o
 | 0, _, _, h => by simp [iterN] at h
 | n + 1, s, o, h => by
  rw [iterN] at h ⊢
  cases e : step s with
  | none => rw [e] at h; cases h
  | some x =>
   rw [e] at h
   cases x with
   | next s' => exact iterN_more h
   | brk s' => exact h
   | ret r => exact h
theorem iterN_le {step : S → Option (LO S R)} {n m : Nat} {s : S} {o : LO S R} (h : iterN step n s = some o) (hm : n ≤ m) : iterN step m s = some o := by
 induction hm with
 | refl => exact h
 | step _ ih => exact iterN_more ih
theorem iterN_det {step : S → Option (LO S R)} {n m : Nat} {s : S} {o o' : LO S R} (h : iterN step n s = some o) (h' : iterN step m s = some o') : o = o' := by
 have h1 := iterN_le h (Nat.le_max_left n m)
 have h2 := iterN_le h' (Nat.le_max_right n m)
 rw [h1] at h2
 exact Option.some.inj h2
noncomputable def iter (step : S → Option (LO S R)) (s : S) : Option (LO S R) :=
 open Classical in if h : ∃ o n, iterN step n s = some o then some (Classical.choose h) else none
theorem iter_of {step : S → Option (LO S R)} {n : Nat} {s : S} {o : LO S R} (h : iterN step n s = some o) : iter step s = some o := by
 have he : ∃ o n, iterN step n s = some o := ⟨o, n, h⟩
 unfold iter
 rw [dif_pos he]
 obtain ⟨m, hm⟩ := Classical.choose_spec he
 rw [iterN_det hm h]
theorem iter_some {step : S → Option (LO S R)} {s : S} {o : LO S R} (h : iter step s = some o) : ∃ n, iterN step n s = some o := by
 unfold iter at h
 split at h
 · rename_i he
   obtain ⟨m, hm⟩ := Classical.choose_spec he
   exact ⟨m, by rw [hm, ← h]⟩
 · cases h
theorem iter_eq {step : S → Option (LO S R)} {s : S} : iter step s = match step s with
 | some (.next s') => iter step s'
 | some (.brk s') => some (.brk s')
 | some (.ret r) => some (.ret r)
 | none => none := by
 cases e : iter step s with
 | some o =>
  obtain ⟨n, hn⟩ := iter_some e
  cases n with
  | zero => simp [iterN] at hn
  | succ n =>
   rw [iterN] at hn
   cases e2 : step s with
   | none => rw [e2] at hn; cases hn
   | some x =>
    rw [e2] at hn
    cases x with
    | next s' => exact (iter_of hn).symm
    | brk s' => exact hn.symm
    | ret r => exact hn.symm
 | none =>
  have no : ∀ n o, iterN step n s ≠ some o := fun n o h => by rw [iter_of h] at e; cases e
  cases e2 : step s with
  | none => rfl
  | some x =>
   cases x with
   | next s' =>
    show none = iter step s'
    cases e3 : iter step s' with
    | none => rfl
    | some o =>
     obtain ⟨n, hn⟩ := iter_some e3
     exact absurd (show iterN step (n + 1) s = some o by rw [iterN, e2]; exact hn) (no _ _)
   | brk s' => exact absurd (show iterN step 1 s = some (.brk s') by rw [iterN, e2]) (no _ _)
   | ret r => exact absurd (show iterN step 1 s = some (.ret r) by rw [iterN, e2]) (no _ _)
theorem iterN_step {step : S → Option (LO S R)} {n : Nat} {s : S} {o : LO S R} (h : iterN step n s = some o) :
 ∃ x, step s = some x ∧ match x with | .next s' => ∃ k, k < n ∧ iterN step k s' = some o | .brk s' => o = .brk s' | .ret r => o = .ret r := by
 cases n with
 | zero => simp [iterN] at h
 | succ n =>
  rw [iterN] at h
  cases e2 : step s with
  | none => rw [e2] at h; cases h
  | some x =>
   refine ⟨x, rfl, ?_⟩
   rw [e2] at h
   cases x with
   | next s' => exact ⟨n, Nat.lt_succ_self n, h⟩
   | brk s' => exact (Option.some.inj h).symm
   | ret r => exact (Option.some.inj h).symm
end
def spGo : Nat → Nat → List (Nat × AV) → List AV
 | _, 0, _ => []
 | i, n + 1, [] => .unk :: spGo (i + 1) n []
 | i, n + 1, (j, v) :: l => match Nat.beq i j with
  | true => v :: spGo (i + 1) n l
  | false => .unk :: spGo (i + 1) n ((j, v) :: l)
def sp (n : Nat) (l : List (Nat × AV)) : List AV := spGo 0 n l
def Heap.norm (rs : List Nat) (H : Heap) : Heap := rs.map fun r => (r, H.get1 r)
theorem norm_get1 {H : Heap} {r : Nat} {t : Root} : ∀ {rs : List Nat}, (H.norm rs).get1 r = some t → H.get1 r = some t
 | [], h => by simp [Heap.norm, Heap.get1] at h
 | r' :: rs, h => by
  simp only [Heap.norm, List.map_cons, Heap.get1] at h
  split at h
  · rename_i e; subst e; exact h
  · exact norm_get1 h
theorem norm_get {H : Heap} {rs : List Nat} {r : Nat} : ∀ {π : List Nat} {t : Root}, (H.norm rs).get r π = some t → H.get r π = some t
 | [], _, h => norm_get1 h
 | i :: π, t, h => by
  simp only [Heap.get] at h ⊢
  split at h
  · rename_i tp htp; rw [norm_get htp]; exact h
  · cases h
theorem RH.less {Φ : Fz} {n : Nat} {β : Spots} {H H2 : Heap} {w : World} (h : RH Φ n β H w) (hg : ∀ r π t, H2.get r π = some t → H.get r π = some t) : RH Φ n β H2 w := by
 refine ⟨fun r π t hr => h.root r π t (hg r π t hr), fun r π r' π' h1 h2 hx hx' he => ?_⟩
 obtain ⟨t, ht⟩ := Option.isSome_iff_exists.1 h1
 obtain ⟨t', ht'⟩ := Option.isSome_iff_exists.1 h2
 exact h.apart r π r' π' (by simp [hg _ _ _ ht]) (by simp [hg _ _ _ ht']) hx hx' he
theorem RVt.forget {Φ : Fz} {n : Nat} {β : Spots} {ls : List Nat} : ∀ {i : Nat} {xs : List AV} {vs : List Value}, RVt Φ n β xs vs → RVt Φ n β (forget ls i xs) vs
 | _, [], _, h => by simpa [Go.Proofs.Ytmjphjphgjmojaa.forget] using h
 | i, x :: xs, _, h => by
  simp only [RVt, Go.Proofs.Ytmjphjphgjmojaa.forget] at h ⊢
  obtain ⟨v, vs', e, h1, h2⟩ := h
  refine ⟨v, vs', e, ?_, RVt.forget h2⟩
  cases live ls i
  · simp [RV]
  · exact h1
theorem Ent.tidy {m n : Nat} {env : List AV} {H : Heap} (ls rs : List Nat) : Ent m (forget ls 0 env) (H.norm rs) n env H n :=
 fun Φ β _ _ hm hK hH hv => ⟨Φ, β, hm, fun _ _ => rfl, Fz.le_refl Φ, hK, hH.less fun _ _ _ h => norm_get h, hv.forget⟩
def TK (ls rs : List Nat) (K : List AV → Heap → Nat → Prop) : List AV → Heap → Nat → Prop := fun env H n => K (forget ls 0 env) (H.norm rs) n
def bc (b : Bool) (p : Prop) : Prop := match b with | true => p | false => False
theorem bc_elim {b : Bool} {p : Prop} (h : bc b p) : b = true ∧ p := by
 cases b
 · exact h.elim
 · exact ⟨rfl, h⟩
def yop (P : Program) (env : List AV) (H : Heap) (n : Nat) (K : AV → Heap → Nat → Prop) : LOp → Prop
 | .pick c a b => match c.val env with
  | .bool true => K (a.val env) H n
  | .bool false => K (b.val env) H n
  | _ => False
 | .load ag m a => match a.val env with
  | .ptr r π o => match H.get r π with
   | some t => bc (Nat.ble (o + m) t.cs.length && (ag || Nat.beq m 1)) (K (pickCells ag (refer r π 0 t.cs) o m) H n)
   | none => False
  | .bptr cs o => bc (Nat.ble (o + m) cs.length && (ag || Nat.beq m 1)) (K (pickCells ag cs o m) H n)
  | _ => False
 | .store m a x => match a.val env, (x.val env).cells with
  | .ptr r π o, some vs => match H.get r π with
   | some t => bc (Nat.beq vs.length m && Nat.ble (o + m) t.cs.length) (K .und (H.put r π (setCells t.cs o vs)) n)
   | none => False
  | _, _ => False
 | .bin op x y => match x.val env, y.val env with
  | .int k a, .int k' b => bc (decide (k = k')) (xbin op k a b fun v => K v H n)
  | _, _ => False
 | .fld ag off m x => match x.val env with
  | .agg cs => bc (Nat.ble (off + m) cs.length && (ag || Nat.beq m 1)) (K (pickCells ag cs off m) H n)
  | _ => False
 | .iadr sz x i => match x.val env, i.val env with
  | .sref r π o m sz', .int _ k => bc (Nat.beq sz' sz) ((0 ≤ k ∧ k < m) ∧ K (.ptr r π (o + k.toNat * sz)) H n)
  | .bor m cs, .int _ k => (0 ≤ k ∧ k < m ∧ k.toNat * sz < cs.length) ∧ K (.bptr cs (k.toNat * sz)) H n
  | _, _ => False
 | .ext x i => match x.val env with
  | .tup vs => bc (Nat.ble (i + 1) vs.length) (K (vs.getD i .unk) H n)
  | _ => False
 | .mx most x y => match x.val env, y.val env with
  | .int k a, .int k' b => bc (decide (k = k')) (K (.int k (match most with | true => max a b | false => min a b)) H n)
  | _, _ => False
 | op => xop P env H n K op
def same2 : Bool → Bool → Bool
 | true, true => true
 | false, false => true
 | _, _ => false
theorem same2_eq {a b : Bool} : same2 a b = decide (a = b) := by cases a <;> cases b <;> rfl
section
variable {P : Program} {env : List AV} {H : Heap} {n : Nat}
theorem chk {a b m : Nat} {ag : Bool} (h : (Nat.ble a b && (ag || Nat.beq m 1)) = true) : a ≤ b ∧ (ag = false → m = 1) := by
 simp only [Bool.and_eq_true, Bool.or_eq_true, Nat.ble_eq, Nat.beq_eq] at h
 refine ⟨h.1, fun e => ?_⟩
 rcases h.2 with h2 | h2
 · rw [e] at h2; cases h2
 · exact h2
theorem yop_xop {K : AV → Heap → Nat → Prop} {op : LOp} (h : yop P env H n K op) : xop P env H n K op := by
 unfold yop at h
 split at h
 case h_1 c a b =>
  simp only [xop]
  split at h
  · rename_i hc; rw [hc]; simpa using h
  · rename_i hc; rw [hc]; simpa using h
  · exact h.elim
 case h_2 ag m a =>
  simp only [xop]
  split at h
  · rename_i r π o hc
    rw [hc]
    split at h
    · rename_i t ht
      obtain ⟨h1, h2⟩ := bc_elim h
      obtain ⟨h3, h4⟩ := chk h1
      simp only [ht]
      exact ⟨h3, h4, h2⟩
    · exact h.elim
  · rename_i cs o hc
    rw [hc]
    obtain ⟨h1, h2⟩ := bc_elim h
    obtain ⟨h3, h4⟩ := chk h1
    exact ⟨h3, h4, h2⟩
  · exact h.elim
 case h_3 m a x =>
  simp only [xop]
  split at h
  · rename_i r π o vs hc hx
    rw [hc, hx]
    split at h
    · rename_i t ht
      obtain ⟨h1, h2⟩ := bc_elim h
      simp only [Bool.and_eq_true, Nat.ble_eq, Nat.beq_eq] at h1
      simp only [ht]
      exact ⟨h1.1, h1.2, h2⟩
    · exact h.elim
  · exact h.elim
 case h_4 op x y =>
  simp only [xop]
  split at h
  · rename_i k a k' b hx hy
    rw [hx, hy]
    obtain ⟨h1, h2⟩ := bc_elim h
    exact ⟨by simpa using h1, h2⟩
  · exact h.elim
 case h_5 ag off m x =>
  simp only [xop]
  split at h
  · rename_i cs hx
    rw [hx]
    obtain ⟨h1, h2⟩ := bc_elim h
    obtain ⟨h3, h4⟩ := chk h1
    exact ⟨h3, h4, h2⟩
  · exact h.elim
 case h_6 sz x i =>
  simp only [xop]
  split at h
  · rename_i r π o m sz' kd k hx hi
    rw [hx, hi]
    obtain ⟨h1, h2⟩ := bc_elim h
    simp only [Nat.beq_eq] at h1
    exact ⟨⟨h1, h2.1⟩, h2.2⟩
  · rename_i m cs kd k hx hi
    rw [hx, hi]
    exact h
  · exact h.elim
 case h_7 x i =>
  simp only [xop]
  split at h
  · rename_i vs hx
    rw [hx]
    obtain ⟨h1, h2⟩ := bc_elim h
    simp only [Nat.ble_eq] at h1
    exact ⟨h1, h2⟩
  · exact h.elim
 case h_8 most x y =>
  simp only [xop]
  split at h
  · rename_i k a k' b hx hy
    rw [hx, hy]
    obtain ⟨h1, h2⟩ := bc_elim h
    exact ⟨by simpa using h1, h2⟩
  · exact h.elim
 case h_9 => exact h
def yops (P : Program) (K : List AV → Heap → Nat → Prop) : List LOper → List AV → Heap → Nat → Prop
 | [], env, H, n => K env H n
 | o :: os, env, H, n => match o.g with
  | none => yop P env H n (fun v H' n' => yops P K os (put env o.dst v) H' n') o.op
  | some (t, want) => match env.getD t .unk with
   | .bool b => match same2 b want with
    | true => yop P env H n (fun v H' n' => yops P K os (put env o.dst v) H' n') o.op
    | false => yops P K os (put env o.dst .und) H n
   | .und => yops P K os (put env o.dst .und) H n
   | _ => False
theorem yops_xops {K : List AV → Heap → Nat → Prop} : ∀ {os : List LOper} {env : List AV} {H : Heap} {n : Nat}, yops P K os env H n → xops P K os env H n
 | [], _, _, _, h => h
 | o :: os, env, H, n, h => by
  unfold yops at h
  unfold xops
  split at h
  · rename_i hg
    rw [hg]
    exact xop_mono (fun v H' n' hk => yops_xops hk) (yop_xop h)
  · rename_i t want hg
    rw [hg]
    show (match env.getD t .unk with | .bool b => _ | .und => _ | _ => False)
    split at h
    · rename_i b hb
      try rw [hb]
      rw [same2_eq] at h
      by_cases e : b = want
      · simp only [e, decide_true] at h
        simp only [e, if_true]
        exact xop_mono (fun v H' n' hk => yops_xops hk) (yop_xop h)
      · simp only [e, decide_false] at h
        simp only [e, if_false]
        exact yops_xops h
    · rename_i hb
      try rw [hb]
      exact yops_xops h
    · exact h.elim
def yq (P : Program) (env : List AV) (H : Heap) (n : Nat) (K : AV → Prop) : LOp → Prop
 | .call f xs => xq P env H n K (.call f xs)
 | op => match op.quiet with
  | true => yop P env H n (fun v _ _ => K v) op
  | false => False
theorem yq_xq {K : AV → Prop} {op : LOp} (h : yq P env H n K op) : xq P env H n K op := by
 cases op
 case call f xs => exact h
 all_goals
  simp only [yq] at h
  split at h
  · rename_i hq; exact ⟨hq, yop_xop h⟩
  · exact h.elim
theorem xq_mono {K K' : AV → Prop} {op : LOp} (hk : ∀ v, K v → K' v) (h : xq P env H n K op) : xq P env H n K' op := by
 cases op
 case call f xs =>
  simp only [xq] at h ⊢
  obtain ⟨args, r, h1, h2, h3, h4⟩ := h
  exact ⟨args, r, h1, h2, h3, hk _ h4⟩
 all_goals exact ⟨h.1, xop_mono (fun v _ _ hv => hk v hv) h.2⟩
def yqs (P : Program) (H : Heap) (n : Nat) (K : List AV → Prop) : List LOper → List AV → Prop
 | [], env => K env
 | o :: os, env => match o.g with
  | none => yq P env H n (fun v => yqs P H n K os (put env o.dst v)) o.op
  | some (t, want) => match env.getD t .unk with
   | .bool b => match same2 b want with
    | true => yq P env H n (fun v => yqs P H n K os (put env o.dst v)) o.op
    | false => yqs P H n K os (put env o.dst .und)
   | .und => yqs P H n K os (put env o.dst .und)
   | _ => False
theorem yqs_xqs {K : List AV → Prop} : ∀ {os : List LOper} {env : List AV}, yqs P H n K os env → xqs P H n K os env
 | [], _, h => h
 | o :: os, env, h => by
  unfold yqs at h
  unfold xqs
  split at h
  · rename_i hg
    rw [hg]
    exact xq_mono (fun v hk => yqs_xqs hk) (yq_xq h)
  · rename_i t want hg
    rw [hg]
    show (match env.getD t .unk with | .bool b => _ | .und => _ | _ => False)
    split at h
    · rename_i b hb
      try rw [hb]
      rw [same2_eq] at h
      by_cases e : b = want
      · simp only [e, decide_true] at h
        simp only [e, if_true]
        exact xq_mono (fun v hk => yqs_xqs hk) (yq_xq h)
      · simp only [e, decide_false] at h
        simp only [e, if_false]
        exact yqs_xqs h
    · rename_i hb
      try rw [hb]
      exact yqs_xqs h
    · exact h.elim
def Agr (M : List Nat) (n0 : Nat) (H H' : Heap) : Prop := ∀ r, r < n0 → M.contains r = false → H'.get1 r = H.get1 r
theorem Agr.refl {M : List Nat} {n0 : Nat} {H : Heap} : Agr M n0 H H := fun _ _ _ => rfl
theorem Agr.trans {M : List Nat} {n0 : Nat} {H H' H2 : Heap} (h : Agr M n0 H H') (k : Agr M n0 H' H2) : Agr M n0 H H2 := fun r h1 h2 => (k r h1 h2).trans (h r h1 h2)
theorem Agr.get {M : List Nat} {n0 r : Nat} {H H' : Heap} (h : Agr M n0 H H') (h1 : r < n0) (h2 : M.contains r = false) : ∀ π, H'.get r π = H.get r π := get_of_get1 (h r h1 h2)
theorem Agr.cons {M : List Nat} {n0 k : Nat} {H : Heap} {t : Option Root} (h : n0 ≤ k) : Agr M n0 H ((k, t) :: H) := fun r h1 _ => by
 simp only [Heap.get1]; rw [if_neg (by omega)]
def seenOk (M : List Nat) (n0 : Nat) : Option (Nat × List Nat) → Bool
 | none => true
 | some (r, _) => Nat.blt r n0 && !M.contains r
def ydo (P : Program) (M : List Nat) (n0 : Nat) (env : List AV) (H : Heap) (n : Nat) (K : AV → Heap → Nat → Prop) (op : LOp) : Prop :=
 match op.quiet with
 | true => bc (seenOk M n0 (seen env op)) (yop P env H n (fun v _ _ => K v H n) op)
 | false => yop P env H n (fun v H' n' => Agr M n0 H H' ∧ K v H' n') op
def yds (P : Program) (M : List Nat) (n0 : Nat) (K : DK) : List LOper → List AV → Heap → Nat → Fresh → Prop
 | [], env, H, n, fs => K env H n fs
 | o :: os, env, H, n, fs => match gate o.g env with
  | some true => match o.op with
   | .bsl _ _ m z ps => match fillParts env (repeatCells z m) ps with
    | some cs => yds P M n0 K os (put env o.dst (frozenOf m cs)) H n fs
    | none => False
   | .fresh e z => match fs, o.dst with
    | none, some d => yds P M n0 K os (put env (some d) .unk) H n (some (d, e, z))
    | _, _ => False
   | op => ydo P M n0 env H n (fun v H' n' => yds P M n0 K os (put env o.dst v) H' n' fs) op
  | some false => yds P M n0 K os (put env o.dst .und) H n fs
  | none => False
theorem kept_of {M : List Nat} {n0 : Nat} {H0 H : Heap} (h : Agr M n0 H0 H) : ∀ {ls : List (Nat × List Nat × Option Root)}, (∀ p ∈ ls, p.1 < n0 ∧ M.contains p.1 = false ∧ p.2.2 = H0.get p.1 p.2.1) → kept H ls
 | [], _ => trivial
 | (r, π, t) :: ls, hl => by
  obtain ⟨h1, h2, h3⟩ := hl (r, π, t) (by simp)
  exact ⟨by rw [h.get h1 h2]; exact h3.symm, kept_of h fun p hp => hl p (by simp [hp])⟩
theorem yds_xds {M : List Nat} {n0 : Nat} {K K' : DK} (H0 : Heap) (hk : ∀ env H n fs, K env H n fs → K' env H n fs) : ∀ {os : List LOper} {hs : List Heap} {ls : List (Nat × List Nat × Option Root)} {env : List AV} {H : Heap} {n : Nat} {fs : Fresh},
 (∀ h ∈ hs, Agr M n0 H0 h) → Agr M n0 H0 H → (∀ p ∈ ls, p.1 < n0 ∧ M.contains p.1 = false ∧ p.2.2 = H0.get p.1 p.2.1) → yds P M n0 K os env H n fs → xds P K' os hs ls env H n fs
 | [], _, _, _, _, _, _, _, _, _, h => hk _ _ _ _ h
 | o :: os, hs, ls, env, H, n, fs, hh, hH, hl, h => by
  unfold yds at h
  unfold xds
  split at h
  · rename_i hg
    rw [hg]
    show (match o.op with | .bsl _ _ m z ps => _ | .fresh e z => _ | op => _)
    split at h
    · rename_i m z ps ho
      try rw [ho]
      show (match fillParts env (repeatCells z m) ps with | some cs => _ | none => False)
      split at h
      · rename_i cs hc
        try rw [hc]
        exact yds_xds H0 hk hh hH hl h
      · exact h.elim
    · rename_i e z ho
      try rw [ho]
      split at h
      · rename_i d hd
        try simp only [hd]
        exact yds_xds H0 hk hh hH hl h
      · exact h.elim
    · rename_i n1 n2
      unfold ydo at h
      split at h
      · rename_i hq
        obtain ⟨h1, h2⟩ := bc_elim h
        have hx := xop_mono (K' := fun v _ _ => xds P K' os hs (noted H (seen env o.op) ls) (put env o.dst v) H n fs) (fun v _ _ hk2 => yds_xds H0 hk hh hH (by
         intro p hp
         cases hsn : seen env o.op with
         | none => rw [hsn] at hp; exact hl p hp
         | some q =>
          obtain ⟨r, π⟩ := q
          rw [hsn] at hp h1
          simp only [noted, List.mem_cons] at hp
          rcases hp with rfl | hp
          · simp only [seenOk, Bool.and_eq_true, Bool.not_eq_true'] at h1
            have hlt : r < n0 := by have := h1.1; simp only [Nat.blt, Nat.ble_eq] at this; omega
            exact ⟨hlt, h1.2, hH.get hlt h1.2 π⟩
          · exact hl p hp) hk2) (yop_xop h2)
        have hsame : same H (seen env o.op) hs := by
         refine same_of fun h0 hm => ?_
         cases hsn : seen env o.op with
         | none => trivial
         | some q =>
          obtain ⟨r, π⟩ := q
          rw [hsn] at h1
          simp only [seenOk, Bool.and_eq_true, Bool.not_eq_true'] at h1
          have hlt : r < n0 := by have := h1.1; simp only [Nat.blt, Nat.ble_eq] at this; omega
          show h0.get r π = H.get r π
          rw [(hh h0 hm).get hlt h1.2, hH.get hlt h1.2]
        generalize hop : o.op = op at *
        cases op <;> first
         | exact (n1 _ _ _ _ _ rfl).elim
         | exact (n2 _ _ rfl).elim
         | (simp only [hq]; exact ⟨hsame, hx⟩)
         | (simp [LOp.quiet] at hq)
      · rename_i hq
        have hx := xop_mono (K' := fun v H' n' => kept H' ls ∧ xds P K' os (H' :: hs) ls (put env o.dst v) H' n' fs) (fun v H' n' ⟨ha, hk2⟩ => by
         have hA := hH.trans ha
         refine ⟨kept_of hA hl, yds_xds H0 hk ?_ hA hl hk2⟩
         intro h0 hm
         rcases List.mem_cons.1 hm with rfl | hm
         · exact hA
         · exact hh h0 hm) (yop_xop h)
        generalize hop : o.op = op at *
        cases op <;> first
         | exact (n1 _ _ _ _ _ rfl).elim
         | exact (n2 _ _ rfl).elim
         | (simp only [hq]; exact hx)
         | (simp [LOp.quiet] at hq)
  · rename_i hg
    rw [hg]
    exact yds_xds H0 hk hh hH hl h
  · exact h.elim
end
section
variable {P : Program}
theorem yops_app {K : List AV → Heap → Nat → Prop} {post : List LOper} : ∀ {pre : List LOper} {env : List AV} {H : Heap} {n : Nat}, yops P K (pre ++ post) env H n = yops P (yops P K post) pre env H n
 | [], _, _, _ => rfl
 | o :: pre, env, H, n => by
  have ih : ∀ env H n, yops P K (pre ++ post) env H n = yops P (yops P K post) pre env H n := fun env H n => yops_app
  simp only [List.cons_append, yops, ih]
theorem yqs_app {H : Heap} {n : Nat} {K : List AV → Prop} {post : List LOper} : ∀ {pre : List LOper} {env : List AV}, yqs P H n K (pre ++ post) env = yqs P H n (yqs P H n K post) pre env
 | [], _ => rfl
 | o :: pre, env => by
  have ih : ∀ env, yqs P H n K (pre ++ post) env = yqs P H n (yqs P H n K post) pre env := fun env => yqs_app
  simp only [List.cons_append, yqs, ih]
theorem yds_app {M : List Nat} {n0 : Nat} {K : DK} {post : List LOper} : ∀ {pre : List LOper} {env : List AV} {H : Heap} {n : Nat} {fs : Fresh}, yds P M n0 K (pre ++ post) env H n fs = yds P M n0 (yds P M n0 K post) pre env H n fs
 | [], _, _, _, _ => rfl
 | o :: pre, env, H, n, fs => by
  have ih : ∀ env H n fs, yds P M n0 K (pre ++ post) env H n fs = yds P M n0 (yds P M n0 K post) pre env H n fs := fun env H n fs => yds_app
  simp only [List.cons_append, yds, ih]
  repeat' split
  all_goals first | rfl | (simp only [*]; done) | skip
end
section
variable {P : Program} {Q : Post} {env : List AV} {H : Heap} {n m : Nat} {ops : List LOper} {b x y : LCode}
theorem xops_mono {K K' : List AV → Heap → Nat → Prop} (hk : ∀ env H n, K env H n → K' env H n) : ∀ {os : List LOper} {env : List AV} {H : Heap} {n : Nat}, xops P K os env H n → xops P K' os env H n
 | [], _, _, _, h => hk _ _ _ h
 | o :: os, env, H, n, h => by
  simp only [xops] at h ⊢
  split at h
  · exact xop_mono (fun v H' n' h => xops_mono hk h) h
  · split at h
    · split at h
      · rename_i hb; rw [if_pos hb]; exact xop_mono (fun v H' n' h => xops_mono hk h) h
      · rename_i hb; rw [if_neg hb]; exact xops_mono hk h
    · exact xops_mono hk h
    · exact h.elim
theorem xqs_mono {K K' : List AV → Prop} (hk : ∀ env, K env → K' env) : ∀ {os : List LOper} {env : List AV}, xqs P H n K os env → xqs P H n K' os env
 | [], _, h => hk _ h
 | o :: os, env, h => by
  simp only [xqs] at h ⊢
  split at h
  · exact xq_mono (fun v h => xqs_mono hk h) h
  · split at h
    · split at h
      · rename_i hb; rw [if_pos hb]; exact xq_mono (fun v h => xqs_mono hk h) h
      · rename_i hb; rw [if_neg hb]; exact xqs_mono hk h
    · exact xqs_mono hk h
    · exact h.elim
theorem tk_seq (ls rs : List Nat) : ∀ env H n, TK ls rs (Aw P m b Q) env H n → Post.then P m b Q .normal env H n := fun _ _ _ h => Aw.ent (Ent.tidy ls rs) h
theorem Aw.sreg (ls rs : List Nat) (h : Hld (yops P (TK ls rs (Aw P m b Q)) ops env H n)) : Aw P m (.seq (.reg false ops) b) Q env H n :=
 Aw.seq (Aw.reg (xops_mono (tk_seq ls rs) (yops_xops h.un)))
theorem Aw.oreg (h : Hld (yops P (Q .normal) ops env H n)) : Aw P m (.reg false ops) Q env H n := Aw.reg (yops_xops h.un)
def TQ (ls : List Nat) (K : List AV → Prop) : List AV → Prop := fun env => K (forget ls 0 env)
theorem Aw.sregq (ls : List Nat) (h : Hld (yqs P H n (TQ ls fun env' => Aw P m b Q env' H n) ops env)) : Aw P m (.seq (.reg true ops) b) Q env H n :=
 Aw.seq (Aw.regq (xqs_mono (fun _ h => Aw.ent (fun Φ β _ _ hm hK hH hv => ⟨Φ, β, hm, fun _ _ => rfl, Fz.le_refl Φ, hK, hH, hv.forget⟩) h) (yqs_xqs h.un)))
theorem Aw.oregq (h : Hld (yqs P H n (fun env' => Q .normal env' H n) ops env)) : Aw P m (.reg true ops) Q env H n := Aw.regq (yqs_xqs h.un)
def TT (P : Program) (tail : List LOper) (K : List AV → Heap → Nat → Prop) (H : Heap) (n : Nat) : List AV → Prop := fun env => yops P K tail env H n
theorem Aw.sregt (ls rs : List Nat) {tail : List LOper} (h : Hld (yqs P H n (TT P tail (TK ls rs (Aw P m b Q)) H n) ops env)) : Aw P m (.seq (.regt ops tail) b) Q env H n :=
 Aw.seq (Aw.regt (xqs_mono (fun _ h => xops_mono (tk_seq ls rs) (yops_xops h)) (yqs_xqs h.un)))
theorem Aw.oregt {tail : List LOper} (h : Hld (yqs P H n (TT P tail (Q .normal) H n) ops env)) : Aw P m (.regt ops tail) Q env H n :=
 Aw.regt (xqs_mono (fun _ h => yops_xops h) (yqs_xqs h.un))
def TD (P : Program) (tail : List LOper) (K : List AV → Heap → Nat → Prop) : DK := fun env H n fs => match fs with
 | none => yops P K tail env H n
 | some (d, e, z) => yops P K tail (put env (some d) (.ptr n [] 0)) ((n, some ⟨e, z⟩) :: H) (n + 1)
theorem td_ended {tail : List LOper} {K : List AV → Heap → Nat → Prop} (hk : ∀ env H n, K env H n → Q .normal env H n) {env : List AV} {H : Heap} {n : Nat} {fs : Fresh} (h : TD P tail K env H n fs) : Ended P tail Q env H n fs := by
 cases fs with
 | none => exact xops_mono hk (yops_xops h)
 | some p => obtain ⟨d, e, z⟩ := p; exact xops_mono hk (yops_xops h)
theorem Aw.sregd (ls rs M : List Nat) {tail : List LOper} (hb : freshB env.length (ops ++ tail) = true) (h : Hld (yds P M n (TD P tail (TK ls rs (Aw P m b Q))) ops env H n none)) : Aw P m (.seq (.regd ops tail) b) Q env H n :=
 Aw.seq (Aw.regd hb (yds_xds H (fun _ _ _ _ h => td_ended (tk_seq ls rs) h) (fun h0 hm => by simp only [List.mem_singleton] at hm; subst hm; exact Agr.refl) Agr.refl (fun p hp => by simp at hp) h.un))
theorem Aw.oregd (M : List Nat) {tail : List LOper} (hb : freshB env.length (ops ++ tail) = true) (h : Hld (yds P M n (TD P tail (Q .normal)) ops env H n none)) : Aw P m (.regd ops tail) Q env H n :=
 Aw.regd hb (yds_xds H (fun _ _ _ _ h => td_ended (fun _ _ _ h => h) h) (fun h0 hm => by simp only [List.mem_singleton] at hm; subst hm; exact Agr.refl) Agr.refl (fun p hp => by simp at hp) h.un)
end
end Go.Proofs.Ytmjphjphgjmojaa
