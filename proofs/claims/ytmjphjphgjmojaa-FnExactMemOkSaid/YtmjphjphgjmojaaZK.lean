/- Loops and functions of the machine with trees. No program is named here. -/
import Derived.Test.YtmjphjphgjmojaaZJ
namespace Go.Proofs.Ytmjphjphgjmojaa
set_option linter.all false
open Go.RowKit
def Ent (m : Nat) (xs2 : List AV) (H2 : Heap) (n2 : Nat) (xs : List AV) (H : Heap) (n : Nat) : Prop :=
 ∀ (Φ : Fz) (β : Spots) (vs : List Value) (w : World), m ≤ n → Keep Φ w → RH Φ n β H w → RVt Φ n β xs vs →
  ∃ Φ2 β2, m ≤ n2 ∧ (∀ i, i < m → β2 i = β i) ∧ Φ.le Φ2 ∧ Keep Φ2 w ∧ RH Φ2 n2 β2 H2 w ∧ RVt Φ2 n2 β2 xs2 vs
theorem Ent.refl {m : Nat} {xs : List AV} {H : Heap} {n : Nat} : Ent m xs H n xs H n := fun Φ β _ _ hm hK hH hv => ⟨Φ, β, hm, fun _ _ => rfl, Fz.le_refl Φ, hK, hH, hv⟩
theorem Ent.trans {m : Nat} {xs xs2 xs3 : List AV} {H H2 H3 : Heap} {n n2 n3 : Nat} (h : Ent m xs3 H3 n3 xs2 H2 n2) (k : Ent m xs2 H2 n2 xs H n) : Ent m xs3 H3 n3 xs H n := by
 intro Φ β vs w hm hK hH hv
 obtain ⟨Φ2, β2, a1, a2, a3, a4, a5, a6⟩ := k Φ β vs w hm hK hH hv
 obtain ⟨Φ3, β3, b1, b2, b3, b4, b5, b6⟩ := h Φ2 β2 vs w a1 a4 a5 a6
 exact ⟨Φ3, β3, b1, fun i hi => (b2 i hi).trans (a2 i hi), a3.trans b3, b4, b5, b6⟩
theorem RVt.get {Φ : Fz} {n : Nat} {β : Spots} : ∀ {xs : List AV} {vs : List Value}, RVt Φ n β xs vs → ∀ (i : Nat), i < xs.length → RV Φ n β (xs.getD i .unk) (vs.getD i undef)
 | [], _, _, _, hi => by simp at hi
 | x :: xs, _, h, i, hi => by
  simp only [RVt] at h
  obtain ⟨v, vs', rfl, h1, h2⟩ := h
  cases i with
  | zero => exact h1
  | succ i => simpa using h2.get i (by simpa using hi)
theorem RVt.of_get {Φ : Fz} {n : Nat} {β : Spots} : ∀ {xs : List AV} {vs : List Value}, vs.length = xs.length → (∀ i, i < xs.length → RV Φ n β (xs.getD i .unk) (vs.getD i undef)) → RVt Φ n β xs vs
 | [], vs, h, _ => by simp only [RVt]; exact List.length_eq_zero_iff.1 (by simpa using h)
 | x :: xs, [], h, _ => by simp at h
 | x :: xs, v :: vs, h, k => by
  simp only [RVt]
  refine ⟨v, vs, rfl, k 0 (by simp), RVt.of_get (by simpa using h) fun i hi => ?_⟩
  simpa using k (i + 1) (by simpa using hi)
theorem Env.rvt {Φ : Fz} {n : Nat} {β : Spots} {env : List AV} {a : Act} (h : Env Φ n β env a) : RVt Φ n β env a.tmps.toList := by
 refine RVt.of_get (by simpa using h.len.symm) fun i hi => ?_
 have h1 := h.rel i
 have hl := h.len
 have e : a.tmps.toList.getD i undef = a.tmps.getD i undef := by simp [List.getD, Array.getD, show i < a.tmps.size by omega]
 rw [e]; exact h1
theorem Env.of_rvt {Φ : Fz} {n : Nat} {β : Spots} {env : List AV} {a : Act} (h : RVt Φ n β env a.tmps.toList) : Env Φ n β env a := by
 have hl := h.length
 simp only [Array.length_toList] at hl
 refine ⟨fun t => ?_, hl.symm⟩
 by_cases ht : t < env.length
 · have h1 := h.get t ht
   have e : a.tmps.toList.getD t undef = a.tmps.getD t undef := by simp [List.getD, Array.getD, show t < a.tmps.size by omega]
   rwa [e] at h1
 · simp [List.getD, ht, RV]
theorem Rel.ent {w0 : World} {Φ : Fz} {n m n2 : Nat} {β : Spots} {env env2 : List AV} {H H2 : Heap} {a : Act} {w : World} (h : Rel w0 Φ n β env H a w) (hm : m ≤ n) (hs : Ent m env2 H2 n2 env H n) :
 ∃ Φ2 β2, (∀ i, i < m → β2 i = β i) ∧ m ≤ n2 ∧ Φ.le Φ2 ∧ Rel w0 Φ2 n2 β2 env2 H2 a w := by
 obtain ⟨Φ2, β2, h1, h2, h3, h4, h5, h6⟩ := hs Φ β _ w hm h.keep h.heap h.env.rvt
 exact ⟨Φ2, β2, h2, h1, h3, ⟨Env.of_rvt h6, h5, h4, h.since, h.defers⟩⟩
theorem least (p : Nat → Prop) : ∀ k, p k → ∃ k, p k ∧ ∀ j, p j → k ≤ j := by
 intro k
 induction k using Nat.strongRecOn with
 | _ k ih =>
  intro hk
  by_cases h : ∃ j, j < k ∧ p j
  · obtain ⟨j, hj, hp⟩ := h
    exact ih j hj hp
  · exact ⟨k, hk, fun j hj => Nat.le_of_not_lt fun hlt => h ⟨j, hlt, hj⟩⟩
section
variable {P : Program} {Q : Post} {env : List AV} {H : Heap} {n m : Nat}
def Again (I : List AV → Heap → Nat → Prop) (μ : List AV → Heap → Nat → Nat) (m k : Nat) (Q : Post) : Post
 | .normal => fun env H n => ∃ env2 H2 n2, Ent m env2 H2 n2 env H n ∧ I env2 H2 n2 ∧ μ env2 H2 n2 < k
 | e => Q e
theorem Aw.loop {x : LCode} (I : List AV → Heap → Nat → Prop) (μ : List AV → Heap → Nat → Nat) (h0 : ∃ env2 H2 n2, Ent m env2 H2 n2 env H n ∧ I env2 H2 n2)
 (round : ∀ env2 H2 n2, I env2 H2 n2 → Aw P m x (Again I μ m (μ env2 H2 n2) Q) env2 H2 n2) : Aw P m (.loop x) Q env H n := by
 intro cc hcc w0 Φ β a w hm hR
 cases cc <;> simp only [lowCode, Option.some.injEq, reduceCtorEq] at hcc
 case loop cx =>
  obtain ⟨lx, g1, g2⟩ := Option.map_eq_some_iff.1 hcc
  cases g2
  let J : Nat → Act → World → Prop := fun k a w => ∃ env2 H2 n2 Φ2 β2, I env2 H2 n2 ∧ μ env2 H2 n2 = k ∧ m ≤ n2 ∧ (∀ i, i < m → β2 i = β i) ∧ Φ.le Φ2 ∧ Rel w0 Φ2 n2 β2 env2 H2 a w
  let ν : Act → World → Nat := fun a w => open Classical in if h : ∃ k, J k a w then Classical.choose (least (fun k => J k a w) h.choose h.choose_spec) else 0
  have hν : ∀ a w, (∃ k, J k a w) → J (ν a w) a w ∧ ∀ j, J j a w → ν a w ≤ j := fun a w h => by
   have e : ν a w = Classical.choose (least (fun k => J k a w) h.choose h.choose_spec) := by simp only [ν]; rw [dif_pos h]
   rw [e]
   exact Classical.choose_spec (least (fun k => J k a w) h.choose h.choose_spec)
  refine wp_loop (fun a w => ∃ k, J k a w) ν ?_ ?_
  · obtain ⟨env2, H2, n2, hs, hI⟩ := h0
    obtain ⟨Φ2, β2, k1, k2, k3, k4⟩ := hR.ent hm hs
    exact ⟨_, env2, H2, n2, Φ2, β2, hI, rfl, k2, k1, k3, k4⟩
  · intro a w hJ
    obtain ⟨⟨env2, H2, n2, Φ2, β2, hI, hμ, k2, k1, k0, k3⟩, _⟩ := hν a w hJ
    refine wp_mono (round env2 H2 n2 hI cx g1 w0 Φ2 β2 a w k2 k3) fun e a' w' hq => ?_
    obtain ⟨o, env', H', n', Φ', β', q1, q2, q3, q4, q5, q6⟩ := hq
    cases e <;> simp only [outOf, Option.some.injEq, reduceCtorEq] at q1 <;> subst q1
    case normal =>
     obtain ⟨env3, H3, n3, hs, hI3, hlt⟩ := q2
     obtain ⟨Φ3, β3, l1, l2, l3, l4⟩ := q6.ent q3 hs
     have hJ3 : J (μ env3 H3 n3) a' w' := ⟨env3, H3, n3, Φ3, β3, hI3, rfl, l2, fun i hi => by rw [l1 i hi, q4 i hi, k1 i hi], (k0.trans q5).trans l3, l4⟩
     refine ⟨⟨_, hJ3⟩, ?_⟩
     have := (hν a' w' ⟨_, hJ3⟩).2 _ hJ3
     omega
    case exit i => exact ⟨_, env', H', n', Φ', β', rfl, q2, q3, fun i hi => (q4 i hi).trans (k1 i hi), k0.trans q5, q6⟩
    case ret => exact ⟨_, env', H', n', Φ', β', rfl, q2, q3, fun i hi => (q4 i hi).trans (k1 i hi), k0.trans q5, q6⟩
 case region => rcases lowRegion_form hcc with ⟨_, _, e⟩ | ⟨_, _, e⟩ | ⟨_, _, e⟩ <;> cases e
 case seq => split at hcc <;> simp at hcc
 case cond => split at hcc <;> simp at hcc
 all_goals simp at hcc
theorem Aw.mono {x : LCode} {Q' : Post} (h : Aw P m x Q env H n) (hq : ∀ o env H n, Q o env H n → Q' o env H n) : Aw P m x Q' env H n :=
 fun c hc w0 Φ β a w hm hR => wp_mono (h c hc w0 Φ β a w hm hR) fun _ _ _ ⟨o, env', H', n', Φ', β', h1, h2, h3, h4, h5, h6⟩ => ⟨o, env', H', n', Φ', β', h1, hq _ _ _ _ h2, h3, h4, h5, h6⟩
theorem Aw.ent {x : LCode} {env2 : List AV} {H2 : Heap} {n2 : Nat} (hs : Ent m env2 H2 n2 env H n) (h : Aw P m x Q env2 H2 n2) : Aw P m x Q env H n := by
 intro c hc w0 Φ β a w hm hR
 obtain ⟨Φ2, β2, k1, k2, k3, k4⟩ := hR.ent hm hs
 exact wp_mono (h c hc w0 Φ2 β2 a w k2 k4) fun e a2 w2 h3 => h3.of_more k1 k3
end
inductive LRes where
 | tmp (t : Nat)
 | cell (t : Nat) (ag : Bool) (m : Nat)
def lowRes (P : Program) : ResultVar → Option LRes
 | .tmp t => some (.tmp t)
 | .cell a t => match aggB P t, P.info? t with
  | some ag, some inf => some (.cell a ag inf.size)
  | _, _ => none
def lowRess (P : Program) : List ResultVar → Option (List LRes)
 | [] => some []
 | r :: rs => match lowRes P r, lowRess P rs with | some x, some xs => some (x :: xs) | _, _ => none
structure LFun where
 ntmps : Nat
 res : List LRes
 body : LCode
def lowFun (P : Program) (f : FuncId) : Option LFun :=
 match P.funcs[f]? with
 | some fn => match fn.body with
  | some c => match lowCode P c, lowRess P fn.results.toList with
   | some lc, some rs => some ⟨fn.ntmps, rs, lc⟩
   | _, _ => none
  | none => none
 | none => none
def resVal (env : List AV) (H : Heap) : LRes → Option AV
 | .tmp t => some (env.getD t .unk)
 | .cell t ag m => match env.getD t .unk with
  | .ptr r π o => match H.get r π with
   | some u => if o + m ≤ u.cs.length ∧ (ag = false → m = 1) then some (pickCells ag (refer r π 0 u.cs) o m) else none
   | none => none
  | _ => none
def resVals (env : List AV) (H : Heap) : List LRes → Option (List AV)
 | [] => some []
 | r :: rs => match resVal env H r, resVals env H rs with | some x, some xs => some (x :: xs) | _, _ => none
def resOut (env : List AV) (H : Heap) (rs : List LRes) : Option AV :=
 match resVals env H rs with
 | some [v] => some v
 | some vs => some (.tup vs)
 | none => none
section
variable {P : Program} {w0 : World} {Φ : Fz} {n : Nat} {β : Spots} {env : List AV} {H : Heap} {a : Act} {w : World}
theorem res_sound (h : Rel w0 Φ n β env H a w) : ∀ (rs : List ResultVar) (ls : List LRes) (vs : List AV), lowRess P rs = some ls → resVals env H ls = some vs →
 ∃ us, (rs.mapM fun | .tmp t => pure (a.tmps.getD t undef) | .cell x t => do loadVar t (← asAddr (a.tmps.getD x undef)) : Sem (List Value)).run P w = .ok us w ∧ RVt Φ n β vs us
 | [], ls, vs, hl, hv => by
  simp only [lowRess, Option.some.injEq] at hl
  subst hl
  simp only [resVals, Option.some.injEq] at hv
  subst hv
  exact ⟨[], by simp, by simp [RVt]⟩
 | r :: rs, ls, vs, hl, hv => by
  simp only [lowRess] at hl
  split at hl
  · rename_i l ls' h1 h2
    cases hl
    simp only [resVals] at hv
    split at hv
    · rename_i x xs e1 e2
      cases hv
      obtain ⟨us, g1, g2⟩ := res_sound h rs ls' xs h2 e2
      have key : ∃ u, ((match r with | .tmp t => pure (a.tmps.getD t undef) | .cell x t => do loadVar t (← asAddr (a.tmps.getD x undef))) : Sem Value).run P w = .ok u w ∧ RV Φ n β x u := by
       cases r with
       | tmp t =>
        simp only [lowRes, Option.some.injEq] at h1
        subst h1
        simp only [resVal, Option.some.injEq] at e1
        subst e1
        exact ⟨_, rfl, h.env.rel t⟩
       | cell s t =>
        simp only [lowRes] at h1
        split at h1
        · rename_i ag inf k1 k2
          cases h1
          simp only [resVal] at e1
          split at e1
          · rename_i q π p hp
            split at e1
            · rename_i t' hr
              split at e1
              · rename_i hb
                cases e1
                have h0 := h.env.rel s
                rw [hp] at h0
                simp only [RV] at h0
                obtain ⟨v, hv1, hv2⟩ := pick_sound (cs := refer q π 0 t'.cs) (q := ⟨(β q π).b, 0, none⟩) (o := p) k1 k2 rfl (by rw [refer_length]; exact hb.1) hb.2 (fun j hj => by
                 obtain ⟨v, e1, e2, e3, _⟩ := cell_own h.heap hr j (by rw [refer_length] at hj; exact hj)
                 exact ⟨v, by rw [addr_add, Nat.zero_add]; exact e1, e2, e3⟩)
                have hv1 := hv1 w (Below.refl _ _)
                rw [addr_add, Nat.zero_add] at hv1
                refine ⟨v, ?_, hv2⟩
                simpa [h0.2.2, asAddr, Instr.loadAt, Instr.sureAddr] using hv1
              · cases e1
            · cases e1
          · cases e1
        · cases h1
      obtain ⟨u, k1, k2⟩ := key
      refine ⟨u :: us, ?_, by simp only [RVt]; exact ⟨u, us, rfl, k2, g2⟩⟩
      simp only [List.mapM_cons, Sem.run_bind, k1, Result.andThen_ok, g1, Sem.run_pure]
    · cases hv
  · cases hl
theorem results_sound {fn : Func} {ls : List LRes} {r : AV} (h : Rel w0 Φ n β env H a w) (hl : lowRess P fn.results.toList = some ls) (hr : resOut env H ls = some r) :
 ∃ v, (results fn a.tmps).run P w = .ok v w ∧ RV Φ n β r v := by
 unfold resOut at hr
 have harr : (results fn a.tmps).run P w = (((fn.results.toList.mapM fun | .tmp t => pure (a.tmps.getD t undef) | .cell x t => do loadVar t (← asAddr (a.tmps.getD x undef))) : Sem (List Value)).run P w).andThen
  fun us w' => .ok (if h : us.length = 1 then us[0] else .tuple us.toArray) w' := by
  unfold results
  obtain ⟨l, hl⟩ : ∃ l, fn.results = ⟨l⟩ := ⟨fn.results.toList, rfl⟩
  rw [hl]
  simp only [List.mapM_toArray, Sem.run_bind, Sem.run_map, Sem.run_pure]
  generalize Sem.run P _ w = q
  cases q <;> simp
 rw [harr]
 split at hr
 · rename_i v hv
   cases hr
   obtain ⟨us, g1, g2⟩ := res_sound h _ _ _ hl hv
   simp only [RVt] at g2
   obtain ⟨u, us', rfl, g3, rfl⟩ := g2
   exact ⟨u, by rw [g1]; simp, g3⟩
 · rename_i vs hne hv
   cases hr
   obtain ⟨us, g1, g2⟩ := res_sound h _ _ _ hl hv
   have hlen := g2.length
   have : ¬ us.length = 1 := fun e => by
    rw [e] at hlen
    cases vs with
    | nil => simp at hlen
    | cons v vs =>
     cases vs with
     | nil => exact hne v rfl
     | cons _ _ => simp at hlen
   exact ⟨.tuple us.toArray, by rw [g1]; simp [this], by simp only [RV]; exact ⟨_, rfl, g2⟩⟩
 · cases hr
def Gives (m : Nat) (r : AV) (H2 : Heap) (n2 : Nat) (ls : List LRes) : Post
 | .exit _ => fun _ _ _ => False
 | _ => fun env H n => ∃ r', resOut env H ls = some r' ∧ Ent m [r] H2 n2 [r'] H n
theorem Inl.of_aw {f : FuncId} {lf : LFun} {args : List AV} {r : AV} {H2 : Heap} {n2 : Nat} (hl : lowFun P f = some lf)
 (h : Aw P n lf.body (Gives n r H2 n2 lf.res) (args ++ List.replicate (lf.ntmps - args.length) .und) H n) : Inl P f args H n r H2 n2 := by
 intro Φ w β vs hK hH hv
 unfold lowFun at hl
 split at hl
 · rename_i fn hfn
   split at hl
   · rename_i c hc
     split at hl
     · rename_i lc rs h1 h2
       cases hl
       have hlen := hv.length
       refine calls_of_wp hfn hc ?_
       have hR : Rel w Φ n β (args ++ List.replicate (fn.ntmps - args.length) .und) H { tmps := vs.toArray ++ Array.replicate (fn.ntmps - vs.toArray.size) undef, defers := [] } w := by
        refine ⟨⟨fun t => ?_, by simp [hlen]⟩, hH, hK, Below.refl _ _, rfl⟩
        have e : (vs.toArray ++ Array.replicate (fn.ntmps - vs.toArray.size) undef).getD t undef = if t < vs.length then vs.getD t undef else undef := by
         simp only [Array.getD_eq_getD_getElem?]
         by_cases ht : t < vs.length
         · rw [if_pos ht, Array.getElem?_append_left (by simpa using ht)]; simp [List.getD]
         · rw [if_neg ht, Array.getElem?_append_right (by simpa using ht)]
           simp only [Array.getElem?_replicate]
           split <;> rfl
        rw [e]
        by_cases ht : t < args.length
        · have := hv.get t ht
          rw [if_pos (by omega)]
          simpa [List.getD, List.getElem?_append_left ht] using this
        · rw [if_neg (by omega)]
          by_cases h3 : t < args.length + (fn.ntmps - args.length)
          · have : (args ++ List.replicate (fn.ntmps - args.length) AV.und).getD t .unk = .und := by
             simp only [List.getD]
             rw [List.getElem?_append_right (by omega), List.getElem?_replicate, if_pos (by omega)]; rfl
            rw [this]; simp [RV]
          · have : (args ++ List.replicate (fn.ntmps - args.length) AV.und).getD t .unk = .unk := by
             simp only [List.getD]
             rw [List.getElem?_append_right (by omega), List.getElem?_replicate, if_neg (by omega)]; rfl
            rw [this]; simp [RV]
       refine wp_mono (h c h1 w Φ β _ w (Nat.le_refl _) hR) fun e a' w' hq => ?_
       obtain ⟨o, env', H', n', Φ', β', q1, q2, q3, q4, q5, q6⟩ := hq
       have fin : (∃ r', resOut env' H' rs = some r' ∧ Ent n [r] H2 n2 [r'] H' n') → a'.defers = [] ∧ ∃ v, (results fn a'.tmps).run P w' = .ok v w' ∧
        ∃ v1 Φ1 β1, Ending.returned v = .returned v1 ∧ n ≤ n2 ∧ (∀ i, i < n → β1 i = β i) ∧ Φ.le Φ1 ∧ Keep Φ1 w' ∧ RV Φ1 n2 β1 r v1 ∧ RH Φ1 n2 β1 H2 w' ∧ Below 0 w w' := by
        rintro ⟨r', k1, k2⟩
        obtain ⟨v, l1, l2⟩ := results_sound q6 h2 k1
        obtain ⟨Φ2, β2, p1, p2, p3, p4, p5, p6⟩ := k2 Φ' β' [v] w' q3 q6.keep q6.heap (by simp only [RVt]; exact ⟨v, [], rfl, l2, rfl⟩)
        simp only [RVt] at p6
        obtain ⟨v', vs', e, p6, _⟩ := p6
        cases e
        exact ⟨q6.defers, v, l1, v, Φ2, β2, rfl, p1, fun i hi => by rw [p2 i hi, q4 i hi], q5.trans p3, p4, p6, p5, q6.since⟩
       cases e <;> simp only [outOf, Option.some.injEq, reduceCtorEq] at q1 <;> subst q1
       case normal => exact fin q2
       case exit i => exact q2.elim
       case ret => exact fin q2
     · cases hl
   · cases hl
 · cases hl
theorem Fn.of_aw {f : FuncId} {lf : LFun} {args : List AV} {r : AV} (hl : lowFun P f = some lf)
 (h : Aw P 0 lf.body (Gives 0 (nameV 0 r).1 (nameV 0 r).2.1 (nameV 0 r).2.2 lf.res) (args ++ List.replicate (lf.ntmps - args.length) .und) [] 0) : Fn P f args r := Inl.of_aw hl h
end
section
variable {Φ Φ' : Fz} {n m n2 : Nat} {β : Spots} {env : List AV} {H : Heap} {w : World}
theorem Ent.clo {x y : AV} (h : Clo H x y) : Ent 0 [y] [] n2 [x] H n := by
 intro Φ β vs w hm hK hH hv
 simp only [RVt] at hv
 obtain ⟨v, vs', rfl, h1, rfl⟩ := hv
 refine ⟨Φ.all w true, fun _ _ => ⟨false, 0, 0⟩, Nat.zero_le _, fun i hi => absurd hi (Nat.not_lt_zero i), Fz.le_all, hK.all, RH.empty, ?_⟩
 simp only [RVt]
 exact ⟨v, [], rfl, h.sound hH h1, rfl⟩
inductive Clov (H : Heap) : AV → AV → Prop
 | one (x y) : Clo H x y → Clov H x y
 | tup (xs ys) : Cloz H xs ys → Clov H (.tup xs) (.tup ys)
theorem Ent.clov {x y : AV} (h : Clov H x y) : Ent 0 [y] [] n2 [x] H n := by
 cases h with
 | one _ _ h => exact Ent.clo h
 | tup xs ys h =>
  intro Φ β vs w hm hK hH hv
  simp only [RVt] at hv
  obtain ⟨v, vs', rfl, h1, rfl⟩ := hv
  refine ⟨Φ.all w true, fun _ _ => ⟨false, 0, 0⟩, Nat.zero_le _, fun i hi => absurd hi (Nat.not_lt_zero i), Fz.le_all, hK.all, RH.empty, ?_⟩
  simp only [RVt]
  refine ⟨v, [], rfl, ?_, rfl⟩
  simp only [RV] at h1 ⊢
  obtain ⟨arr, e, h1⟩ := h1
  exact ⟨arr, e, h.sound hH h1⟩
end
end Go.Proofs.Ytmjphjphgjmojaa
