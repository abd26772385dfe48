/- Regions, bodies and functions of the abstract machine. No program is named here. -/
import Derived.Test.YtmjphjphgjmojaaZH
import Derived.StillTail
namespace Go.Proofs.Ytmjphjphgjmojaa
set_option linter.all false
open Go.RowKit
section
variable {P : Program} {w0 : World} {Φ : Fz} {n : Nat} {β : Spots} {env : List AV} {H : Heap} {a : Act} {w : World}
structure Rel (w0 : World) (Φ : Fz) (n : Nat) (β : Spots) (env : List AV) (H : Heap) (a : Act) (w : World) : Prop where
 env : Env Φ n β env a
 heap : RH Φ n β H w
 keep : Keep Φ w
 since : Below 0 w0 w
 defers : a.defers = []
theorem Rel.put {Φ' : Fz} {n' : Nat} {β' : Spots} {H' : Heap} {w' : World} {x : AV} {v : Value} (h : Rel w0 Φ n β env H a w) (d : Option Nat) (hΦ : Φ.le Φ') (hn : n ≤ n') (hb : ∀ i, i < n → β' i = β i) (hx : RV Φ' n' β' x v) (hH : RH Φ' n' β' H' w')
 (hB : Keep Φ' w') (hs : Below 0 w w') : Rel w0 Φ' n' β' (Go.Proofs.Ytmjphjphgjmojaa.put env d x) H' (a.put d v) w' :=
 ⟨(h.env.more hΦ hn hb).put hx, hH, hB, h.since.trans hs, by cases d <;> exact h.defers⟩
theorem guard_bool {ops : List Oper} {d : Nat} {j : Nat} {o : Oper} {b : Bool} (ho : ops[j]? = some o) (hd : o.dst = some d) (he : Env Φ n β env a) (hb : env.getD d .unk = .bool b) :
 yielded ops.toArray a.tmps j = some b := by
 have h := he.rel d
 rw [hb] at h
 simp only [RV] at h
 unfold yielded
 have hlt : d < a.tmps.size := by
  rcases Nat.lt_or_ge d a.tmps.size with h1 | h1
  · exact h1
  · simp [Array.getD, Nat.not_lt.2 h1, undef] at h
 have : a.tmps[d]? = some (.bool b) := by
  simp only [Array.getD, hlt, dite_true] at h
  rw [Array.getElem?_eq_getElem hlt]
  exact congrArg some h
 simp [ho, hd, this]
theorem guard_und {ops : List Oper} {d : Nat} {j : Nat} {o : Oper} (ho : ops[j]? = some o) (hd : o.dst = some d) (he : Env Φ n β env a) (hb : env.getD d .unk = .und) :
 yielded ops.toArray a.tmps j = none := by
 have h := he.rel d
 rw [hb] at h
 simp only [RV] at h
 unfold yielded
 simp only [List.getElem?_toArray, ho, Option.bind_some, hd]
 rcases Nat.lt_or_ge d a.tmps.size with h1 | h1
 · simp only [Array.getD, h1, dite_true] at h
   have : a.tmps[d]? = some undef := by rw [Array.getElem?_eq_getElem h1]; exact congrArg some h
   rw [this]; rfl
 · rw [Array.getElem?_eq_none h1]
theorem lowOper_spec {ops : List Oper} {o : Oper} {lo : LOper} (h : lowOper P ops o = some lo) :
 lowOp P o = some lo.op ∧ lowGuard ops o.guard = some lo.g ∧ lo.dst = o.dst ∧ (∀ f xs, lo.op = .call f xs → callOk P f = true) := by
 unfold lowOper at h
 split at h
 · rename_i x g h1 h2
   split at h
   · split at h
     · rename_i hc; cases h; exact ⟨h1, h2, rfl, fun f xs e => by cases e; exact hc⟩
     · cases h
   · rename_i hn; cases h; exact ⟨h1, h2, rfl, fun f xs e => absurd e (hn f xs)⟩
 · cases h
theorem step_sound {o : Oper} {lo : LOp} {K : AV → Heap → Nat → Prop} (hl : lowOp P o = some lo) (hc : ∀ f xs, lo = .call f xs → callOk P f = true) (h : Rel w0 Φ n β env H a w) (hx : xop P env H n K lo)
 {next : Act → World → Prop} {Q : Exit → Act → World → Prop}
 (hn : ∀ x v Φ' H' n' β' w', K x H' n' → n ≤ n' → (∀ i, i < n → β' i = β i) → Φ.le Φ' → Rel w0 Φ' n' β' (Go.Proofs.Ytmjphjphgjmojaa.put env o.dst x) H' (a.put o.dst v) w' → next (a.put o.dst v) w') : o.wp P a w next Q := by
 cases hcall : lo.isCall with
 | false =>
  obtain ⟨nx, v, w', β', x, H', n', hr, hv, hK, h1, h2, h3, h4, h5, h6⟩ := op_sound hl hcall h.env h.heap h.keep hx
  unfold Oper.wp
  rw [hr]
  have hR := h.put o.dst (Fz.le_refl Φ) h1 h2 h3 h4 h5 h6
  rcases hv with rfl | ⟨rfl, rfl⟩
  · exact hn x v Φ H' n' β' w' hK h1 h2 (Fz.le_refl Φ) hR
  · exact hn x undef Φ H' n' β' w' hK h1 h2 (Fz.le_refl Φ) hR
 | true =>
  cases lo <;> simp only [LOp.isCall, Bool.false_eq_true] at hcall
  rename_i f ys
  obtain ⟨xs, ats, ho, hys⟩ := call_form hl
  simp only [xop] at hx
  obtain ⟨r, H', n', hI, hK⟩ := hx
  unfold Oper.wp
  rw [run_call ho (hc f ys rfl), Oper.upon_enter]
  refine (hI Φ w β _ h.keep h.heap (lowOpds_sound h.env hys)).mono fun e w' ⟨v, Φ', β', he, h1, h2, h3, h4, h5, h6, h7⟩ => ?_
  subst he
  exact hn r v Φ' H' n' β' w' hK h1 h2 h3 (h.put o.dst h3 h1 h2 h5 h6 h4 h7)
theorem xops_sound {ops : List Oper} {K : List AV → Heap → Nat → Prop} {Q : Exit → Act → World → Prop} : ∀ (l : List Oper) (los : List LOper) (Φ : Fz) (n : Nat) (β : Spots) (env : List AV) (H : Heap) (a : Act) (w : World),
 lowOpers P ops l = some los → Rel w0 Φ n β env H a w → xops P K los env H n →
 (∀ env' H' n' Φ' β' a' w', K env' H' n' → n ≤ n' → (∀ i, i < n → β' i = β i) → Φ.le Φ' → Rel w0 Φ' n' β' env' H' a' w' → Q .normal a' w') → wpList P ops.toArray Q l a w
 | [], los, Φ, n, β, env, H, a, w, hl, h, hx, hQ => by
  simp only [lowOpers, Option.some.injEq] at hl
  subst hl
  exact hQ env H n Φ β a w hx (Nat.le_refl _) (fun _ _ => rfl) (Fz.le_refl Φ) h
 | o :: l, los, Φ, n, β, env, H, a, w, hl, h, hx, hQ => by
  simp only [lowOpers] at hl
  split at hl
  · rename_i lo los' h1 h2
    cases hl
    obtain ⟨g1, g2, g3, g4⟩ := lowOper_spec h1
    have more : ∀ x v Φ' H' n' β' w', xops P K los' (Go.Proofs.Ytmjphjphgjmojaa.put env lo.dst x) H' n' → n ≤ n' → (∀ i, i < n → β' i = β i) → Φ.le Φ' → Rel w0 Φ' n' β' (Go.Proofs.Ytmjphjphgjmojaa.put env o.dst x) H' (a.put o.dst v) w' → wpList P ops.toArray Q l (a.put o.dst v) w' :=
     fun x v Φ' H' n' β' w' hK hn hb hf hR => by
      rw [g3] at hK
      exact xops_sound l los' Φ' n' β' _ H' _ w' h2 hR hK fun env2 H2 n2 Φ2 β2 a2 w2 k1 k2 k3 k4 k5 => hQ env2 H2 n2 Φ2 β2 a2 w2 k1 (Nat.le_trans hn k2) (fun i hi => (k3 i (Nat.lt_of_lt_of_le hi hn)).trans (hb i hi)) (hf.trans k4) k5
    have run : xop P env H n (fun v H' n' => xops P K los' (Go.Proofs.Ytmjphjphgjmojaa.put env lo.dst v) H' n') lo.op → o.wp P a w (wpList P ops.toArray Q l) Q := fun hx => step_sound g1 g4 h hx fun x v Φ' H' n' β' w' hK h1 h2 h3 hR => more x v Φ' H' n' β' w' hK h1 h2 h3 hR
    have skip : xops P K los' (Go.Proofs.Ytmjphjphgjmojaa.put env lo.dst .und) H n → wpList P ops.toArray Q l (a.put o.dst undef) w := fun hx =>
     more .und undef Φ H n β w hx (Nat.le_refl _) (fun _ _ => rfl) (Fz.le_refl Φ) (h.put o.dst (Fz.le_refl Φ) (Nat.le_refl _) (fun _ _ => rfl) (by simp [RV]) h.heap h.keep (Below.refl _ _))
    unfold wpList
    cases hg : o.guard with
    | none =>
     rw [hg] at g2
     simp only [lowGuard, Option.some.injEq] at g2
     simp only [xops, ← g2] at hx
     simp only [Region.wanted, hg, if_true]
     exact .inl (run hx)
    | some p =>
     obtain ⟨j, want⟩ := p
     rw [hg] at g2
     simp only [lowGuard] at g2
     split at g2
     · rename_i oj hj
       split at g2
       · rename_i d hd
         simp only [Option.some.injEq] at g2
         simp only [xops, ← g2] at hx
         split at hx
         · rename_i b hb
           have hy := guard_bool hj hd h.env hb
           simp only [Region.wanted, hg, hy]
           by_cases hbw : b = want
           · subst hbw
             rw [if_pos (by simp)]
             rw [if_pos rfl] at hx
             exact .inl (run hx)
           · rw [if_neg (by simp [hbw])]
             rw [if_neg hbw] at hx
             exact skip hx
         · rename_i hb
           have hy := guard_und hj hd h.env hb
           simp only [Region.wanted, hg, hy]
           rw [if_neg (by simp)]
           exact skip hx
         · exact hx.elim
       · cases g2
     · cases g2
  · cases hl
def flat1 : AV → Bool
 | .bool _ | .int _ _ => true
 | _ => false
def AV.isFlat : AV → Bool
 | .bool _ | .int _ _ => true
 | .agg vs => vs.all flat1
 | _ => false
def conc1 : AV → Value
 | .bool b => .bool b
 | .int k z => .int k z
 | _ => undef
def AV.conc : AV → Value
 | .agg vs => .agg (vs.map conc1).toArray
 | x => conc1 x
def xq (P : Program) (env : List AV) (H : Heap) (n : Nat) (K : AV → Prop) : LOp → Prop
 | .call f xs => ∃ args r, Cloz H (xs.map (·.val env)) args ∧ r.isFlat = true ∧ Fn P f args r ∧ K r
 | o => o.quiet = true ∧ xop P env H n (fun v _ _ => K v) o
def xqs (P : Program) (H : Heap) (n : Nat) (K : List AV → Prop) : List LOper → List AV → Prop
 | [], env => K env
 | o :: os, env => match o.g with
  | none => xq P env H n (fun v => xqs P H n K os (put env o.dst v)) o.op
  | some (t, want) => match env.getD t .unk with
   | .bool b => if b = want then xq P env H n (fun v => xqs P H n K os (put env o.dst v)) o.op else xqs P H n K os (put env o.dst .und)
   | .und => xqs P H n K os (put env o.dst .und)
   | _ => False
theorem RV.flat {r : AV} {Φ1 : Fz} {β1 : Spots} {m : Nat} {v : Value} (hf : r.isFlat = true) (h : RV Φ1 m β1 r v) : RV Φ n β r v := by
 have keep : ∀ (vs : List AV) (us : List Value), vs.all flat1 = true → RVs Φ1 m β1 vs us → RVs Φ n β vs us := by
  intro vs
  induction vs with
  | nil => intro us _ h; simpa only [RVs] using h
  | cons y vs ih =>
   intro us hv h
   simp only [List.all_cons, Bool.and_eq_true] at hv
   simp only [RVs] at h ⊢
   obtain ⟨v, us', e, o, h1, h2⟩ := h
   refine ⟨v, us', e, o, ?_, ih us' hv.2 h2⟩
   cases y <;> simp only [flat1, Bool.false_eq_true, false_and] at hv
   all_goals simpa only [RV] using h1
 cases r <;> simp only [AV.isFlat, Bool.false_eq_true] at hf
 case bool b => simpa only [RV] using h
 case int k z => simpa only [RV] using h
 case agg vs =>
  simp only [RV] at h ⊢
  obtain ⟨arr, e, h2⟩ := h
  exact ⟨arr, e, keep vs _ hf h2⟩
theorem RVs.conc1 : ∀ {xs : List AV} {vs : List Value}, xs.all flat1 = true → RVs Φ n β xs vs → vs = xs.map Go.Proofs.Ytmjphjphgjmojaa.conc1
 | [], vs, _, h => by simp only [RVs] at h; simp [h]
 | x :: xs, vs, hf, h => by
  simp only [List.all_cons, Bool.and_eq_true] at hf
  simp only [RVs] at h
  obtain ⟨v, vs', rfl, _, h1, h2⟩ := h
  rw [RVs.conc1 hf.2 h2]
  cases x <;> simp only [flat1, Bool.false_eq_true, false_and] at hf
  all_goals simp only [RV] at h1; simp [Go.Proofs.Ytmjphjphgjmojaa.conc1, h1]
theorem RV.conc {x : AV} {v : Value} (hf : x.isFlat = true) (h : RV Φ n β x v) : v = x.conc := by
 cases x <;> simp only [AV.isFlat, Bool.false_eq_true] at hf
 case bool b => simp only [RV] at h; subst h; rfl
 case int k z => simp only [RV] at h; exact h.1
 case agg vs =>
  simp only [RV] at h
  obtain ⟨arr, rfl, h2⟩ := h
  simp only [AV.conc]
  rw [← RVs.conc1 hf h2]
theorem nameL_flat {n : Nat} : ∀ {xs : List AV}, xs.all flat1 = true → nameL n xs = (xs, [], n)
 | [], _ => rfl
 | x :: xs, h => by
  simp only [List.all_cons, Bool.and_eq_true] at h
  have h1 : name1 n x = (x, [], n) := by cases x <;> simp_all [flat1, name1]
  simp only [nameL, h1, nameL_flat h.2, List.append_nil]
theorem nameV_flat {n : Nat} {x : AV} (h : x.isFlat = true) : nameV n x = (x, [], n) := by
 cases x <;> simp only [AV.isFlat, Bool.false_eq_true] at h
 case bool b => rfl
 case int k z => rfl
 case agg vs => simp only [nameV, nameA, nameL_flat h]
theorem Keep.below {Φ' : Fz} {f : Bool} {w' : World} (hK : Keep Φ w) (hle : (Φ.all w f).le Φ') (hk : Keep Φ' w') (hs : Below 0 w w') : Below w.heap.size w w' := by
 refine ⟨hs.os, hs.tape, hs.output, hs.size, fun k hk2 => ?_⟩
 have hw : w.heap[k]? = some w.heap[k] := Array.getElem?_eq_getElem hk2
 cases e : Φ k with
 | none =>
  have h1 : Φ.all w f k = some (f, w.heap[k]) := by simp [Fz.all, e, hk2]
  rw [hw]; exact hk k _ (hle k _ h1)
 | some x =>
  have h1 : Φ.all w f k = some x := by simp [Fz.all, e]
  rw [hk k x (hle k x h1), hK k x e]
theorem Fn.flat_call {f : FuncId} {args args' : List AV} {r : AV} {vs : List Value} (hp : Fn P f args' r) (hf : r.isFlat = true) (hc : Cloz H args args') (hH : RH Φ n β H w) (hK : Keep Φ w) (hv : RVt Φ n β args vs) :
 Calls P f vs.toArray w fun e w' => e = .returned r.conc ∧ Below w.heap.size w w' := by
 have hv' : RVt (Φ.all w true) 0 (fun _ _ => ⟨false, 0, 0⟩) args' vs := hc.sound hH hv
 refine (hp (Φ.all w true) w _ vs hK.all RH.empty hv').mono fun e w' ⟨v, Φ1, β1, he, g1, g2, g3, g4, g5, g6, g7⟩ => ?_
 rw [nameV_flat hf] at g5
 exact ⟨by rw [he, RV.conc hf g5], hK.below g3 g4 g7⟩
theorem RV.of_conc {r : AV} {Φ1 : Fz} {β1 : Spots} {m : Nat} {v : Value} (hf : r.isFlat = true) (h : RV Φ1 m β1 r v) : RV Φ n β r r.conc := by
 have := RV.flat (Φ := Φ) (n := n) (β := β) hf h
 rwa [RV.conc hf this] at this
theorem quiet_op {o : Oper} {lo : LOp} {K : AV → Prop} (hl : lowOp P o = some lo) (hc : ∀ f xs, lo = .call f xs → callOk P f = true) (h : Rel w0 Φ n β env H a w) (hx : xq P env H n K lo)
 {next : Act → Prop} (hn : ∀ x v, K x → RV Φ n β x v → next (a.put o.dst v)) : o.quiet P a (fun w' => Below w.heap.size w w') next := by
 cases hcall : lo.isCall with
 | false =>
  have hx' : lo.quiet = true ∧ xop P env H n (fun v _ _ => K v) lo := by cases lo <;> first | exact hx | simp [LOp.isCall] at hcall
  obtain ⟨v, x, hr, hv, hK⟩ := op_quiet hl hx'.1 h.env h.heap h.keep hx'.2
  refine ⟨v, fun w' hw' => ?_, hn x v hK hv⟩
  unfold Oper.quietAt
  rw [hr w' hw']
  exact ⟨rfl, rfl⟩
 | true =>
  cases lo <;> simp only [LOp.isCall, Bool.false_eq_true] at hcall
  rename_i f ys
  obtain ⟨xs, ats, ho, hys⟩ := call_form hl
  simp only [xq] at hx
  obtain ⟨args, r, h1, h2, h3, h4⟩ := hx
  have hv := lowOpds_sound h.env hys
  have later : ∀ w', Below w.heap.size w w' → RH Φ n β H w' ∧ Keep Φ w' := fun w' hw' =>
   ⟨h.heap.kept (Fz.le_refl Φ) (Nat.le_refl _) (fun _ _ => rfl) (fun r π t hr hx => (h.heap.own hr hx).1) (fun r π t hr hx => hw'.block _ (h.heap.lt hr hx)), fun b x hb => by rw [hw'.block _ (h.keep.lt hb)]; exact h.keep b x hb⟩
  refine ⟨r.conc, fun w' hw' => ?_, ?_⟩
  · unfold Oper.quietAt
    rw [run_call ho (hc f ys rfl)]
    refine ⟨rfl, ?_⟩
    refine (h3.flat_call h2 h1 (later w' hw').1 (later w' hw').2 hv).mono fun e w2 ⟨he, k3⟩ => ?_
    exact ⟨he, hw'.trans (k3.mono hw'.size)⟩
  · have hv' : RVt (Φ.all w true) 0 (fun _ _ => ⟨false, 0, 0⟩) args _ := h1.sound h.heap hv
    obtain ⟨e, w2, fr, ⟨v, Φ1, β1, he, g1, g2, g3, g4, g5, _⟩, _⟩ := h3 (Φ.all w true) w _ _ h.keep.all RH.empty hv' []
    rw [nameV_flat h2] at g5
    exact hn r r.conc h4 (RV.of_conc h2 g5)
theorem xqs_sound {ops : List Oper} {K : List AV → Prop} {Q : Act → Prop} : ∀ (l : List Oper) (los : List LOper) (env : List AV) (a : Act),
 lowOpers P ops l = some los → Rel w0 Φ n β env H a w → xqs P H n K los env → (∀ env' a', K env' → Rel w0 Φ n β env' H a' w → Q a') → wpQuiet P ops.toArray (fun w' => Below w.heap.size w w') Q l a
 | [], los, env, a, hl, h, hx, hQ => by
  simp only [lowOpers, Option.some.injEq] at hl
  subst hl
  exact hQ env a hx h
 | o :: l, los, env, a, hl, h, hx, hQ => by
  simp only [lowOpers] at hl
  split at hl
  · rename_i lo los' h1 h2
    cases hl
    obtain ⟨g1, g2, g3, g4⟩ := lowOper_spec h1
    have more : ∀ x v, xqs P H n K los' (Go.Proofs.Ytmjphjphgjmojaa.put env lo.dst x) → RV Φ n β x v → wpQuiet P ops.toArray (fun w' => Below w.heap.size w w') Q l (a.put o.dst v) := fun x v hK hv => by
     rw [g3] at hK
     exact xqs_sound l los' _ _ h2 (h.put o.dst (Fz.le_refl Φ) (Nat.le_refl _) (fun _ _ => rfl) hv h.heap h.keep (Below.refl _ _)) hK hQ
    have run : xq P env H n (fun v => xqs P H n K los' (Go.Proofs.Ytmjphjphgjmojaa.put env lo.dst v)) lo.op → o.quiet P a (fun w' => Below w.heap.size w w') (wpQuiet P ops.toArray (fun w' => Below w.heap.size w w') Q l) := fun hx =>
     quiet_op g1 g4 h hx fun x v hK hv => more x v hK hv
    have skip : xqs P H n K los' (Go.Proofs.Ytmjphjphgjmojaa.put env lo.dst .und) → wpQuiet P ops.toArray (fun w' => Below w.heap.size w w') Q l (a.put o.dst undef) := fun hx => more .und undef hx (by simp [RV])
    unfold wpQuiet
    cases hg : o.guard with
    | none =>
     rw [hg] at g2
     simp only [lowGuard, Option.some.injEq] at g2
     simp only [xqs, ← g2] at hx
     simp only [Region.wanted, hg, if_true]
     exact run hx
    | some p =>
     obtain ⟨j, want⟩ := p
     rw [hg] at g2
     simp only [lowGuard] at g2
     split at g2
     · rename_i oj hj
       split at g2
       · rename_i d hd
         simp only [Option.some.injEq] at g2
         simp only [xqs, ← g2] at hx
         split at hx
         · rename_i b hb
           have hy := guard_bool hj hd h.env hb
           simp only [Region.wanted, hg, hy]
           by_cases hbw : b = want
           · subst hbw
             rw [if_pos (by simp)]
             rw [if_pos rfl] at hx
             exact run hx
           · rw [if_neg (by simp [hbw])]
             rw [if_neg hbw] at hx
             exact skip hx
         · rename_i hb
           have hy := guard_und hj hd h.env hb
           simp only [Region.wanted, hg, hy]
           rw [if_neg (by simp)]
           exact skip hx
         · exact hx.elim
       · cases g2
     · cases g2
  · cases hl
theorem still_op {o : Oper} {lo : LOp} {K : AV → Prop} (hl : lowOp P o = some lo) (hq : lo.quiet = true) (h : Rel w0 Φ n β env H a w) (hx : xq P env H n K lo)
 {next : Act → Prop} (hn : ∀ x v, K x → RV Φ n β x v → next (a.put o.dst v)) : o.still P a w next := by
 have hx' : lo.quiet = true ∧ xop P env H n (fun v _ _ => K v) lo := by cases lo <;> first | exact hx | simp [LOp.quiet] at hq
 obtain ⟨v, x, hr, hv, hK⟩ := op_quiet hl hx'.1 h.env h.heap h.keep hx'.2
 unfold Oper.still
 rw [hr w (Below.refl _ _)]
 exact ⟨rfl, hn x v hK hv⟩
theorem xss_sound {ops : List Oper} {K : List AV → Prop} {Q : Act → Prop} : ∀ (l : List Oper) (los : List LOper) (env : List AV) (a : Act),
 lowOpers P ops l = some los → los.all (·.op.quiet) = true → Rel w0 Φ n β env H a w → xqs P H n K los env → (∀ env' a', K env' → Rel w0 Φ n β env' H a' w → Q a') → wpStill P ops.toArray w Q l a
 | [], los, env, a, hl, _, h, hx, hQ => by
  simp only [lowOpers, Option.some.injEq] at hl
  subst hl
  exact hQ env a hx h
 | o :: l, los, env, a, hl, hall, h, hx, hQ => by
  simp only [lowOpers] at hl
  split at hl
  · rename_i lo los' h1 h2
    cases hl
    simp only [List.all_cons, Bool.and_eq_true] at hall
    obtain ⟨g1, g2, g3, g4⟩ := lowOper_spec h1
    have more : ∀ x v, xqs P H n K los' (Go.Proofs.Ytmjphjphgjmojaa.put env lo.dst x) → RV Φ n β x v → wpStill P ops.toArray w Q l (a.put o.dst v) := fun x v hK hv => by
     rw [g3] at hK
     exact xss_sound l los' _ _ h2 hall.2 (h.put o.dst (Fz.le_refl Φ) (Nat.le_refl _) (fun _ _ => rfl) hv h.heap h.keep (Below.refl _ _)) hK hQ
    have run : xq P env H n (fun v => xqs P H n K los' (Go.Proofs.Ytmjphjphgjmojaa.put env lo.dst v)) lo.op → o.still P a w (wpStill P ops.toArray w Q l) := fun hx =>
     still_op g1 hall.1 h hx fun x v hK hv => more x v hK hv
    have skip : xqs P H n K los' (Go.Proofs.Ytmjphjphgjmojaa.put env lo.dst .und) → wpStill P ops.toArray w Q l (a.put o.dst undef) := fun hx => more .und undef hx (by simp [RV])
    unfold wpStill
    cases hg : o.guard with
    | none =>
     rw [hg] at g2
     simp only [lowGuard, Option.some.injEq] at g2
     simp only [xqs, ← g2] at hx
     simp only [Region.wanted, hg, if_true]
     exact run hx
    | some p =>
     obtain ⟨j, want⟩ := p
     rw [hg] at g2
     simp only [lowGuard] at g2
     split at g2
     · rename_i oj hj
       split at g2
       · rename_i d hd
         simp only [Option.some.injEq] at g2
         simp only [xqs, ← g2] at hx
         split at hx
         · rename_i b hb
           have hy := guard_bool hj hd h.env hb
           simp only [Region.wanted, hg, hy]
           by_cases hbw : b = want
           · subst hbw
             rw [if_pos (by simp)]
             rw [if_pos rfl] at hx
             exact run hx
           · rw [if_neg (by simp [hbw])]
             rw [if_neg hbw] at hx
             exact skip hx
         · rename_i hb
           have hy := guard_und hj hd h.env hb
           simp only [Region.wanted, hg, hy]
           rw [if_neg (by simp)]
           exact skip hx
         · exact hx.elim
       · cases g2
     · cases g2
  · cases hl
theorem lowOpers_take {ops : List Oper} : ∀ (k : Nat) (l : List Oper) (los : List LOper), lowOpers P ops l = some los → lowOpers P ops (l.take k) = some (los.take k) ∧ lowOpers P ops (l.drop k) = some (los.drop k)
 | 0, l, los, h => by simp [lowOpers, h]
 | k + 1, [], los, h => by simp only [lowOpers, Option.some.injEq] at h; subst h; simp [lowOpers]
 | k + 1, o :: l, los, h => by
  simp only [lowOpers] at h
  split at h
  · rename_i lo los' h1 h2
    cases h
    obtain ⟨g1, g2⟩ := lowOpers_take k l los' h2
    exact ⟨by simp [lowOpers, h1, g1], by simpa using g2⟩
  · cases h
theorem Rel.later {w' : World} (h : Rel w0 Φ n β env H a w) (hw : Below w.heap.size w w') : Rel w0 Φ n β env H a w' :=
 ⟨h.env, h.heap.kept (Fz.le_refl Φ) (Nat.le_refl _) (fun _ _ => rfl) (fun r π t hr hx => (h.heap.own hr hx).1) (fun r π t hr hx => hw.block _ (h.heap.lt hr hx)), fun b x hb => by rw [hw.block _ (h.keep.lt hb)]; exact h.keep b x hb, h.since.trans (hw.mono (Nat.zero_le _)), h.defers⟩
end
inductive LCode where
 | skip
 | reg (draw : Bool) (ops : List LOper)
 | regt (head tail : List LOper)
 | regd (head tail : List LOper)
 | seq (a b : LCode)
 | cond (c : Opd) (a b : LCode)
 | block (id : Nat) (c : LCode)
 | loop (c : LCode)
 | exit (id : Nat)
 | ret
def lastQuiet : List LOper → Bool
 | [] => true
 | [o] => o.op.quiet || o.op.isCall
 | _ :: os => lastQuiet os
def Opd.tmps : Opd → List Nat
 | .t i => [i]
 | .c _ => []
def optTmps : Option Opd → List Nat
 | some x => x.tmps
 | none => []
def LOp.reads : LOp → List Nat
 | .mv x | .box _ x | .load _ _ x | .un _ x | .fadr _ x | .fld _ _ _ x | .ext x _ | .len x | .cvt _ x | .nck x | .mk _ _ _ _ x => x.tmps
 | .pick c a b => c.tmps ++ (a.tmps ++ b.tmps)
 | .fresh _ _ => []
 | .bld _ ps => ps.flatMap fun p => p.2.2.tmps
 | .bsl _ _ _ _ ps => ps.flatMap fun p => p.2.2.tmps
 | .store _ a x | .bin _ a x | .binb _ a x | .iadr _ a x | .app _ _ _ _ a x | .cpy _ a x | .sh _ a x | .beq _ _ a x | .mx _ a x => a.tmps ++ x.tmps
 | .slc _ x lo hi => x.tmps ++ (optTmps lo ++ optTmps hi)
 | .call _ xs => xs.flatMap Opd.tmps
def LOper.reads (o : LOper) : List Nat := o.op.reads ++ (match o.g with | some (t, _) => [t] | none => [])
def LOp.chain : LOp → Bool
 | .bsl _ _ _ _ _ => false
 | .fresh _ _ => false
 | o => !o.quiet
def LOper.free (i j : LOper) : Bool := (match i.dst with | some d => !(j.reads.contains d) && j.dst != some d | none => true)
def edgeB (ops : List Oper) (j i : Nat) : Bool := match ops[j]? with
 | some o => o.after.any fun e => e.on == i && Region.binds .any e
 | none => false
def reachB (ops : List Oper) : Nat → List Nat → Bool
 | 0, _ => true
 | i + 1, S => S.any (fun k => edgeB ops k i) && reachB ops i (i :: S)
def bound (ops : List Oper) : Nat → List Nat → List Nat
 | 0, S => S
 | i + 1, S => if S.any (fun k => edgeB ops k i) = true then bound ops i (i :: S) else bound ops i S
def chainAt (los : List LOper) (k : Nat) : Bool := match los[k]? with
 | some o => o.op.chain
 | none => false
def drawOk (ops : List Oper) (los : List LOper) (h : Nat) : Bool :=
 Region.noSelect ops.toArray && (los.length == h || los.length == h + 1) && (List.range los.length).all fun j =>
  (match ops[j]? with | some o => o.after.all fun e => !Region.binds .any e || decide (e.on < j) | none => false) &&
  (if h ≤ j then reachB ops j [j] else true) &&
  (List.range j).all fun i => (match los[i]?, los[j]? with | some a, some b => a.dst.isNone || a.dst != b.dst | _, _ => false) && (edgeB ops j i || (match los[i]?, los[j]? with
   | some a, some b => a.free b && b.free a && (!(a.op.chain && b.op.chain) || (bound ops j [j]).contains i)
   | _, _ => false))
def lowRegion (P : Program) (ops : Array Oper) (draw : Bool) : Option LCode :=
 match lowOpers P ops.toList ops.toList with
 | some los =>
  if draw = false then some (.reg false los)
  else if P.follows .mixedOrders = false then none
  else if lastQuiet los = false ∧ Region.lexTailB .any ops (ops.size - 1) = true ∧ (los.take (ops.size - 1)).all (·.op.quiet) = true then some (.regt (los.take (ops.size - 1)) (los.drop (ops.size - 1)))
  else if Region.lexB .any ops = true ∧ los.all (·.op.quiet) = true then some (.reg true los)
  else if drawOk ops.toList los (los.length - 1) = true then some (.regd (los.take (los.length - 1)) (los.drop (los.length - 1)))
  else if drawOk ops.toList los los.length = true then some (.regd los [])
  else if Region.lexB .any ops = true then some (.reg true los)
  else none
 | none => none
theorem lowRegion_form {P : Program} {ops : Array Oper} {draw : Bool} {lc : LCode} (h : lowRegion P ops draw = some lc) : (∃ d l, lc = .reg d l) ∨ (∃ x y, lc = .regt x y) ∨ ∃ x y, lc = .regd x y := by
 unfold lowRegion at h
 repeat' (split at h)
 all_goals cases h
 all_goals first
  | exact .inl ⟨_, _, rfl⟩
  | exact .inr (.inl ⟨_, _, rfl⟩)
  | exact .inr (.inr ⟨_, _, rfl⟩)
def lowCode (P : Program) : Code → Option LCode
 | .skip => some .skip
 | .region _ ops draw => lowRegion P ops draw
 | .seq a b => match lowCode P a, lowCode P b with | some a, some b => some (.seq a b) | _, _ => none
 | .cond c a b => match lowOpd c, lowCode P a, lowCode P b with | some c, some a, some b => some (.cond c a b) | _, _, _ => none
 | .block id c => (lowCode P c).map (.block id)
 | .loop c => (lowCode P c).map .loop
 | .exit id => some (.exit id)
 | .ret => some .ret
 | _ => none
inductive Out where
 | normal
 | exit (id : Nat)
 | ret
abbrev Post := Out → List AV → Heap → Nat → Prop
def outOf : Exit → Option Out
 | .normal => some .normal
 | .exit i => some (.exit i)
 | .ret => some .ret
 | _ => none
def After (w0 : World) (Φ : Fz) (m : Nat) (β : Spots) (Q : Post) (e : Exit) (a : Act) (w : World) : Prop :=
 ∃ o env H n' Φ' β', outOf e = some o ∧ Q o env H n' ∧ m ≤ n' ∧ (∀ i, i < m → β' i = β i) ∧ Φ.le Φ' ∧ Rel w0 Φ' n' β' env H a w
def Aw (P : Program) (m : Nat) (lc : LCode) (Q : Post) (env : List AV) (H : Heap) (n : Nat) : Prop :=
 ∀ c, lowCode P c = some lc → ∀ w0 Φ β a w, m ≤ n → Rel w0 Φ n β env H a w → c.wp P (After w0 Φ m β Q) a w
section
variable {P : Program} {Q : Post} {env : List AV} {H : Heap} {n m : Nat}
theorem After.of {w0 : World} {Φ : Fz} {β : Spots} {a : Act} {w : World} {e : Exit} {o : Out} (ho : outOf e = some o) (hq : Q o env H n) (hm : m ≤ n) (h : Rel w0 Φ n β env H a w) : After w0 Φ m β Q e a w :=
 ⟨o, env, H, n, Φ, β, ho, hq, hm, fun _ _ => rfl, Fz.le_refl Φ, h⟩
theorem After.of_more {w0 : World} {Φ Φ1 : Fz} {β β1 : Spots} {a : Act} {w : World} {e : Exit} (hb : ∀ i, i < m → β1 i = β i) (hf : Φ.le Φ1) (h : After w0 Φ1 m β1 Q e a w) : After w0 Φ m β Q e a w := by
 obtain ⟨o, env, H, n', Φ', β', h1, h2, h3, h4, h5, h6⟩ := h
 exact ⟨o, env, H, n', Φ', β', h1, h2, h3, fun i hi => (h4 i hi).trans (hb i hi), hf.trans h5, h6⟩
theorem Aw.skip (h : Q .normal env H n) : Aw P m .skip Q env H n := by
 intro c hc w0 Φ β a w hm hR
 cases c <;> simp only [lowCode, Option.some.injEq, reduceCtorEq] at hc
 case skip => exact wp_skip (After.of (o := .normal) rfl h hm hR)
 case region => rcases lowRegion_form hc with ⟨_, _, e⟩ | ⟨_, _, e⟩ | ⟨_, _, e⟩ <;> cases e
 case seq => split at hc <;> simp at hc
 case cond => split at hc <;> simp at hc
 all_goals simp at hc
theorem Aw.exit {id : Nat} (h : Q (.exit id) env H n) : Aw P m (.exit id) Q env H n := by
 intro c hc w0 Φ β a w hm hR
 cases c <;> simp only [lowCode, Option.some.injEq, reduceCtorEq] at hc
 case exit => cases hc; exact wp_exit (After.of (o := .exit id) rfl h hm hR)
 case region => rcases lowRegion_form hc with ⟨_, _, e⟩ | ⟨_, _, e⟩ | ⟨_, _, e⟩ <;> cases e
 case seq => split at hc <;> simp at hc
 case cond => split at hc <;> simp at hc
 all_goals simp at hc
theorem Aw.ret (h : Q .ret env H n) : Aw P m .ret Q env H n := by
 intro c hc w0 Φ β a w hm hR
 cases c <;> simp only [lowCode, Option.some.injEq, reduceCtorEq] at hc
 case ret => exact wp_ret (After.of (o := .ret) rfl h hm hR)
 case region => rcases lowRegion_form hc with ⟨_, _, e⟩ | ⟨_, _, e⟩ | ⟨_, _, e⟩ <;> cases e
 case seq => split at hc <;> simp at hc
 case cond => split at hc <;> simp at hc
 all_goals simp at hc
def Post.then (P : Program) (m : Nat) (b : LCode) (Q : Post) : Post
 | .normal => Aw P m b Q
 | e => Q e
theorem Aw.seq {x y : LCode} (h : Aw P m x (Post.then P m y Q) env H n) : Aw P m (.seq x y) Q env H n := by
 intro c hc w0 Φ β a w hm hR
 cases c <;> simp only [lowCode, Option.some.injEq, reduceCtorEq] at hc
 case seq cx cy =>
  split at hc
  · rename_i h1 h2
    cases hc
    refine wp_seq (wp_mono (h cx h1 w0 Φ β a w hm hR) fun e a' w' hq => ?_)
    obtain ⟨o, env', H', n', Φ', β', g1, g2, g3, g4, g5, g6⟩ := hq
    cases e <;> simp only [outOf, Option.some.injEq, reduceCtorEq] at g1 <;> subst g1
    case normal => exact wp_mono (g2 cy h2 w0 Φ' β' a' w' g3 g6) fun e a2 w2 h3 => h3.of_more g4 g5
    case exit i => exact ⟨_, env', H', n', Φ', β', rfl, g2, g3, g4, g5, g6⟩
    case ret => exact ⟨_, env', H', n', Φ', β', rfl, g2, g3, g4, g5, g6⟩
  · cases hc
 case region => rcases lowRegion_form hc with ⟨_, _, e⟩ | ⟨_, _, e⟩ | ⟨_, _, e⟩ <;> cases e
 case cond => split at hc <;> simp at hc
 all_goals simp at hc
theorem Aw.cond {c : Opd} {x y : LCode} {t : Bool} (hc : c.val env = .bool t) (h1 : t = true → Aw P m x Q env H n) (h2 : t = false → Aw P m y Q env H n) : Aw P m (.cond c x y) Q env H n := by
 intro cc hcc w0 Φ β a w hm hR
 cases cc <;> simp only [lowCode, Option.some.injEq, reduceCtorEq] at hcc
 case cond co cx cy =>
  split at hcc
  · rename_i g1 g2 g3
    cases hcc
    have hv := lowOpd_sound hR.env g1
    rw [hc] at hv
    simp only [RV] at hv
    exact wp_cond_split hv (fun e => h1 e cx g2 w0 Φ β a w hm hR) (fun e => h2 e cy g3 w0 Φ β a w hm hR)
  · cases hcc
 case region => rcases lowRegion_form hcc with ⟨_, _, e⟩ | ⟨_, _, e⟩ | ⟨_, _, e⟩ <;> cases e
 case seq => split at hcc <;> simp at hcc
 all_goals simp at hcc
def Post.inBlock (id : Nat) (Q : Post) : Post
 | .exit i => if i = id then Q .normal else Q (.exit i)
 | e => Q e
theorem Aw.block {id : Nat} {x : LCode} (h : Aw P m x (Post.inBlock id Q) env H n) : Aw P m (.block id x) Q env H n := by
 intro cc hcc w0 Φ β a w hm hR
 cases cc <;> simp only [lowCode, Option.some.injEq, reduceCtorEq] at hcc
 case block id' cx =>
  obtain ⟨lx, g1, g2⟩ := Option.map_eq_some_iff.1 hcc
  cases g2
  refine wp_block (wp_mono (h cx g1 w0 Φ β a w hm hR) fun e a' w' hq => ?_)
  obtain ⟨o, env', H', n', Φ', β', g1, g2, g3, g4, g5, g6⟩ := hq
  cases e <;> simp only [outOf, Option.some.injEq, reduceCtorEq] at g1 <;> subst g1
  case normal => exact ⟨.normal, env', H', n', Φ', β', rfl, g2, g3, g4, g5, g6⟩
  case exit i =>
   simp only [Exit.inBlock]
   simp only [Post.inBlock] at g2
   split
   · rename_i e; rw [if_pos e] at g2; exact ⟨.normal, env', H', n', Φ', β', rfl, g2, g3, g4, g5, g6⟩
   · rename_i e; rw [if_neg e] at g2; exact ⟨.exit i, env', H', n', Φ', β', rfl, g2, g3, g4, g5, g6⟩
  case ret => exact ⟨.ret, env', H', n', Φ', β', rfl, g2, g3, g4, g5, g6⟩
 case region => rcases lowRegion_form hcc with ⟨_, _, e⟩ | ⟨_, _, e⟩ | ⟨_, _, e⟩ <;> cases e
 case seq => split at hcc <;> simp at hcc
 case cond => split at hcc <;> simp at hcc
 all_goals simp at hcc
theorem Aw.reg {ops : List LOper} (h : xops P (Q .normal) ops env H n) : Aw P m (.reg false ops) Q env H n := by
 intro cc hcc w0 Φ β a w hm hR
 cases cc <;> simp only [lowCode, Option.some.injEq, reduceCtorEq] at hcc
 case region id os draw =>
  unfold lowRegion at hcc
  split at hcc
  · rename_i los g1
    split at hcc
    · rename_i hd
      subst hd
      cases hcc
      refine wp_region_list ?_
      have := xops_sound (ops := os.toList) os.toList ops Φ n β env H a w g1 hR h (Q := After w0 Φ m β Q) fun env' H' n' Φ' β' a' w' k1 k2 k3 k4 k5 => ⟨.normal, env', H', n', Φ', β', rfl, k1, Nat.le_trans hm k2, fun i hi => k3 i (Nat.lt_of_lt_of_le hi hm), k4, k5⟩
      simpa using this
    · repeat' (split at hcc)
      all_goals cases hcc
  · cases hcc
 case seq => split at hcc <;> simp at hcc
 case cond => split at hcc <;> simp at hcc
 all_goals simp at hcc
theorem Aw.regq {ops : List LOper} (h : xqs P H n (fun env' => Q .normal env' H n) ops env) : Aw P m (.reg true ops) Q env H n := by
 intro cc hcc w0 Φ β a w hm hR
 cases cc <;> simp only [lowCode, Option.some.injEq, reduceCtorEq] at hcc
 case region id os draw =>
  have key : ∀ los, lowOpers P os.toList os.toList = some los → los = ops → draw = true → ¬ P.follows .mixedOrders = false → Region.lexB .any os = true → (Code.region id os draw).wp P (After w0 Φ m β Q) a w := by
   intro los g1 e1 e2 hmo hB
   subst e1; subst e2
   refine wp_region_quiet (C := fun w' => Below w.heap.size w w') (by simpa using hmo) hB (Below.drew (Below.refl _ _)) ?_
   have := xqs_sound (ops := os.toList) (Q := fun a' => ∀ w', Below w.heap.size w w' → After w0 Φ m β Q .normal a' w') os.toList los env a g1 hR h fun env' a' k1 k2 w' hw' => After.of (o := .normal) rfl k1 hm (k2.later hw')
   simpa using this
  unfold lowRegion at hcc
  split at hcc
  · rename_i los g1
    split at hcc
    · cases hcc
    · rename_i hd
      obtain rfl : draw = true := by cases draw <;> simp_all
      split at hcc
      · cases hcc
      · rename_i hmo
        split at hcc
        · cases hcc
        · split at hcc
          · rename_i hB
            cases hcc
            exact key _ g1 rfl rfl hmo hB.1
          · split at hcc
            · cases hcc
            · split at hcc
              · cases hcc
              · split at hcc
                · rename_i hB
                  cases hcc
                  exact key _ g1 rfl rfl hmo hB
                · cases hcc
  · cases hcc
 case seq => split at hcc <;> simp at hcc
 case cond => split at hcc <;> simp at hcc
 all_goals simp at hcc
theorem Aw.regt {head tail : List LOper} (h : xqs P H n (fun env' => xops P (Q .normal) tail env' H n) head env) : Aw P m (.regt head tail) Q env H n := by
 intro cc hcc w0 Φ β a w hm hR
 cases cc <;> simp only [lowCode, Option.some.injEq, reduceCtorEq] at hcc
 case region id os draw =>
  unfold lowRegion at hcc
  split at hcc
  · rename_i los g1
    split at hcc
    · cases hcc
    · rename_i hd
      obtain rfl : draw = true := by cases draw <;> simp_all
      split at hcc
      · cases hcc
      · rename_i hmo
        split at hcc
        · rename_i hB
          cases hcc
          obtain ⟨t1, t2⟩ := lowOpers_take (os.size - 1) os.toList los g1
          obtain ⟨l, rfl⟩ : ∃ l : List Oper, os = l.toArray := ⟨os.toList, by simp⟩
          have hR' : Rel w0 Φ n β env H a { w with drawn := w.drawn + 1 } := hR.later (Below.drew (Below.refl _ _))
          refine wp_region_still_tail (l.toArray.size - 1) (by simpa using hmo) hB.2.1 ?_
          refine xss_sound (l.take (l.toArray.size - 1)) _ env a t1 hB.2.2 hR' h fun env' a' k1 k2 => ?_
          exact xops_sound (l.drop (l.toArray.size - 1)) _ Φ n β env' H a' _ t2 k2 k1 (Q := After w0 Φ m β Q) fun env' H' n' Φ' β' a' w' k1 k2 k3 k4 k5 => ⟨.normal, env', H', n', Φ', β', rfl, k1, Nat.le_trans hm k2, fun i hi => k3 i (Nat.lt_of_lt_of_le hi hm), k4, k5⟩
        · repeat' (split at hcc)
          all_goals cases hcc
  · cases hcc
 case seq => split at hcc <;> simp at hcc
 case cond => split at hcc <;> simp at hcc
 all_goals simp at hcc
end
end Go.Proofs.Ytmjphjphgjmojaa
