/- Regions, bodies and functions of the abstract machine. No program is named here. -/
import Derived.Test.YtholbkojdcdokabI
namespace Go.Proofs.Ytholbkojdcdokab
open Go.RowKit

section
variable {P : Program} {w0 : World} {n : Nat} {β : Nat → Spot} {env : List AV} {H : Heap} {a : Act} {w : World}

/-- All that the machine says of a frame in a world. -/
structure Rel (w0 : World) (n : Nat) (β : Nat → Spot) (env : List AV) (H : Heap) (a : Act) (w : World) : Prop where
  env : Env w0 n β env a
  heap : RH w0 n β H w
  below : Below w0.heap.size w0 w
  defers : a.defers = []

theorem Rel.put {n' : Nat} {β' : Nat → Spot} {H' : Heap} {w' : World} {x : AV} {v : Value} (h : Rel w0 n β env H a w) (d : Option Nat) (hn : n ≤ n') (hb : ∀ i, i < n → β' i = β i) (hx : RV w0 n' β' x v) (hH : RH w0 n' β' H' w')
    (hB : Below w0.heap.size w0 w') : Rel w0 n' β' (Go.Proofs.Ytholbkojdcdokab.put env d x) H' (a.put d v) w' :=
  ⟨(h.env.more hn hb).put hx, hH, hB, by cases d <;> exact h.defers⟩

theorem guard_bool {ops : List Oper} {d : Nat} {j : Nat} {o : Oper} {b : Bool} (ho : ops[j]? = some o) (hd : o.dst = some d) (he : Env w0 n β env a) (hb : env.getD d .unk = .bool b) :
    yielded ops.toArray a.tmps j = some b := by
  have h := he.rel d
  rw [hb] at h
  simp only [RV] at h
  unfold yielded
  have hlt : d < a.tmps.size := by
    rcases Nat.lt_or_ge d a.tmps.size with h1 | h1
    · exact h1
    · simp [Array.getD, Nat.not_lt.2 h1, undef] at h
  have : a.tmps[d]? = some (.bool b) := by
    simp only [Array.getD, hlt, dite_true] at h
    rw [Array.getElem?_eq_getElem hlt]
    exact congrArg some h
  simp [ho, hd, this]

theorem guard_und {ops : List Oper} {d : Nat} {j : Nat} {o : Oper} (ho : ops[j]? = some o) (hd : o.dst = some d) (he : Env w0 n β env a) (hb : env.getD d .unk = .und) :
    yielded ops.toArray a.tmps j = none := by
  have h := he.rel d
  rw [hb] at h
  simp only [RV] at h
  unfold yielded
  simp only [List.getElem?_toArray, ho, Option.bind_some, hd]
  rcases Nat.lt_or_ge d a.tmps.size with h1 | h1
  · simp only [Array.getD, h1, dite_true] at h
    have : a.tmps[d]? = some undef := by rw [Array.getElem?_eq_getElem h1]; exact congrArg some h
    rw [this]; rfl
  · rw [Array.getElem?_eq_none h1]

theorem lowOper_spec {ops : List Oper} {o : Oper} {lo : LOper} (h : lowOper P ops o = some lo) :
    lowOp P o = some lo.op ∧ lowGuard ops o.guard = some lo.g ∧ lo.dst = o.dst ∧ (∀ f xs, lo.op = .call f xs → callOk P f = true) := by
  unfold lowOper at h
  split at h
  · rename_i x g h1 h2
    split at h
    · split at h
      · rename_i hc; cases h; exact ⟨h1, h2, rfl, fun f xs e => by cases e; exact hc⟩
      · cases h
    · rename_i hn; cases h; exact ⟨h1, h2, rfl, fun f xs e => absurd e (hn f xs)⟩
  · cases h

/-- One operation, whatever it is. -/
theorem step_sound {o : Oper} {lo : LOp} {K : AV → Heap → Nat → Prop} (hl : lowOp P o = some lo) (hc : ∀ f xs, lo = .call f xs → callOk P f = true) (h : Rel w0 n β env H a w) (hx : xop P env H n K lo)
    {next : Act → World → Prop} {Q : Exit → Act → World → Prop}
    (hn : ∀ x v H' n' β' w', K x H' n' → n ≤ n' → (∀ i, i < n → β' i = β i) → Rel w0 n' β' (Go.Proofs.Ytholbkojdcdokab.put env o.dst x) H' (a.put o.dst v) w' → next (a.put o.dst v) w') : o.wp P a w next Q := by
  cases hcall : lo.isCall with
  | false =>
    obtain ⟨nx, v, w', β', x, H', n', hr, hv, hK, h1, h2, h3, h4, h5⟩ := op_sound hl hcall h.env h.heap h.below hx
    unfold Oper.wp
    rw [hr]
    have hR := h.put o.dst h1 h2 h3 h4 h5
    rcases hv with rfl | ⟨rfl, rfl⟩
    · exact hn x v H' n' β' w' hK h1 h2 hR
    · exact hn x undef H' n' β' w' hK h1 h2 hR
  | true =>
    cases lo <;> simp only [LOp.isCall, Bool.false_eq_true] at hcall
    rename_i f ys
    obtain ⟨xs, ats, ho, hys⟩ := call_form hl
    simp only [xop] at hx
    obtain ⟨r, H', n', hI, hK⟩ := hx
    unfold Oper.wp
    rw [run_call ho (hc f ys rfl), Oper.upon_enter]
    refine (hI w0 w β _ h.below h.heap (lowOpds_sound h.env hys)).mono fun e w' ⟨v, β', he, h1, h2, h3, h4, h5⟩ => ?_
    subst he
    exact hn r v H' n' β' w' hK h1 h2 (h.put o.dst h1 h2 h3 h4 h5)

theorem xops_sound {ops : List Oper} {K : List AV → Heap → Nat → Prop} {Q : Exit → Act → World → Prop} : ∀ (l : List Oper) (los : List LOper) (n : Nat) (β : Nat → Spot) (env : List AV) (H : Heap) (a : Act) (w : World),
    lowOpers P ops l = some los → Rel w0 n β env H a w → xops P K los env H n →
    (∀ env' H' n' β' a' w', K env' H' n' → n ≤ n' → (∀ i, i < n → β' i = β i) → Rel w0 n' β' env' H' a' w' → Q .normal a' w') → wpList P ops.toArray Q l a w
  | [], los, n, β, env, H, a, w, hl, h, hx, hQ => by
    simp only [lowOpers, Option.some.injEq] at hl
    subst hl
    exact hQ env H n β a w hx (Nat.le_refl _) (fun _ _ => rfl) h
  | o :: l, los, n, β, env, H, a, w, hl, h, hx, hQ => by
    simp only [lowOpers] at hl
    split at hl
    · rename_i lo los' h1 h2
      cases hl
      obtain ⟨g1, g2, g3, g4⟩ := lowOper_spec h1
      have more : ∀ x v H' n' β' w', xops P K los' (Go.Proofs.Ytholbkojdcdokab.put env lo.dst x) H' n' → n ≤ n' → (∀ i, i < n → β' i = β i) → Rel w0 n' β' (Go.Proofs.Ytholbkojdcdokab.put env o.dst x) H' (a.put o.dst v) w' → wpList P ops.toArray Q l (a.put o.dst v) w' :=
        fun x v H' n' β' w' hK hn hb hR => by
          rw [g3] at hK
          exact xops_sound l los' n' β' _ H' _ w' h2 hR hK fun env2 H2 n2 β2 a2 w2 k1 k2 k3 k4 => hQ env2 H2 n2 β2 a2 w2 k1 (Nat.le_trans hn k2) (fun i hi => (k3 i (Nat.lt_of_lt_of_le hi hn)).trans (hb i hi)) k4
      have run : xop P env H n (fun v H' n' => xops P K los' (Go.Proofs.Ytholbkojdcdokab.put env lo.dst v) H' n') lo.op → o.wp P a w (wpList P ops.toArray Q l) Q := fun hx => step_sound g1 g4 h hx fun x v H' n' β' w' hK h1 h2 hR => more x v H' n' β' w' hK h1 h2 hR
      have skip : xops P K los' (Go.Proofs.Ytholbkojdcdokab.put env lo.dst .und) H n → wpList P ops.toArray Q l (a.put o.dst undef) w := fun hx =>
        more .und undef H n β w hx (Nat.le_refl _) (fun _ _ => rfl) (h.put o.dst (Nat.le_refl _) (fun _ _ => rfl) (by simp [RV]) h.heap h.below)
      unfold wpList
      cases hg : o.guard with
      | none =>
        rw [hg] at g2
        simp only [lowGuard, Option.some.injEq] at g2
        simp only [xops, ← g2] at hx
        simp only [Region.wanted, hg, if_true]
        exact .inl (run hx)
      | some p =>
        obtain ⟨j, want⟩ := p
        rw [hg] at g2
        simp only [lowGuard] at g2
        split at g2
        · rename_i oj hj
          split at g2
          · rename_i d hd
            simp only [Option.some.injEq] at g2
            simp only [xops, ← g2] at hx
            split at hx
            · rename_i b hb
              have hy := guard_bool hj hd h.env hb
              simp only [Region.wanted, hg, hy]
              by_cases hbw : b = want
              · subst hbw
                rw [if_pos (by simp)]
                rw [if_pos rfl] at hx
                exact .inl (run hx)
              · rw [if_neg (by simp [hbw])]
                rw [if_neg hbw] at hx
                exact skip hx
            · rename_i hb
              have hy := guard_und hj hd h.env hb
              simp only [Region.wanted, hg, hy]
              rw [if_neg (by simp)]
              exact skip hx
            · exact hx.elim
          · cases g2
        · cases g2
    · cases hl

/-! ### Regions whose order is open -/

/-- What an operation does in a region whose order is open: it only reads, or calls a function that hands back a plain value. -/
def xq (P : Program) (env : List AV) (H : Heap) (n : Nat) (K : AV → Prop) : LOp → Prop
  | .call f xs => ∃ args r, Cloz H (xs.map (·.val env)) args ∧ r.isFlat = true ∧ Pur P f args r [] 0 ∧ K r
  | o => o.quiet = true ∧ xop P env H n (fun v _ _ => K v) o

def xqs (P : Program) (H : Heap) (n : Nat) (K : List AV → Prop) : List LOper → List AV → Prop
  | [], env => K env
  | o :: os, env => match o.g with
    | none => xq P env H n (fun v => xqs P H n K os (put env o.dst v)) o.op
    | some (t, want) => match env.getD t .unk with
      | .bool b => if b = want then xq P env H n (fun v => xqs P H n K os (put env o.dst v)) o.op else xqs P H n K os (put env o.dst .und)
      | .und => xqs P H n K os (put env o.dst .und)
      | _ => False

theorem RV.flat {r : AV} {w1 : World} {β1 : Nat → Spot} {m : Nat} {v : Value} (hf : r.isFlat = true) (h : RV w1 m β1 r v) : RV w0 n β r v := by
  have hown : ∀ vs : List AV, vs.all flat1 = true → cleans vs = true := by
    intro vs
    induction vs with
    | nil => intro _; rfl
    | cons y vs ih =>
      intro h
      simp only [List.all_cons, Bool.and_eq_true] at h
      simp only [cleans, Bool.and_eq_true]
      exact ⟨by cases y <;> simp_all [flat1, AV.clean], ih h.2⟩
  have keep : ∀ (vs : List AV) (us : List Value), vs.all flat1 = true → RVs w1 m β1 vs us → RVs w0 n β vs us := by
    intro vs
    induction vs with
    | nil => intro us _ h; simpa only [RVs] using h
    | cons y vs ih =>
      intro us hv h
      simp only [List.all_cons, Bool.and_eq_true] at hv
      simp only [RVs] at h ⊢
      obtain ⟨v, us', e, o, h1, h2⟩ := h
      refine ⟨v, us', e, o, ?_, ih us' hv.2 h2⟩
      cases y <;> simp only [flat1, Bool.false_eq_true, false_and] at hv
      all_goals simpa only [RV] using h1
  cases r <;> simp only [AV.isFlat, Bool.false_eq_true] at hf
  case bool b => simpa only [RV] using h
  case int k z => simpa only [RV] using h
  case agg vs =>
    simp only [RV] at h ⊢
    obtain ⟨arr, e, h2⟩ := h
    exact ⟨arr, e, keep vs _ hf h2⟩

theorem quiet_op {o : Oper} {lo : LOp} {K : AV → Prop} (hl : lowOp P o = some lo) (hc : ∀ f xs, lo = .call f xs → callOk P f = true) (h : Rel w0 n β env H a w) (hx : xq P env H n K lo)
    {next : Act → Prop} (hn : ∀ x v, K x → RV w0 n β x v → next (a.put o.dst v)) : o.quiet P a (fun w' => Below w.heap.size w w') next := by
  cases hcall : lo.isCall with
  | false =>
    have hx' : lo.quiet = true ∧ xop P env H n (fun v _ _ => K v) lo := by cases lo <;> first | exact hx | simp [LOp.isCall] at hcall
    obtain ⟨v, x, hr, hv, hK⟩ := op_quiet hl hx'.1 h.env h.heap h.below hx'.2
    refine ⟨v, fun w' hw' => ?_, hn x v hK hv⟩
    unfold Oper.quietAt
    rw [hr w' hw']
    exact ⟨rfl, rfl⟩
  | true =>
    cases lo <;> simp only [LOp.isCall, Bool.false_eq_true] at hcall
    rename_i f ys
    obtain ⟨xs, ats, ho, hys⟩ := call_form hl
    simp only [xq] at hx
    obtain ⟨args, r, h1, h2, h3, h4⟩ := hx
    have hv := lowOpds_sound h.env hys
    refine ⟨r.conc, fun w' hw' => ?_, ?_⟩
    · unfold Oper.quietAt
      rw [run_call ho (hc f ys rfl)]
      refine ⟨rfl, ?_⟩
      have hH' : RH w0 n β H w' := h.heap.kept (Nat.le_refl _) (fun _ _ => rfl) (fun r t hr => hw'.block _ (h.heap.lt hr))
      have hB' : Below w0.heap.size w0 w' := h.below.trans (hw'.mono h.below.size)
      refine (h3 w' β _ (h1.sound hH' hB' hv)).mono fun e w2 ⟨v, β2, he, k1, k2, k3⟩ => ?_
      exact ⟨by rw [he, RV.conc h2 k1], hw'.trans (k3.mono hw'.size)⟩
    · obtain ⟨e, w2, fr, ⟨v, β2, he, k1, _⟩, _⟩ := h3 w β _ (h1.sound h.heap h.below hv) []
      have h5 : RV w0 n β r v := RV.flat h2 k1
      rw [RV.conc h2 k1] at h5
      exact hn r r.conc h4 h5

theorem xqs_sound {ops : List Oper} {K : List AV → Prop} {Q : Act → Prop} : ∀ (l : List Oper) (los : List LOper) (env : List AV) (a : Act),
    lowOpers P ops l = some los → Rel w0 n β env H a w → xqs P H n K los env → (∀ env' a', K env' → Rel w0 n β env' H a' w → Q a') → wpQuiet P ops.toArray (fun w' => Below w.heap.size w w') Q l a
  | [], los, env, a, hl, h, hx, hQ => by
    simp only [lowOpers, Option.some.injEq] at hl
    subst hl
    exact hQ env a hx h
  | o :: l, los, env, a, hl, h, hx, hQ => by
    simp only [lowOpers] at hl
    split at hl
    · rename_i lo los' h1 h2
      cases hl
      obtain ⟨g1, g2, g3, g4⟩ := lowOper_spec h1
      have more : ∀ x v, xqs P H n K los' (Go.Proofs.Ytholbkojdcdokab.put env lo.dst x) → RV w0 n β x v → wpQuiet P ops.toArray (fun w' => Below w.heap.size w w') Q l (a.put o.dst v) := fun x v hK hv => by
        rw [g3] at hK
        exact xqs_sound l los' _ _ h2 (h.put o.dst (Nat.le_refl _) (fun _ _ => rfl) hv h.heap h.below) hK hQ
      have run : xq P env H n (fun v => xqs P H n K los' (Go.Proofs.Ytholbkojdcdokab.put env lo.dst v)) lo.op → o.quiet P a (fun w' => Below w.heap.size w w') (wpQuiet P ops.toArray (fun w' => Below w.heap.size w w') Q l) := fun hx =>
        quiet_op g1 g4 h hx fun x v hK hv => more x v hK hv
      have skip : xqs P H n K los' (Go.Proofs.Ytholbkojdcdokab.put env lo.dst .und) → wpQuiet P ops.toArray (fun w' => Below w.heap.size w w') Q l (a.put o.dst undef) := fun hx => more .und undef hx (by simp [RV])
      unfold wpQuiet
      cases hg : o.guard with
      | none =>
        rw [hg] at g2
        simp only [lowGuard, Option.some.injEq] at g2
        simp only [xqs, ← g2] at hx
        simp only [Region.wanted, hg, if_true]
        exact run hx
      | some p =>
        obtain ⟨j, want⟩ := p
        rw [hg] at g2
        simp only [lowGuard] at g2
        split at g2
        · rename_i oj hj
          split at g2
          · rename_i d hd
            simp only [Option.some.injEq] at g2
            simp only [xqs, ← g2] at hx
            split at hx
            · rename_i b hb
              have hy := guard_bool hj hd h.env hb
              simp only [Region.wanted, hg, hy]
              by_cases hbw : b = want
              · subst hbw
                rw [if_pos (by simp)]
                rw [if_pos rfl] at hx
                exact run hx
              · rw [if_neg (by simp [hbw])]
                rw [if_neg hbw] at hx
                exact skip hx
            · rename_i hb
              have hy := guard_und hj hd h.env hb
              simp only [Region.wanted, hg, hy]
              rw [if_neg (by simp)]
              exact skip hx
            · exact hx.elim
          · cases g2
        · cases g2
    · cases hl

theorem Rel.later {w' : World} (h : Rel w0 n β env H a w) (hw : Below w.heap.size w w') : Rel w0 n β env H a w' :=
  ⟨h.env, h.heap.kept (Nat.le_refl _) (fun _ _ => rfl) (fun r t hr => hw.block _ (h.heap.lt hr)), h.below.trans (hw.mono h.below.size), h.defers⟩

end

/-! ### Bodies -/
inductive LCode where
  | skip
  | reg (draw : Bool) (ops : List LOper)
  | seq (a b : LCode)
  | cond (c : Opd) (a b : LCode)
  | block (id : Nat) (c : LCode)
  | loop (c : LCode)
  | exit (id : Nat)
  | ret

def lowCode (P : Program) : Code → Option LCode
  | .skip => some .skip
  | .region _ ops draw => if draw && !(Region.lexB .any ops && P.follows .mixedOrders) then none else (lowOpers P ops.toList ops.toList).map (.reg draw)
  | .seq a b => match lowCode P a, lowCode P b with | some a, some b => some (.seq a b) | _, _ => none
  | .cond c a b => match lowOpd c, lowCode P a, lowCode P b with | some c, some a, some b => some (.cond c a b) | _, _, _ => none
  | .block id c => (lowCode P c).map (.block id)
  | .loop c => (lowCode P c).map .loop
  | .exit id => some (.exit id)
  | .ret => some .ret
  | _ => none

inductive Out where
  | normal
  | exit (id : Nat)
  | ret

abbrev Post := Out → List AV → Heap → Nat → Prop

def outOf : Exit → Option Out
  | .normal => some .normal
  | .exit i => some (.exit i)
  | .ret => some .ret
  | _ => none

/-- What is to hold behind a piece of the model's code. -/
def After (w0 : World) (n : Nat) (β : Nat → Spot) (Q : Post) (e : Exit) (a : Act) (w : World) : Prop :=
  ∃ o env H n' β', outOf e = some o ∧ Q o env H n' ∧ n ≤ n' ∧ (∀ i, i < n → β' i = β i) ∧ Rel w0 n' β' env H a w

/-- From a frame that reads so, the code leads where Q holds. -/
def Aw (P : Program) (lc : LCode) (Q : Post) (env : List AV) (H : Heap) (n : Nat) : Prop :=
  ∀ c, lowCode P c = some lc → ∀ w0 β a w, Rel w0 n β env H a w → c.wp P (After w0 n β Q) a w

section
variable {P : Program} {Q : Post} {env : List AV} {H : Heap} {n : Nat}

theorem After.of {w0 : World} {β : Nat → Spot} {a : Act} {w : World} {e : Exit} {o : Out} (ho : outOf e = some o) (hq : Q o env H n) (h : Rel w0 n β env H a w) : After w0 n β Q e a w :=
  ⟨o, env, H, n, β, ho, hq, Nat.le_refl _, fun _ _ => rfl, h⟩

theorem After.of_more {w0 : World} {n1 : Nat} {β β1 : Nat → Spot} {a : Act} {w : World} {e : Exit} (hn : n ≤ n1) (hb : ∀ i, i < n → β1 i = β i) (h : After w0 n1 β1 Q e a w) : After w0 n β Q e a w := by
  obtain ⟨o, env, H, n', β', h1, h2, h3, h4, h5⟩ := h
  exact ⟨o, env, H, n', β', h1, h2, Nat.le_trans hn h3, fun i hi => (h4 i (Nat.lt_of_lt_of_le hi hn)).trans (hb i hi), h5⟩

theorem Aw.skip (h : Q .normal env H n) : Aw P .skip Q env H n := by
  intro c hc w0 β a w hR
  cases c <;> simp only [lowCode, Option.some.injEq, reduceCtorEq] at hc
  case skip => exact wp_skip (After.of (o := .normal) rfl h hR)
  case region => split at hc <;> simp at hc
  case seq => split at hc <;> simp at hc
  case cond => split at hc <;> simp at hc
  all_goals simp at hc

theorem Aw.exit {id : Nat} (h : Q (.exit id) env H n) : Aw P (.exit id) Q env H n := by
  intro c hc w0 β a w hR
  cases c <;> simp only [lowCode, Option.some.injEq, reduceCtorEq] at hc
  case exit => cases hc; exact wp_exit (After.of (o := .exit id) rfl h hR)
  case region => split at hc <;> simp at hc
  case seq => split at hc <;> simp at hc
  case cond => split at hc <;> simp at hc
  all_goals simp at hc

theorem Aw.ret (h : Q .ret env H n) : Aw P .ret Q env H n := by
  intro c hc w0 β a w hR
  cases c <;> simp only [lowCode, Option.some.injEq, reduceCtorEq] at hc
  case ret => exact wp_ret (After.of (o := .ret) rfl h hR)
  case region => split at hc <;> simp at hc
  case seq => split at hc <;> simp at hc
  case cond => split at hc <;> simp at hc
  all_goals simp at hc

/-- Behind the first of two. -/
def Post.then (P : Program) (b : LCode) (Q : Post) : Post
  | .normal => Aw P b Q
  | e => Q e

theorem Aw.seq {x y : LCode} (h : Aw P x (Post.then P y Q) env H n) : Aw P (.seq x y) Q env H n := by
  intro c hc w0 β a w hR
  cases c <;> simp only [lowCode, Option.some.injEq, reduceCtorEq] at hc
  case seq cx cy =>
    split at hc
    · rename_i h1 h2
      cases hc
      refine wp_seq (wp_mono (h cx h1 w0 β a w hR) fun e a' w' hq => ?_)
      obtain ⟨o, env', H', n', β', g1, g2, g3, g4, g5⟩ := hq
      cases e <;> simp only [outOf, Option.some.injEq, reduceCtorEq] at g1 <;> subst g1
      case normal => exact wp_mono (g2 cy h2 w0 β' a' w' g5) fun e a2 w2 h3 => h3.of_more g3 g4
      case exit i => exact ⟨_, env', H', n', β', rfl, g2, g3, g4, g5⟩
      case ret => exact ⟨_, env', H', n', β', rfl, g2, g3, g4, g5⟩
    · cases hc
  case region => split at hc <;> simp at hc
  case cond => split at hc <;> simp at hc
  all_goals simp at hc

theorem Aw.cond {c : Opd} {x y : LCode} {t : Bool} (hc : c.val env = .bool t) (h1 : t = true → Aw P x Q env H n) (h2 : t = false → Aw P y Q env H n) : Aw P (.cond c x y) Q env H n := by
  intro cc hcc w0 β a w hR
  cases cc <;> simp only [lowCode, Option.some.injEq, reduceCtorEq] at hcc
  case cond co cx cy =>
    split at hcc
    · rename_i g1 g2 g3
      cases hcc
      have hv := lowOpd_sound hR.env g1
      rw [hc] at hv
      simp only [RV] at hv
      exact wp_cond_split hv (fun e => h1 e cx g2 w0 β a w hR) (fun e => h2 e cy g3 w0 β a w hR)
    · cases hcc
  case region => split at hcc <;> simp at hcc
  case seq => split at hcc <;> simp at hcc
  all_goals simp at hcc

def Post.inBlock (id : Nat) (Q : Post) : Post
  | .exit i => if i = id then Q .normal else Q (.exit i)
  | e => Q e

theorem Aw.block {id : Nat} {x : LCode} (h : Aw P x (Post.inBlock id Q) env H n) : Aw P (.block id x) Q env H n := by
  intro cc hcc w0 β a w hR
  cases cc <;> simp only [lowCode, Option.some.injEq, reduceCtorEq] at hcc
  case block id' cx =>
    obtain ⟨lx, g1, g2⟩ := Option.map_eq_some_iff.1 hcc
    cases g2
    refine wp_block (wp_mono (h cx g1 w0 β a w hR) fun e a' w' hq => ?_)
    obtain ⟨o, env', H', n', β', g1, g2, g3, g4, g5⟩ := hq
    cases e <;> simp only [outOf, Option.some.injEq, reduceCtorEq] at g1 <;> subst g1
    case normal => exact ⟨.normal, env', H', n', β', rfl, g2, g3, g4, g5⟩
    case exit i =>
      simp only [Exit.inBlock]
      simp only [Post.inBlock] at g2
      split
      · rename_i e; rw [if_pos e] at g2; exact ⟨.normal, env', H', n', β', rfl, g2, g3, g4, g5⟩
      · rename_i e; rw [if_neg e] at g2; exact ⟨.exit i, env', H', n', β', rfl, g2, g3, g4, g5⟩
    case ret => exact ⟨.ret, env', H', n', β', rfl, g2, g3, g4, g5⟩
  case region => split at hcc <;> simp at hcc
  case seq => split at hcc <;> simp at hcc
  case cond => split at hcc <;> simp at hcc
  all_goals simp at hcc

theorem Aw.reg {ops : List LOper} (h : xops P (Q .normal) ops env H n) : Aw P (.reg false ops) Q env H n := by
  intro cc hcc w0 β a w hR
  cases cc <;> simp only [lowCode, Option.some.injEq, reduceCtorEq] at hcc
  case region id os draw =>
    split at hcc
    · cases hcc
    · obtain ⟨l, g1, g2⟩ := Option.map_eq_some_iff.1 hcc
      cases g2
      refine wp_region_list ?_
      have := xops_sound (ops := os.toList) os.toList ops n β env H a w g1 hR h (Q := After w0 n β Q) fun env' H' n' β' a' w' k1 k2 k3 k4 => ⟨.normal, env', H', n', β', rfl, k1, k2, k3, k4⟩
      simpa using this
  case seq => split at hcc <;> simp at hcc
  case cond => split at hcc <;> simp at hcc
  all_goals simp at hcc

theorem Aw.regq {ops : List LOper} (h : xqs P H n (fun env' => Q .normal env' H n) ops env) : Aw P (.reg true ops) Q env H n := by
  intro cc hcc w0 β a w hR
  cases cc <;> simp only [lowCode, Option.some.injEq, reduceCtorEq] at hcc
  case region id os draw =>
    split at hcc
    · cases hcc
    · rename_i hd
      obtain ⟨l, g1, g2⟩ := Option.map_eq_some_iff.1 hcc
      cases g2
      simp only [Bool.true_and, Bool.not_eq_true', Bool.and_eq_false_iff, not_or, Bool.not_eq_false] at hd
      refine wp_region_quiet (C := fun w' => Below w.heap.size w w') hd.2 hd.1 (Below.drew (Below.refl _ _)) ?_
      have := xqs_sound (ops := os.toList) (Q := fun a' => ∀ w', Below w.heap.size w w' → After w0 n β Q .normal a' w') os.toList ops env a g1 hR h fun env' a' k1 k2 w' hw' => After.of (o := .normal) rfl k1 (k2.later hw')
      simpa using this
  case seq => split at hcc <;> simp at hcc
  case cond => split at hcc <;> simp at hcc
  all_goals simp at hcc
end
end Go.Proofs.Ytholbkojdcdokab
