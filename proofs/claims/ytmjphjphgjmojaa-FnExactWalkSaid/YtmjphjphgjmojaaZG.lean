/- Regions of the abstract machine: in the text's order, and in whatever order. No program is named here. -/
import Derived.Test.YtmjphjphgjmojaaZF5
namespace Go.Proofs.Ytmjphjphgjmojaa
set_option linter.all false
open Go.RowKit
def LOp.isCall : LOp → Bool
 | .call _ _ => true
 | _ => false
def LOp.quiet : LOp → Bool
 | .mv _ | .pick _ _ _ | .bld _ _ | .load _ _ _ | .bin _ _ _ | .binb _ _ _ | .un _ _ | .fadr _ _ | .fld _ _ _ _ | .iadr _ _ _ | .ext _ _ | .len _ | .slc _ _ _ _ | .cvt _ _ | .sh _ _ _ | .beq _ _ _ _ | .nck _ | .mx _ _ _ => true
 | _ => false
def callOk (P : Program) (f : FuncId) : Bool :=
 match P.funcs[f]? with
 | some fn => fn.name != "runtime.NumGoroutine" && !fn.body.isNone
 | none => false
def lowGuard (ops : List Oper) : Option (Nat × Bool) → Option (Option (Nat × Bool))
 | none => some none
 | some (j, want) => match ops[j]? with
  | some o => match o.dst with
   | some d => some (some (d, want))
   | none => none
  | none => none
def lowOper (P : Program) (ops : List Oper) (o : Oper) : Option LOper :=
 match lowOp P o, lowGuard ops o.guard with
 | some lo, some g => match lo with
  | .call f _ => if callOk P f then some ⟨o.dst, lo, g⟩ else none
  | _ => some ⟨o.dst, lo, g⟩
 | _, _ => none
def lowOpers (P : Program) (ops : List Oper) : List Oper → Option (List LOper)
 | [] => some []
 | o :: os => match lowOper P ops o, lowOpers P ops os with
  | some x, some xs => some (x :: xs)
  | _, _ => none
section
variable {P : Program} {Φ : Fz} {n : Nat} {β : Spots} {env : List AV} {H : Heap} {a : Act} {w : World}
theorem op_sound {K : AV → Heap → Nat → Prop} {o : Oper} {lo : LOp} (hl : lowOp P o = some lo) (hc : lo.isCall = false) (he : Env Φ n β env a) (hH : RH Φ n β H w) (hB : Keep Φ w)
 (h : xop P env H n K lo) : Done P o a Φ n β K w := by
 unfold lowOp at hl
 split at hl
 case h_1 x ho => obtain ⟨y, h1, rfl⟩ := Option.map_eq_some_iff.1 hl; exact (do_mv (.inl ho) h1 he hH hB h).done hH hB
 case h_2 x ho => obtain ⟨y, h1, rfl⟩ := Option.map_eq_some_iff.1 hl; exact (do_mv (.inr ho) h1 he hH hB h).done hH hB
 case h_3 c x y ho =>
  split at hl
  · rename_i h1 h2 h3; cases hl; exact (do_pick ho h1 h2 h3 he hH hB h).done hH hB
  · cases hl
 case h_4 e x ho => obtain ⟨y, h1, rfl⟩ := Option.map_eq_some_iff.1 hl; exact do_box ho h1 he hH hB h
 case h_5 e ho => obtain ⟨z, h1, rfl⟩ := Option.map_eq_some_iff.1 hl; exact do_fresh ho h1 hH hB h
 case h_6 t ps ho =>
  split at hl
  · rename_i fs z l h1 h2
    split at hl
    · rename_i h4
      obtain ⟨qs, h5, rfl⟩ := Option.map_eq_some_iff.1 hl
      exact (do_bld ho h1 h2 h4 h5 he hH hB h).done hH hB
    · cases hl
  · cases hl
 case h_7 t m ps ho =>
  split at hl
  · rename_i e h1
    split at hl
    · rename_i inf z h2 h3
      split at hl
      · rename_i h4
        obtain ⟨qs, h5, rfl⟩ := Option.map_eq_some_iff.1 hl
        exact do_bsl ho h1 h2 h3 h4.1 h4.2.1 h4.2.2 h5 he hH hB h
      · cases hl
    · cases hl
  · cases hl
 case h_8 t x ho =>
  split at hl
  · rename_i h1 h2 h3; cases hl; exact (do_load ho h1 h2 h3 he hH hB h).done hH hB
  · cases hl
 case h_9 t x y ho =>
  split at hl
  · rename_i h1 h2 h3; cases hl; exact do_store ho h1 h2 h3 he hH hB h
  · cases hl
 case h_10 op t x y t' ho =>
  split at hl
  · rename_i h1 h2 h3
    split at hl
    · cases hl; exact (do_sh (left := true) ho rfl h2 h3 he h).done hH hB
    · cases hl; exact (do_sh (left := false) ho rfl h2 h3 he h).done hH hB
    · cases hl; exact (do_bin ho h2 h3 he hH hB h).done hH hB
  · rename_i fs x1 y1 h1 h2 h3
    split at hl
    · rename_i hp
      split at hl
      · cases hl; exact (do_beq (ng := false) ho h1 hp rfl h2 h3 he h).done hH hB
      · cases hl; exact (do_beq (ng := true) ho h1 hp rfl h2 h3 he h).done hH hB
      · cases hl
    · cases hl
  · rename_i h1 h2 h3
    split at hl
    · cases hl; exact (do_binb (ng := false) ho h1 rfl h2 h3 he hH hB h).done hH hB
    · cases hl; exact (do_binb (ng := true) ho h1 rfl h2 h3 he hH hB h).done hH hB
    · cases hl
  · cases hl
 case h_11 op t x ho => obtain ⟨y, h1, rfl⟩ := Option.map_eq_some_iff.1 hl; exact (do_un ho h1 he hH hB h).done hH hB
 case h_12 t x y ho =>
  have key : ∀ {x y : Operand} {l : Nat}, lowOpd x = some (.t l) → lowOpd y = some (.t l) → a.eval y = a.eval x := by
   intro x y l h1 h2
   cases x <;> simp [lowOpd] at h1
   cases y <;> simp [lowOpd] at h2
   rw [h1, h2]
  have low_int : ∀ {v : Value} {l : Int}, lowVal v = some (.int .i64 l) → v = .int .i64 l := by
   intro v l h1
   cases v <;> try (simp [lowVal] at h1; done)
   case int k z => simp only [lowVal] at h1; split at h1 <;> simp_all
   case slice s m c => 
    cases s <;> cases m <;> cases c <;> simp [lowVal] at h1
   case pointer p => cases p <;> simp [lowVal] at h1
  have key2 : ∀ {x y : Operand} {l : Int}, lowOpd x = some (.c (.int .i64 l)) → lowOpd y = some (.c (.int .i64 l)) → a.eval y = a.eval x := by
   intro x y l h1 h2
   cases x <;> simp [lowOpd] at h1
   cases y <;> simp [lowOpd] at h2
   rw [low_int h1, low_int h2]
  split at hl
  · rename_i e l c h1 h2 h3
    split at hl
    · rename_i inf z h4 h5
      split at hl
      · rename_i h6
        obtain ⟨rfl, h7, h8⟩ := h6
        cases hl
        exact do_mk ho h1 h4 h5 h7 h2 (key h2 h3) he hH hB h
      · cases hl
    · cases hl
  · rename_i e l c h1 h2 h3
    split at hl
    · rename_i inf z h4 h5
      split at hl
      · rename_i h6
        obtain ⟨rfl, h7, h8⟩ := h6
        cases hl
        exact do_mk ho h1 h4 h5 h7 h2 (key2 h2 h3) he hH hB h
      · cases hl
    · cases hl
  · cases hl
 case h_13 s x i ho =>
  split at hl
  · rename_i fs y h1 h2
    split at hl
    · rename_i f h3
      split at hl
      · rename_i inf h4
        split at hl
        · cases hl
        · rename_i h5; cases hl; exact (do_fadr ho h1 h3 h4 h5 h2 he hH hB h).done hH hB
      · cases hl
    · cases hl
  · cases hl
 case h_14 s x i ho =>
  split at hl
  · rename_i fs y h1 h2
    split at hl
    · rename_i f h3
      split at hl
      · rename_i ag inf h4 h5; cases hl; exact (do_fld ho h1 h3 h4 h5 h2 he hH hB h).done hH hB
      · cases hl
    · cases hl
  · cases hl
 case h_15 t x i ho =>
  split at hl
  · rename_i e y z h1 h2 h3
    obtain ⟨inf, h4, rfl⟩ := Option.map_eq_some_iff.1 hl
    exact (do_iadr ho h1 h4 h2 h3 he hH hB h).done hH hB
  · cases hl
 case h_16 x i ho => obtain ⟨y, h1, rfl⟩ := Option.map_eq_some_iff.1 hl; exact (do_ext ho h1 he hH hB h).done hH hB
 case h_17 x t ho =>
  split at hl
  · rename_i e y h1 h2; cases hl; exact (do_len ho h1 h2 he hH hB h).done hH hB
  · cases hl
 case h_18 t x lo hi ho =>
  split at hl
  · rename_i e x1 lo1 hi1 h1 h2 h3 h4
    split at hl
    · rename_i inf h5
      split at hl
      · rename_i h6; cases hl; exact (do_slc ho h1 h5 h6 h2 h3 h4 he h).done hH hB
      · cases hl
    · cases hl
  · cases hl
 case h_19 src dst x ho =>
  split at hl
  · rename_i k1 k2 x1 h1 h2 h3; cases hl; exact (do_cvt ho h1 h2 h3 he h).done hH hB
  · cases hl
 case h_20 x y t t2 ho =>
  split at hl
  · rename_i e x1 y1 h1 h2 h3
    split at hl
    · rename_i inf z h4 h5
      split at hl
      · rename_i h6
        obtain ⟨rfl, h7, h8⟩ := h6
        cases hl
        exact do_app ho h1 h4 h5 h7 h8 h2 h3 he hH hB h
      · cases hl
    · cases hl
  · cases hl
 case h_21 x y t t2 ho =>
  split at hl
  · rename_i e x1 y1 h1 h2 h3
    split at hl
    · rename_i inf h4
      split at hl
      · rename_i h5; cases hl; exact do_cpy ho h1 h4 h5 h2 h3 he hH hB h
      · cases hl
    · cases hl
  · cases hl
 case h_22 x y ats ho =>
  split at hl
  · rename_i h1 h2; cases hl; exact (do_mx (most := true) ho h1 h2 he h).done hH hB
  · cases hl
 case h_23 x y ats ho =>
  split at hl
  · rename_i h1 h2; cases hl; exact (do_mx (most := false) ho h1 h2 he h).done hH hB
  · cases hl
 case h_24 x ho => obtain ⟨y, h1, rfl⟩ := Option.map_eq_some_iff.1 hl; exact (do_nck ho h1 he h).done hH hB
 case h_25 f xs ats ho => obtain ⟨y, h1, rfl⟩ := Option.map_eq_some_iff.1 hl; simp [LOp.isCall] at hc
 case h_26 => cases hl
theorem op_quiet {K : AV → Heap → Nat → Prop} {o : Oper} {lo : LOp} (hl : lowOp P o = some lo) (hc : lo.quiet = true) (he : Env Φ n β env a) (hH : RH Φ n β H w) (hB : Keep Φ w)
 (h : xop P env H n K lo) : QDone P o a Φ n β H K w := by
 unfold lowOp at hl
 split at hl
 case h_1 x ho => obtain ⟨y, h1, rfl⟩ := Option.map_eq_some_iff.1 hl; exact (do_mv (.inl ho) h1 he hH hB h)
 case h_2 x ho => obtain ⟨y, h1, rfl⟩ := Option.map_eq_some_iff.1 hl; exact (do_mv (.inr ho) h1 he hH hB h)
 case h_3 c x y ho =>
  split at hl
  · rename_i h1 h2 h3; cases hl; exact (do_pick ho h1 h2 h3 he hH hB h)
  · cases hl
 case h_4 e x ho => obtain ⟨y, h1, rfl⟩ := Option.map_eq_some_iff.1 hl; simp [LOp.quiet] at hc
 case h_5 e ho => obtain ⟨z, h1, rfl⟩ := Option.map_eq_some_iff.1 hl; simp [LOp.quiet] at hc
 case h_6 t ps ho =>
  split at hl
  · rename_i fs z l h1 h2
    split at hl
    · rename_i h4
      obtain ⟨qs, h5, rfl⟩ := Option.map_eq_some_iff.1 hl
      exact (do_bld ho h1 h2 h4 h5 he hH hB h)
    · cases hl
  · cases hl
 case h_7 t m ps ho =>
  split at hl
  · rename_i e h1
    split at hl
    · rename_i inf z h2 h3
      split at hl
      · rename_i h4
        obtain ⟨qs, h5, rfl⟩ := Option.map_eq_some_iff.1 hl
        simp [LOp.quiet] at hc
      · cases hl
    · cases hl
  · cases hl
 case h_8 t x ho =>
  split at hl
  · rename_i h1 h2 h3; cases hl; exact (do_load ho h1 h2 h3 he hH hB h)
  · cases hl
 case h_9 t x y ho =>
  split at hl
  · rename_i h1 h2 h3; cases hl; simp [LOp.quiet] at hc
  · cases hl
 case h_10 op t x y t' ho =>
  split at hl
  · rename_i h1 h2 h3
    split at hl
    · cases hl; exact (do_sh (left := true) ho rfl h2 h3 he h)
    · cases hl; exact (do_sh (left := false) ho rfl h2 h3 he h)
    · cases hl; exact (do_bin ho h2 h3 he hH hB h)
  · rename_i fs x1 y1 h1 h2 h3
    split at hl
    · rename_i hp
      split at hl
      · cases hl; exact (do_beq (ng := false) ho h1 hp rfl h2 h3 he h)
      · cases hl; exact (do_beq (ng := true) ho h1 hp rfl h2 h3 he h)
      · cases hl
    · cases hl
  · rename_i h1 h2 h3
    split at hl
    · cases hl; exact (do_binb (ng := false) ho h1 rfl h2 h3 he hH hB h)
    · cases hl; exact (do_binb (ng := true) ho h1 rfl h2 h3 he hH hB h)
    · cases hl
  · cases hl
 case h_11 op t x ho => obtain ⟨y, h1, rfl⟩ := Option.map_eq_some_iff.1 hl; exact (do_un ho h1 he hH hB h)
 case h_12 t x y ho =>
  split at hl
  · rename_i e l c h1 h2 h3
    split at hl
    · rename_i inf z h4 h5
      split at hl
      · rename_i h6
        obtain ⟨rfl, h7, h8⟩ := h6
        cases hl
        simp [LOp.quiet] at hc
      · cases hl
    · cases hl
  · rename_i e l c h1 h2 h3
    split at hl
    · rename_i inf z h4 h5
      split at hl
      · rename_i h6
        obtain ⟨rfl, h7, h8⟩ := h6
        cases hl
        simp [LOp.quiet] at hc
      · cases hl
    · cases hl
  · cases hl
 case h_13 s x i ho =>
  split at hl
  · rename_i fs y h1 h2
    split at hl
    · rename_i f h3
      split at hl
      · rename_i inf h4
        split at hl
        · cases hl
        · rename_i h5; cases hl; exact (do_fadr ho h1 h3 h4 h5 h2 he hH hB h)
      · cases hl
    · cases hl
  · cases hl
 case h_14 s x i ho =>
  split at hl
  · rename_i fs y h1 h2
    split at hl
    · rename_i f h3
      split at hl
      · rename_i ag inf h4 h5; cases hl; exact (do_fld ho h1 h3 h4 h5 h2 he hH hB h)
      · cases hl
    · cases hl
  · cases hl
 case h_15 t x i ho =>
  split at hl
  · rename_i e y z h1 h2 h3
    obtain ⟨inf, h4, rfl⟩ := Option.map_eq_some_iff.1 hl
    exact (do_iadr ho h1 h4 h2 h3 he hH hB h)
  · cases hl
 case h_16 x i ho => obtain ⟨y, h1, rfl⟩ := Option.map_eq_some_iff.1 hl; exact (do_ext ho h1 he hH hB h)
 case h_17 x t ho =>
  split at hl
  · rename_i e y h1 h2; cases hl; exact (do_len ho h1 h2 he hH hB h)
  · cases hl
 case h_18 t x lo hi ho =>
  split at hl
  · rename_i e x1 lo1 hi1 h1 h2 h3 h4
    split at hl
    · rename_i inf h5
      split at hl
      · rename_i h6; cases hl; exact (do_slc ho h1 h5 h6 h2 h3 h4 he h)
      · cases hl
    · cases hl
  · cases hl
 case h_19 src dst x ho =>
  split at hl
  · rename_i k1 k2 x1 h1 h2 h3; cases hl; exact (do_cvt ho h1 h2 h3 he h)
  · cases hl
 case h_20 x y t t2 ho =>
  split at hl
  · rename_i e x1 y1 h1 h2 h3
    split at hl
    · rename_i inf z h4 h5
      split at hl
      · rename_i h6
        obtain ⟨rfl, h7, h8⟩ := h6
        cases hl
        simp [LOp.quiet] at hc
      · cases hl
    · cases hl
  · cases hl
 case h_21 x y t t2 ho =>
  split at hl
  · rename_i e x1 y1 h1 h2 h3
    split at hl
    · rename_i inf h4
      split at hl
      · rename_i h5; cases hl; simp [LOp.quiet] at hc
      · cases hl
    · cases hl
  · cases hl
 case h_22 x y ats ho =>
  split at hl
  · rename_i h1 h2; cases hl; exact (do_mx (most := true) ho h1 h2 he h)
  · cases hl
 case h_23 x y ats ho =>
  split at hl
  · rename_i h1 h2; cases hl; exact (do_mx (most := false) ho h1 h2 he h)
  · cases hl
 case h_24 x ho => obtain ⟨y, h1, rfl⟩ := Option.map_eq_some_iff.1 hl; exact (do_nck ho h1 he h)
 case h_25 f xs ats ho => obtain ⟨y, h1, rfl⟩ := Option.map_eq_some_iff.1 hl; simp [LOp.quiet] at hc
 case h_26 => cases hl
theorem call_form {o : Oper} {f : FuncId} {ys : List Opd} (hl : lowOp P o = some (.call f ys)) : ∃ xs ats, o.op = .call { callee := .value (.func f), args := ⟨xs⟩, argTypes := ats } ∧ lowOpds xs = some ys := by
 unfold lowOp at hl
 split at hl
 case h_25 f' xs ats ho => obtain ⟨y, h1, h2⟩ := Option.map_eq_some_iff.1 hl; cases h2; exact ⟨xs, ats, ho, h1⟩
 case h_26 => cases hl
 all_goals
  try (obtain ⟨y, h1, h2⟩ := Option.map_eq_some_iff.1 hl; cases h2; done)
  try (repeat' (split at hl)) <;> first | (cases hl; done) | (obtain ⟨y, h1, h2⟩ := Option.map_eq_some_iff.1 hl; cases h2; done)
theorem run_call {o : Oper} {f : FuncId} {xs : List Operand} {ats : Array TypeId} (ho : o.op = .call { callee := .value (.func f), args := ⟨xs⟩, argTypes := ats }) (hf : callOk P f = true) :
 (execOp a.eval o).run P w = .ok (.enter f (xs.map a.eval).toArray) w := by
 unfold callOk at hf
 split at hf
 · rename_i fn hfn
   simp only [Bool.and_eq_true, bne_iff_ne, ne_eq, Bool.not_eq_true'] at hf
   have hb : ¬ fn.body = none := fun e => by rw [e] at hf; simp at hf
   simp [execOp, ho, resolve, Deferred.ofValue, Act.eval, invoke, callFunc, hfn, hf.1, hb]
 · cases hf
end
end Go.Proofs.Ytmjphjphgjmojaa
