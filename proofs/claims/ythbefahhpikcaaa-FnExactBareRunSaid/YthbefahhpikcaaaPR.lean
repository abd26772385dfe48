/- Steps one after the other: the program and the model do the same. -/
import Derived.Test.YthbefahhpikcaaaPJ
import Derived.Test.YthbefahhpikcaaaZY
import Derived.Test.YthbefahhpikcaaaWQ1
namespace Go.Proofs.Ythbefahhpikcaaa
set_option linter.all false

namespace M
def steps : Nat → DBare → DBare
  | 0, b => b
  | n + 1, b => step (steps n b)
/-- BareRun. -/
def bareRun (b : DBare) (n : Int) : DBare := bif bareOk b && inR 0 300 n then steps n.toNat b else zero
end M
theorem steps_ok {b : DBare} (hb : BOk b) : ∀ n, BOk (M.steps n b)
  | 0 => hb
  | n + 1 => step_ok (steps_ok hb n)
abbrev RSx := (List Int) × Int × Int × Int × Int × Bool × Int × Int × Int × Bool × Bool × Bool × Bool × (List Int) × (List Int) × (List Int)
abbrev RSt := (List Int) × Int × Int × Int × Int × Bool × Int × Int × Int × Bool × Bool × Bool × Bool × (List Int) × (List Int) × (List Int) × Int
def run_un (s : RSt) : DBare := ⟨⟨s.1, s.2.1, s.2.2.1, s.2.2.2.1, s.2.2.2.2.1, s.2.2.2.2.2.1, s.2.2.2.2.2.2.1, s.2.2.2.2.2.2.2.1, s.2.2.2.2.2.2.2.2.1, s.2.2.2.2.2.2.2.2.2.1, s.2.2.2.2.2.2.2.2.2.2.1, s.2.2.2.2.2.2.2.2.2.2.2.1, s.2.2.2.2.2.2.2.2.2.2.2.2.1⟩, s.2.2.2.2.2.2.2.2.2.2.2.2.2.1, s.2.2.2.2.2.2.2.2.2.2.2.2.2.2.1, s.2.2.2.2.2.2.2.2.2.2.2.2.2.2.2.1⟩
def run_k (s : RSt) : Int := s.2.2.2.2.2.2.2.2.2.2.2.2.2.2.2.2
def run_unx (s : RSx) : DBare := ⟨⟨s.1, s.2.1, s.2.2.1, s.2.2.2.1, s.2.2.2.2.1, s.2.2.2.2.2.1, s.2.2.2.2.2.2.1, s.2.2.2.2.2.2.2.1, s.2.2.2.2.2.2.2.2.1, s.2.2.2.2.2.2.2.2.2.1, s.2.2.2.2.2.2.2.2.2.2.1, s.2.2.2.2.2.2.2.2.2.2.2.1, s.2.2.2.2.2.2.2.2.2.2.2.2.1⟩, s.2.2.2.2.2.2.2.2.2.2.2.2.2.1, s.2.2.2.2.2.2.2.2.2.2.2.2.2.2.1, s.2.2.2.2.2.2.2.2.2.2.2.2.2.2.2⟩
def run_tp (b : DBare) (k : Int) : RSt := (b.C.Regs, b.C.Pc, b.C.Root, b.C.Vector, b.C.Saved, b.C.SavedUser, b.C.Cause, b.C.Bad, b.C.Timer, b.C.Waits, b.C.User, b.C.On, b.C.Stopped, b.Mem, b.In, b.Out, k)
def run_tx (b : DBare) : RSx := (b.C.Regs, b.C.Pc, b.C.Root, b.C.Vector, b.C.Saved, b.C.SavedUser, b.C.Cause, b.C.Bad, b.C.Timer, b.C.Waits, b.C.User, b.C.On, b.C.Stopped, b.Mem, b.In, b.Out)

section
variable {b : DBare} {n : Int}
theorem run_loop (hb : BOk b) (h1 : n ≤ 300) {step : RSt → Option (LO RSt (JO RSx DBare))} {f : DBare → Option DBare} (hf : ∀ b, BOk b → f b = some (M.step b))
    (e : ∀ s, step s = cond (decide (run_k s < n)) (Option.bind (f (run_un s)) fun v => some (.next (run_tp v (w64 (run_k s + 1))))) (some (.ret (.go (run_tx (run_un s)))))) (h0 : 0 ≤ n) :
    Ex (Option.bind (iter step (run_tp b 0)) LO.val) (fun j => ∃ t, j = .go t ∧ run_unx t = M.steps n.toNat b) := by
  refine Ex.loopv (fun s => 0 ≤ run_k s ∧ run_k s ≤ n ∧ run_un s = M.steps (run_k s).toNat b) (fun s => n.toNat - (run_k s).toNat) (fun t => run_unx t = M.steps n.toNat b) ⟨Int.le_refl _, h0, rfl⟩ ?_
  rintro s ⟨k0, k1, k2⟩
  rw [e]
  refine Ex.cond (fun hk => ?_) fun hk => ?_
  · have hk : run_k s < n := of_decide_eq_true hk
    rw [k2, hf _ (steps_ok hb _), Option.bind_some, w64_in (by omega) (by omega)]
    refine Ex.ret (.inl ⟨_, rfl, ⟨?_, ?_, ?_⟩, ?_⟩)
    · show 0 ≤ run_k s + 1; omega
    · show run_k s + 1 ≤ n; omega
    · show M.step (M.steps (run_k s).toNat b) = M.steps (run_k s + 1).toNat b
      rw [show (run_k s + 1).toNat = (run_k s).toNat + 1 by omega]; rfl
    · show n.toNat - (run_k s + 1).toNat < n.toNat - (run_k s).toNat; omega
  · have hk : ¬ run_k s < n := of_decide_eq_false hk
    refine Ex.ret (.inr ⟨_, rfl, ?_⟩)
    show run_un s = _
    rw [k2, show run_k s = n by omega]
theorem bareRun_i (h : SmallB b) : F_impl_BareRun b n = some (M.bareRun b n) := by
  unfold F_impl_BareRun M.bareRun
  rw [bareOk_i h, Option.bind_some]
  cases hok : M.bareOk b with
  | false => rfl
  | true =>
    have hb := bOk_iff.1 hok
    simp only [Bool.not_true, cond_false, Bool.true_and, M.inR]
    by_cases h0 : n < 0
    · rw [decide_eq_true h0, decide_eq_false (show ¬ 0 ≤ n by omega)]; rfl
    · rw [decide_eq_false h0, decide_eq_true (show 0 ≤ n by omega)]
      by_cases h1 : 300 < n
      · rw [decide_eq_true h1, decide_eq_false (show ¬ n ≤ 300 by omega)]; rfl
      · rw [decide_eq_false h1, decide_eq_true (show n ≤ 300 by omega)]
        obtain ⟨_, g1, t, rfl, g2⟩ := run_loop (step := F_impl_BareRun_l4 n) hb (by omega) (f := F_impl_stepped) (fun b hb => stepped_i hb) (fun s => rfl) (by omega)
        simp only [cond_false, Bool.and_self, cond_true]
        rw [show (b.C.Regs, b.C.Pc, b.C.Root, b.C.Vector, b.C.Saved, b.C.SavedUser, b.C.Cause, b.C.Bad, b.C.Timer, b.C.Waits, b.C.User, b.C.On, b.C.Stopped, b.Mem, b.In, b.Out, (0 : Int)) = run_tp b 0 from rfl, g1, Option.bind_some]
        show Option.bind (F_impl_copiedBare (run_unx t)) (fun v => some v) = _
        rw [g2, copiedBare_i (steps_ok hb _).small]; rfl
theorem bareRun_s (h : SmallB b) : F_spec_BareRun b n = some (M.bareRun b n) := by
  unfold F_spec_BareRun M.bareRun
  rw [bareOk_s h, Option.bind_some, l1In_s]
  cases hok : M.bareOk b with
  | false => rfl
  | true =>
    have hb := bOk_iff.1 hok
    simp only [Bool.not_true, cond_false, Bool.true_and, Option.bind_some]
    cases hr : M.inR 0 300 n with
    | false => rfl
    | true =>
      have hr := M.inR_iff.1 hr
      obtain ⟨_, g1, t, rfl, g2⟩ := run_loop (step := F_spec_BareRun_l5 n) hb (by omega) (f := F_spec_BareStep) (fun b hb => by rw [bareStep_s hb.small, M.bareStep, bOk_iff.2 hb]; rfl) (fun s => rfl) (by omega)
      simp only [Bool.not_true, cond_false, cond_true]
      rw [copy_s h, Option.bind_some]
      rw [show (b.C.Regs, b.C.Pc, b.C.Root, b.C.Vector, b.C.Saved, b.C.SavedUser, b.C.Cause, b.C.Bad, b.C.Timer, b.C.Waits, b.C.User, b.C.On, b.C.Stopped, b.Mem, b.In, b.Out, (0 : Int)) = run_tp b 0 from rfl, g1, Option.bind_some]
      show some (run_unx t) = _
      rw [g2]
theorem bareRun_small (b : DBare) (n : Int) : SmallB (M.bareRun b n) := by
  unfold M.bareRun
  cases h : M.bareOk b with
  | true =>
    cases M.inR 0 300 n with
    | true => exact (steps_ok (bOk_iff.1 h) _).small
    | false => exact zero_small
  | false => exact zero_small
end
end Go.Proofs.Ythbefahhpikcaaa
