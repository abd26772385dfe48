/- What is a core, a machine: the program's functions and the model's answer alike. -/
import Derived.Test.YtbnjdmclnojlmaaP7
import Derived.Test.YtbnjdmclnojlmaaWO1
namespace Go.Proofs.Ytbnjdmclnojlmaa
set_option linter.all false
noncomputable instance : DecidableEq DCore := fun a b => Classical.propDecidable (a = b)
noncomputable instance : DecidableEq DBare := fun a b => Classical.propDecidable (a = b)
namespace M
def coreOk (c : DCore) : Bool := decide (c.Regs.length = 4) && wordsOk c.Regs && (inR 0 63 c.Pc && inR 0 63 c.Vector && inR 0 63 c.Saved && inR 0 63 c.Bad) && inR (-1) 7 c.Root && inR 0 4 c.Cause && wordOk c.Timer
def rowOk (xs : List Int) : Bool := decide (xs.length ≤ 30) && wordsOk xs
end M
theorem rowOk_i {xs : List Int} (h : xs.length ≤ 9223372036854775806) : F_impl_rowOk xs = some (M.rowOk xs) := by
 unfold F_impl_rowOk
 rw [wordsOk_i h]
 show cond _ (some _) (some false) = _
 rw [cond_bs]
 simp only [M.rowOk]
 congr 2
 rw [decide_eq_decide]; omega
theorem words_s {xs : List Int} (h : xs.length ≤ 9223372036854775806) : F_spec_l3Words xs 30 = some (M.rowOk xs) := by
 unfold F_spec_l3Words
 rw [all_loop wordOk_s h (F_spec_l3Words_l2 xs) (fun k => rfl)]
 simp only [M.rowOk, M.wordsOk]
 cases xs.all M.wordOk
 · simp [LO.val, JO.run]
 · simp only [LO.val, JO.run, Option.bind_some, F_spec_l3Words_j1, cond_true, Bool.and_true]
   congr 1; rw [decide_eq_decide]; omega
theorem coreOk_i {c : DCore} (h : c.Regs.length ≤ 9223372036854775806) : F_impl_CoreOk c = some (M.coreOk c) := by
 unfold F_impl_CoreOk
 simp only [wordsOk_i h, addressOk_i, rootOk_i, wordOk_i, Option.bind_some]
 have e4 : decide (((c.Regs.length : Nat) : Int) = 4) = decide (c.Regs.length = 4) := by rw [decide_eq_decide]; omega
 rw [e4]
 simp only [M.coreOk, M.inR]
 generalize decide (c.Regs.length = 4) = b0
 generalize M.wordsOk c.Regs = b1
 generalize (decide (0 ≤ c.Pc) && decide (c.Pc ≤ 63)) = b2
 generalize (decide (0 ≤ c.Vector) && decide (c.Vector ≤ 63)) = b3
 generalize (decide (0 ≤ c.Saved) && decide (c.Saved ≤ 63)) = b4
 generalize (decide (0 ≤ c.Bad) && decide (c.Bad ≤ 63)) = b5
 generalize (decide (-1 ≤ c.Root) && decide (c.Root ≤ 7)) = b6
 generalize decide (0 ≤ c.Cause) = b7
 generalize decide (c.Cause ≤ 4) = b8
 generalize M.wordOk c.Timer = b9
 cases b0 <;> cases b2 <;> cases b3 <;> cases b4 <;> cases b7 <;> cases b1 <;> cases b5 <;> cases b6 <;> cases b8 <;> rfl
theorem coreOk_s {c : DCore} (h : c.Regs.length ≤ 9223372036854775806) : F_spec_CoreOk c = some (M.coreOk c) := by
 unfold F_spec_CoreOk
 rw [all_loop wordOk_s h (F_spec_CoreOk_l9 c) (fun k => rfl)]
 simp only [M.coreOk, M.wordsOk]
 cases c.Regs.all M.wordOk
 · simp [LO.val, JO.run]
 · simp only [LO.val, JO.run, Option.bind_some, F_spec_CoreOk_j1, cond_true, Bool.and_true, l1In_s, wordOk_s]
   have e4 : decide (((c.Regs.length : Nat) : Int) = 4) = decide (c.Regs.length = 4) := by rw [decide_eq_decide]; omega
   rw [e4]
   generalize decide (c.Regs.length = 4) = b0
   generalize M.inR 0 63 c.Pc = b2
   generalize M.inR 0 63 c.Vector = b3
   generalize M.inR 0 63 c.Saved = b4
   generalize M.inR 0 63 c.Bad = b5
   generalize M.inR (-1) 7 c.Root = b6
   generalize M.inR 0 4 c.Cause = b7
   generalize M.wordOk c.Timer = b9
   cases b0 <;> cases b2 <;> cases b3 <;> cases b4 <;> cases b7 <;> cases b5 <;> cases b6 <;> rfl
structure SmallC (c : DCore) : Prop where
 regs : c.Regs.length ≤ 1048576
structure SmallB (b : DBare) : Prop where
 c : SmallC b.C
 mem : b.Mem.length ≤ 1048576
 i : b.In.length ≤ 1048576
 o : b.Out.length ≤ 1048576
end Go.Proofs.Ytbnjdmclnojlmaa
