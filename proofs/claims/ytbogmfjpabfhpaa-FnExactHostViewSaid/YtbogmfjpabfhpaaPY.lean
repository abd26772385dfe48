/- The laws' marks on a machine. -/
import Derived.Test.YtbogmfjpabfhpaaPBB
namespace Go.Proofs.Ytbogmfjpabfhpaa
set_option linter.all false
theorem markCore_eq {c : DCore} (h : SmallC c) {k : Int} (h0 : 0 ≤ k) (h1 : k ≤ 100) : F_laws_markCore c k = some (upFrom k c.Regs.length, k + c.Regs.length) := by
 have := h.regs
 unfold F_laws_markCore
 rw [markIntS_eq (by omega) h0 (by omega), Option.bind_some, grd_t (by simp only [upFrom_len])]
theorem markBare_eq {b : DBare} (h : SmallB b) {k : Int} (h0 : 0 ≤ k) (h1 : k ≤ 100) : F_laws_markBare b k = some (upFrom k b.C.Regs.length, upFrom (k + b.C.Regs.length) b.Mem.length, upFrom (k + b.C.Regs.length + b.Mem.length) b.In.length, upFrom (k + b.C.Regs.length + b.Mem.length + b.In.length) b.Out.length, k + b.C.Regs.length + b.Mem.length + b.In.length + b.Out.length) := by
 have := h.c.regs; have := h.mem; have := h.i; have := h.o
 unfold F_laws_markBare
 rw [markCore_eq h.c h0 h1, Option.bind_some, grd_t (by simp only [upFrom_len]), markIntS_eq (by omega) (by simp only; omega) (by simp only; omega), Option.bind_some, grd_t (by simp only [upFrom_len]), markIntS_eq (by omega) (by simp only; omega) (by simp only; omega), Option.bind_some, grd_t (by simp only [upFrom_len]), markIntS_eq (by omega) (by simp only; omega) (by simp only; omega), Option.bind_some, grd_t (by simp only [upFrom_len])]
theorem heldBare_eq {r m i o : Nat} (hr : r ≤ 1048576) (hm : m ≤ 1048576) (hi : i ≤ 1048576) (ho : o ≤ 1048576) {k : Int} (h0 : 0 ≤ k) (h1 : k ≤ 100) (pc ro ve sa su ca ba ti wa us on st) :
 F_laws_heldBare ⟨⟨upFrom k r, pc, ro, ve, sa, su, ca, ba, ti, wa, us, on, st⟩, upFrom (k + r) m, upFrom (k + r + m) i, upFrom (k + r + m + i) o⟩ k = some (k + r + m + i + o) := by
 unfold F_laws_heldBare F_laws_heldCore
 simp only
 rw [heldIntS_eq (by omega) h0 (by omega), Option.bind_some, decide_eq_false (show ¬ (k + (r : Int)) < 0 by omega), cond_false, Option.bind_some, decide_eq_false (show ¬ (k + (r : Int)) < 0 by omega), cond_false,
  heldIntS_eq (by omega) (by omega) (by omega), Option.bind_some, decide_eq_false (show ¬ (k + (r : Int) + (m : Int)) < 0 by omega), cond_false,
  heldIntS_eq (by omega) (by omega) (by omega), Option.bind_some, decide_eq_false (show ¬ (k + (r : Int) + (m : Int) + (i : Int)) < 0 by omega), cond_false,
  heldIntS_eq (by omega) (by omega) (by omega), Option.bind_some, decide_eq_false (show ¬ (k + (r : Int) + (m : Int) + (i : Int) + (o : Int)) < 0 by omega), cond_false]
end Go.Proofs.Ytbogmfjpabfhpaa
