/- The exact law of HostView answers true. -/
import Derived.Test.YtbogmfjpabfhpaaPHV
import Derived.Test.YtbogmfjpabfhpaaPZC
import Derived.Test.YtbogmfjpabfhpaaPY
import Derived.Test.YtbogmfjpabfhpaaWEV1
namespace Go.Proofs.Ytbogmfjpabfhpaa
set_option linter.all false
theorem exactHostView {h : DHost} {g : Int} (hf : FitH h) : F_laws_FnExactHostView h g = some true := by
 unfold F_laws_FnExactHostView
 obtain ⟨v, hv, hs⟩ := szHost_eq hf (left := 1048576) (by omega) (by omega)
 rw [hv]
 simp only [Option.bind_some]
 rcases hs with h0 | ⟨h0, -, hs⟩
 · rw [lt_t h0]; rfl
 · have hz := small_view (g := g) hs
   have hp := mHost_pos hs (k := 1) (by omega)
   have := hz.c.regs; have := hz.mem; have := hz.i; have := hz.o
   rw [decide_eq_false (by omega), cond_false]
   simp only [toHost_eq hs, hostView_i hs, hostView_s hs, Option.bind_some, eqHost_eq hs, eqBare_eq hz, decide_true, Bool.not_true, cond_false, markHost_eq hs (k := 1) (by omega) (by omega), markHost_len, markBare_eq hz (k := 1) (by omega) (by omega), beq_self_eq_true]
   rw [grd_t True.intro, grd_t True.intro, decide_eq_false (by omega), cond_false, grd_t (by simp only [upFrom_len]), grd_t (by simp only [upFrom_len]), grd_t (by simp only [upFrom_len]), grd_t (by simp only [upFrom_len])]
   simp only [heldBare_eq (r := (M.hostView h g).1.C.Regs.length) (m := (M.hostView h g).1.Mem.length) (i := (M.hostView h g).1.In.length) (o := (M.hostView h g).1.Out.length) (by omega) (by omega) (by omega) (by omega) (k := 1) (by omega) (by omega), Option.bind_some, decide_true, Bool.not_true, cond_false]
   rw [decide_eq_false (by omega)]; rfl
end Go.Proofs.Ytbogmfjpabfhpaa
