/- The exact law of BareRun answers true. -/
import Derived.Test.YthbefahhpikcaaaPR
import Derived.Test.YthbefahhpikcaaaPY
import Derived.Test.YthbefahhpikcaaaWR1
namespace Go.Proofs.Ythbefahhpikcaaa
set_option linter.all false

theorem exactBareRun {b : DBare} {n : Int} (h1 : b.C.Regs.length ≤ 9223372036854775807) (h2 : b.Mem.length ≤ 9223372036854775807) (h3 : b.In.length ≤ 9223372036854775807) (h4 : b.Out.length ≤ 9223372036854775807) : F_laws_FnExactBareRun b n = some true := by
  unfold F_laws_FnExactBareRun
  obtain ⟨v, hv, hs⟩ := szBare_eq h1 h2 h3 h4
  rw [hv]
  simp only [Option.bind_some]
  by_cases h0 : v < 0
  · rw [lt_t h0]; rfl
  · have hs : SmallB b := hs.resolve_left h0
    have hz := bareRun_small b n
    have := hz.c.regs; have := hz.mem; have := hz.i; have := hz.o
    rw [decide_eq_false h0, cond_false]
    simp only [toBare_eq hs, bareRun_i hs, bareRun_s hs, Option.bind_some, eqBare_eq hs, eqBare_eq hz, decide_true, Bool.not_true, cond_false, markBare_eq hs (k := 1) (by omega) (by omega), markBare_eq hz (k := 1) (by omega) (by omega)]
    rw [grd_t (by simp only [upFrom_len]), grd_t (by simp only [upFrom_len]), grd_t (by simp only [upFrom_len]), grd_t (by simp only [upFrom_len]), decide_eq_false (by omega), cond_false, grd_t (by simp only [upFrom_len]), grd_t (by simp only [upFrom_len]), grd_t (by simp only [upFrom_len]), grd_t (by simp only [upFrom_len])]
    simp only [heldBare_eq (r := (M.bareRun b n).C.Regs.length) (m := (M.bareRun b n).Mem.length) (i := (M.bareRun b n).In.length) (o := (M.bareRun b n).Out.length) (by omega) (by omega) (by omega) (by omega) (k := 1) (by omega) (by omega), Option.bind_some, decide_true, Bool.not_true, cond_false]
    rw [decide_eq_false (by omega)]; rfl
end Go.Proofs.Ythbefahhpikcaaa
