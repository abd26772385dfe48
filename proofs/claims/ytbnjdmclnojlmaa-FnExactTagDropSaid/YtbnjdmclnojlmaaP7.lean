/- What is an address, a page, a root. -/
import Derived.Test.YtbnjdmclnojlmaaP0
import Derived.Test.YtbnjdmclnojlmaaWO1
namespace Go.Proofs.Ytbnjdmclnojlmaa
set_option linter.all false
theorem addressOk_i (n : Int) : F_impl_addressOk n = some (M.inR 0 63 n) := by
 unfold F_impl_addressOk; rw [cond_bs, show (64 : Int) = 63 + 1 from rfl, lt_le]; rfl
theorem pageOk_i (n : Int) : F_impl_pageOk n = some (M.inR 0 7 n) := by
 unfold F_impl_pageOk; rw [cond_bs, show (8 : Int) = 7 + 1 from rfl, lt_le]; rfl
theorem rootOk_i (n : Int) : F_impl_rootOk n = some (M.inR (-1) 7 n) := by
 unfold F_impl_rootOk
 rw [pageOk_i]
 by_cases h : n = -1
 · subst h; rfl
 · rw [decide_eq_false h]
   show some (M.inR 0 7 n) = _
   congr 1
   simp only [M.inR]
   congr 1
   rw [decide_eq_decide]; omega
end Go.Proofs.Ytbnjdmclnojlmaa
