/- The exact law of MemOk answers true. -/
import Derived.Test.YtmjphjphgjmojaaP8
import Derived.Test.YtmjphjphgjmojaaWX1
namespace Go.Proofs.Ytmjphjphgjmojaa
set_option linter.all false
theorem exactMemOk {xs : List Int} (h : xs.length ≤ 9223372036854775807) : F_laws_FnExactMemOk xs = some true := by
 unfold F_laws_FnExactMemOk
 by_cases hx : (1048576 : Int) < ((xs.length : Nat) : Int)
 · rw [decide_eq_true hx]; rfl
 · rw [decide_eq_false hx, cond_false]
   simp only [toIntS_eq (xs := xs) (by omega), memOk_i (xs := xs) (by omega), memOk_s (xs := xs) (by omega), eqIntS_eq (xs := xs) h, Option.bind_some]
   simp
end Go.Proofs.Ytmjphjphgjmojaa
