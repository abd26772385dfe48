/- The exact law of Walk answers true. -/
import Derived.Test.YtmjphjphgjmojaaP8
import Derived.Test.YtmjphjphgjmojaaPV
import Derived.Test.YtmjphjphgjmojaaWY1
namespace Go.Proofs.Ytmjphjphgjmojaa
set_option linter.all false
theorem exactWalk {xs : List Int} {root addr : Int} {user write : Bool} (h : xs.length ≤ 9223372036854775807) : F_laws_FnExactWalk xs root addr user write = some true := by
 unfold F_laws_FnExactWalk
 by_cases hx : (1048576 : Int) < ((xs.length : Nat) : Int)
 · rw [decide_eq_true hx]; rfl
 · rw [decide_eq_false hx, cond_false]
   simp only [toIntS_eq (xs := xs) (by omega), walk_i (mem := xs) (by omega), walk_s (mem := xs) (by omega), eqIntS_eq (xs := xs) h, Option.bind_some]
   simp
end Go.Proofs.Ytmjphjphgjmojaa
