/- Loops over a row, element by element. -/
import Derived.Test.YtlikfpmbcdlnjaaP8
namespace Go.Proofs.Ytlikfpmbcdlnjaa
set_option linter.all false
theorem copy_loop {T : Type} [Inhabited T] {xs ys : List T} {step : List T × Int → Option (LO (List T × Int) (JO (List T) (List T)))} (hl : ys.length = xs.length)
 (hs : ∀ (k : Nat) (zs : List T), k < xs.length → zs.length = xs.length → step (zs, (k : Int)) = some (.next (zs.set k (xs.getD k default), (k : Int) + 1)))
 (he : ∀ zs : List T, zs.length = xs.length → step (zs, (xs.length : Int)) = some (.ret (.go zs))) : iter step (ys, 0) = some (.ret (.go xs)) := by
 have key : ∀ (n k : Nat) (zs : List T), k + n = xs.length → zs.length = xs.length → (∀ i, i < k → zs[i]? = xs[i]?) → iter step (zs, (k : Int)) = some (.ret (.go xs)) := by
  intro n
  induction n with
  | zero =>
   intro k zs hk hz h
   have e : zs = xs := by
    apply List.ext_getElem?
    intro i
    by_cases hi : i < k
    · exact h i hi
    · rw [List.getElem?_eq_none (by omega), List.getElem?_eq_none (by omega)]
   have hk : k = xs.length := by omega
   rw [iter_eq, hk, he zs hz, e]
  | succ n ih =>
   intro k zs hk hz h
   rw [iter_eq, hs k zs (by omega) hz]
   have := ih (k + 1) (zs.set k (xs.getD k default)) (by omega) (by simpa using hz) (fun i hi => by
    rw [List.getElem?_set]
    by_cases e : k = i
    · subst e; rw [if_pos rfl, if_pos (by omega), getD_lt (by omega), List.getElem?_eq_getElem (by omega)]
    · rw [if_neg e]; exact h i (by omega))
   simpa using this
 simpa using key xs.length 0 ys (by omega) hl (by simp)
end Go.Proofs.Ytlikfpmbcdlnjaa
