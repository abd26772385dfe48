/- The law of HostOk answers true. -/
import Derived.Test.YtlikfpmbcdlnjaaPHM
import Derived.Test.YtlikfpmbcdlnjaaPHR
import Derived.Test.YtlikfpmbcdlnjaaWFO1
namespace Go.Proofs.Ytlikfpmbcdlnjaa
set_option linter.all false
theorem drawOk_d {xs : List Int} (hx : ∀ x ∈ xs, 0 ≤ x ∧ x ≤ 255) : Ex (F_spec_DrawHostOk xs) (fun h => SmallH h) := by
 unfold F_spec_DrawHostOk
 refine Ex.bind (open_d hx) fun r R => ?_
 exact Ex.bind (host_d R (by omega) (by omega)) fun v ⟨_, hs⟩ => Ex.ret hs
theorem newHost_t : ∃ h, F_impl_HostNew 0 = some h ∧ F_impl_HostOk h = some true := by
 have hs : SmallH ⟨List.replicate 160 0, List.replicate 3 M.noGuest⟩ := ⟨by simp, by simp, fun g hg => by
  have := List.eq_of_mem_replicate (show g ∈ List.replicate 3 M.noGuest from hg)
  rw [this]; exact smallG_no2⟩
 refine ⟨⟨List.replicate 160 0, List.replicate 3 M.noGuest⟩, rfl, ?_⟩
 rw [hostOk_i hs, hOk_iff.2]
 refine ⟨by simp, ?_, by simp, ?_, rfl⟩
 · simp only [M.wordsOk, List.all_eq_true]
   intro x hx
   rw [List.eq_of_mem_replicate (show x ∈ List.replicate 160 0 from hx)]; rfl
 · rw [List.all_eq_true]
   intro x hx
   rw [List.eq_of_mem_replicate (show x ∈ List.replicate 3 M.noGuest from hx)]; exact guestOk_no
theorem fnHostOk_e {xs : List Int} (hx : ∀ x ∈ xs, 0 ≤ x ∧ x ≤ 255) : Ex (F_laws_FnHostOk xs) (fun b => b = true) := by
 have al : Ex (Option.bind F_laws_alive fun v => some v) (fun b => b = true) := Ex.bind (alive_d (Q := fun b => b = true) rfl) fun b hb => Ex.ret hb
 unfold F_laws_FnHostOk
 refine Ex.cond (fun _ => Ex.ret rfl) fun _ => ?_
 refine Ex.bind (drawOk_d hx) fun h hs => ?_
 rw [hostOk_i hs, Option.bind_some, hostOk_s hs, Option.bind_some, beq_self_eq_true, Bool.not_true, cond_false]
 have fin : Ex (F_laws_FnHostOk_j4 ()) (fun b => b = true) := by
  obtain ⟨n, n1, n2⟩ := newHost_t
  unfold F_laws_FnHostOk_j4
  rw [n1, Option.bind_some, n2, Option.bind_some, cond_true]
  exact al
 have key : iter (F_laws_FnHostOk_l8 h (M.hostOk h)) 0 = some (.ret (.go ())) := by
  cases hh : M.hostOk h with
  | false => rw [iter_eq]; rfl
  | true =>
   have key := walk_loop (n := 3) (step := F_laws_FnHostOk_l8 h true) (fun k => (k : Int)) (fun _ => true) (JO.go ()) (.out false) (fun k hk _ => by
    simp only [F_laws_FnHostOk_l8]
    rw [decide_eq_true (p := (k : Int) < 3) (by omega), cond_true, cond_true, hostDrop_i hs, Option.bind_some, drop_snd]
    cases ht : M.there h (k : Int) with
    | false =>
     simp only [cond_false, Option.bind_some, JO.run, F_laws_FnHostOk_j9, cond_true]
     rw [w64_in (by omega) (by omega)]; rfl
    | true =>
     rw [cond_true, hostOk_i (drop_small hs), drop_hostOk ht]
     simp only [Bool.not_true, cond_false, Option.bind_some, JO.run, F_laws_FnHostOk_j9, cond_true]
     rw [w64_in (by omega) (by omega)]; rfl) (fun _ => by
    simp only [F_laws_FnHostOk_l8]; rfl)
   rw [show (List.range 3).all (fun _ => true) = true by simp, cond_true] at key
   exact key
 rw [key]
 simp only [Option.bind_some, LO.val, JO.run]
 exact fin
theorem fnHostOk_t {xs : List Int} (hx : ∀ x ∈ xs, 0 ≤ x ∧ x ≤ 255) : F_laws_FnHostOk xs = some true := by
 obtain ⟨_, h, rfl⟩ := fnHostOk_e hx; exact h
end Go.Proofs.Ytlikfpmbcdlnjaa
