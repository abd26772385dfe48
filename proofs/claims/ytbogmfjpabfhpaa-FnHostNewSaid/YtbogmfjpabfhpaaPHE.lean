/- The law of HostNew answers true. -/
import Derived.Test.YtbogmfjpabfhpaaPHS
import Derived.Test.YtbogmfjpabfhpaaPHF
import Derived.Test.YtbogmfjpabfhpaaPHV
import Derived.Test.YtbogmfjpabfhpaaPD
import Derived.Test.YtbogmfjpabfhpaaWFN1
namespace Go.Proofs.Ytbogmfjpabfhpaa
set_option linter.all false
theorem smallG_no0 : SmallG M.noGuest := ⟨⟨by decide⟩, by decide, by decide, by decide⟩
namespace M
def newHost : DHost := ⟨List.replicate 160 0, List.replicate 3 noGuest⟩
end M
theorem newHost_i (n : Int) : F_impl_HostNew n = some M.newHost := rfl
theorem newHost_s (n : Int) : F_spec_HostNew n = some M.newHost := rfl
theorem newHost_small : SmallH M.newHost := ⟨by simp [M.newHost], by simp [M.newHost], fun g hg => by
 have := List.eq_of_mem_replicate (show g ∈ List.replicate 3 M.noGuest from hg)
 rw [this]; exact smallG_no0⟩
theorem newHost_ok : HOk M.newHost := by
 refine ⟨by simp [M.newHost], ?_, by simp [M.newHost], ?_, rfl⟩
 · simp only [M.wordsOk, List.all_eq_true]
   intro x hx
   rw [List.eq_of_mem_replicate (show x ∈ List.replicate 160 0 from hx)]; rfl
 · rw [List.all_eq_true]
   intro x hx
   rw [List.eq_of_mem_replicate (show x ∈ List.replicate 3 M.noGuest from hx)]
   unfold M.guestOk
   rw [show M.noGuest.Live = false from rfl, cond_false, decide_eq_true rfl]
theorem drawNew {xs : List Int} (hx : ∀ x ∈ xs, 0 ≤ x ∧ x ≤ 255) : Ex (F_spec_DrawHostNew xs) (fun _ => True) := by
 unfold F_spec_DrawHostNew
 refine Ex.bind (open_d hx) fun r R => ?_
 exact Ex.bind (pick_d R (by omega) (by omega)) fun v _ => Ex.ret trivial
theorem fnHostNew_e {xs : List Int} (hx : ∀ x ∈ xs, 0 ≤ x ∧ x ≤ 255) : Ex (F_laws_FnHostNew xs) (fun b => b = true) := by
 have hs := newHost_small
 unfold F_laws_FnHostNew
 refine Ex.cond (fun _ => Ex.ret rfl) fun _ => ?_
 refine Ex.bind (drawNew hx) fun n _ => ?_
 have e1 : M.hostOk M.newHost = true := hOk_iff.2 newHost_ok
 have e2 : (M.hostView M.newHost 0).2 = false := by
  have : M.there M.newHost 0 = false := by
   unfold M.there
   rw [e1]; rfl
  unfold M.hostView
  rw [this]; rfl
 have e3 : M.hostFree M.newHost = M.free [] := by
  unfold M.hostFree
  rw [e1]; rfl
 rw [newHost_i, Option.bind_some, hostView_i hs, Option.bind_some, newHost_s, Option.bind_some, sameHost_refl hs, Option.bind_some, cond_true, hostOk_i hs, Option.bind_some, e1, cond_true, hostFree_i hs, Option.bind_some, e3, e2]
 exact Ex.ret rfl
theorem fnHostNew_t {xs : List Int} (hx : ∀ x ∈ xs, 0 ≤ x ∧ x ≤ 255) : F_laws_FnHostNew xs = some true := by
 obtain ⟨_, h, rfl⟩ := fnHostNew_e hx; exact h
end Go.Proofs.Ytbogmfjpabfhpaa
