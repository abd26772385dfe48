/- The exact law of HostNew answers true. -/
import Derived.Test.YtbogmfjpabfhpaaPZC
import Derived.Test.YtbogmfjpabfhpaaWEN1
namespace Go.Proofs.Ytbogmfjpabfhpaa
set_option linter.all false
theorem smallG_no : SmallG M.noGuest := ⟨⟨by decide⟩, by decide, by decide, by decide⟩
namespace M
def hostNew : DHost := ⟨List.replicate 160 0, List.replicate 3 noGuest⟩
end M
theorem hostNew_i (n : Int) : F_impl_HostNew n = some M.hostNew := rfl
theorem hostNew_s (n : Int) : F_spec_HostNew n = some M.hostNew := rfl
theorem smallH_new : SmallH M.hostNew := ⟨by simp [M.hostNew], by simp [M.hostNew], fun g hg => by
 have := List.eq_of_mem_replicate (show g ∈ List.replicate 3 M.noGuest from hg)
 rw [this]; exact smallG_no⟩
theorem exactHostNew {n : Int} : F_laws_FnExactHostNew n = some true := by
 have hs := smallH_new
 have hp := mHost_pos hs (k := 1) (by omega)
 unfold F_laws_FnExactHostNew
 simp only [hostNew_i, hostNew_s, Option.bind_some, eqHost_eq hs, decide_true, Bool.not_true, cond_false, markHost_eq hs (k := 1) (by omega) (by omega), markHost_len, grd_t True.intro]
 simp only [heldHost_mk hs (k := 1) (by omega) (by omega), Option.bind_some, decide_true, Bool.not_true, cond_false]
 rw [decide_eq_false (by omega)]; rfl
end Go.Proofs.Ytbogmfjpabfhpaa
