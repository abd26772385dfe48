/- The exact law of HostDrop answers true. -/
import Derived.Test.YtbogmfjpabfhpaaPHD
import Derived.Test.YtbogmfjpabfhpaaPZC
import Derived.Test.YtbogmfjpabfhpaaWED1
namespace Go.Proofs.Ytbogmfjpabfhpaa
set_option linter.all false
theorem smallG_no : SmallG M.noGuest := ⟨⟨by decide⟩, by decide, by decide, by decide⟩
theorem small_drop {h : DHost} {g : Int} (hs : SmallH h) : SmallH (M.hostDrop h g).1 := by
 unfold M.hostDrop
 cases M.there h g with
 | false => exact ⟨by simp, by simp, by simp⟩
 | true =>
  refine ⟨hs.words, by simpa using hs.guests, fun x hx => ?_⟩
  rcases List.mem_or_eq_of_mem_set hx with hx | rfl
  · exact hs.all x hx
  · exact smallG_no
theorem exactHostDrop {h : DHost} {g : Int} (hf : FitH h) : F_laws_FnExactHostDrop h g = some true := by
 unfold F_laws_FnExactHostDrop
 obtain ⟨v, hv, hs⟩ := szHost_eq hf (left := 1048576) (by omega) (by omega)
 rw [hv]
 simp only [Option.bind_some]
 rcases hs with h0 | ⟨h0, -, hs⟩
 · rw [lt_t h0]; rfl
 · have hz := small_drop (g := g) hs
   have hp := mHost_pos hs (k := 1) (by omega)
   have hp2 := mHost_pos hz (k := 1) (by omega)
   rw [decide_eq_false (by omega), cond_false]
   simp only [toHost_eq hs, hostDrop_i hs, hostDrop_s hs, Option.bind_some, eqHost_eq hs, eqHost_eq hz, decide_true, Bool.not_true, cond_false, markHost_eq hs (k := 1) (by omega) (by omega), markHost_eq hz (k := 1) (by omega) (by omega), markHost_len, heldHost_mk hz (k := 1) (by omega) (by omega)]
   rw [grd_t True.intro, grd_t True.intro, decide_eq_false (by omega), cond_false, grd_t True.intro, grd_t True.intro, decide_eq_false (by omega)]; simp only [beq_self_eq_true, Bool.not_true, cond_false]
end Go.Proofs.Ytbogmfjpabfhpaa
