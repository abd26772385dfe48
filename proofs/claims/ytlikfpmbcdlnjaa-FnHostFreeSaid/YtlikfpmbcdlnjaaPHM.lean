/- A guest goes: the host is ok, and all others look as they did. -/
import Derived.Test.YtlikfpmbcdlnjaaPHD
import Derived.Test.YtlikfpmbcdlnjaaPHV
import Derived.Test.YtlikfpmbcdlnjaaPHS
import Derived.Test.YtlikfpmbcdlnjaaWK1
namespace Go.Proofs.Ytlikfpmbcdlnjaa
set_option linter.all false
theorem smallG_no2 : SmallG M.noGuest := ⟨⟨by decide⟩, by decide, by decide, by decide⟩
theorem slots_set : ∀ {gs : List DGuest} {i : Nat}, (M.slots (gs.set i M.noGuest)).Sublist (M.slots gs)
 | [], i => by simp [M.slots]
 | g :: gs, 0 => by
  simp only [List.set_cons_zero, M.slots, List.flatMap_cons, M.noGuest, List.nil_append]
  exact List.sublist_append_right _ _
 | g :: gs, i + 1 => by
  simp only [List.set_cons_succ, M.slots, List.flatMap_cons]
  exact List.Sublist.append (List.Sublist.refl _) slots_set
theorem many_set {gs : List DGuest} {i : Nat} {f : Int} : M.many (M.slots (gs.set i M.noGuest)) f ≤ M.many (M.slots gs) f := List.Sublist.countP_le slots_set
theorem guestOk_no : M.guestOk M.noGuest = true := by
 unfold M.guestOk
 rw [show M.noGuest.Live = false from rfl, cond_false, decide_eq_true rfl]
theorem drop_ok {h : DHost} {i : Nat} (hk : HOk h) : HOk ⟨h.Words, h.Guests.set i M.noGuest⟩ := by
 refine ⟨hk.len, hk.words, by simpa using hk.three, ?_, ?_⟩
 · rw [List.all_eq_true]
   intro x hx
   rcases List.mem_or_eq_of_mem_set hx with hx | rfl
   · exact List.all_eq_true.1 hk.all x hx
   · exact guestOk_no
 · have ha := hk.alone
   simp only [M.alone, List.all_eq_true, Bool.or_eq_true, Bool.not_eq_true', decide_eq_true_eq] at ha ⊢
   intro s hs
   rcases ha s (slots_set.subset hs) with h1 | h1
   · exact .inl h1
   · exact .inr (Nat.le_trans many_set h1)
theorem drop_small {h : DHost} {g : Int} (hs : SmallH h) : SmallH (M.hostDrop h g).1 := by
 unfold M.hostDrop
 cases M.there h g with
 | false => exact ⟨by simp, by simp, by simp⟩
 | true =>
  refine ⟨hs.words, by simpa using hs.guests, fun x hx => ?_⟩
  rcases List.mem_or_eq_of_mem_set hx with hx | rfl
  · exact hs.all x hx
  · exact smallG_no2
theorem drop_hostOk {h : DHost} {g : Int} (ht : M.there h g = true) : M.hostOk (M.hostDrop h g).1 = true := by
 have e : (M.hostDrop h g).1 = ⟨h.Words, h.Guests.set g.toNat M.noGuest⟩ := by unfold M.hostDrop; rw [ht]; rfl
 rw [e]; exact hOk_iff.2 (drop_ok (there_iff.1 ht).1)
theorem drop_snd {h : DHost} {g : Int} : (M.hostDrop h g).2 = M.there h g := by
 unfold M.hostDrop; cases M.there h g <;> rfl
end Go.Proofs.Ytlikfpmbcdlnjaa
