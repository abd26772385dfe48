/- HostFill and HostCopy: the program's functions and the model's answers alike. -/
import Derived.Test.YtlikfpmbcdlnjaaPSA
import Derived.Test.YtlikfpmbcdlnjaaPHF
import Derived.Test.YtlikfpmbcdlnjaaP7
import Derived.Test.YtlikfpmbcdlnjaaWSP1
import Derived.Test.YtlikfpmbcdlnjaaWSL1
namespace Go.Proofs.Ytlikfpmbcdlnjaa
set_option linter.all false
namespace M
def zeroH : DHost := ⟨[], []⟩
def inFrame (h : DHost) (g page frame : Int) : DHost :=
 ⟨over h.Words (frame.toNat * 8) 8 (pageWords h.Words ((h.Guests.getD g.toNat default).Pages.getD page.toNat default)),
  h.Guests.set g.toNat ⟨(h.Guests.getD g.toNat default).Live, (h.Guests.getD g.toNat default).C, (h.Guests.getD g.toNat default).Pages.set page.toNat ⟨frame, true, ((h.Guests.getD g.toNat default).Pages.getD page.toNat default).Dirty⟩, (h.Guests.getD g.toNat default).In, (h.Guests.getD g.toNat default).Out⟩⟩
def inFree (h : DHost) (g page : Int) : DHost × Bool := bif decide ((free (slots h.Guests)).length = 0) then (zeroH, false) else (inFrame h g page ((free (slots h.Guests)).getD 0 default), true)
noncomputable def hostFill (h : DHost) (g page : Int) : DHost × Bool := bif there h g && inR 0 7 page then
 (bif decide (((h.Guests.getD g.toNat default).Pages.getD page.toNat default).Frame = -1) then inFree h g page else (h, true))
 else (zeroH, false)
noncomputable def hostCopy (h : DHost) (g page : Int) : DHost × Bool := bif there h g && inR 0 7 page then
 (bif decide (((h.Guests.getD g.toNat default).Pages.getD page.toNat default).Frame = -1) then (zeroH, false)
  else bif decide (many (slots h.Guests) ((h.Guests.getD g.toNat default).Pages.getD page.toNat default).Frame = 1) then (inFrame h g page ((h.Guests.getD g.toNat default).Pages.getD page.toNat default).Frame, true)
  else inFree h g page)
 else (zeroH, false)
end M
theorem free_in {ss : List DSlot} {i : Nat} (hi : i < (M.free ss).length) : 0 ≤ (M.free ss).getD i default ∧ (M.free ss).getD i default < 20 := by
 have hm := getD_mem hi
 rw [free_iff] at hm
 obtain ⟨j, hj, e⟩ := List.mem_map.1 hm
 have := (List.mem_filter.1 hj).1
 rw [List.mem_range] at this
 rw [free_iff, ← e]; omega
theorem copiedHost_eq {h : DHost} (hs : SmallH h) (hk : HOk h) : F_impl_copiedHost h = some h := by
 unfold F_impl_copiedHost
 rw [copied_eq hs.words, copiedGuests_eq hs.guests hs.all hk.all]; rfl
section
variable {h : DHost} {g : Int} {x : DGuest}
theorem inFrame_i (hs : SmallH h) (l : Live h g x) {p f : Int} (p0 : 0 ≤ p) (p1 : p ≤ 7) (f0 : 0 ≤ f) (f1 : f < 20) : F_impl_inFrame h g p f = some (M.inFrame h g p f) := by
 have := l.ok.three; have := l.lo; have := l.hi; have hpl := l.pages; have hlw := l.ok.len
 have hsl := live_slot l (p := p.toNat) (by omega)
 unfold F_impl_inFrame
 rw [copiedHost_eq hs l.ok, Option.bind_some]
 simp only [l.at_]
 rw [grd_t ⟨l.lo, by omega⟩, grd_t ⟨p0, by omega⟩, pageOf_p f0 (by omega) (by omega), Option.bind_some, grd_t rfl, grd_t (by simp only []; omega)]
 show Option.bind (F_impl_slotWords h.Words (x.Pages.getD p.toNat default)) _ = _
 rw [slotWords_i hlw hsl, Option.bind_some, grd_t ⟨l.lo, by omega⟩, grd_t ⟨p0, by omega⟩]
 unfold M.inFrame
 rw [l.at_]
theorem inFree_i (hs : SmallH h) (l : Live h g x) {p : Int} (p0 : 0 ≤ p) (p1 : p ≤ 7) : F_impl_inFreeFrame h g p = some (M.inFree h g p) := by
 unfold F_impl_inFreeFrame M.inFree
 rw [freeFrames_i hs.guests l.ok.all, Option.bind_some]
 by_cases e : (M.free (M.slots h.Guests)).length = 0
 · rw [decide_eq_true e, decide_eq_true (by omega)]; rfl
 · have hf := free_in (ss := M.slots h.Guests) (i := 0) (by omega)
   rw [decide_eq_false e, decide_eq_false (by omega), cond_false, cond_false, grd_t ⟨by omega, by omega⟩, inFrame_i hs l p0 p1 hf.1 hf.2]; rfl
end
theorem hostFill_i {h : DHost} {g p : Int} (hs : SmallH h) : F_impl_HostFill h g p = some (M.hostFill h g p) := by
 unfold F_impl_HostFill M.hostFill
 rw [hasGuest_i hs, Option.bind_some]
 cases ht : M.there h g with
 | false => rfl
 | true =>
  have l := there_live hs ht
  generalize hx : h.Guests.getD g.toNat default = x at l
  have := l.ok.three; have := l.lo; have := l.hi; have hpl := l.pages
  rw [Bool.not_true, cond_false, pageOk_i, Option.bind_some, Bool.true_and]
  cases hp : M.inR 0 7 p with
  | false => rfl
  | true =>
   obtain ⟨p0, p1⟩ := M.inR_iff.1 hp
   rw [Bool.not_true, cond_false, cond_true, grd_t ⟨l.lo, by omega⟩, grd_t ⟨p0, by omega⟩]
   cases decide ((x.Pages.getD p.toNat default).Frame = -1) with
   | false => rw [Bool.not_false, cond_true, copiedHost_eq hs l.ok]; rfl
   | true => rw [Bool.not_true, cond_false, inFree_i hs l p0 p1]; rfl
theorem hostCopy_i {h : DHost} {g p : Int} (hs : SmallH h) : F_impl_HostCopy h g p = some (M.hostCopy h g p) := by
 unfold F_impl_HostCopy M.hostCopy
 rw [hasGuest_i hs, Option.bind_some]
 cases ht : M.there h g with
 | false => rfl
 | true =>
  have l := there_live hs ht
  generalize hx : h.Guests.getD g.toNat default = x at l
  have := l.ok.three; have := l.lo; have := l.hi; have hpl := l.pages
  rw [Bool.not_true, cond_false, pageOk_i, Option.bind_some, Bool.true_and]
  cases hp : M.inR 0 7 p with
  | false => rfl
  | true =>
   obtain ⟨p0, p1⟩ := M.inR_iff.1 hp
   have hsl := live_slot l (p := p.toNat) (by omega)
   have hss := all_slots l.ok.all
   have hl2 := takers_len hss
   rw [Bool.not_true, cond_false, cond_true, grd_t ⟨l.lo, by omega⟩, grd_t ⟨p0, by omega⟩]
   by_cases e : (x.Pages.getD p.toNat default).Frame = -1
   · rw [decide_eq_true e]; rfl
   · have e0 : decide ((M.takers (M.slots h.Guests)).getD (x.Pages.getD p.toNat default).Frame.toNat default = 1) = decide (M.many (M.slots h.Guests) (x.Pages.getD p.toNat default).Frame = 1) := by
      rw [decide_eq_decide, takers_get hss (by omega), show (((x.Pages.getD p.toNat default).Frame.toNat : Nat) : Int) = (x.Pages.getD p.toNat default).Frame by omega]; omega
     rw [decide_eq_false e, cond_false, cond_false, takers_i hs.guests l.ok.all, Option.bind_some, grd_t ⟨by omega, by omega⟩, e0]
     cases decide (M.many (M.slots h.Guests) (x.Pages.getD p.toNat default).Frame = 1) with
     | true => rw [cond_true, cond_true, inFrame_i hs l p0 p1 (by omega) (by omega)]; rfl
     | false => rw [cond_false, cond_false, inFree_i hs l p0 p1]; rfl
end Go.Proofs.Ytlikfpmbcdlnjaa
