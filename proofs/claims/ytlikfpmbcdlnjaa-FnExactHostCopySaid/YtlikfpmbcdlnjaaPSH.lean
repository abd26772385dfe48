/- What HostFill and HostCopy answer is no larger. -/
import Derived.Test.YtlikfpmbcdlnjaaPSF
import Derived.Test.YtlikfpmbcdlnjaaPZC
namespace Go.Proofs.Ytlikfpmbcdlnjaa
set_option linter.all false
theorem small_zero : SmallH M.zeroH := ⟨by simp [M.zeroH], by simp [M.zeroH], by simp [M.zeroH]⟩
theorem small_frame {h : DHost} {g p f : Int} {x : DGuest} (hs : SmallH h) (l : Live h g x) (f0 : 0 ≤ f) (f1 : f < 20) : SmallH (M.inFrame h g p f) := by
 have hlw := l.ok.len
 unfold M.inFrame
 refine ⟨?_, by simpa using hs.guests, fun y hy => ?_⟩
 · rw [over_len3 (by omega)]; exact hs.words
 · rcases List.mem_or_eq_of_mem_set hy with hy | rfl
   · exact hs.all y hy
   · rw [l.at_]; exact ⟨l.small.c, by simpa using l.small.pages, l.small.i, l.small.o⟩
theorem small_free {h : DHost} {g p : Int} {x : DGuest} (hs : SmallH h) (l : Live h g x) : SmallH (M.inFree h g p).1 := by
 unfold M.inFree
 by_cases e : (M.free (M.slots h.Guests)).length = 0
 · rw [decide_eq_true e]; exact small_zero
 · have hf := free_in (ss := M.slots h.Guests) (i := 0) (by omega)
   rw [decide_eq_false e]; exact small_frame hs l hf.1 hf.2
theorem small_fill {h : DHost} {g p : Int} (hs : SmallH h) : SmallH (M.hostFill h g p).1 := by
 unfold M.hostFill
 cases ht : M.there h g with
 | false => exact small_zero
 | true =>
  have l := there_live hs ht
  cases M.inR 0 7 p with
  | false => exact small_zero
  | true =>
   rw [Bool.and_self, cond_true]
   cases decide (((h.Guests.getD g.toNat default).Pages.getD p.toNat default).Frame = -1) with
   | false => exact hs
   | true => exact small_free hs l
theorem small_copy {h : DHost} {g p : Int} (hs : SmallH h) : SmallH (M.hostCopy h g p).1 := by
 unfold M.hostCopy
 cases ht : M.there h g with
 | false => exact small_zero
 | true =>
  have l := there_live hs ht
  cases hp : M.inR 0 7 p with
  | false => exact small_zero
  | true =>
   obtain ⟨p0, p1⟩ := M.inR_iff.1 hp
   have hsl := live_slot l (p := p.toNat) (by omega)
   rw [Bool.and_self, cond_true]
   by_cases e : ((h.Guests.getD g.toNat default).Pages.getD p.toNat default).Frame = -1
   · rw [decide_eq_true e]; exact small_zero
   · rw [decide_eq_false e, cond_false]
     cases decide (M.many (M.slots h.Guests) ((h.Guests.getD g.toNat default).Pages.getD p.toNat default).Frame = 1) with
     | true => exact small_frame hs l (by omega) (by omega)
     | false => exact small_free hs l
end Go.Proofs.Ytlikfpmbcdlnjaa
