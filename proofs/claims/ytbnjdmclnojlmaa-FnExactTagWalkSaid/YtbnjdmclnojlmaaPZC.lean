/- The laws' marks on slots, guests and hosts. -/
import Derived.Test.YtbnjdmclnojlmaaPZB
import Derived.Test.YtbnjdmclnojlmaaWHM1
namespace Go.Proofs.Ytbnjdmclnojlmaa
set_option linter.all false
noncomputable def mSlot (_ : DSlot) (k : Int) : DSlot × Int := (⟨k, decide (Int.tmod (k + 1) 3 = 0), decide (Int.tmod (k + 1 + 1) 3 = 0)⟩, k + 1 + 1 + 1)
theorem mSlot_le (x : DSlot) (k : Int) : k ≤ (mSlot x k).2 ∧ (mSlot x k).2 ≤ k + 3 := by simp only [mSlot]; omega
theorem w_in {z : Int} (h0 : 0 ≤ z) (h1 : z ≤ 1152921504606846976) : w64 z = z := w64_in (by omega) (by omega)
theorem markSlotS_eq {xs : List DSlot} {k : Int} (h : xs.length ≤ 1048576) (h0 : 0 ≤ k) (h1 : k ≤ 4503599627370496) : F_laws_markSlotS xs k = some ((marks mSlot xs k).1, (marks mSlot xs k).2) := by
 have key := mark_loop (m := mSlot) (C := 3) (B := 9007199254740992) (step := F_laws_markSlotS_l2) (xs := xs) (k := k) (fun x _ k => mSlot_le x k) h0 (by omega) (by omega) (fun zs i q hz hi _ hq hb => by
  have e1 : (i : Int) < (zs.length : Int) := by omega
  simp only [F_laws_markSlotS_l2, decide_eq_true e1, cond_true]
  rw [grd_t ⟨by omega, e1⟩, Int.toNat_natCast, w_in (z := q + 1) (by omega) (by omega), w_in (z := q + 1 + 1) (by omega) (by omega), w_in (z := q + 1 + 1 + 1) (by omega) (by omega), w_in (z := (i : Int) + 1) (by omega) (by omega)]
  rw [grd_t ⟨by omega, e1⟩, grd_t ⟨by omega, e1⟩]
  rfl) (fun zs q _ => by simp only [F_laws_markSlotS_l2]; rw [decide_eq_false (by omega), cond_false])
 unfold F_laws_markSlotS
 rw [key]; rfl
noncomputable def mGuest (g : DGuest) (k : Int) : DGuest × Int :=
 let q := k + 1 + (g.C.Regs.length : Int)
 let p := marks mSlot g.Pages (q + 1 + 1 + 1 + 1 + 1 + 1 + 1 + 1 + 1 + 1 + 1 + 1)
 (⟨decide (Int.tmod k 3 = 0), ⟨upFrom (k + 1) g.C.Regs.length, q, q + 1, q + 1 + 1, q + 1 + 1 + 1, decide (Int.tmod (q + 1 + 1 + 1 + 1) 3 = 0), q + 1 + 1 + 1 + 1 + 1, q + 1 + 1 + 1 + 1 + 1 + 1, q + 1 + 1 + 1 + 1 + 1 + 1 + 1,
  decide (Int.tmod (q + 1 + 1 + 1 + 1 + 1 + 1 + 1 + 1) 3 = 0), decide (Int.tmod (q + 1 + 1 + 1 + 1 + 1 + 1 + 1 + 1 + 1) 3 = 0), decide (Int.tmod (q + 1 + 1 + 1 + 1 + 1 + 1 + 1 + 1 + 1 + 1) 3 = 0), decide (Int.tmod (q + 1 + 1 + 1 + 1 + 1 + 1 + 1 + 1 + 1 + 1 + 1) 3 = 0)⟩,
  p.1, upFrom p.2 g.In.length, upFrom (p.2 + g.In.length) g.Out.length⟩, p.2 + g.In.length + g.Out.length)
theorem mSlots_le {xs : List DSlot} {k : Int} (h : xs.length ≤ 1048576) : k ≤ (marks mSlot xs k).2 ∧ (marks mSlot xs k).2 ≤ k + 3145728 := by
 have := marks_le (m := mSlot) (C := 3) (xs := xs) (k := k) fun x _ k => mSlot_le x k
 omega
theorem mGuest_le {g : DGuest} (h : SmallG g) (k : Int) : k ≤ (mGuest g k).2 ∧ (mGuest g k).2 ≤ k + 8388608 := by
 have := h.c.regs; have := h.i; have := h.o
 have := mSlots_le (k := k + 1 + (g.C.Regs.length : Int) + 1 + 1 + 1 + 1 + 1 + 1 + 1 + 1 + 1 + 1 + 1 + 1) h.pages
 simp only [mGuest]
 omega
theorem markGuestS_eq {xs : List DGuest} {k : Int} (h : xs.length ≤ 1048576) (hs : ∀ g ∈ xs, SmallG g) (h0 : 0 ≤ k) (h1 : k ≤ 4503599627370496 - 8796093022208 - 8388608) : F_laws_markGuestS xs k = some ((marks mGuest xs k).1, (marks mGuest xs k).2) := by
 have key := mark_loop (m := mGuest) (C := 8388608) (B := 4503599627370496 - 8388608) (step := F_laws_markGuestS_l2) (xs := xs) (k := k) (fun x hx k => mGuest_le (hs x hx) k) h0 (by omega) (by omega) (fun zs i q hz hi hm hq hb => by
  have hg := hs _ hm
  generalize hgg : zs.getD i default = g at hg
  have := hg.c.regs; have := hg.pages; have := hg.i; have := hg.o
  have e1 : (i : Int) < (zs.length : Int) := by omega
  have g0 : (0 : Int) ≤ (i : Int) ∧ (i : Int) < (zs.length : Int) := ⟨by omega, e1⟩
  have hp := mSlots_le (k := q + 1 + (g.C.Regs.length : Int) + 1 + 1 + 1 + 1 + 1 + 1 + 1 + 1 + 1 + 1 + 1 + 1) hg.pages
  simp only [F_laws_markGuestS_l2, decide_eq_true e1, cond_true, Int.toNat_natCast, hgg, grd_t g0]
  rw [w_in (z := q + 1) (by omega) (by omega), markIntS_eq (by omega) (by omega) (by omega), Option.bind_some]
  simp only []
  generalize hr : q + 1 + (g.C.Regs.length : Int) = r at hp
  rw [grd_t (by rw [upFrom_len]), w_in (z := r + 1) (by omega) (by omega), w_in (z := r + 1 + 1) (by omega) (by omega), w_in (z := r + 1 + 1 + 1) (by omega) (by omega), w_in (z := r + 1 + 1 + 1 + 1) (by omega) (by omega), w_in (z := r + 1 + 1 + 1 + 1 + 1) (by omega) (by omega), w_in (z := r + 1 + 1 + 1 + 1 + 1 + 1) (by omega) (by omega), w_in (z := r + 1 + 1 + 1 + 1 + 1 + 1 + 1) (by omega) (by omega), w_in (z := r + 1 + 1 + 1 + 1 + 1 + 1 + 1 + 1) (by omega) (by omega),
   w_in (z := r + 1 + 1 + 1 + 1 + 1 + 1 + 1 + 1 + 1) (by omega) (by omega), w_in (z := r + 1 + 1 + 1 + 1 + 1 + 1 + 1 + 1 + 1 + 1) (by omega) (by omega), w_in (z := r + 1 + 1 + 1 + 1 + 1 + 1 + 1 + 1 + 1 + 1 + 1) (by omega) (by omega), w_in (z := r + 1 + 1 + 1 + 1 + 1 + 1 + 1 + 1 + 1 + 1 + 1 + 1) (by omega) (by omega), w_in (z := (i : Int) + 1) (by omega) (by omega)]
  rw [markSlotS_eq hg.pages (by omega) (by omega), Option.bind_some, grd_t (by rw [marks_len]), markIntS_eq (by omega) (by simp only; omega) (by simp only; omega), Option.bind_some, grd_t (by rw [upFrom_len]), markIntS_eq (by omega) (by simp only; omega) (by simp only; omega), Option.bind_some, grd_t (by rw [upFrom_len])]
  simp only [mGuest, hr]) (fun zs q _ => by simp only [F_laws_markGuestS_l2]; rw [decide_eq_false (by omega), cond_false])
 unfold F_laws_markGuestS
 rw [key]; rfl
noncomputable def mHost (h : DHost) (k : Int) : DHost × Int := (⟨upFrom k h.Words.length, (marks mGuest h.Guests (k + h.Words.length)).1⟩, (marks mGuest h.Guests (k + h.Words.length)).2)
theorem mGuests_le {xs : List DGuest} {k : Int} (h : xs.length ≤ 1048576) (hs : ∀ g ∈ xs, SmallG g) : k ≤ (marks mGuest xs k).2 ∧ (marks mGuest xs k).2 ≤ k + 8796093022208 := by
 have := marks_le (m := mGuest) (C := 8388608) (xs := xs) (k := k) fun x hx k => mGuest_le (hs x hx) k
 omega
theorem markHost_eq {h : DHost} (hs : SmallH h) {k : Int} (h0 : 0 ≤ k) (h1 : k ≤ 1000000000) : F_laws_markHost h k = some ((mHost h k).1.Words, (mHost h k).1.Guests, (mHost h k).2) := by
 have := hs.words
 unfold F_laws_markHost
 rw [markIntS_eq (by omega) h0 (by omega), Option.bind_some, grd_t (by rw [upFrom_len]), markGuestS_eq hs.guests hs.all (by simp only; omega) (by simp only; omega), Option.bind_some, grd_t (by rw [marks_len])]
 rfl
theorem markHost_len {h : DHost} {k : Int} : (mHost h k).1.Words.length = h.Words.length ∧ (mHost h k).1.Guests.length = h.Guests.length := by
 simp [mHost, upFrom_len, marks_len]
theorem mHost_pos {h : DHost} (hs : SmallH h) {k : Int} (h0 : 0 ≤ k) : 0 ≤ (mHost h k).2 := by
 have := mGuests_le (k := k + h.Words.length) hs.guests hs.all
 simp only [mHost]; omega
end Go.Proofs.Ytbnjdmclnojlmaa
