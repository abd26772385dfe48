/- Copies of guests; HostDrop. -/
import Derived.Test.YtlikfpmbcdlnjaaPHL
import Derived.Test.YtlikfpmbcdlnjaaPHQ
import Derived.Test.YtlikfpmbcdlnjaaPZA
import Derived.Test.YtlikfpmbcdlnjaaWHD1
namespace Go.Proofs.Ytlikfpmbcdlnjaa
set_option linter.all false
theorem copiedSlots_eq {xs : List DSlot} (h : xs.length ≤ 1048576) : F_impl_copiedSlots xs = some xs := by
 unfold F_impl_copiedSlots
 rw [grd_t ⟨by omega, by omega, by omega⟩, over_all (by simp)]
theorem gone_eq {g : DGuest} (h : M.guestOk g = true) (hl : g.Live = false) : g = M.noGuest := by
 unfold M.guestOk at h
 rw [hl, cond_false, decide_eq_true_eq] at h; exact h
theorem copiedGuest_eq {g : DGuest} (hs : SmallG g) (h : M.guestOk g = true) : F_impl_copiedGuest g = some g := by
 unfold F_impl_copiedGuest
 cases hl : g.Live with
 | false =>
  have := gone_eq h hl
  subst this; rfl
 | true =>
  rw [Bool.not_true, cond_false, copied_eq hs.c.regs, copiedSlots_eq hs.pages, copied_eq hs.i, copied_eq hs.o]
  simp only [Option.bind_some]
  rw [← hl]
theorem guest_s {g : DGuest} (hs : SmallG g) (h : M.guestOk g = true) : F_spec_l4Guest g = some g := by
 have := hs.pages; have := hs.i; have := hs.o
 unfold F_spec_l4Guest
 cases hl : g.Live with
 | false =>
  have := gone_eq h hl
  subst this; rfl
 | true =>
  rw [Bool.not_true, cond_false, core_s hs.c, Option.bind_some, grd_t ⟨by omega, by omega⟩, grd_t ⟨by omega, by omega⟩, grd_t ⟨by omega, by omega⟩, ← hl]
theorem copiedGuests_eq {gs : List DGuest} (hl : gs.length ≤ 1048576) (hs : ∀ g ∈ gs, SmallG g) (h : gs.all M.guestOk = true) : F_impl_copiedGuests gs = some gs := by
 unfold F_impl_copiedGuests
 rw [grd_t ⟨by omega, by omega, by omega⟩]
 have key := copy_loop (xs := gs) (ys := List.replicate (Int.toNat (gs.length : Int)) M.noGuest) (step := F_impl_copiedGuests_l2 gs) (by simp) (fun k zs hk hz => by
  have h1 : (k : Int) < (gs.length : Int) := by omega
  simp only [F_impl_copiedGuests_l2, decide_eq_true h1, cond_true]
  rw [grd_t ⟨by omega, h1⟩, Int.toNat_natCast]
  show Option.bind (F_impl_copiedGuest (gs.getD k default)) _ = _
  rw [copiedGuest_eq (hs _ (getD_mem hk)) (List.all_eq_true.1 h _ (getD_mem hk)), Option.bind_some, grd_t ⟨by omega, by omega⟩, w64_in (by omega) (by omega)]) (fun zs hz => by
  simp only [F_impl_copiedGuests_l2]
  rw [decide_eq_false (by omega), cond_false])
 show Option.bind (Option.bind (iter (F_impl_copiedGuests_l2 gs) (List.replicate (Int.toNat (gs.length : Int)) M.noGuest, 0)) LO.val) _ = _
 rw [key]; rfl
theorem copy_s {h : DHost} (hs : SmallH h) (hg : h.Guests.all M.guestOk = true) : F_spec_l4Copy h = some h := by
 have := hs.words
 have := hs.guests
 unfold F_spec_l4Copy
 rw [grd_t ⟨by simp; omega, by simp; omega⟩]
 have key := (fold_loop (xs := h.Guests) (step := F_spec_l4Copy_l2 h) (fun s j => (s, j)) (fun s g => s ++ [g]) (fun s => JO.go s) (fun j s => s.length = j) (fun k g s a1 a2 a3 a4 => by
  refine ⟨?_, by simp; omega⟩
  simp only [F_spec_l4Copy_l2, decide_eq_true a1, cond_true, Int.toNat_natCast, a3]
  rw [grd_t ⟨by omega, a1⟩]
  show Option.bind (F_spec_l4Guest g) _ = _
  rw [guest_s (hs.all g a2) (List.all_eq_true.1 hg g a2), Option.bind_some, grd_t ⟨by omega, by omega⟩, w64_in (by omega) (by omega)]) (fun s _ => by
  simp only [F_spec_l4Copy_l2]; rw [decide_eq_false (by omega), cond_false]) [] rfl).1
 rw [key]
 have e : ∀ (xs ys : List DGuest), xs.foldl (fun s g => s ++ [g]) ys = ys ++ xs := by
  intro xs
  induction xs with
  | nil => intro ys; simp
  | cons x xs ih => intro ys; rw [List.foldl_cons, ih]; simp
 rw [e]; rfl
namespace M
end M
end Go.Proofs.Ytlikfpmbcdlnjaa
