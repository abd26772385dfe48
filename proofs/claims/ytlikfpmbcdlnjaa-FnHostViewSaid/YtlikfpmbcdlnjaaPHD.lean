/- Copies of guests; HostDrop. -/
import Derived.Test.YtlikfpmbcdlnjaaPHL
import Derived.Test.YtlikfpmbcdlnjaaPHQ
import Derived.Test.YtlikfpmbcdlnjaaPZA
import Derived.Test.YtlikfpmbcdlnjaaWHD1
namespace Go.Proofs.Ytlikfpmbcdlnjaa
set_option linter.all false
theorem gone_eq {g : DGuest} (h : M.guestOk g = true) (hl : g.Live = false) : g = M.noGuest := by
 unfold M.guestOk at h
 rw [hl, cond_false, decide_eq_true_eq] at h; exact h
theorem guest_s {g : DGuest} (hs : SmallG g) (h : M.guestOk g = true) : F_spec_l4Guest g = some g := by
 have := hs.pages; have := hs.i; have := hs.o
 unfold F_spec_l4Guest
 cases hl : g.Live with
 | false =>
  have := gone_eq h hl
  subst this; rfl
 | true =>
  rw [Bool.not_true, cond_false, core_s hs.c, Option.bind_some, grd_t ⟨by omega, by omega⟩, grd_t ⟨by omega, by omega⟩, grd_t ⟨by omega, by omega⟩, ← hl]
theorem copy_s {h : DHost} (hs : SmallH h) (hg : h.Guests.all M.guestOk = true) : F_spec_l4Copy h = some h := by
 have := hs.words
 have := hs.guests
 unfold F_spec_l4Copy
 rw [grd_t ⟨by simp; omega, by simp; omega⟩]
 have key := (fold_loop (xs := h.Guests) (step := F_spec_l4Copy_l2 h) (fun s j => (s, j)) (fun s g => s ++ [g]) (fun s => JO.go s) (fun j s => s.length = j) (fun k g s a1 a2 a3 a4 => by
  refine ⟨?_, by simp; omega⟩
  simp only [F_spec_l4Copy_l2, decide_eq_true a1, cond_true, Int.toNat_natCast, a3]
  rw [grd_t ⟨by omega, a1⟩]
  show Option.bind (F_spec_l4Guest g) _ = _
  rw [guest_s (hs.all g a2) (List.all_eq_true.1 hg g a2), Option.bind_some, grd_t ⟨by omega, by omega⟩, w64_in (by omega) (by omega)]) (fun s _ => by
  simp only [F_spec_l4Copy_l2]; rw [decide_eq_false (by omega), cond_false]) [] rfl).1
 rw [key]
 have e : ∀ (xs ys : List DGuest), xs.foldl (fun s g => s ++ [g]) ys = ys ++ xs := by
  intro xs
  induction xs with
  | nil => intro ys; simp
  | cons x xs ih => intro ys; rw [List.foldl_cons, ih]; simp
 rw [e]; rfl
namespace M
end M
end Go.Proofs.Ytlikfpmbcdlnjaa
