/- What is a host: the program's loops. -/
import Derived.Test.YtbnjdmclnojlmaaPHA
namespace Go.Proofs.Ytbnjdmclnojlmaa
set_option linter.all false
theorem bump_go {xs : List Int} {s : DSlot} {B : Nat} (hs : M.slotOk s = true) (ht : Tl B xs) (hB : B ≤ 1000000000) {Y : Type} : (cond (!decide (s.Frame = (-1 : Int))) (grd ((0 : Int) ≤ s.Frame ∧ s.Frame < ((xs.length : Nat) : Int)) (grd ((0 : Int) ≤ s.Frame ∧ s.Frame < ((xs.length : Nat) : Int)) (some (JO.go (List.set xs (Int.toNat s.Frame) (w64 ((List.getD xs (Int.toNat s.Frame) default) + (1 : Int)))))))) (some (JO.go xs)) : Option (JO (List Int) Y)) = some (.go (M.bump xs s)) := by
 have hr := slot_range hs
 have hl := ht.len
 unfold M.bump
 by_cases e : s.Frame = -1
 · rw [decide_eq_true e]; rfl
 · rw [decide_eq_false e]
   have h1 := ht.low s.Frame.toNat (by omega)
   have h2 := ht.top s.Frame.toNat (by omega)
   rw [Bool.not_false, cond_true, cond_false, grd_t ⟨by omega, by omega⟩, grd_t ⟨by omega, by omega⟩, w64_in (by omega) (by omega)]
theorem takers_i {gs : List DGuest} (hl : gs.length ≤ 1048576) (h : gs.all M.guestOk = true) : F_impl_frameTakers gs = some (M.takers (M.slots gs)) := by
 have hin : ∀ (k : Nat) (g : DGuest) (xs : List Int) (h1 : (k : Int) < (gs.length : Int)) (h2 : g ∈ gs) (h3 : gs.getD k default = g) (h4 : Tl (8 * k) xs),
  iter (F_impl_frameTakers_l4 gs (xs, (k : Int))) (xs, 0) = some (.ret (.go (g.Pages.foldl M.bump xs))) ∧ Tl (8 * k + g.Pages.length) (g.Pages.foldl M.bump xs) := by
  intro k g xs h1 h2 h3 h4
  obtain ⟨g1, g2⟩ := guest_slots (List.all_eq_true.1 h g h2)
  exact fold_loop (xs := g.Pages) (step := F_impl_frameTakers_l4 gs (xs, (k : Int))) (fun s j => (s, j)) M.bump (fun s => .go s) (fun j s => Tl (8 * k + j) s) (fun j x s a1 a2 a3 a4 => by
   refine ⟨?_, a4.bump (List.all_eq_true.1 g1 x a2)⟩
   simp only [F_impl_frameTakers_l4, Int.toNat_natCast, h3, decide_eq_true a1, cond_true]
   rw [grd_t ⟨by omega, a1⟩, a3, bump_go (List.all_eq_true.1 g1 x a2) a4 (by omega), Option.bind_some]
   simp only [JO.run, F_impl_frameTakers_j5]
   rw [w64_in (by omega) (by omega)]) (fun s _ => by
   simp only [F_impl_frameTakers_l4, Int.toNat_natCast, h3]; rw [decide_eq_false (by omega), cond_false]) xs h4
 have key := (fold_loop (xs := gs) (step := F_impl_frameTakers_l2 gs) (fun s j => (s, j)) (fun s g => g.Pages.foldl M.bump s) (fun s => .go s) (fun k s => Tl (8 * k) s) (fun k g s a1 a2 a3 a4 => by
  obtain ⟨b1, b2⟩ := hin k g s a1 a2 a3 a4
  refine ⟨?_, b2.mono (by have := (guest_slots (List.all_eq_true.1 h g a2)).2; omega)⟩
  simp only [F_impl_frameTakers_l2, decide_eq_true a1, cond_true]
  rw [grd_t ⟨by omega, a1⟩, b1]
  simp only [Option.bind_some, LO.val, JO.run, F_impl_frameTakers_j3]
  rw [w64_in (by omega) (by omega)]) (fun s _ => by
  simp only [F_impl_frameTakers_l2]; rw [decide_eq_false (by omega), cond_false]) (List.replicate 20 0) (Tl.zero.mono (by omega))).1
 unfold F_impl_frameTakers
 rw [show Int.toNat (20 : Int) = 20 from rfl, key]
 simp only [Option.bind_some, LO.val, JO.run, F_impl_frameTakers_j1]
 rw [foldl_flatMap']; rfl
theorem alone_i {gs : List DGuest} (hl : gs.length ≤ 1048576) (h : gs.all M.guestOk = true) (hwr : True) : F_impl_writersAreAlone gs = some (M.alone (M.slots gs)) := by
 unfold F_impl_writersAreAlone
 rw [takers_i hl h, Option.bind_some]
 have hs := all_slots h
 have hin : ∀ (k : Nat) (g : DGuest) (h1 : (k : Int) < (gs.length : Int)) (h2 : g ∈ gs) (h3 : gs.getD k default = g),
  iter (F_impl_writersAreAlone_l5 gs (M.takers (M.slots gs)) (k : Int)) 0 = some (.ret (bif g.Pages.all (fun s => !s.Write || decide (M.many (M.slots gs) s.Frame ≤ 1)) then .go () else .out (.ret (.out false)))) := by
  intro k g h1 h2 h3
  obtain ⟨g1, g2⟩ := guest_slots (List.all_eq_true.1 h g h2)
  exact (chk_loop (xs := g.Pages) (σ := Unit) (step := F_impl_writersAreAlone_l5 gs (M.takers (M.slots gs)) (k : Int)) (fun _ j => j) _ (fun _ _ => ()) (fun _ => JO.go ()) _ (fun _ _ => True) (fun j x s a1 a2 a3 _ => by
   refine ⟨?_, fun _ => trivial⟩
   have hx := List.all_eq_true.1 g1 x a2
   have hr := slot_range hx
   simp only [F_impl_writersAreAlone_l5, Int.toNat_natCast, h3, decide_eq_true a1, cond_true, a3]
   rw [grd_t ⟨by omega, a1⟩]
   cases hw : x.Write with
   | false =>
    simp only [cond_false, Option.bind_some, JO.run, F_impl_writersAreAlone_j6, Bool.not_false, Bool.true_or, cond_true]
    rw [w64_in (by omega) (by omega)]
   | true =>
    have hf : x.Frame ≠ -1 := fun e => by
     unfold M.slotOk at hx
     rw [decide_eq_true e, hw] at hx; simp at hx
    have hlt := takers_len hs
    simp only [cond_true]
    rw [grd_t ⟨by omega, by omega⟩, takers_get hs (by omega), show ((x.Frame.toNat : Nat) : Int) = x.Frame by omega]
    by_cases e : M.many (M.slots gs) x.Frame ≤ 1
    · rw [decide_eq_false (by omega), decide_eq_true e]
      simp only [cond_false, Option.bind_some, JO.run, F_impl_writersAreAlone_j6, Bool.not_true, Bool.false_or, cond_true]
      rw [w64_in (by omega) (by omega)]
    · rw [decide_eq_true (by omega), decide_eq_false e]; rfl) (fun s _ => by
   simp only [F_impl_writersAreAlone_l5, Int.toNat_natCast, h3]; rw [decide_eq_false (by omega), cond_false]) () trivial).1
 have key := (chk_loop (xs := gs) (σ := Unit) (step := F_impl_writersAreAlone_l3 gs (M.takers (M.slots gs))) (fun _ j => j) (fun g => g.Pages.all (fun s => !s.Write || decide (M.many (M.slots gs) s.Frame ≤ 1))) (fun _ _ => ()) (fun _ => JO.go ()) (.out false) (fun _ _ => True) (fun k g s a1 a2 a3 _ => by
  refine ⟨?_, fun _ => trivial⟩
  simp only [F_impl_writersAreAlone_l3, decide_eq_true a1, cond_true]
  rw [grd_t ⟨by omega, a1⟩, hin k g a1 a2 a3]
  cases g.Pages.all (fun s => !s.Write || decide (M.many (M.slots gs) s.Frame ≤ 1)) with
  | false => rfl
  | true =>
   simp only [cond_true, Option.bind_some, LO.val, JO.run, F_impl_writersAreAlone_j4]
   rw [w64_in (by omega) (by omega)]) (fun s _ => by
  simp only [F_impl_writersAreAlone_l3]; rw [decide_eq_false (by omega), cond_false]) () trivial).1
 rw [key]
 have e : M.alone (M.slots gs) = gs.all (fun g => g.Pages.all (fun s => !s.Write || decide (M.many (M.slots gs) s.Frame ≤ 1))) := by
  simp only [M.alone]
  conv => lhs; arg 1; unfold M.slots
  rw [List.all_flatMap]
 rw [e]
 cases gs.all (fun g => g.Pages.all (fun s => !s.Write || decide (M.many (M.slots gs) s.Frame ≤ 1))) <;> rfl
theorem hostOk_i {h : DHost} (hs : SmallH h) : F_impl_HostOk h = some (M.hostOk h) := by
 have := hs.words
 unfold F_impl_HostOk M.hostOk
 by_cases hl : h.Words.length = 160
 · rw [show decide (((h.Words.length : Nat) : Int) = 160) = true by simp; omega, cond_true, wordsOk_i (by omega), decide_eq_true hl, Option.bind_some]
   cases M.wordsOk h.Words with
   | false => rfl
   | true =>
    rw [cond_true, guestsOk_i hs.guests hs.all, Option.bind_some]
    cases hg : (decide (h.Guests.length = 3) && h.Guests.all M.guestOk) with
    | false => rfl
    | true =>
     rw [Bool.and_eq_true] at hg
     rw [cond_true, alone_i hs.guests hg.2 trivial]; rfl
 · rw [show decide (((h.Words.length : Nat) : Int) = 160) = false by simp; omega, decide_eq_false hl]; rfl
end Go.Proofs.Ytbnjdmclnojlmaa
