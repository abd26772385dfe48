/- HostFree: the program's function and the model's answer alike. -/
import Derived.Test.YtlikfpmbcdlnjaaPHB
import Derived.Test.YtlikfpmbcdlnjaaPHC
import Derived.Test.YtlikfpmbcdlnjaaPHK
import Derived.Test.YtlikfpmbcdlnjaaWHF1
namespace Go.Proofs.Ytlikfpmbcdlnjaa
set_option linter.all false
namespace M
def freeStep (ss : List DSlot) (s : List Int) (i : Nat) : List Int := bif decide (many ss (i : Int) = 0) then s ++ [(i : Int)] else s
def free (ss : List DSlot) : List Int := (List.range 20).foldl (freeStep ss) []
noncomputable def hostFree (h : DHost) : List Int := bif hostOk h then free (slots h.Guests) else []
end M
theorem free_iff {ss : List DSlot} : M.free ss = ((List.range 20).filter fun (i : Nat) => decide (M.many ss (i : Int) = 0)).map fun (i : Nat) => (i : Int) := by
 have e : ∀ (xs : List Nat) (s : List Int), xs.foldl (M.freeStep ss) s = s ++ (xs.filter fun (i : Nat) => decide (M.many ss (i : Int) = 0)).map fun (i : Nat) => (i : Int) := by
  intro xs
  induction xs with
  | nil => intro s; simp
  | cons x xs ih =>
   intro s
   rw [List.foldl_cons, ih, List.filter_cons]
   unfold M.freeStep
   cases decide (M.many ss (x : Int) = 0) <;> simp
 unfold M.free
 rw [e]; simp
theorem freeStep_len {ss : List DSlot} {s : List Int} {i n : Nat} (h : s.length ≤ n) : (M.freeStep ss s i).length ≤ n + 1 := by
 unfold M.freeStep; cases decide (M.many ss (i : Int) = 0) <;> simp <;> omega
theorem used_s {h : DHost} (hs : SmallH h) (hk : HOk h) : F_spec_l4Used h = some (M.takers (M.slots h.Guests)) := by
 have h3 := hk.three
 have hall := hk.all
 have hin : ∀ (k : Nat) (g : DGuest) (xs : List Int) (h1 : (k : Int) < (h.Guests.length : Int)) (h2 : g ∈ h.Guests) (h3 : h.Guests.getD k default = g) (h4 : Tl (8 * k) xs),
  iter (F_spec_l4Used_l4 h (xs, (k : Int))) (xs, 0) = some (.ret (.go (g.Pages.foldl M.bump xs))) ∧ Tl (8 * k + g.Pages.length) (g.Pages.foldl M.bump xs) := by
  intro k g xs h1 h2 h3 h4
  obtain ⟨g1, g2⟩ := guest_slots (List.all_eq_true.1 hall g h2)
  exact fold_loop (xs := g.Pages) (step := F_spec_l4Used_l4 h (xs, (k : Int))) (fun s j => (s, j)) M.bump (fun s => .go s) (fun j s => Tl (8 * k + j) s) (fun j x s a1 a2 a3 a4 => by
   have hx := List.all_eq_true.1 g1 x a2
   have hr := slot_range hx
   have hl := a4.len
   refine ⟨?_, a4.bump hx⟩
   simp only [F_spec_l4Used_l4, Int.toNat_natCast, h3, decide_eq_true a1, cond_true]
   rw [grd_t ⟨by omega, h1⟩, grd_t ⟨by omega, h1⟩, grd_t ⟨by omega, a1⟩, a3]
   unfold M.bump
   by_cases e : x.Frame = -1
   · rw [decide_eq_false (p := (0 : Int) ≤ x.Frame) (by omega), decide_eq_true e]
     simp only [cond_true, cond_false, Option.bind_some, JO.run, F_spec_l4Used_j5]
     rw [w64_in (by omega) (by omega)]
   · have q1 := a4.low x.Frame.toNat (by omega)
     have q2 := a4.top x.Frame.toNat (by omega)
     rw [decide_eq_true (p := (0 : Int) ≤ x.Frame) (by omega), decide_eq_false e, cond_true, grd_t ⟨by omega, by omega⟩, grd_t ⟨by omega, by omega⟩, w64_in (by omega) (by omega)]
     simp only [cond_true, cond_false, Option.bind_some, JO.run, F_spec_l4Used_j5]
     rw [w64_in (by omega) (by omega)]) (fun s _ => by
   simp only [F_spec_l4Used_l4, Int.toNat_natCast, h3]; rw [grd_t ⟨by omega, h1⟩, decide_eq_false (by omega), cond_false]) xs h4
 have key := (fold_loop (xs := h.Guests) (step := F_spec_l4Used_l2 h) (fun s j => (s, j)) (fun s g => g.Pages.foldl M.bump s) (fun s => .go s) (fun k s => Tl (8 * k) s) (fun k g s a1 a2 a3 a4 => by
  obtain ⟨b1, b2⟩ := hin k g s a1 a2 a3 a4
  refine ⟨?_, b2.mono (by have := (guest_slots (List.all_eq_true.1 hall g a2)).2; omega)⟩
  simp only [F_spec_l4Used_l2, decide_eq_true a1, cond_true]
  rw [b1]
  simp only [Option.bind_some, LO.val, JO.run, F_spec_l4Used_j3]
  rw [w64_in (by omega) (by omega)]) (fun s _ => by
  simp only [F_spec_l4Used_l2]; rw [decide_eq_false (by omega), cond_false]) (List.replicate 20 0) (Tl.zero.mono (by omega))).1
 unfold F_spec_l4Used
 rw [show Int.toNat (20 : Int) = 20 from rfl, key]
 simp only [Option.bind_some, LO.val, JO.run, F_spec_l4Used_j1]
 rw [foldl_flatMap']; rfl
theorem free_step {ss : List DSlot} (hss : ss.all M.slotOk = true) {i : Nat} (hi : i < 20) {s : List Int} (hl : s.length ≤ i) {Y : Type} :
 (grd ((0 : Int) ≤ (i : Int) ∧ (i : Int) < (((List.length (M.takers ss)) : Nat) : Int)) (cond (decide ((List.getD (M.takers ss) i default) = (0 : Int))) (grd ((List.length s + List.length ([(i : Int)] : List Int)) * 8 ≤ 2 ^ 47 ∧ List.length s + List.length ([(i : Int)] : List Int) ≤ 2 ^ 47) (some (JO.go (s ++ ([(i : Int)] : List Int))))) (some (JO.go s))) : Option (JO (List Int) Y)) = some (.go (M.freeStep ss s i)) := by
 have hl2 := takers_len hss
 have e0 : decide ((M.takers ss).getD i default = 0) = decide (M.many ss (i : Int) = 0) := by rw [decide_eq_decide, takers_get hss hi]; omega
 rw [grd_t ⟨by omega, by omega⟩, e0]
 unfold M.freeStep
 cases decide (M.many ss (i : Int) = 0) with
 | true => rw [cond_true, cond_true, grd_t ⟨by simp; omega, by simp; omega⟩]
 | false => rfl
theorem freeFrames_i {gs : List DGuest} (hl : gs.length ≤ 1048576) (h : gs.all M.guestOk = true) : F_impl_freeFrames gs = some (M.free (M.slots gs)) := by
 have hss := all_slots h
 have hl2 := takers_len hss
 unfold F_impl_freeFrames
 rw [takers_i hl h, Option.bind_some]
 have key := (count_loop (n := 20) (step := F_impl_freeFrames_l3 (M.takers (M.slots gs))) (fun s j => (s, j)) (M.freeStep (M.slots gs)) (fun s => JO.go s) (fun i s => s.length ≤ i) (fun i s hi hs => by
  refine ⟨?_, freeStep_len hs⟩
  simp only [F_impl_freeFrames_l3, Int.toNat_natCast]
  rw [decide_eq_true (p := (i : Int) < _) (by omega), cond_true, free_step hss hi hs, Option.bind_some]
  simp only [JO.run, F_impl_freeFrames_j4]
  rw [w64_in (by omega) (by omega)]) (fun s _ => by
  simp only [F_impl_freeFrames_l3]; rw [decide_eq_false (by omega), cond_false]) [] (by simp)).1
 rw [key]; rfl
theorem hostFree_s {h : DHost} (hs : SmallH h) : F_spec_HostFree h = some (M.hostFree h) := by
 unfold F_spec_HostFree M.hostFree
 rw [hostOk_s hs, Option.bind_some]
 cases hh : M.hostOk h with
 | false => rfl
 | true =>
  have hk := hOk_iff.1 hh
  have hss := all_slots hk.all
  rw [Bool.not_true, cond_false, used_s hs hk, Option.bind_some]
  have key := (count_loop (n := 20) (step := F_spec_HostFree_l4 (M.takers (M.slots h.Guests))) (fun s j => (s, j)) (M.freeStep (M.slots h.Guests)) (fun s => JO.go s) (fun i s => s.length ≤ i) (fun i s hi hs => by
   refine ⟨?_, freeStep_len hs⟩
   simp only [F_spec_HostFree_l4, Int.toNat_natCast]
   rw [decide_eq_true (p := (i : Int) < 20) (by omega), cond_true, free_step hss hi hs, Option.bind_some]
   simp only [JO.run, F_spec_HostFree_j5]
   rw [w64_in (by omega) (by omega)]) (fun s _ => by
   simp only [F_spec_HostFree_l4]; rfl) [] (by simp)).1
  rw [key]; rfl
end Go.Proofs.Ytlikfpmbcdlnjaa
