/- The law of HostFree answers true. -/
import Derived.Test.YtlikfpmbcdlnjaaPHM
import Derived.Test.YtlikfpmbcdlnjaaPHR
import Derived.Test.YtlikfpmbcdlnjaaPHF
import Derived.Test.YtlikfpmbcdlnjaaWFF1
namespace Go.Proofs.Ytlikfpmbcdlnjaa
set_option linter.all false
theorem hasInt_no {xs : List Int} {n : Int} (hl : xs.length ≤ 1048576) (h : ∀ x ∈ xs, x ≠ n) : F_laws_hasInt xs n = some false := by
 unfold F_laws_hasInt
 have key := walk_loop (n := xs.length) (step := F_laws_hasInt_l2 xs n) (fun k => (k : Int)) (fun _ => true) (JO.go ()) (.out false) (fun k hk _ => by
  simp only [F_laws_hasInt_l2, Int.toNat_natCast]
  rw [decide_eq_true (p := (k : Int) < _) (by omega), cond_true, grd_t ⟨by omega, by omega⟩, decide_eq_false (h _ (getD_mem hk)), cond_false, w64_in (by omega) (by omega)]; rfl) (fun _ => by
  simp only [F_laws_hasInt_l2]; rw [decide_eq_false (by omega), cond_false])
 rw [show (List.range xs.length).all (fun _ => true) = true by simp, cond_true] at key
 rw [show ((0 : Int)) = (((0 : Nat) : Int)) from rfl, key]; rfl
theorem free_no {ss : List DSlot} {s : DSlot} (hs : s ∈ ss) : ∀ x ∈ M.free ss, x ≠ s.Frame := by
 intro x hx e
 rw [free_iff] at hx
 obtain ⟨i, hi, rfl⟩ := List.mem_map.1 hx
 have h0 := of_decide_eq_true (List.mem_filter.1 hi).2
 have : 0 < M.many ss (i : Int) := by
  unfold M.many
  rw [List.countP_pos_iff]
  exact ⟨s, hs, decide_eq_true e.symm⟩
 omega
theorem free_drop {gs : List DGuest} {i : Nat} : (M.free (M.slots gs)).length ≤ (M.free (M.slots (gs.set i M.noGuest))).length := by
 rw [free_iff, free_iff, List.length_map, List.length_map, ← List.countP_eq_length_filter, ← List.countP_eq_length_filter]
 refine List.countP_mono_left fun f _ hf => ?_
 rw [decide_eq_true_eq] at hf ⊢
 have := many_set (gs := gs) (i := i) (f := (f : Int))
 omega
theorem drawFree_d {xs : List Int} (hx : ∀ x ∈ xs, 0 ≤ x ∧ x ≤ 255) : Ex (F_spec_DrawHostFree xs) (fun h => SmallH h) := by
 unfold F_spec_DrawHostFree
 refine Ex.bind (open_d hx) fun r R => ?_
 exact Ex.bind (host_d R (by omega) (by omega)) fun v ⟨_, hs⟩ => Ex.ret hs
theorem fnHostFree_e {xs : List Int} (hx : ∀ x ∈ xs, 0 ≤ x ∧ x ≤ 255) : Ex (F_laws_FnHostFree xs) (fun b => b = true) := by
 have al : Ex (Option.bind F_laws_alive fun v => some v) (fun b => b = true) := Ex.bind (alive_d (Q := fun b => b = true) rfl) fun b hb => Ex.ret hb
 unfold F_laws_FnHostFree
 refine Ex.cond (fun _ => Ex.ret rfl) fun _ => ?_
 refine Ex.bind (drawFree_d hx) fun h hs => ?_
 have hfl := hostFree_len (h := h)
 rw [hostFree_i hs, Option.bind_some, hostFree_s hs, Option.bind_some, sameInts_eq (by omega), Option.bind_some, decide_eq_true rfl, Bool.not_true, cond_false, hostOk_i hs, Option.bind_some]
 cases hh : M.hostOk h with
 | false =>
  have : M.hostFree h = [] := by unfold M.hostFree; rw [hh]; rfl
  rw [this]
  exact al
 | true =>
  have hk := hOk_iff.1 hh
  have h3 := hk.three
  have ef : M.hostFree h = M.free (M.slots h.Guests) := by unfold M.hostFree; rw [hh]; rfl
  rw [Bool.not_true, cond_false]
  have inner : ∀ k : Nat, k < 3 → iter (F_laws_FnHostFree_l14 h (M.hostFree h) (k : Int)) 0 = some (.ret (.go ())) := fun k hk3 => by
   have hg := getD_mem (xs := h.Guests) (k := k) (by omega)
   have hsm := (hs.all _ hg).pages
   have key := walk_loop (n := (h.Guests.getD k default).Pages.length) (step := F_laws_FnHostFree_l14 h (M.hostFree h) (k : Int)) (fun j => (j : Int)) (fun _ => true) (JO.go ()) (.go ()) (fun j hj _ => by
    simp only [F_laws_FnHostFree_l14, Int.toNat_natCast]
    rw [grd_t ⟨by omega, by omega⟩, decide_eq_true (p := (j : Int) < _) (by omega), cond_true, grd_t ⟨by omega, by omega⟩, grd_t ⟨by omega, by omega⟩]
    have hno := free_no (ss := M.slots h.Guests) (s := (h.Guests.getD k default).Pages.getD j default) (by
     simp only [M.slots, List.mem_flatMap]
     exact ⟨_, hg, getD_mem hj⟩)
    rw [hasInt_no (by omega) (by rw [ef]; exact hno), Option.bind_some, cond_false, w64_in (by omega) (by omega)]; rfl) (fun _ => by
    simp only [F_laws_FnHostFree_l14, Int.toNat_natCast]; rw [grd_t ⟨by omega, by omega⟩, decide_eq_false (by omega), cond_false])
   rw [show (List.range (h.Guests.getD k default).Pages.length).all (fun _ => true) = true by simp, cond_true] at key
   exact key
  have key := walk_loop (n := 3) (step := F_laws_FnHostFree_l9 h (M.hostFree h)) (fun k => (k : Int)) (fun _ => true) (JO.go ()) (.out false) (fun k hk3 _ => by
   simp only [F_laws_FnHostFree_l9]
   rw [decide_eq_true (p := (k : Int) < 3) (by omega), cond_true, inner k hk3]
   simp only [Option.bind_some, LO.val, JO.run, F_laws_FnHostFree_j11]
   rw [hostDrop_i hs, Option.bind_some, drop_snd]
   cases ht : M.there h (k : Int) with
   | false =>
    simp only [cond_false, Option.bind_some, JO.run, F_laws_FnHostFree_j10, cond_true]
    rw [w64_in (by omega) (by omega)]; rfl
   | true =>
    have hz := drop_small (g := (k : Int)) hs
    have hle : (M.hostFree h).length ≤ (M.hostFree (M.hostDrop h (k : Int)).1).length := by
     have e2 : M.hostFree (M.hostDrop h (k : Int)).1 = M.free (M.slots (M.hostDrop h (k : Int)).1.Guests) := by unfold M.hostFree; rw [drop_hostOk ht]; rfl
     have e : (M.hostDrop h (k : Int)).1 = ⟨h.Words, h.Guests.set (Int.toNat (k : Int)) M.noGuest⟩ := by unfold M.hostDrop; rw [ht]; rfl
     rw [ef, e2, e]; exact free_drop
    rw [cond_true, hostFree_i hz, Option.bind_some, decide_eq_false (by omega)]
    simp only [cond_false, Option.bind_some, JO.run, F_laws_FnHostFree_j10, cond_true]
    rw [w64_in (by omega) (by omega)]; rfl) (fun _ => by
   simp only [F_laws_FnHostFree_l9]; rfl)
  rw [show (List.range 3).all (fun _ => true) = true by simp, cond_true] at key
  rw [show ((0 : Int)) = (((0 : Nat) : Int)) from rfl, key]
  simp only [Option.bind_some, LO.val, JO.run, F_laws_FnHostFree_j7]
  exact al
theorem fnHostFree_t {xs : List Int} (hx : ∀ x ∈ xs, 0 ≤ x ∧ x ≤ 255) : F_laws_FnHostFree xs = some true := by
 obtain ⟨_, h, rfl⟩ := fnHostFree_e hx; exact h
end Go.Proofs.Ytlikfpmbcdlnjaa
