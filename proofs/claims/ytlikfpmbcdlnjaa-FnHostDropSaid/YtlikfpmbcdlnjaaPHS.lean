/- The laws' own equality of hosts. -/
import Derived.Test.YtlikfpmbcdlnjaaP6
import Derived.Test.YtlikfpmbcdlnjaaPHA
import Derived.Test.YtlikfpmbcdlnjaaWJ1
namespace Go.Proofs.Ytlikfpmbcdlnjaa
set_option linter.all false
theorem sameGuest_refl {g : DGuest} (h : SmallG g) : F_laws_sameGuest g g = some true := by
 have := h.c.regs; have := h.pages; have := h.i; have := h.o
 unfold F_laws_sameGuest
 rw [sameCore_refl (by omega), sameInts_eq (by omega), sameInts_eq (by omega)]
 simp only [beq_self_eq_true, Bool.not_true, cond_false, Option.bind_some, decide_true]
 have key := walk_loop (n := g.Pages.length) (step := F_laws_sameGuest_l5 g g) (fun i => (i : Int)) (fun _ => true) (JO.go ()) (.out false) (fun i hi _ => by
  simp only [F_laws_sameGuest_l5, Int.toNat_natCast]
  rw [decide_eq_true (p := (i : Int) < _) (by omega), cond_true, grd_t ⟨by omega, by omega⟩, grd_t ⟨by omega, by omega⟩, w64_in (by omega) (by omega)]
  simp only [beq_self_eq_true, decide_true, Bool.and_self, Bool.not_true, cond_false, cond_true]; rfl) (fun _ => by
  simp only [F_laws_sameGuest_l5]; rw [decide_eq_false (by omega), cond_false])
 have e : (List.range g.Pages.length).all (fun _ => true) = true := by simp
 rw [e] at key
 rw [show ((0 : Int)) = (((0 : Nat) : Int)) from rfl, key]; rfl
theorem sameHost_refl {h : DHost} (hs : SmallH h) : F_laws_sameHost h h = some true := by
 have := hs.words; have := hs.guests
 unfold F_laws_sameHost
 rw [sameInts_eq (by omega)]
 simp only [Bool.not_true, cond_false, Option.bind_some, decide_true]
 have key := walk_loop (n := h.Guests.length) (step := F_laws_sameHost_l3 h h) (fun i => (i : Int)) (fun _ => true) (JO.go ()) (.out false) (fun i hi _ => by
  simp only [F_laws_sameHost_l3, Int.toNat_natCast]
  rw [decide_eq_true (p := (i : Int) < _) (by omega), cond_true, grd_t ⟨by omega, by omega⟩, grd_t ⟨by omega, by omega⟩]
  show Option.bind (F_laws_sameGuest (h.Guests.getD i default) (h.Guests.getD i default)) _ = _
  rw [sameGuest_refl (hs.all _ (getD_mem hi)), Option.bind_some, w64_in (by omega) (by omega)]; rfl) (fun _ => by
  simp only [F_laws_sameHost_l3]; rw [decide_eq_false (by omega), cond_false])
 have e : (List.range h.Guests.length).all (fun _ => true) = true := by simp
 rw [e] at key
 rw [show ((0 : Int)) = (((0 : Nat) : Int)) from rfl, key]; rfl
end Go.Proofs.Ytlikfpmbcdlnjaa
