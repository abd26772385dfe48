/- Where an address of a guest leads: the program's function and the model's answer alike. -/
import Derived.Test.YtbnjdmclnojlmaaPSA
import Derived.Test.YtbnjdmclnojlmaaP7
import Derived.Test.YtbnjdmclnojlmaaWSW1
import Derived.Test.YtbnjdmclnojlmaaWSX1
namespace Go.Proofs.Ytbnjdmclnojlmaa
set_option linter.all false
namespace M
def sLets (s : DShade) (user write : Bool) : Bool := s.There && (s.Write || !write) && (s.User || !user)
def place (s : DShade) (addr : Int) (user write : Bool) : Int × Int := bif !sLets s user write then (-1, 1) else bif decide (s.Frame = -1) then (-1, 2) else bif write && !s.Ready then (-1, 3) else (s.Frame * 8 + addr % 8, 0)
end M
theorem at8 {a f : Int} (h0 : 0 ≤ a) (h1 : a ≤ 63) (f0 : 0 ≤ f) (f1 : f < 20) : w64 (w64 (f * 8) + Int.tmod a 8) = f * 8 + a % 8 := by
 rw [Int.tmod_eq_emod_of_nonneg h0, w64_in (z := f * 8) (by omega) (by omega), w64_in (by omega) (by omega)]
theorem shadeLeads_i {s : DShade} {a : Int} {user write : Bool} (h0 : 0 ≤ a) (h1 : a ≤ 63) (f0 : -1 ≤ s.Frame) (f1 : s.Frame < 20) : F_impl_shadeLeads s a user write = some (M.place s a user write) := by
 obtain ⟨t, w, u, p, f, r⟩ := s
 simp only at f0 f1
 unfold F_impl_shadeLeads F_impl_entryLets M.place M.sLets
 by_cases e : f = -1
 · simp only [decide_eq_true e]
   cases t <;> cases w <;> cases u <;> cases user <;> cases write <;> rfl
 · simp only [decide_eq_false e, F_impl_shadeLeads_j2, at8 h0 h1 (by omega) f1]
   cases t <;> cases w <;> cases u <;> cases user <;> cases write <;> cases r <;> simp only [Bool.not_true, Bool.not_false, cond_true, cond_false, Option.bind_some, JO.run, Bool.and_true, Bool.and_false, Bool.true_and, Bool.false_and, Bool.or_true, Bool.or_false, F_impl_shadeLeads_j2, at8 h0 h1 (show 0 ≤ f by omega) f1]
theorem l5Place_s {xs : List DShade} {s : DShade} {a : Int} {user write : Bool} (h0 : 0 ≤ a) (h1 : a ≤ 63) (hl : xs.length = 8) (hg : xs.getD (a / 8).toNat default = s) (f0 : -1 ≤ s.Frame) (f1 : s.Frame < 20) : F_spec_l5Place xs a user write = some (M.place s a user write) := by
 unfold F_spec_l5Place M.place M.sLets
 have e8 : w64 (Int.tdiv a 8) = a / 8 := by rw [Int.tdiv_eq_ediv_of_nonneg h0, w64_in (by omega) (by omega)]
 rw [e8, grd_t ⟨by omega, by omega⟩, hg]
 obtain ⟨t, w, u, p, f, r⟩ := s
 simp only at f0 f1
 by_cases e : f = -1
 · simp only [decide_eq_true e, decide_eq_true (p := f < 0) (by omega)]
   cases t <;> cases w <;> cases u <;> cases user <;> cases write <;> rfl
 · simp only [decide_eq_false e, decide_eq_false (p := f < 0) (by omega)]
   cases t <;> cases w <;> cases u <;> cases user <;> cases write <;> cases r <;> simp only [Bool.not_true, Bool.not_false, cond_true, cond_false, Option.bind_some, JO.run, Bool.and_true, Bool.and_false, Bool.true_and, Bool.false_and, Bool.or_true, Bool.or_false, F_spec_l5Place_j1, e8, hg, at8 h0 h1 (show 0 ≤ f by omega) f1]
theorem shade_frame {h : DHost} {g : Int} {x : DGuest} (l : Live h g x) {p : Nat} (hp : p < 8) : -1 ≤ (M.shade h.Words x p).Frame ∧ (M.shade h.Words x p).Frame < 20 := by
 have he := entry_page l hp
 exact live_slot l (p := (M.entry h.Words x p).Page.toNat) (by omega)
end Go.Proofs.Ytbnjdmclnojlmaa
