/- Where an address of a guest leads: the program's function and the model's answer alike. -/
import Derived.Test.YtlikfpmbcdlnjaaPSA
import Derived.Test.YtlikfpmbcdlnjaaP7
import Derived.Test.YtlikfpmbcdlnjaaWSW1
namespace Go.Proofs.Ytlikfpmbcdlnjaa
set_option linter.all false
namespace M
def sLets (s : DShade) (user write : Bool) : Bool := s.There && (s.Write || !write) && (s.User || !user)
def place (s : DShade) (addr : Int) (user write : Bool) : Int × Int := bif !sLets s user write then (-1, 1) else bif decide (s.Frame = -1) then (-1, 2) else bif write && !s.Ready then (-1, 3) else (s.Frame * 8 + addr % 8, 0)
noncomputable def shadowWalk (h : DHost) (g addr : Int) (user write : Bool) : Int × Int := bif there h g then (bif inR 0 63 addr then place (shade h.Words (h.Guests.getD g.toNat default) (addr / 8).toNat) addr user write else (-1, -1)) else (-1, -1)
end M
theorem at8 {a f : Int} (h0 : 0 ≤ a) (h1 : a ≤ 63) (f0 : 0 ≤ f) (f1 : f < 20) : w64 (w64 (f * 8) + Int.tmod a 8) = f * 8 + a % 8 := by
 rw [Int.tmod_eq_emod_of_nonneg h0, w64_in (z := f * 8) (by omega) (by omega), w64_in (by omega) (by omega)]
theorem shadeLeads_i {s : DShade} {a : Int} {user write : Bool} (h0 : 0 ≤ a) (h1 : a ≤ 63) (f0 : -1 ≤ s.Frame) (f1 : s.Frame < 20) : F_impl_shadeLeads s a user write = some (M.place s a user write) := by
 obtain ⟨t, w, u, p, f, r⟩ := s
 simp only at f0 f1
 unfold F_impl_shadeLeads F_impl_entryLets M.place M.sLets
 by_cases e : f = -1
 · simp only [decide_eq_true e]
   cases t <;> cases w <;> cases u <;> cases user <;> cases write <;> rfl
 · simp only [decide_eq_false e, F_impl_shadeLeads_j2, at8 h0 h1 (by omega) f1]
   cases t <;> cases w <;> cases u <;> cases user <;> cases write <;> cases r <;> simp only [Bool.not_true, Bool.not_false, cond_true, cond_false, Option.bind_some, JO.run, Bool.and_true, Bool.and_false, Bool.true_and, Bool.false_and, Bool.or_true, Bool.or_false, F_impl_shadeLeads_j2, at8 h0 h1 (show 0 ≤ f by omega) f1]
theorem l5Place_s {xs : List DShade} {s : DShade} {a : Int} {user write : Bool} (h0 : 0 ≤ a) (h1 : a ≤ 63) (hl : xs.length = 8) (hg : xs.getD (a / 8).toNat default = s) (f0 : -1 ≤ s.Frame) (f1 : s.Frame < 20) : F_spec_l5Place xs a user write = some (M.place s a user write) := by
 unfold F_spec_l5Place M.place M.sLets
 have e8 : w64 (Int.tdiv a 8) = a / 8 := by rw [Int.tdiv_eq_ediv_of_nonneg h0, w64_in (by omega) (by omega)]
 rw [e8, grd_t ⟨by omega, by omega⟩, hg]
 obtain ⟨t, w, u, p, f, r⟩ := s
 simp only at f0 f1
 by_cases e : f = -1
 · simp only [decide_eq_true e, decide_eq_true (p := f < 0) (by omega)]
   cases t <;> cases w <;> cases u <;> cases user <;> cases write <;> rfl
 · simp only [decide_eq_false e, decide_eq_false (p := f < 0) (by omega)]
   cases t <;> cases w <;> cases u <;> cases user <;> cases write <;> cases r <;> simp only [Bool.not_true, Bool.not_false, cond_true, cond_false, Option.bind_some, JO.run, Bool.and_true, Bool.and_false, Bool.true_and, Bool.false_and, Bool.or_true, Bool.or_false, F_spec_l5Place_j1, e8, hg, at8 h0 h1 (show 0 ≤ f by omega) f1]
theorem shade_frame {h : DHost} {g : Int} {x : DGuest} (l : Live h g x) {p : Nat} (hp : p < 8) : -1 ≤ (M.shade h.Words x p).Frame ∧ (M.shade h.Words x p).Frame < 20 := by
 have he := entry_page l hp
 exact live_slot l (p := (M.entry h.Words x p).Page.toNat) (by omega)
theorem shadowWalk_i {h : DHost} {g a : Int} {user write : Bool} (hs : SmallH h) : F_impl_ShadowWalk h g a user write = some (M.shadowWalk h g a user write) := by
 unfold F_impl_ShadowWalk M.shadowWalk
 rw [hasGuest_i hs, Option.bind_some]
 cases ht : M.there h g with
 | false => rfl
 | true =>
  have l := there_live hs ht
  generalize hx : h.Guests.getD g.toNat default = x at l
  rw [Bool.not_true, cond_false, addressOk_i, Option.bind_some, cond_true]
  cases ha : M.inR 0 63 a with
  | false => rfl
  | true =>
   obtain ⟨a0, a1⟩ := M.inR_iff.1 ha
   have hp : (a / 8).toNat < 8 := by omega
   have hf := shade_frame l hp
   rw [Bool.not_true, cond_false, cond_true, Int.tdiv_eq_ediv_of_nonneg a0, w64_in (by omega) (by omega), show a / 8 = (((a / 8).toNat : Nat) : Int) by omega, shadeOf_i l hp, Option.bind_some, shadeLeads_i a0 a1 hf.1 hf.2, Option.bind_some, Int.toNat_natCast]
theorem shadowWalk_s {h : DHost} {g a : Int} {user write : Bool} (hs : SmallH h) : F_spec_ShadowWalk h g a user write = some (M.shadowWalk h g a user write) := by
 unfold F_spec_ShadowWalk M.shadowWalk
 rw [live_s hs, Option.bind_some]
 cases ht : M.there h g with
 | false => rfl
 | true =>
  have l := there_live hs ht
  have hso := shadowOf_s (g := g) hs
  unfold M.shadowOf at hso
  rw [ht, cond_true] at hso
  generalize hx : h.Guests.getD g.toNat default = x at l hso
  rw [Bool.not_true, cond_false, l1In_s, Option.bind_some, cond_true]
  cases ha : M.inR 0 63 a with
  | false => rfl
  | true =>
   obtain ⟨a0, a1⟩ := M.inR_iff.1 ha
   have hp : (a / 8).toNat < 8 := by omega
   have hf := shade_frame l hp
   rw [Bool.not_true, cond_false, cond_true, hso, Option.bind_some, l5Place_s a0 a1 shadow_len (shadow_get hp) hf.1 hf.2, Option.bind_some]
end Go.Proofs.Ytlikfpmbcdlnjaa
