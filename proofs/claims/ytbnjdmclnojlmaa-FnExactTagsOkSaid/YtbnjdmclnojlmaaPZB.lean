/- The laws' helpers on slots, guests and hosts, as plain functions. -/
import Derived.Test.YtbnjdmclnojlmaaPB
import Derived.Test.YtbnjdmclnojlmaaPZA
import Derived.Test.YtbnjdmclnojlmaaPHA
import Derived.Test.YtbnjdmclnojlmaaWHT1
namespace Go.Proofs.Ytbnjdmclnojlmaa
set_option linter.all false
theorem toSlotS_eq {xs : List DSlot} (h : xs.length ≤ 1048576) : F_laws_toSlotS xs = some xs := by
 have key := copy_loop (xs := xs) (ys := List.replicate (Int.toNat (xs.length : Int)) (DSlot.mk 0 false false)) (step := F_laws_toSlotS_l2 xs) (by simp) (fun k zs hk hz => by
  have h1 : (k : Int) < (xs.length : Int) := by omega
  simp only [F_laws_toSlotS_l2, decide_eq_true h1, cond_true, hz]
  rw [grd_t ⟨by omega, h1⟩, Int.toNat_natCast]
  show Option.bind (some (xs.getD k default)) _ = _
  rw [Option.bind_some, grd_t ⟨by omega, h1⟩, w64_in (by omega) (by omega)]) (fun zs hz => by
  simp only [F_laws_toSlotS_l2]
  rw [decide_eq_false (by omega), cond_false])
 unfold F_laws_toSlotS
 rw [grd_t ⟨by omega, by omega, by omega⟩, key]; rfl
theorem toGuest_eq {g : DGuest} (h : SmallG g) : F_laws_toGuest g = some g := by
 unfold F_laws_toGuest; rw [toCore_eq h.c, toSlotS_eq h.pages, toIntS_eq h.i, toIntS_eq h.o]; rfl
theorem toGuestS_eq {xs : List DGuest} (h : xs.length ≤ 1048576) (hs : ∀ g ∈ xs, SmallG g) : F_laws_toGuestS xs = some xs := by
 have key := copy_loop (xs := xs) (ys := List.replicate (Int.toNat (xs.length : Int)) (DGuest.mk false (DCore.mk ([] : List Int) (0 : Int) (0 : Int) (0 : Int) (0 : Int) false (0 : Int) (0 : Int) (0 : Int) false false false false) ([] : List DSlot) ([] : List Int) ([] : List Int))) (step := F_laws_toGuestS_l2 xs) (by simp) (fun k zs hk hz => by
  have h1 : (k : Int) < (xs.length : Int) := by omega
  simp only [F_laws_toGuestS_l2, decide_eq_true h1, cond_true, hz]
  rw [grd_t ⟨by omega, h1⟩, Int.toNat_natCast]
  show Option.bind (F_laws_toGuest (xs.getD k default)) _ = _
  rw [toGuest_eq (hs _ (getD_mem hk)), Option.bind_some, grd_t ⟨by omega, h1⟩, w64_in (by omega) (by omega)]) (fun zs hz => by
  simp only [F_laws_toGuestS_l2]
  rw [decide_eq_false (by omega), cond_false])
 unfold F_laws_toGuestS
 rw [grd_t ⟨by omega, by omega, by omega⟩, key]; rfl
theorem toHost_eq {h : DHost} (hs : SmallH h) : F_laws_toHost h = some h := by
 unfold F_laws_toHost; rw [toIntS_eq hs.words, toGuestS_eq hs.guests hs.all]; rfl
theorem eqSlot_eq {a b : DSlot} : F_laws_eqSlot a b = some (decide (a = b)) := by
 obtain ⟨f, w, d⟩ := a
 obtain ⟨f', w', d'⟩ := b
 unfold F_laws_eqSlot
 simp only [DSlot.mk.injEq]
 by_cases h : f = f' <;> cases w <;> cases w' <;> cases d <;> cases d' <;> simp [h]
theorem eqSlotS_eq {xs ys : List DSlot} (h : xs.length ≤ 9223372036854775806) : F_laws_eqSlotS xs ys = some (decide (xs = ys)) := by
 unfold F_laws_eqSlotS
 by_cases hl : xs.length = ys.length
 · obtain ⟨b, h1, h2⟩ := eq_loop (xs := xs) (ys := ys) (step := F_laws_eqSlotS_l2 xs ys) (d := fun x y => decide (x = y)) (fun x _ y => decide_eq_true_iff) hl (fun i hi _ => by
    have e1 : (i : Int) < (xs.length : Int) := by omega
    simp only [F_laws_eqSlotS_l2, decide_eq_true e1, cond_true]
    rw [grd_t ⟨by omega, e1⟩, grd_t ⟨by omega, by omega⟩, Int.toNat_natCast]
    show Option.bind (F_laws_eqSlot (xs.getD i default) (ys.getD i default)) _ = _
    rw [eqSlot_eq, Option.bind_some, w64_in (by omega) (by omega)]
    cases decide (xs.getD i default = ys.getD i default) <;> rfl) (by
    simp only [F_laws_eqSlotS_l2]; rw [decide_eq_false (by omega), cond_false])
   rw [h1, decide_eq_true (by omega)]
   have e : decide (xs = ys) = b := by rw [Bool.eq_iff_iff, decide_eq_true_iff]; exact h2.symm
   rw [e]; cases b <;> rfl
 · rw [decide_eq_false (by omega), decide_eq_false (fun e => hl (by rw [e]))]; rfl
theorem eqGuest_eq {a b : DGuest} (h : SmallG a) : F_laws_eqGuest a b = some (decide (a = b)) := by
 have := h.c.regs; have := h.pages; have := h.i; have := h.o
 unfold F_laws_eqGuest
 rw [eqCore_eq (by omega), eqSlotS_eq (by omega), eqIntS_eq (by omega), eqIntS_eq (by omega)]
 obtain ⟨l, c, p, i, o⟩ := a
 obtain ⟨l', c', p', i', o'⟩ := b
 simp only [Option.bind_some, DGuest.mk.injEq]
 by_cases h1 : c = c' <;> by_cases h2 : p = p' <;> by_cases h3 : i = i' <;> by_cases h4 : o = o' <;> cases l <;> cases l' <;> simp [*]
theorem eqGuestS_eq {xs ys : List DGuest} (h : xs.length ≤ 1048576) (hs : ∀ g ∈ xs, SmallG g) : F_laws_eqGuestS xs ys = some (decide (xs = ys)) := by
 unfold F_laws_eqGuestS
 by_cases hl : xs.length = ys.length
 · obtain ⟨b, h1, h2⟩ := eq_loop (xs := xs) (ys := ys) (step := F_laws_eqGuestS_l2 xs ys) (d := fun x y => decide (x = y)) (fun x _ y => decide_eq_true_iff) hl (fun i hi hm => by
    have e1 : (i : Int) < (xs.length : Int) := by omega
    simp only [F_laws_eqGuestS_l2, decide_eq_true e1, cond_true]
    rw [grd_t ⟨by omega, e1⟩, grd_t ⟨by omega, by omega⟩, Int.toNat_natCast]
    show Option.bind (F_laws_eqGuest (xs.getD i default) (ys.getD i default)) _ = _
    rw [eqGuest_eq (hs _ hm), Option.bind_some, w64_in (by omega) (by omega)]
    cases decide (xs.getD i default = ys.getD i default) <;> rfl) (by
    simp only [F_laws_eqGuestS_l2]; rw [decide_eq_false (by omega), cond_false])
   rw [h1, decide_eq_true (by omega)]
   have e : decide (xs = ys) = b := by rw [Bool.eq_iff_iff, decide_eq_true_iff]; exact h2.symm
   rw [e]; cases b <;> rfl
 · rw [decide_eq_false (by omega), decide_eq_false (fun e => hl (by rw [e]))]; rfl
theorem eqHost_eq {a b : DHost} (h : SmallH a) : F_laws_eqHost a b = some (decide (a = b)) := by
 have := h.words
 unfold F_laws_eqHost
 rw [eqIntS_eq (by omega), eqGuestS_eq h.guests h.all]
 obtain ⟨w, g⟩ := a
 obtain ⟨w', g'⟩ := b
 simp only [Option.bind_some, DHost.mk.injEq]
 by_cases h1 : w = w' <;> by_cases h2 : g = g' <;> simp [*]
theorem szSlotS_eq {xs : List DSlot} {left : Int} (h : xs.length ≤ 9223372036854775807) (h0 : 0 ≤ left) (h1 : left ≤ 1048576) : F_laws_szSlotS xs left = some (if (xs.length : Int) ≤ left then left - xs.length else -1) := by
 unfold F_laws_szSlotS
 rw [w64_in (by omega) (by omega)]
 by_cases hl : (xs.length : Int) ≤ left
 · rw [decide_eq_false (by omega), if_pos hl]; rfl
 · rw [decide_eq_true (by omega), if_neg hl]; rfl
structure FitG (g : DGuest) : Prop where
 c : g.C.Regs.length ≤ 9223372036854775807
 pages : g.Pages.length ≤ 9223372036854775807
 i : g.In.length ≤ 9223372036854775807
 o : g.Out.length ≤ 9223372036854775807
theorem szGuest_eq {g : DGuest} {left : Int} (h : FitG g) (h0 : 0 ≤ left) (h1 : left ≤ 1048576) : ∃ v, F_laws_szGuest g left = some v ∧ (v < 0 ∨ (0 ≤ v ∧ v ≤ left ∧ SmallG g)) := by
 have := h.c; have := h.pages; have := h.i; have := h.o
 unfold F_laws_szGuest
 rw [szCore_eq (by omega) h0 h1]
 simp only [Option.bind_some]
 split
 · rename_i e1
   rw [decide_eq_false (by omega), cond_false, szSlotS_eq (by omega) (by omega) (by omega)]
   simp only [Option.bind_some]
   split
   · rename_i e2
     rw [decide_eq_false (by omega), cond_false, szIntS_eq (by omega) (by omega) (by omega)]
     simp only [Option.bind_some]
     split
     · rename_i e3
       rw [decide_eq_false (by omega), cond_false, szIntS_eq (by omega) (by omega) (by omega)]
       simp only [Option.bind_some]
       split
       · rename_i e4
         rw [decide_eq_false (by omega), cond_false]
         exact ⟨_, rfl, .inr ⟨by omega, by omega, ⟨by omega⟩, by omega, by omega, by omega⟩⟩
       · exact ⟨-1, rfl, .inl (by omega)⟩
     · exact ⟨-1, rfl, .inl (by omega)⟩
   · exact ⟨-1, rfl, .inl (by omega)⟩
 · exact ⟨-1, rfl, .inl (by omega)⟩
theorem szGuestS_eq {xs : List DGuest} {left : Int} (hl : xs.length ≤ 9223372036854775807) (h : ∀ g ∈ xs, FitG g) (h0 : 0 ≤ left) (h1 : left ≤ 1048576) : ∃ v, F_laws_szGuestS xs left = some v ∧ (v < 0 ∨ (0 ≤ v ∧ v ≤ left ∧ xs.length ≤ 1048576 ∧ ∀ g ∈ xs, SmallG g)) := by
 unfold F_laws_szGuestS
 rw [w64_in (by omega) (by omega)]
 by_cases e : left - (xs.length : Int) < 0
 · rw [decide_eq_true e]; exact ⟨-1, rfl, .inl (by omega)⟩
 · rw [decide_eq_false e, cond_false]
   have key : ∀ (suf pre : List DGuest) (q : Int), xs = pre ++ suf → 0 ≤ q → q ≤ left → ∃ j : JO Int Int, iter (F_laws_szGuestS_l2 xs) (q, (pre.length : Int)) = some (.ret j) ∧ (j = .out (-1) ∨ ∃ v, j = .go v ∧ 0 ≤ v ∧ v ≤ q ∧ ∀ g ∈ suf, SmallG g) := by
    intro suf
    induction suf with
    | nil =>
     intro pre q hx hq _
     rw [List.append_nil] at hx
     refine ⟨.go q, ?_, .inr ⟨q, rfl, hq, Int.le_refl _, by simp⟩⟩
     rw [iter_eq]
     simp only [F_laws_szGuestS_l2]
     rw [decide_eq_false (by rw [hx]; omega), cond_false]
    | cons x suf ih =>
     intro pre q hx hq hq1
     have e1 : ((pre.length : Nat) : Int) < (xs.length : Int) := by rw [hx]; simp; omega
     have e2 : xs.getD pre.length default = x := by rw [hx]; exact getD_mid
     obtain ⟨v, g1, g2⟩ := szGuest_eq (h x (by rw [hx]; simp)) hq (by omega)
     have st : F_laws_szGuestS_l2 xs (q, (pre.length : Int)) = cond (decide (v < 0)) (some (.ret (.out (-1)))) (some (.next (v, (pre.length : Int) + 1))) := by
      simp only [F_laws_szGuestS_l2, decide_eq_true e1, cond_true]
      rw [grd_t ⟨by omega, e1⟩, Int.toNat_natCast, e2]
      show Option.bind (F_laws_szGuest x q) _ = _
      rw [g1, Option.bind_some, w64_in (by omega) (by omega)]
     rw [iter_eq, st]
     rcases g2 with g2 | ⟨g2, g3, g4⟩
     · rw [decide_eq_true g2]; exact ⟨_, rfl, .inl rfl⟩
     · rw [decide_eq_false (by omega), cond_false]
       obtain ⟨j, k1, k2⟩ := ih (pre ++ [x]) v (by rw [hx]; simp) g2 (by omega)
       simp only [List.length_append, List.length_cons, List.length_nil, Nat.zero_add, Int.natCast_add] at k1
       refine ⟨j, k1, k2.imp id fun ⟨u, u1, u2, u3, u4⟩ => ⟨u, u1, u2, by omega, fun g hg => ?_⟩⟩
       rcases List.mem_cons.1 hg with rfl | hg
       · exact g4
       · exact u4 g hg
   obtain ⟨j, k1, k2⟩ := key xs [] (left - xs.length) rfl (by omega) (by omega)
   rw [show ((([] : List DGuest).length : Nat) : Int) = 0 from rfl] at k1
   rw [k1]
   rcases k2 with rfl | ⟨v, rfl, k3, k4, k5⟩
   · exact ⟨-1, rfl, .inl (by omega)⟩
   · exact ⟨v, rfl, .inr ⟨k3, by omega, by omega, k5⟩⟩
structure FitH (h : DHost) : Prop where
 words : h.Words.length ≤ 9223372036854775807
 guests : h.Guests.length ≤ 9223372036854775807
 all : ∀ g ∈ h.Guests, FitG g
theorem szHost_eq {h : DHost} {left : Int} (hf : FitH h) (h0 : 0 ≤ left) (h1 : left ≤ 1048576) : ∃ v, F_laws_szHost h left = some v ∧ (v < 0 ∨ (0 ≤ v ∧ v ≤ left ∧ SmallH h)) := by
 unfold F_laws_szHost
 rw [szIntS_eq hf.words h0 h1]
 simp only [Option.bind_some]
 split
 · rename_i e1
   rw [decide_eq_false (by omega), cond_false]
   obtain ⟨v, g1, g2⟩ := szGuestS_eq hf.guests hf.all (left := left - h.Words.length) (by omega) (by omega)
   rw [g1, Option.bind_some]
   rcases g2 with g2 | ⟨g2, g3, g4, g5⟩
   · rw [decide_eq_true g2]; exact ⟨-1, rfl, .inl (by omega)⟩
   · rw [decide_eq_false (by omega), cond_false]
     exact ⟨v, rfl, .inr ⟨g2, by omega, by omega, g4, g5⟩⟩
 · exact ⟨-1, rfl, .inl (by omega)⟩
end Go.Proofs.Ytbnjdmclnojlmaa
