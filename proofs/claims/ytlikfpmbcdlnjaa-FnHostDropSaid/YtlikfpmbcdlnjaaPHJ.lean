/- HostBoot: the model's answer. -/
import Derived.Test.YtlikfpmbcdlnjaaPHI
namespace Go.Proofs.Ytlikfpmbcdlnjaa
set_option linter.all false
theorem over_min {T : Type} {xs ys : List T} {o k : Nat} (h : ys.length = 8) (hk : 8 ≤ k) : over xs o k ys = over xs o 8 ys := by
 simp only [over, h]
 rw [Nat.min_eq_right hk, Nat.min_self]
theorem drop_get {T : Type} [Inhabited T] {xs : List T} {u : Nat} : (xs.drop u).getD 0 default = xs.getD u default := by simp [List.getD]
theorem drop_next {T : Type} {xs : List T} {u n : Nat} (h : n = (xs.drop u).length) : List.take (Int.toNat (n : Int) - Int.toNat 1) (List.drop (Int.toNat 1) (xs.drop u)) = xs.drop (u + 1) := by
 rw [show Int.toNat 1 = 1 from rfl, List.drop_drop, Int.toNat_natCast]
 apply List.take_of_length_le
 rw [h]; simp; omega
theorem page_term {mem : List Int} {p : Nat} (h : p < 8) : List.take (Int.toNat (w64 ((w64 ((p : Int) + 1)) * 8)) - Int.toNat (w64 ((p : Int) * 8))) (List.drop (Int.toNat (w64 ((p : Int) * 8))) mem) = M.page mem p := by
 rw [w64_in (z := (p : Int) + 1) (by omega) (by omega), w64_in (z := ((p : Int) + 1) * 8) (by omega) (by omega), w64_in (z := (p : Int) * 8) (by omega) (by omega)]
 rw [show Int.toNat (((p : Int) + 1) * 8) - Int.toNat ((p : Int) * 8) = 8 by omega, show Int.toNat ((p : Int) * 8) = p * 8 by omega]; rfl
theorem gone_s {h : DHost} (hk : HOk h) : iter (F_spec_HostBoot_l13 h) (-1, 2) = some (.ret (.go (M.gone h.Guests))) := by
 have h3 := hk.three
 have st : ∀ (i : Nat) (a : Int), i < 3 → F_spec_HostBoot_l13 h (a, (i : Int)) = some (.next (bif (h.Guests.getD i default).Live then a else (i : Int), (i : Int) - 1)) := fun i a hi => by
  simp only [F_spec_HostBoot_l13, Int.toNat_natCast]
  rw [decide_eq_true (p := (0 : Int) ≤ (i : Int)) (by omega), cond_true, grd_t ⟨by omega, by omega⟩]
  cases (h.Guests.getD i default).Live
  all_goals
   simp only [Bool.not_true, Bool.not_false, cond_true, cond_false, Option.bind_some, JO.run, F_spec_HostBoot_j14]
   rw [w64_in (by omega) (by omega)]
 have sn : ∀ a : Int, F_spec_HostBoot_l13 h (a, -1) = some (.ret (.go a)) := fun a => by
  simp only [F_spec_HostBoot_l13]; rfl
 rw [show (2 : Int) = ((2 : Nat) : Int) from rfl, iter_eq, st 2 _ (by omega)]
 simp only
 rw [show (((2 : Nat) : Int)) - 1 = ((1 : Nat) : Int) from rfl, iter_eq, st 1 _ (by omega)]
 simp only
 rw [show (((1 : Nat) : Int)) - 1 = ((0 : Nat) : Int) from rfl, iter_eq, st 0 _ (by omega)]
 simp only
 rw [show (((0 : Nat) : Int)) - 1 = -1 from rfl, iter_eq, sn]
 unfold M.gone
 cases (h.Guests.getD 0 default).Live <;> cases (h.Guests.getD 1 default).Live <;> cases (h.Guests.getD 2 default).Live <;> rfl
theorem zero_loop {b : DBare} {s : List Int × List Int × List DSlot × Int} {p : Nat} (hp : p < 8) (hs : s.2.2.2 = (p : Int)) (hm : b.Mem.length = 64) : iter (F_spec_HostBoot_l11 b s) (true, 0) = some (.ret (.go (M.zeros (M.page b.Mem p)))) := by
 have hl := page8 (xs := b.Mem) (p := p) (by omega)
 have key := walk_loop (n := 8) (step := F_spec_HostBoot_l11 b s) (fun k => ((List.range k).all fun j => decide ((M.page b.Mem p).getD j default = 0), (k : Int))) (fun _ => true) (JO.go (M.zeros (M.page b.Mem p))) (.go true) (fun k hk _ => by
  simp only [F_spec_HostBoot_l11, hs, page_term hp, Int.toNat_natCast]
  rw [decide_eq_true (p := (k : Int) < 8) (by omega), cond_true]
  have er : ((List.range (k + 1)).all fun j => decide ((M.page b.Mem p).getD j default = 0)) = (((List.range k).all fun j => decide ((M.page b.Mem p).getD j default = 0)) && decide ((M.page b.Mem p).getD k default = 0)) := by
   rw [List.range_succ, List.all_append]; simp
  rw [er]
  cases ((List.range k).all fun j => decide ((M.page b.Mem p).getD j default = 0)) with
  | true =>
   rw [cond_true, grd_t ⟨by omega, by omega⟩]
   simp only [Option.bind_some, JO.run, F_spec_HostBoot_j12, Bool.true_and, cond_true]
   rw [w64_in (by omega) (by omega)]; rfl
  | false =>
   simp only [cond_false, Option.bind_some, JO.run, F_spec_HostBoot_j12, Bool.false_and, cond_true]
   rw [w64_in (by omega) (by omega)]; rfl) (fun _ => by
  simp only [F_spec_HostBoot_l11]; rfl)
 rw [show (List.range 8).all (fun _ => true) = true by simp, cond_true] at key
 exact key
theorem pages_loop {b : DBare} {ws : List Int} {ss : List DSlot} {g : Int} (hg : 0 ≤ g) (hw : ws.length = 160) (hm : b.Mem.length = 64) :
 iter (F_spec_HostBoot_l8 b g) (ws, M.free ss, [], 0) = some (.ret (bif decide (M.used b.Mem 8 ≤ (M.free ss).length) then .go (M.wordsFor b.Mem (M.free ss) ws 8, M.slotsFor b.Mem (M.free ss) 8) else .out (⟨[], []⟩, -1, false))) := by
 have hfl := free_len (ss := ss)
 have key := walk_loop (n := 8) (step := F_spec_HostBoot_l8 b g) (fun p => (M.wordsFor b.Mem (M.free ss) ws p, (M.free ss).drop (M.used b.Mem p), M.slotsFor b.Mem (M.free ss) p, (p : Int))) (fun p => M.zeros (M.page b.Mem p) || decide (M.used b.Mem p < (M.free ss).length))
  (JO.go (M.wordsFor b.Mem (M.free ss) ws 8, M.slotsFor b.Mem (M.free ss) 8)) (.out (⟨[], []⟩, -1, false)) (fun p hp ho => by
  have hu : M.used b.Mem p ≤ (M.free ss).length := by
   have : ((List.range p).all fun p => M.zeros (M.page b.Mem p) || decide (M.used b.Mem p < (M.free ss).length)) = true := by simp only [List.all_eq_true, List.mem_range]; exact ho
   rw [enough_iff, decide_eq_true_eq] at this; exact this
  have hlen := wordsFor_len (mem := b.Mem) (ss := ss) hw (p := p) (by omega) hu
  have hpl := page8 (xs := b.Mem) (p := p) (by omega)
  have hsl : (M.slotsFor b.Mem (M.free ss) p).length = p := by simp [M.slotsFor]
  have es : M.slotsFor b.Mem (M.free ss) (p + 1) = M.slotsFor b.Mem (M.free ss) p ++ [M.slotFor b.Mem (M.free ss) p] := by simp [M.slotsFor, List.range_succ]
  have ew : M.wordsFor b.Mem (M.free ss) ws (p + 1) = (bif M.zeros (M.page b.Mem p) then M.wordsFor b.Mem (M.free ss) ws p else over (M.wordsFor b.Mem (M.free ss) ws p) (((M.free ss).getD (M.used b.Mem p) default).toNat * 8) 8 (M.page b.Mem p)) := rfl
  have eu : M.used b.Mem (p + 1) = M.used b.Mem p + (bif M.zeros (M.page b.Mem p) then 0 else 1) := rfl
  have b1 : w64 ((p : Int) * 8) = (p : Int) * 8 := w64_in (by omega) (by omega)
  have b2 : w64 ((w64 ((p : Int) + 1)) * 8) = ((p : Int) + 1) * 8 := by rw [w64_in (z := (p : Int) + 1) (by omega) (by omega), w64_in (by omega) (by omega)]
  simp only [F_spec_HostBoot_l8]
  rw [decide_eq_true (p := (p : Int) < 8) (by omega), cond_true, decide_eq_true hg, cond_true, grd_t ⟨by omega, by omega, by omega⟩, zero_loop hp rfl hm]
  simp only [Option.bind_some, LO.val, JO.run, F_spec_HostBoot_j10, page_term hp]
  cases hz : M.zeros (M.page b.Mem p) with
  | true =>
   have : (⟨-1, false, false⟩ : DSlot) = M.slotFor b.Mem (M.free ss) p := by unfold M.slotFor; rw [hz]; rfl
   rw [hz, cond_true] at ew eu
   rw [cond_true, grd_t ⟨by simp; omega, by simp; omega⟩]
   simp only [Option.bind_some, JO.run, F_spec_HostBoot_j9, Bool.true_or, cond_true]
   rw [w64_in (by omega) (by omega), this, ← es, ew, eu]; rfl
  | false =>
   have : (⟨(M.free ss).getD (M.used b.Mem p) default, true, false⟩ : DSlot) = M.slotFor b.Mem (M.free ss) p := by unfold M.slotFor; rw [hz]; rfl
   rw [hz, cond_false] at ew eu
   rw [cond_false, Bool.false_or]
   by_cases e : M.used b.Mem p < (M.free ss).length
   · have hr := free_range (ss := ss) (i := M.used b.Mem p) e
     have hdl : ((M.free ss).drop (M.used b.Mem p)).length = (M.free ss).length - M.used b.Mem p := by simp
     rw [decide_eq_false (p := (((List.drop (M.used b.Mem p) (M.free ss)).length : Nat) : Int) = 0) (by omega), cond_false, show Int.toNat (0 : Int) = 0 from rfl, drop_get]
     rw [w64_in (z := (M.free ss).getD (M.used b.Mem p) default * 8) (by omega) (by omega), grd_t ⟨by omega, by omega⟩, grd_t ⟨by omega, by omega, by omega⟩, grd_t ⟨by omega, by omega⟩, grd_t ⟨by simp; omega, by simp; omega⟩, grd_t ⟨by omega, by omega, by omega⟩]
     simp only [Option.bind_some, JO.run, F_spec_HostBoot_j9]
     rw [w64_in (by omega) (by omega), this, ← es, drop_next rfl, over_min hpl (by omega), decide_eq_true e, ew, eu]
     rw [show Int.toNat ((M.free ss).getD (M.used b.Mem p) default * 8) = ((M.free ss).getD (M.used b.Mem p) default).toNat * 8 by omega]; rfl
   · rw [decide_eq_false e, decide_eq_true (p := (((List.drop (M.used b.Mem p) (M.free ss)).length : Nat) : Int) = 0) (by simp; omega)]; rfl) (fun _ => by
  simp only [F_spec_HostBoot_l8]; rfl)
 rw [enough_iff] at key
 exact key
theorem hostBoot_s {h : DHost} {b : DBare} (hs : SmallH h) (hb : SmallB b) : F_spec_HostBoot h b = some (M.hostBoot h b) := by
 unfold F_spec_HostBoot M.hostBoot
 rw [hostOk_s hs, Option.bind_some]
 cases hh : M.hostOk h with
 | false => rfl
 | true =>
  have hk := hOk_iff.1 hh
  have h3 := hk.three
  rw [Bool.not_true, cond_false, bareOk_s hb, Option.bind_some, Bool.true_and]
  cases hbk : M.bareOk b with
  | false => rfl
  | true =>
   have hm := bOk_parts hbk
   have hr := gone_range h.Guests
   have := hb.i; have := hb.o
   rw [Bool.not_true, cond_false, copy_s hs hk.all, Option.bind_some, gone_s hk, Bool.true_and]
   simp only [Option.bind_some, LO.val, JO.run, F_spec_HostBoot_j4]
   have ef : M.hostFree h = M.free (M.slots h.Guests) := by unfold M.hostFree; rw [hh]; rfl
   rw [hostFree_s hs, Option.bind_some, ef, core_s hb.c, Option.bind_some, grd_t ⟨by omega, by omega⟩, grd_t ⟨by omega, by omega⟩]
   by_cases e : M.gone h.Guests = -1
   · rw [decide_eq_true e, e]
     rw [show iter (F_spec_HostBoot_l8 b (-1)) (h.Words, M.free (M.slots h.Guests), [], 0) = some (.ret (.go (h.Words, []))) by rw [iter_eq]; rfl]
     rfl
   · rw [pages_loop (by omega) hk.len hm, decide_eq_false e, Bool.not_false, Bool.true_and]
     cases decide (M.used b.Mem 8 ≤ (M.free (M.slots h.Guests)).length) with
     | false => rfl
     | true =>
      simp only [cond_true, Option.bind_some, LO.val, JO.run, F_spec_HostBoot_j7]
      rw [decide_eq_false (by omega), cond_false, grd_t ⟨by omega, by omega⟩]; rfl
end Go.Proofs.Ytlikfpmbcdlnjaa
