/- What is a host: the model's answer. -/
import Derived.Test.YtbnjdmclnojlmaaPHA
namespace Go.Proofs.Ytbnjdmclnojlmaa
set_option linter.all false
theorem wordsN_s {xs : List Int} {n : Int} (h : xs.length ≤ 9223372036854775806) : F_spec_l3Words xs n = some (decide ((xs.length : Int) ≤ n) && M.wordsOk xs) := by
 unfold F_spec_l3Words
 rw [all_loop wordOk_s h (F_spec_l3Words_l2 xs) (fun k => rfl)]
 simp only [M.wordsOk]
 cases xs.all M.wordOk
 · simp [LO.val, JO.run]
 · simp only [LO.val, JO.run, Option.bind_some, F_spec_l3Words_j1, cond_true, Bool.and_true]
namespace M
def bumpW (ws : List Bool) (s : DSlot) : List Bool := bif decide (s.Frame = -1) then ws else ws.set s.Frame.toNat (ws.getD s.Frame.toNat default || s.Write)
def bump2 (p : List Int × List Bool) (s : DSlot) : List Int × List Bool := (bump p.1 s, bumpW p.2 s)
end M
theorem setB_get {xs : List Bool} {i j : Nat} {v : Bool} (hi : i < xs.length) : (xs.set i v).getD j default = if i = j then v else xs.getD j default := by
 by_cases h : i = j
 · subst h; simp [List.getD, hi]
 · simp [List.getD, List.getElem?_set, h]
theorem bumpW_len {xs : List Bool} {s : DSlot} : (M.bumpW xs s).length = xs.length := by
 unfold M.bumpW; cases decide (s.Frame = -1) <;> simp
theorem bumpW_get {xs : List Bool} {s : DSlot} (hl : xs.length = 20) (h : M.slotOk s = true) {f : Nat} (hf : f < 20) : (M.bumpW xs s).getD f default = (xs.getD f default || (decide (s.Frame = (f : Int)) && s.Write)) := by
 have hr := slot_range h
 unfold M.bumpW
 by_cases e : s.Frame = -1
 · rw [decide_eq_true e, cond_true, decide_eq_false (by omega)]; simp
 · rw [decide_eq_false e, cond_false, setB_get (by omega)]
   by_cases e2 : s.Frame = (f : Int)
   · rw [if_pos (by omega), decide_eq_true e2, Bool.true_and]; congr 2; omega
   · rw [if_neg (by omega), decide_eq_false e2]; simp
theorem bump2_fst : ∀ {ss : List DSlot} {p : List Int × List Bool}, (ss.foldl M.bump2 p).1 = ss.foldl M.bump p.1
 | [], _ => rfl
 | s :: ss, p => by rw [List.foldl_cons, bump2_fst]; rfl
theorem bump2_snd {f : Nat} (hf : f < 20) : ∀ {ss : List DSlot} {p : List Int × List Bool}, p.2.length = 20 → ss.all M.slotOk = true → (ss.foldl M.bump2 p).2.length = 20 ∧ (ss.foldl M.bump2 p).2.getD f default = (p.2.getD f default || ss.any fun s => decide (s.Frame = (f : Int)) && s.Write)
 | [], p, hl, _ => ⟨hl, by simp⟩
 | s :: ss, p, hl, h => by
  rw [List.all_cons, Bool.and_eq_true] at h
  obtain ⟨h1, h2⟩ := bump2_snd hf (ss := ss) (p := M.bump2 p s) (by simpa [M.bump2, bumpW_len] using hl) h.2
  refine ⟨h1, ?_⟩
  rw [List.foldl_cons, h2, List.any_cons]
  simp only [M.bump2]
  rw [bumpW_get hl h.1 hf, Bool.or_assoc]
structure Tw (B : Nat) (p : List Int × List Bool) : Prop where
 tl : Tl B p.1
 len : p.2.length = 20
theorem Tw.bump {B : Nat} {p : List Int × List Bool} {s : DSlot} (h : Tw B p) (hs : M.slotOk s = true) : Tw (B + 1) (M.bump2 p s) := ⟨h.tl.bump hs, by simp [M.bump2, bumpW_len, h.len]⟩
theorem pages_s {h : DHost} {k : Nat} {g : DGuest} {p : List Int × List Bool} {B : Nat} (hl : g.Pages.length ≤ 8) (h3 : h.Guests.getD k default = g) (ht : Tw B p) (hB : B ≤ 1000000) :
 iter (F_spec_HostOk_l12 h (p.1, p.2, (k : Int))) (p.1, p.2, 0) = some (.ret (bif g.Pages.all M.slotOk then .go ((g.Pages.foldl M.bump2 p).1, (g.Pages.foldl M.bump2 p).2) else .out (.ret (.out false)))) ∧ (g.Pages.all M.slotOk = true → Tw (B + g.Pages.length) (g.Pages.foldl M.bump2 p)) := by
 exact chk_loop (xs := g.Pages) (step := F_spec_HostOk_l12 h (p.1, p.2, (k : Int))) (fun s j => (s.1, s.2, j)) M.slotOk M.bump2 (fun s => .go (s.1, s.2)) (.out (.ret (.out false))) (fun j s => Tw (B + j) s) (fun j x s a1 a2 a3 a4 => by
  refine ⟨?_, fun hx => a4.bump hx⟩
  simp only [F_spec_HostOk_l12, Int.toNat_natCast, h3, decide_eq_true a1, cond_true, a3]
  rw [grd_t ⟨by omega, a1⟩, l1In_s, Option.bind_some]
  have hgo : M.slotOk x = true → F_spec_HostOk_j14 h (p.1, p.2, (k : Int)) (s.1, s.2, (j : Int)) () = some (.go ((M.bump2 s x).2, (M.bump2 s x).1)) := fun hx => by
   have hr := slot_range hx
   have hl1 := a4.tl.len
   have hl2 := a4.len
   simp only [F_spec_HostOk_j14, Int.toNat_natCast, h3, a3, M.bump2, M.bump, M.bumpW]
   by_cases e : x.Frame = -1
   · rw [decide_eq_false (p := (0 : Int) ≤ x.Frame) (by omega), decide_eq_true e]; rfl
   · have q1 := a4.tl.low x.Frame.toNat (by omega)
     have q2 := a4.tl.top x.Frame.toNat (by omega)
     rw [decide_eq_true (p := (0 : Int) ≤ x.Frame) (by omega), decide_eq_false e]
     simp only [cond_true, cond_false]
     rw [grd_t ⟨by omega, by omega⟩, grd_t ⟨by omega, by omega⟩, grd_t ⟨by omega, by omega⟩, w64_in (by omega) (by omega)]
     cases hw : s.2.getD x.Frame.toNat default with
     | true => rw [cond_true, grd_t ⟨by omega, by omega⟩, Bool.true_or]
     | false => rw [cond_false, grd_t ⟨by omega, by omega⟩, Bool.false_or]
  by_cases e : x.Frame = -1
  · have hin : M.inR (-1) 19 x.Frame = true := by rw [M.inR_iff]; omega
    rw [hin, Bool.not_true, cond_false, decide_eq_true e, cond_true]
    cases hw : x.Write with
    | true =>
     have : M.slotOk x = false := by unfold M.slotOk; rw [decide_eq_true e, hw]; rfl
     rw [this]; rfl
    | false =>
     cases hd : x.Dirty with
     | true =>
      have : M.slotOk x = false := by unfold M.slotOk; rw [decide_eq_true e, hw, hd]; rfl
      rw [this]; rfl
     | false =>
      have hx : M.slotOk x = true := by unfold M.slotOk; rw [decide_eq_true e, hw, hd]; rfl
      rw [hx]
      simp only [cond_false, Option.bind_some, JO.run, hgo hx, F_spec_HostOk_j13, cond_true]
      rw [w64_in (by omega) (by omega)]
  · by_cases hin : M.inR (-1) 19 x.Frame = true
    · have hr := M.inR_iff.1 hin
      have hx : M.slotOk x = true := by unfold M.slotOk; rw [decide_eq_false e, cond_false, Bool.and_eq_true, decide_eq_true_eq, decide_eq_true_eq]; omega
      rw [hin, Bool.not_true, cond_false, decide_eq_false e, cond_false, hx]
      simp only [Option.bind_some, JO.run, hgo hx, F_spec_HostOk_j13, cond_true]
      rw [w64_in (by omega) (by omega)]
    · have hn : ¬ (-1 ≤ x.Frame ∧ x.Frame ≤ 19) := fun c => hin (M.inR_iff.2 c)
      have hx : M.slotOk x = false := by
       cases hh : M.slotOk x with
       | false => rfl
       | true => have := slot_range hh; omega
      rw [Bool.eq_false_iff.2 hin, hx]; rfl) (fun s _ => by
  simp only [F_spec_HostOk_l12, Int.toNat_natCast, h3]; rw [decide_eq_false (by omega), cond_false]) p ht
theorem guests_s {h : DHost} (hs : SmallH h) (hl : h.Guests.length = 3) :
 iter (F_spec_HostOk_l6 h) (List.replicate 20 0, List.replicate 20 false, 0) = some (.ret (bif h.Guests.all M.guestOk then .go (((M.slots h.Guests).foldl M.bump2 (List.replicate 20 0, List.replicate 20 false)).1, ((M.slots h.Guests).foldl M.bump2 (List.replicate 20 0, List.replicate 20 false)).2) else .out false)) := by
 have key := (chk_loop (xs := h.Guests) (step := F_spec_HostOk_l6 h) (fun (s : List Int × List Bool) j => (s.1, s.2, j)) M.guestOk (fun s g => g.Pages.foldl M.bump2 s) (fun s => JO.go (s.1, s.2)) (.out false) (fun j s => Tw (8 * j) s) (fun k g s a1 a2 a3 a4 => by
  have hg := hs.all g a2
  have := hg.c.regs; have := hg.pages; have := hg.i; have := hg.o
  refine ⟨?_, fun hx => ?_⟩
  · simp only [F_spec_HostOk_l6, Int.toNat_natCast, decide_eq_true a1, cond_true, a3]
    rw [grd_t ⟨by omega, a1⟩]
    cases hlv : g.Live with
    | false =>
     have e : F_spec_l4Zero (DGuest.mk false (DCore.mk g.C.Regs g.C.Pc g.C.Root g.C.Vector g.C.Saved g.C.SavedUser g.C.Cause g.C.Bad g.C.Timer g.C.Waits g.C.User g.C.On g.C.Stopped) g.Pages g.In g.Out) = some (decide (g = M.noGuest)) := by
      have := zero_s hlv
      obtain ⟨l, c, p, i, o⟩ := g
      simp only at hlv
      subst hlv
      exact this
     rw [Bool.not_false, cond_true, e, Option.bind_some]
     have e2 : M.guestOk g = decide (g = M.noGuest) := by unfold M.guestOk; rw [hlv]; rfl
     rw [e2]
     by_cases hz : g = M.noGuest
     · rw [decide_eq_true hz, hz]
       simp only [Bool.not_true, cond_false, Option.bind_some, JO.run, F_spec_HostOk_j7, cond_true, M.noGuest, List.foldl_nil]
       rw [w64_in (by omega) (by omega)]
     · rw [decide_eq_false hz]; rfl
    | true =>
     rw [Bool.not_true, cond_false]
     have e2 : M.guestOk g = (M.coreOk g.C && (decide (g.Pages.length = 8) && g.Pages.all M.slotOk) && M.rowOk g.In && M.rowOk g.Out) := by unfold M.guestOk; rw [hlv]; rfl
     show Option.bind (Option.bind (F_spec_CoreOk g.C) _) _ = _
     rw [coreOk_s (by omega), Option.bind_some, e2]
     cases hc : M.coreOk g.C with
     | false => rfl
     | true =>
      rw [Bool.not_true, cond_false, Bool.true_and]
      by_cases hp : g.Pages.length = 8
      · rw [decide_eq_true hp, show decide (((g.Pages.length : Nat) : Int) = 8) = true by simp; omega, Bool.not_true, cond_false, words_s (by omega), Option.bind_some, words_s (by omega)]
        cases hri : M.rowOk g.In with
        | false => simp [JO.run]
        | true =>
         rw [Bool.not_true, cond_false, Option.bind_some]
         cases hro : M.rowOk g.Out with
         | false => simp [JO.run]
         | true =>
          rw [Bool.not_true, cond_false, (pages_s (by omega) a3 a4 (by omega)).1]
          cases hpp : g.Pages.all M.slotOk with
          | false => rfl
          | true =>
           simp only [cond_true, Option.bind_some, LO.val, JO.run, F_spec_HostOk_j7, Bool.and_self]
           rw [w64_in (by omega) (by omega)]
      · rw [decide_eq_false hp, show decide (((g.Pages.length : Nat) : Int) = 8) = false by simp; omega]; rfl
  · obtain ⟨q1, q2⟩ := guest_slots hx
    have := (pages_s q2 a3 a4 (by omega)).2 q1
    exact ⟨this.tl.mono (by omega), this.len⟩) (fun s _ => by
  simp only [F_spec_HostOk_l6]; rw [decide_eq_false (by omega), cond_false]) (List.replicate 20 0, List.replicate 20 false) ⟨Tl.zero.mono (by omega), by simp⟩).1
 rw [foldl_flatMap'] at key
 exact key
theorem alone_s {ss : List DSlot} (h : ss.all M.slotOk = true) : ((List.range 20).all fun f => !(decide (1 < M.many ss (f : Int)) && ss.any fun s => decide (s.Frame = (f : Int)) && s.Write)) = M.alone ss := by
 apply dbe
 simp only [M.alone, List.all_eq_true, List.mem_range, Bool.not_eq_true', Bool.and_eq_false_iff, decide_eq_false_iff_not, List.any_eq_false, Bool.and_eq_true, decide_eq_true_eq, Bool.or_eq_true, not_and]
 constructor
 · intro q s hs
   cases hw : s.Write with
   | false => exact .inl rfl
   | true =>
    have hx := List.all_eq_true.1 h s hs
    have hr := slot_range hx
    have hf : s.Frame ≠ -1 := fun e => by
     unfold M.slotOk at hx
     rw [decide_eq_true e, hw] at hx; simp at hx
    rcases q s.Frame.toNat (by omega) with q | q
    · rw [show ((s.Frame.toNat : Nat) : Int) = s.Frame by omega] at q
      exact .inr (by omega)
    · exact absurd hw (by simpa using q s hs (by omega))
 · intro q f hf
   by_cases hm : 1 < M.many ss (f : Int)
   · refine .inr fun s hs e => ?_
     rcases q s hs with q | q
     · simp [q]
     · rw [e] at q; omega
   · exact .inl hm
theorem hostOk_s {h : DHost} (hs : SmallH h) : F_spec_HostOk h = some (M.hostOk h) := by
 have := hs.words
 unfold F_spec_HostOk M.hostOk
 rw [wordsN_s (by omega), Option.bind_some]
 by_cases hl : h.Words.length = 160
 · rw [decide_eq_true (p := (h.Words.length : Int) ≤ 160) (by omega), decide_eq_true hl]
   cases M.wordsOk h.Words with
   | false => rfl
   | true =>
    rw [Bool.true_and, Bool.not_true, cond_false, decide_eq_true (p := ((h.Words.length : Nat) : Int) = 160) (by omega), Bool.not_true, cond_false]
    by_cases hg : h.Guests.length = 3
    · rw [decide_eq_true hg, decide_eq_true (p := ((h.Guests.length : Nat) : Int) = 3) (by omega), Bool.not_true, cond_false]
      rw [show Int.toNat (20 : Int) = 20 from rfl, guests_s hs hg]
      cases ha : h.Guests.all M.guestOk with
      | false => rfl
      | true =>
       have hsl := all_slots ha
       simp only [cond_true, Option.bind_some, LO.val, JO.run, F_spec_HostOk_j2, Bool.true_and]
       rw [bump2_fst]
       have key := chkn_loop (n := 20) (step := F_spec_HostOk_l4 ((M.slots h.Guests).foldl M.bump (List.replicate 20 0), ((M.slots h.Guests).foldl M.bump2 (List.replicate 20 0, List.replicate 20 false)).2)) (fun k => k) (fun f => !(decide (1 < M.many (M.slots h.Guests) (f : Int)) && (M.slots h.Guests).any fun s => decide (s.Frame = (f : Int)) && s.Write)) (JO.go ()) (.out false) (fun i hi => by
        have q1 := takers_get hsl hi
        have q2 := takers_len hsl
        obtain ⟨q3, q4⟩ := bump2_snd hi (p := (List.replicate 20 0, List.replicate 20 false)) (by simp) hsl
        unfold M.takers at q1 q2
        simp only [F_spec_HostOk_l4, Int.toNat_natCast]
        have e0 : decide ((1 : Int) < (List.foldl M.bump (List.replicate 20 0) (M.slots h.Guests)).getD i default) = decide (1 < M.many (M.slots h.Guests) (i : Int)) := by rw [decide_eq_decide, q1]; omega
        rw [decide_eq_true (p := (i : Int) < 20) (by omega), cond_true, grd_t ⟨by omega, by omega⟩, e0, q4]
        rw [show (List.replicate 20 false).getD i default = false by rw [getD_lt (by rw [List.length_replicate]; omega), List.getElem_replicate], Bool.false_or]
        by_cases e : 1 < M.many (M.slots h.Guests) (i : Int)
        · rw [decide_eq_true e, cond_true, grd_t ⟨by omega, by omega⟩]
          cases (M.slots h.Guests).any fun s => decide (s.Frame = (i : Int)) && s.Write with
          | true => rfl
          | false =>
           simp only [cond_false, Option.bind_some, JO.run, F_spec_HostOk_j5, Bool.and_false, Bool.not_false, cond_true]
           rw [w64_in (by omega) (by omega)]
        · rw [decide_eq_false e]
          simp only [cond_false, Option.bind_some, JO.run, F_spec_HostOk_j5, Bool.false_and, Bool.not_false, cond_true]
          rw [w64_in (by omega) (by omega)]) (by
        simp only [F_spec_HostOk_l4]; rfl)
       rw [key, alone_s hsl]
       cases M.alone (M.slots h.Guests) <;> rfl
    · rw [decide_eq_false hg, decide_eq_false (p := ((h.Guests.length : Nat) : Int) = 3) (by omega)]; rfl
 · rw [decide_eq_false hl, decide_eq_false (p := ((h.Words.length : Nat) : Int) = 160) (by omega)]
   cases (decide ((h.Words.length : Int) ≤ 160) && M.wordsOk h.Words) <;> rfl
end Go.Proofs.Ytbnjdmclnojlmaa
