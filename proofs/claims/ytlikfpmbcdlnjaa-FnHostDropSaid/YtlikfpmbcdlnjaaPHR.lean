/- Hosts are drawn. -/
import Derived.Test.YtlikfpmbcdlnjaaPHJ
import Derived.Test.YtlikfpmbcdlnjaaPK
import Derived.Test.YtlikfpmbcdlnjaaWGH1
namespace Go.Proofs.Ytlikfpmbcdlnjaa
set_option linter.all false
structure LG (g : DGuest) : Prop where
 small : SmallG g
 pages : g.Live = true → g.Pages.length = 8
structure LH (gs : List DGuest) : Prop where
 three : gs.length = 3
 all : ∀ g ∈ gs, LG g
theorem LH.set {gs : List DGuest} {i : Nat} {x : DGuest} (h : LH gs) (hx : LG x) : LH (gs.set i x) := by
 refine ⟨by rw [List.length_set]; exact h.three, fun g hg => ?_⟩
 rcases List.mem_or_eq_of_mem_set hg with hg | rfl
 · exact h.all g hg
 · exact hx
theorem LH.get {gs : List DGuest} (h : LH gs) {i : Nat} (hi : i < 3) : LG (gs.getD i default) := h.all _ (getD_mem (by rw [h.three]; exact hi))
theorem LH.host {gs : List DGuest} {ws : List Int} (h : LH gs) (hw : ws.length = 160) : SmallH ⟨ws, gs⟩ := ⟨by simp only [hw]; omega, by simp only [h.three]; omega, fun g hg => (h.all g hg).small⟩
theorem boot_lh {h : DHost} {b : DBare} (hb : (M.hostBoot h b).2.2 = true) (hs : SmallB b) (hl : LH h.Guests) : (M.hostBoot h b).1.Words.length = 160 ∧ LH (M.hostBoot h b).1.Guests := by
 unfold M.hostBoot at hb ⊢
 cases hc : (M.hostOk h && M.bareOk b && (!decide (M.gone h.Guests = -1) && decide (M.used b.Mem 8 ≤ (M.free (M.slots h.Guests)).length))) with
 | false => rw [hc] at hb; cases hb
 | true =>
  simp only [Bool.and_eq_true, decide_eq_true_eq] at hc
  have hk := hOk_iff.1 hc.1.1
  simp only [cond_true, M.booted]
  exact ⟨wordsFor_len hk.len (by omega) hc.2.2, hl.set ⟨⟨hs.c, by simp [M.slotsFor], hs.i, hs.o⟩, fun _ => by simp [M.slotsFor]⟩⟩
abbrev S18 := List Int × Int × List Int × List DGuest × List Int × Int × Int × Int × Int × Bool × Int × Int × Int × Bool × Bool × Bool × Bool × List Int × List Int × List Int × Int
abbrev S19 := List Int × Int × List Int × List DGuest × List Int × Int × Int × Int × Int × Bool × Int × Int × Int × Bool × Bool × Bool × Bool × List Int × List Int × List Int
theorem fill_loop {m : Int} (hm : m ≤ 900000) (h0 : 0 ≤ m) (s : List Int × Int × List Int × Int) (hs : 0 ≤ s.2.2.2 ∧ s.2.2.2 ≤ 160 ∧ Rdr (m + 3 * s.2.2.2) ⟨s.1, s.2.1⟩ ∧ s.2.2.1.length = 160) :
 Ex (F_spec_l20Host_l28 s) (fun o => (∃ s', o = .next s' ∧ (0 ≤ s'.2.2.2 ∧ s'.2.2.2 ≤ 160 ∧ Rdr (m + 3 * s'.2.2.2) ⟨s'.1, s'.2.1⟩ ∧ s'.2.2.1.length = 160) ∧ 160 - s'.2.2.2.toNat < 160 - s.2.2.2.toNat) ∨ ∃ t, o = .ret (.go t) ∧ (Rdr (m + 480) ⟨t.1, t.2.1⟩ ∧ t.2.2.length = 160)) := by
 obtain ⟨b, p, ws, k⟩ := s
 obtain ⟨k0, k1, R, hl⟩ := hs
 simp only at k0 k1 R hl
 unfold F_spec_l20Host_l28
 refine Ex.cond (fun hk => ?_) fun hk => ?_
 · have hk : k < (ws.length : Int) := of_decide_eq_true hk
   refine Ex.join (P := fun s : List Int × Int × List Int => Rdr (m + 3 * k + 3) ⟨s.1, s.2.1⟩ ∧ s.2.2.length = 160) ?_ fun s ⟨R1, h1⟩ => ?_
   · refine Ex.bind (pick_d R (by omega) (by omega)) fun v ⟨R1, _, _⟩ => ?_
     refine Ex.cond (fun _ => ?_) fun _ => Ex.ret ⟨_, rfl, R1.up (by omega), hl⟩
     refine Ex.bind (word_d R1 (by omega)) fun v ⟨R2, _, _⟩ => ?_
     exact Ex.grd ⟨k0, hk⟩ (Ex.ret ⟨_, rfl, R2.up (by omega), by simp only [List.length_set]; exact hl⟩)
   · unfold F_spec_l20Host_j29
     refine Ex.ret (.inl ⟨_, rfl, ⟨?_, ?_, ?_, ?_⟩, ?_⟩)
     all_goals simp only [w64_in (z := k + 1) (by omega) (by omega)]
     · omega
     · omega
     · exact R1.up (by omega)
     · exact h1
     · omega
 · have hk : ¬ k < (ws.length : Int) := of_decide_eq_false hk
   exact Ex.ret (.inr ⟨_, rfl, R.up (by omega), hl⟩)
theorem mix_loop {m : Int} {s18 : S18} (hm : m ≤ 900000) (h0 : 0 ≤ m) (hsame : s18.2.2.2.2.2.2.2.2.2.2.2.2.2.2.2.2.2.1.length = 0 ∨ s18.2.2.2.2.2.2.2.2.2.2.2.2.2.2.2.2.2.1.length = 64) (s : List Int × Int × List Int × Int) (hs : 0 ≤ s.2.2.2 ∧ s.2.2.2 ≤ 8 ∧ Rdr (m + 2 * s.2.2.2) ⟨s.1, s.2.1⟩ ∧ s.2.2.1.length = 64) :
 Ex (F_spec_l20Host_l23 s18 s) (fun o => (∃ s', o = .next s' ∧ (0 ≤ s'.2.2.2 ∧ s'.2.2.2 ≤ 8 ∧ Rdr (m + 2 * s'.2.2.2) ⟨s'.1, s'.2.1⟩ ∧ s'.2.2.1.length = 64) ∧ 8 - s'.2.2.2.toNat < 8 - s.2.2.2.toNat) ∨ ∃ t, o = .ret (.go t) ∧ (Rdr (m + 16) ⟨t.1, t.2.1⟩ ∧ t.2.2.length = 64)) := by
 obtain ⟨b, p, mem, k⟩ := s
 obtain ⟨k0, k1, R, hl⟩ := hs
 simp only at k0 k1 R hl
 unfold F_spec_l20Host_l23
 refine Ex.cond (fun hk => ?_) fun hk => ?_
 · have hk : k < 8 := of_decide_eq_true hk
   have e1 : w64 (k * 8) = k * 8 := w64_in (by omega) (by omega)
   have e2 : w64 ((w64 (k + 1)) * 8) = (k + 1) * 8 := by rw [w64_in (z := k + 1) (by omega) (by omega), w64_in (by omega) (by omega)]
   refine Ex.join (P := fun s : List Int × Int × List Int => Rdr (m + 2 * k + 2) ⟨s.1, s.2.1⟩ ∧ s.2.2.length = 64) ?_ fun s ⟨R1, h1⟩ => ?_
   · refine Ex.join (P := fun s : List Int × Int × List Int => Rdr (m + 2 * k + 1) ⟨s.1, s.2.1⟩ ∧ s.2.2.length = 64) ?_ fun s ⟨R1, h1⟩ => ?_
     · refine Ex.cond (fun _ => ?_) fun _ => Ex.ret ⟨_, rfl, R.up (by omega), hl⟩
       refine Ex.bind (pick_d R (by omega) (by omega)) fun v ⟨R1, _, _⟩ => ?_
       refine Ex.cond (fun _ => ?_) fun _ => Ex.ret ⟨_, rfl, R1, hl⟩
       simp only [e1]
       exact Ex.grd ⟨by omega, by omega, by omega⟩ (Ex.ret ⟨_, rfl, R1, by simp only [over_len, List.length_replicate]; omega⟩)
     · unfold F_spec_l20Host_j25
       refine Ex.cond (fun hz => ?_) fun _ => Ex.ret ⟨_, rfl, R1.up (by omega), h1⟩
       have hz := of_decide_eq_true hz
       have h64 := hsame.resolve_left (by omega)
       refine Ex.bind (pick_d R1 (by omega) (by omega)) fun v ⟨R2, _, _⟩ => ?_
       refine Ex.cond (fun _ => ?_) fun _ => Ex.ret ⟨_, rfl, R2.up (by omega), h1⟩
       simp only [e1, e2]
       exact Ex.grd ⟨by omega, by omega, by omega⟩ (Ex.grd ⟨by omega, by omega, by omega⟩ (Ex.ret ⟨_, rfl, R2.up (by omega), by simp only [over_len, List.length_take, List.length_drop]; omega⟩))
   · unfold F_spec_l20Host_j24
     refine Ex.ret (.inl ⟨_, rfl, ⟨?_, ?_, ?_, ?_⟩, ?_⟩)
     all_goals simp only [w64_in (z := k + 1) (by omega) (by omega)]
     · omega
     · omega
     · exact R1.up (by omega)
     · exact h1
     · omega
 · have hk : ¬ k < 8 := of_decide_eq_false hk
   exact Ex.ret (.inr ⟨_, rfl, R.up (by omega), hl⟩)
theorem boot_loop {m : Int} (hm : m ≤ 600000) (h0 : 0 ≤ m) (s : S18) (hs : 0 ≤ s.2.2.2.2.2.2.2.2.2.2.2.2.2.2.2.2.2.2.2.2 ∧ s.2.2.2.2.2.2.2.2.2.2.2.2.2.2.2.2.2.2.2.2 ≤ 3 ∧ Rdr (m + 3100 * (3 - s.2.2.2.2.2.2.2.2.2.2.2.2.2.2.2.2.2.2.2.2)) ⟨s.1, s.2.1⟩ ∧ s.2.2.1.length = 160 ∧ LH s.2.2.2.1 ∧ (s.2.2.2.2.2.2.2.2.2.2.2.2.2.2.2.2.2.1.length = 0 ∨ s.2.2.2.2.2.2.2.2.2.2.2.2.2.2.2.2.2.1.length = 64)) :
 Ex (F_spec_l20Host_l18 s) (fun o => (∃ s', o = .next s' ∧ (0 ≤ s'.2.2.2.2.2.2.2.2.2.2.2.2.2.2.2.2.2.2.2.2 ∧ s'.2.2.2.2.2.2.2.2.2.2.2.2.2.2.2.2.2.2.2.2 ≤ 3 ∧ Rdr (m + 3100 * (3 - s'.2.2.2.2.2.2.2.2.2.2.2.2.2.2.2.2.2.2.2.2)) ⟨s'.1, s'.2.1⟩ ∧ s'.2.2.1.length = 160 ∧ LH s'.2.2.2.1 ∧ (s'.2.2.2.2.2.2.2.2.2.2.2.2.2.2.2.2.2.1.length = 0 ∨ s'.2.2.2.2.2.2.2.2.2.2.2.2.2.2.2.2.2.1.length = 64)) ∧ s'.2.2.2.2.2.2.2.2.2.2.2.2.2.2.2.2.2.2.2.2.toNat < s.2.2.2.2.2.2.2.2.2.2.2.2.2.2.2.2.2.2.2.2.toNat) ∨ ∃ t, o = .ret (.go t) ∧ (Rdr (m + 9300) ⟨t.1, t.2.1⟩ ∧ t.2.2.1.length = 160 ∧ LH t.2.2.2)) := by
 obtain ⟨b, p, ws, gs, a5, a6, a7, a8, a9, a10, a11, a12, a13, a14, a15, a16, a17, mem, a19, a20, k⟩ := s
 obtain ⟨k0, k1, R, hw, hg, hmem⟩ := hs
 simp only at k0 k1 R hw hg hmem
 unfold F_spec_l20Host_l18
 refine Ex.cond (fun hk => ?_) fun hk => ?_
 · have hk : 0 < k := of_decide_eq_true hk
   refine Ex.join (P := fun s : S19 => Rdr (m + 3100 * (3 - k) + 3100) ⟨s.1, s.2.1⟩ ∧ s.2.2.1.length = 160 ∧ LH s.2.2.2.1 ∧ s.2.2.2.2.2.2.2.2.2.2.2.2.2.2.2.2.2.1.length = 64) ?_ fun s ⟨R1, h1, h2, h3⟩ => ?_
   · refine Ex.bind (bare_d R (by omega) (by omega)) fun v ⟨R2, t2, l2⟩ => ?_
     have l2 := l2 (by omega)
     refine Ex.join (Ex.loopv (fun s : List Int × Int × List Int × Int => 0 ≤ s.2.2.2 ∧ s.2.2.2 ≤ 8 ∧ Rdr (m + 3100 * (3 - k) + 3000 + 2 * s.2.2.2) ⟨s.1, s.2.1⟩ ∧ s.2.2.1.length = 64) (fun s => 8 - s.2.2.2.toNat) (fun t : List Int × Int × List Int => Rdr (m + 3100 * (3 - k) + 3000 + 16) ⟨t.1, t.2.1⟩ ∧ t.2.2.length = 64) ⟨by simp, by simp, R2.up (by simp), l2⟩ (mix_loop (by omega) (by omega) hmem)) fun s ⟨R3, h3⟩ => ?_
     unfold F_spec_l20Host_j21
     have hsb : SmallB (DBare.mk v.2.C s.2.2 v.2.In v.2.Out) := ⟨t2.small.c, by simp only [h3]; omega, t2.small.i, t2.small.o⟩
     rw [hostBoot_s (hg.host hw) hsb, Option.bind_some]
     refine Ex.cond (fun hb => ?_) fun _ => Ex.ret ⟨_, rfl, R3.up (by omega), hw, hg, h3⟩
     obtain ⟨q1, q2⟩ := boot_lh hb hsb hg
     exact Ex.ret ⟨_, rfl, R3.up (by omega), q1, q2, h3⟩
   · unfold F_spec_l20Host_j19
     refine Ex.ret (.inl ⟨_, rfl, ⟨?_, ?_, ?_, h1, h2, .inr h3⟩, ?_⟩)
     all_goals simp only [w64_in (z := k - 1) (by omega) (by omega)]
     · omega
     · omega
     · exact R1.up (by omega)
     · omega
 · have hk : ¬ 0 < k := of_decide_eq_false hk
   exact Ex.ret (.inr ⟨_, rfl, R.up (by omega), hw, hg⟩)
theorem share_loop {m : Int} (hm : m ≤ 900000) (h0 : 0 ≤ m) (s : List Int × Int × List DGuest × Int) (hs : 0 ≤ s.2.2.2 ∧ s.2.2.2 ≤ 3 ∧ Rdr (m + 5 * (3 - s.2.2.2)) ⟨s.1, s.2.1⟩ ∧ LH s.2.2.1) :
 Ex (F_spec_l20Host_l10 s) (fun o => (∃ s', o = .next s' ∧ (0 ≤ s'.2.2.2 ∧ s'.2.2.2 ≤ 3 ∧ Rdr (m + 5 * (3 - s'.2.2.2)) ⟨s'.1, s'.2.1⟩ ∧ LH s'.2.2.1) ∧ s'.2.2.2.toNat < s.2.2.2.toNat) ∨ ∃ t, o = .ret (.go t) ∧ (Rdr (m + 15) ⟨t.1, t.2.1⟩ ∧ LH t.2.2)) := by
 obtain ⟨b, p, gs, k⟩ := s
 obtain ⟨k0, k1, R, hg⟩ := hs
 simp only at k0 k1 R hg
 have h3 := hg.three
 unfold F_spec_l20Host_l10
 refine Ex.cond (fun hk => ?_) fun hk => ?_
 · have hk : 0 < k := of_decide_eq_true hk
   refine Ex.join (P := fun s : List Int × Int × List DGuest => Rdr (m + 5 * (3 - k) + 5) ⟨s.1, s.2.1⟩ ∧ LH s.2.2) ?_ fun s ⟨R1, h1⟩ => ?_
   · refine Ex.bind (pick_d R (by omega) (by omega)) fun v12 ⟨R12, a12, b12⟩ => ?_
     refine Ex.bind (pick_d R12 (by omega) (by omega)) fun v13 ⟨R13, a13, b13⟩ => ?_
     refine Ex.bind (pick_d R13 (by omega) (by omega)) fun v14 ⟨R14, a14, b14⟩ => ?_
     have lA := hg.get (i := v12.2.toNat) (by omega)
     have lB := hg.get (i := v13.2.toNat) (by omega)
     have gA : (0 : Int) ≤ v12.2 ∧ v12.2 < ((gs.length : Nat) : Int) := ⟨a12, by omega⟩
     have gB : (0 : Int) ≤ v13.2 ∧ v13.2 < ((gs.length : Nat) : Int) := ⟨a13, by omega⟩
     refine Ex.grd gA (Ex.cond (fun hA => ?_) fun _ => Ex.ret ⟨_, rfl, R14.up (by omega), hg⟩)
     refine Ex.grd gB (Ex.cond (fun hB => ?_) fun _ => Ex.ret ⟨_, rfl, R14.up (by omega), hg⟩)
     have pA := lA.pages hA
     have pB := lB.pages hB
     have gP : (0 : Int) ≤ v14.2 ∧ v14.2 < (((gs.getD v12.2.toNat default).Pages.length : Nat) : Int) := ⟨a14, by omega⟩
     refine Ex.grd gA (Ex.grd gP (Ex.cond (fun _ => ?_) fun _ => Ex.ret ⟨_, rfl, R14.up (by omega), hg⟩))
     refine Ex.grd gA (Ex.grd gP (Ex.grd gB (Ex.bind (pick_d R14 (by omega) (by omega)) fun v15 ⟨R15, a15, b15⟩ => ?_)))
     refine Ex.grd gA (Ex.grd gP (Ex.bind (pick_d R15 (by omega) (by omega)) fun v16 ⟨R16, a16, b16⟩ => ?_))
     generalize hx : (DGuest.mk (gs.getD v12.2.toNat default).Live (gs.getD v12.2.toNat default).C
      ((gs.getD v12.2.toNat default).Pages.set v14.2.toNat (DSlot.mk ((gs.getD v12.2.toNat default).Pages.getD v14.2.toNat default).Frame false ((gs.getD v12.2.toNat default).Pages.getD v14.2.toNat default).Dirty)) (gs.getD v12.2.toNat default).In (gs.getD v12.2.toNat default).Out) = x
     have lx : LG x := by
      subst hx
      exact ⟨⟨⟨lA.small.c.regs⟩, by simpa only [List.length_set] using lA.small.pages, lA.small.i, lA.small.o⟩, fun _ => by simpa only [List.length_set] using pA⟩
     have xl : x.Live = true := by subst hx; exact hA
     have hg2 := hg.set (i := v12.2.toNat) lx
     have lB2 := hg2.get (i := v13.2.toNat) (by omega)
     have hB2 : ((gs.set v12.2.toNat x).getD v13.2.toNat default).Live = true := by
      by_cases e : v12.2.toNat = v13.2.toNat
      · rw [e]
        rw [getD_lt (by rw [List.length_set]; omega), List.getElem_set_self]; exact xl
      · rw [getD_lt (by rw [List.length_set]; omega), List.getElem_set_ne e, ← getD_lt]; exact hB
     have pB2 := lB2.pages hB2
     have gQ : (0 : Int) ≤ v15.2 ∧ v15.2 < ((((gs.set v12.2.toNat x).getD v13.2.toNat default).Pages.length : Nat) : Int) := ⟨a15, by omega⟩
     refine Ex.grd gQ (Ex.ret ⟨_, rfl, R16.up (by omega), ?_⟩)
     exact hg2.set ⟨⟨⟨lB2.small.c.regs⟩, by simpa only [List.length_set] using lB2.small.pages, lB2.small.i, lB2.small.o⟩, fun _ => by simpa only [List.length_set] using pB2⟩
   · unfold F_spec_l20Host_j11
     refine Ex.ret (.inl ⟨_, rfl, ⟨?_, ?_, ?_, h1⟩, ?_⟩)
     all_goals simp only [w64_in (z := k - 1) (by omega) (by omega)]
     · omega
     · omega
     · exact R1.up (by omega)
     · omega
 · have hk : ¬ 0 < k := of_decide_eq_false hk
   exact Ex.ret (.inr ⟨_, rfl, R.up (by omega), hg⟩)
theorem host_d {m n : Int} {r : Dl20Rd} (R : Rdr m r) (h0 : 0 ≤ m) (hm : m ≤ 500000) : Ex (F_spec_l20Host r n) (fun v => Rdr (m + 12000) v.1 ∧ SmallH v.2) := by
 unfold F_spec_l20Host
 refine Ex.bind (P := fun v : DHost => v.Words.length = 160 ∧ LH v.Guests) ⟨_, rfl, by simp, by simp, fun g hg => ?_⟩ fun v1 ⟨w1, g1⟩ => ?_
 · have := List.eq_of_mem_replicate (show g ∈ List.replicate 3 M.noGuest from hg)
   rw [this]; exact ⟨⟨⟨by decide⟩, by decide, by decide, by decide⟩, fun h => by cases h⟩
 refine Ex.join (Ex.loopv (fun s : List Int × Int × List Int × Int => 0 ≤ s.2.2.2 ∧ s.2.2.2 ≤ 160 ∧ Rdr (m + 3 * s.2.2.2) ⟨s.1, s.2.1⟩ ∧ s.2.2.1.length = 160) (fun s => 160 - s.2.2.2.toNat) (fun t : List Int × Int × List Int => Rdr (m + 480) ⟨t.1, t.2.1⟩ ∧ t.2.2.length = 160) ⟨by simp, by simp, R.up (by simp), w1⟩ (fill_loop (by omega) h0)) fun s2 ⟨R2, w2⟩ => ?_
 unfold F_spec_l20Host_j2
 refine Ex.join (Ex.bind (pick_d R2 (by omega) (by omega)) fun v17 ⟨R17, a17, b17⟩ => Ex.loopv (fun s : S18 => 0 ≤ s.2.2.2.2.2.2.2.2.2.2.2.2.2.2.2.2.2.2.2.2 ∧ s.2.2.2.2.2.2.2.2.2.2.2.2.2.2.2.2.2.2.2.2 ≤ 3 ∧ Rdr (m + 481 + 3100 * (3 - s.2.2.2.2.2.2.2.2.2.2.2.2.2.2.2.2.2.2.2.2)) ⟨s.1, s.2.1⟩ ∧ s.2.2.1.length = 160 ∧ LH s.2.2.2.1 ∧ (s.2.2.2.2.2.2.2.2.2.2.2.2.2.2.2.2.2.1.length = 0 ∨ s.2.2.2.2.2.2.2.2.2.2.2.2.2.2.2.2.2.1.length = 64)) (fun s => s.2.2.2.2.2.2.2.2.2.2.2.2.2.2.2.2.2.2.2.2.toNat) (fun t : List Int × Int × List Int × List DGuest => Rdr (m + 481 + 9300) ⟨t.1, t.2.1⟩ ∧ t.2.2.1.length = 160 ∧ LH t.2.2.2)
  (by simp only [w64_in (z := 1 + v17.2) (by omega) (by omega)]; exact ⟨by omega, by omega, R17.up (by omega), w2, g1, .inl rfl⟩) (boot_loop (by omega) (by omega))) fun s3 ⟨R3, w3, g3⟩ => ?_
 unfold F_spec_l20Host_j3
 refine Ex.join (Ex.bind (pick_d R3 (by omega) (by omega)) fun v9 ⟨R9, a9, b9⟩ => Ex.loopv (fun s : List Int × Int × List DGuest × Int => 0 ≤ s.2.2.2 ∧ s.2.2.2 ≤ 3 ∧ Rdr (m + 481 + 9300 + 1 + 5 * (3 - s.2.2.2)) ⟨s.1, s.2.1⟩ ∧ LH s.2.2.1) (fun s => s.2.2.2.toNat) (fun t : List Int × Int × List DGuest => Rdr (m + 481 + 9300 + 1 + 15) ⟨t.1, t.2.1⟩ ∧ LH t.2.2)
  ⟨a9, by simp only; omega, R9.up (by simp only; omega), g3⟩ (share_loop (by omega) (by omega))) fun s4 ⟨R4, g4⟩ => ?_
 have t4 := g4.three
 unfold F_spec_l20Host_j4
 refine Ex.join (P := fun s : List Int × List Int × Int × List DGuest => Rdr (m + 12000) ⟨s.2.1, s.2.2.1⟩ ∧ SmallH ⟨s.1, s.2.2.2⟩) ?_ fun s5 h5 => Ex.ret h5
 refine Ex.bind (odd_d R4 (by omega)) fun v6 R6 => ?_
 refine Ex.cond (fun _ => ?_) fun _ => Ex.ret ⟨_, rfl, R6.up (by omega), g4.host w3⟩
 refine Ex.bind (pick_d R6 (by omega) (by omega)) fun v7 ⟨R7, a7, b7⟩ => ?_
 refine Ex.cond (fun _ => ?_) fun _ => ?_
 · refine Ex.bind (pick_d R7 (by omega) (by omega)) fun v8 ⟨R8, a8, b8⟩ => ?_
   exact Ex.grd ⟨a8, by omega⟩ (Ex.ret ⟨_, rfl, R8.up (by omega), g4.host (by simpa only [List.length_set] using w3)⟩)
 · refine Ex.cond (fun _ => ?_) fun _ => ?_
   · refine Ex.grd ⟨by omega, by omega, by omega⟩ (Ex.ret ⟨_, rfl, R7.up (by omega), ⟨by simp only [w3]; omega, by simp only [List.length_take]; omega, fun g hg => ?_⟩⟩)
     exact (g4.all g (List.mem_of_mem_take hg)).small
   · refine Ex.cond (fun _ => ?_) fun _ => ?_
     · exact Ex.grd ⟨by omega, by omega⟩ (Ex.ret ⟨_, rfl, R7.up (by omega), (g4.set ⟨⟨⟨by simp⟩, by simp, by simp, by simp⟩, fun h => by cases h⟩).host w3⟩)
     · have l0 := g4.get (i := 0) (by omega)
       refine Ex.grd ⟨by omega, by omega⟩ (Ex.ret ⟨_, rfl, R7.up (by omega), ⟨by simp only [w3]; omega, by simp only [List.length_set]; omega, fun g hg => ?_⟩⟩)
       rcases List.mem_or_eq_of_mem_set hg with hg | rfl
       · exact (g4.all g hg).small
       · exact ⟨⟨l0.small.c.regs⟩, by simp, l0.small.i, l0.small.o⟩
end Go.Proofs.Ytlikfpmbcdlnjaa
