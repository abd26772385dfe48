/- The law of BareStep answers true. -/
import Derived.Test.YthbefahhpikcaaaPJ
import Derived.Test.YthbefahhpikcaaaPK
import Derived.Test.YthbefahhpikcaaaWS1
namespace Go.Proofs.Ythbefahhpikcaaa
set_option linter.all false
theorem sameInts_eq {xs ys : List Int} (h : xs.length ≤ 9223372036854775806) : F_laws_sameInts xs ys = some (decide (xs = ys)) := by
 unfold F_laws_sameInts
 by_cases hl : xs.length = ys.length
 · have key : ∀ k : Int, (0 ≤ k ∧ k ≤ (xs.length : Int)) → iter (F_laws_sameInts_l2 xs ys) k = some (.ret (bif decide (xs.drop k.toNat = ys.drop k.toNat) then .go () else .out false)) := by
    refine iter_rec _ (fun k => xs.length - k.toNat) _ ?_
    rintro k ⟨h0, h1⟩
    by_cases hk : k < xs.length
    · have e1 : xs.drop k.toNat = xs.getD k.toNat default :: xs.drop (k + 1).toNat := by
       rw [getD_lt (by omega), show (k + 1).toNat = k.toNat + 1 by omega]; exact List.drop_eq_getElem_cons (by omega)
      have e2 : ys.drop k.toNat = ys.getD k.toNat default :: ys.drop (k + 1).toNat := by
       rw [getD_lt (by omega), show (k + 1).toNat = k.toNat + 1 by omega]; exact List.drop_eq_getElem_cons (by omega)
      have es : F_laws_sameInts_l2 xs ys k = cond (!decide (xs.getD k.toNat default = ys.getD k.toNat default)) (some (.ret (.out false))) (some (.next (k + 1))) := by
       unfold F_laws_sameInts_l2
       rw [decide_eq_true hk, cond_true, grd_t ⟨h0, hk⟩, grd_t ⟨h0, by omega⟩, w64_in (by omega) (by omega)]
      by_cases he : xs.getD k.toNat default = ys.getD k.toNat default
      · refine .inl ⟨k + 1, by rw [es, decide_eq_true he]; rfl, ⟨by omega, by omega⟩, by omega, ?_⟩
        rw [e1, e2, he]; simp
      · refine .inr ⟨fun s' => by rw [es, decide_eq_false he]; simp, ?_⟩
        rw [es, decide_eq_false he, e1, e2]
        have : decide (xs.getD k.toNat default :: xs.drop (k + 1).toNat = ys.getD k.toNat default :: ys.drop (k + 1).toNat) = false := decide_eq_false fun e => he (List.cons.inj e).1
        rw [this]; rfl
    · have hk2 : k = xs.length := by omega
      subst hk2
      refine .inr ⟨?_, ?_⟩
      · intro s'; simp [F_laws_sameInts_l2]
      · simp [F_laws_sameInts_l2, hl]
   rw [key 0 ⟨by omega, by omega⟩]
   have : decide ((xs.length : Int) = (ys.length : Int)) = true := by simp [hl]
   rw [this]
   by_cases e : xs = ys
   · subst e; simp [LO.val, JO.run, F_laws_sameInts_j1]
   · simp [e, LO.val, JO.run]
 · have : decide ((xs.length : Int) = (ys.length : Int)) = false := by simp; omega
   rw [this]
   have e : xs ≠ ys := fun e => hl (by rw [e])
   simp [e]
theorem sameCore_refl {a : DCore} (h : a.Regs.length ≤ 9223372036854775806) : F_laws_sameCore a a = some true := by
 unfold F_laws_sameCore
 rw [sameInts_eq h]
 simp
theorem sameBare_refl {a : DBare} (h : SmallB a) : F_laws_sameBare a a = some true := by
 have := h.c.regs; have := h.mem; have := h.i; have := h.o
 unfold F_laws_sameBare
 rw [sameCore_refl (by omega), sameInts_eq (by omega), sameInts_eq (by omega), sameInts_eq (by omega)]
 simp
theorem bareStep_d {xs : List Int} (hb : ∀ x ∈ xs, 0 ≤ x ∧ x ≤ 255) : Ex (F_spec_DrawBareStep xs) Tiny := by
 unfold F_spec_DrawBareStep
 refine Ex.bind (open_d hb) fun r R => ?_
 refine Ex.bind (bare_d R (by omega) (by omega)) fun v2 ⟨R2, t2⟩ => ?_
 refine Ex.join (P := fun s : List Int => s.length ≤ 64) ?_ fun s hs => Ex.ret ⟨t2.regs, hs, t2.i, t2.o⟩
 refine Ex.bind (pick_d R2 (by omega) (by omega)) fun v4 ⟨R4, a4, b4⟩ => ?_
 have hm := t2.mem
 have hr := t2.regs
 refine Ex.cond (fun _ => ?_) fun _ => Ex.ret ⟨_, rfl, hm⟩
 refine Ex.cond (fun h64 => ?_) fun _ => Ex.ret ⟨_, rfl, hm⟩
 refine Ex.cond (fun _ => ?_) fun _ => Ex.ret ⟨_, rfl, hm⟩
 rw [coreOk_s (by omega), Option.bind_some]
 refine Ex.cond (fun _ => ?_) fun _ => Ex.ret ⟨_, rfl, hm⟩
 rw [walk_s (by omega), Option.bind_some]
 refine Ex.cond (fun hw => ?_) fun _ => Ex.ret ⟨_, rfl, hm⟩
 have hw := of_decide_eq_true hw
 have h64 := of_decide_eq_true h64
 have hlt := (walk_lt v2.2.Mem v2.2.C.Root v2.2.C.Pc v2.2.C.User false (by omega)).2
 refine Ex.bind (ins_d R4 (by omega)) fun v7 R7 => ?_
 refine Ex.bind (insWord_d _) fun v8 _ => ?_
 exact Ex.grd ⟨hw, by omega⟩ (Ex.ret ⟨_, rfl, by rw [List.length_set]; exact hm⟩)
theorem tick_root (c : DCore) : (M.tick c).Root = c.Root := by unfold M.tick; cases decide (c.Timer = 0) <;> rfl
theorem tick_vec (c : DCore) : (M.tick c).Vector = c.Vector := by unfold M.tick; cases decide (c.Timer = 0) <;> rfl
theorem tick_user (c : DCore) : (M.tick c).User = c.User := by unfold M.tick; cases decide (c.Timer = 0) <;> rfl
theorem tick_timer {c : DCore} (h : 0 ≤ c.Timer) : (M.tick c).Timer = max (c.Timer - 1) 0 := by
 unfold M.tick
 by_cases e : c.Timer = 0
 · rw [decide_eq_true e, cond_true, e]; decide
 · rw [decide_eq_false e, cond_false]; show c.Timer - 1 = max (c.Timer - 1) 0; omega
structure Keeps (b o : DBare) : Prop where
 root : o.C.Root = b.C.Root
 vec : o.C.Vector = b.C.Vector
 timer : o.C.Timer = b.C.Timer
 i : o.In = b.In
 o : o.Out = b.Out
def OneWord (b o : DBare) : Prop := ∃ p : Int, ∀ k : Int, 0 ≤ k → k < 64 → o.Mem.getD k.toNat default ≠ b.Mem.getD k.toNat default → k = p ∧ ∃ a, 0 ≤ a ∧ a < 64 ∧ M.walk b.Mem b.C.Root a true true = k
theorem oneWord_same {b o : DBare} (h : o.Mem = b.Mem) : OneWord b o := ⟨0, fun k _ _ hne => absurd (by rw [h]) hne⟩
theorem plain_keeps (c : DCore) (i : DIns) : (M.plain c i).Root = c.Root ∧ (M.plain c i).Vector = c.Vector ∧ (M.plain c i).Timer = c.Timer := by
 unfold M.plain
 cases decide (i.Op = 1) <;> cases decide (i.Op = 2) <;> cases decide (i.Op = 15) <;> cases decide (i.Op = 5) <;> cases decide (i.Op = 6) <;> cases decide (M.reg c i.A = 0) <;> exact ⟨rfl, rfl, rfl⟩
theorem mdo_keeps {b : DBare} (hb : BOk b) (hu : b.C.User = true) {i : DIns} (hi : M.insOk i = true) (ho : i.Op = 3 ∨ i.Op = 4) : Keeps b (M.mdo b i) ∧ OneWord b (M.mdo b i) := by
 obtain ⟨op, a, n⟩ := i
 simp only [M.insOk, Bool.and_eq_true, M.inR_iff] at hi
 obtain ⟨⟨⟨o0, o1⟩, a0, a1⟩, n0, n1⟩ := hi
 have hl := hb.len
 have g := hb.reg (k := n % 4) (by omega) (by omega)
 unfold M.mdo
 simp only at ho ⊢
 by_cases h : M.walk b.Mem b.C.Root (M.reg b.C (n % 4) % 64) b.C.User (decide (op = 4)) = -1
 · rw [decide_eq_true h]; exact ⟨⟨rfl, rfl, rfl, rfl, rfl⟩, oneWord_same rfl⟩
 · have hw := walk_lt _ _ _ _ _ h
   rw [decide_eq_false h]
   rcases ho with rfl | rfl
   · exact ⟨⟨rfl, rfl, rfl, rfl, rfl⟩, oneWord_same rfl⟩
   · refine ⟨⟨rfl, rfl, rfl, rfl, rfl⟩, M.walk b.Mem b.C.Root (M.reg b.C (n % 4) % 64) b.C.User true, fun k k0 k1 hne => ?_⟩
     simp only [decide_true] at hw
     have hne : (b.Mem.set (M.walk b.Mem b.C.Root (M.reg b.C (n % 4) % 64) b.C.User true).toNat (M.reg b.C a)).getD k.toNat default ≠ b.Mem.getD k.toNat default := hne
     have hk : k = M.walk b.Mem b.C.Root (M.reg b.C (n % 4) % 64) b.C.User true := by
      by_cases e : k = M.walk b.Mem b.C.Root (M.reg b.C (n % 4) % 64) b.C.User true
      · exact e
      · exfalso; apply hne
        simp only [List.getD]
        rw [List.getElem?_set_ne (by omega)]
     exact ⟨hk, M.reg b.C (n % 4) % 64, by omega, by omega, by rw [hk, hu]⟩
theorem did_keeps {b : DBare} (hb : BOk b) (hu : b.C.User = true) {i : DIns} (hi : M.insOk i = true) : Keeps b (M.did b i) ∧ OneWord b (M.did b i) := by
 unfold M.did
 cases M.kern i.Op with
 | true => rw [hu]; exact ⟨⟨rfl, rfl, rfl, rfl, rfl⟩, oneWord_same rfl⟩
 | false =>
  by_cases h3 : i.Op = 3
  · rw [decide_eq_true h3]; exact mdo_keeps hb hu hi (.inl h3)
  · by_cases h4 : i.Op = 4
    · rw [decide_eq_true h4, Bool.or_true]; exact mdo_keeps hb hu hi (.inr h4)
    · rw [decide_eq_false h3, decide_eq_false h4]
      have p := plain_keeps b.C i
      exact ⟨⟨p.1, p.2.1, p.2.2, rfl, rfl⟩, oneWord_same rfl⟩
theorem step_keeps {b : DBare} (hb : BOk b) (hu : b.C.User = true) (hs : b.C.Stopped = false) : Keeps (M.with_ b (M.tick b.C)) (M.step b) ∧ OneWord (M.with_ b (M.tick b.C)) (M.step b) := by
 have ht := hb.tick
 unfold M.step
 rw [hs]
 simp only [cond_false]
 cases (M.tick b.C).Waits && (M.tick b.C).On with
 | true => exact ⟨⟨rfl, rfl, rfl, rfl, rfl⟩, oneWord_same rfl⟩
 | false =>
 simp only [cond_false]
 by_cases h : M.walk b.Mem (M.tick b.C).Root (M.tick b.C).Pc (M.tick b.C).User false = -1
 · rw [decide_eq_true h]; exact ⟨⟨rfl, rfl, rfl, rfl, rfl⟩, oneWord_same rfl⟩
 · have hw := walk_lt _ _ _ _ _ h
   have hm := mem_word hb hw.1 hw.2
   rw [decide_eq_false h]
   exact did_keeps ht (by show (M.tick b.C).User = true; rw [tick_user]; exact hu) (ins_ok hm.1 hm.2)
theorem may_loop {b : DBare} {t at_ : Int} (hl : b.Mem.length ≤ 9223372036854775806) (hw : ∃ a, 0 ≤ a ∧ a < 64 ∧ M.walk b.Mem b.C.Root a true true = at_) :
 Ex (Option.bind (iter (F_laws_FnBareStep_l17 b (t, at_)) (false, (0 : Int))) LO.val) (fun j => ∃ m, j = .go m ∧ m = true) := by
 refine Ex.loopv (fun s : Bool × Int => 0 ≤ s.2 ∧ s.2 ≤ 64 ∧ (s.1 = false → ∀ a, 0 ≤ a → a < s.2 → M.walk b.Mem b.C.Root a true true ≠ at_)) (fun s => 64 - s.2.toNat) (fun m => m = true) ⟨by simp, by simp, fun _ a h0 h1 => by simp only at h1; omega⟩ ?_
 rintro ⟨m, k⟩ ⟨k0, k1, hm⟩
 simp only at k0 k1 hm
 unfold F_laws_FnBareStep_l17
 refine Ex.cond (fun hk => ?_) fun hk => ?_
 · have hk : k < 64 := of_decide_eq_true hk
   refine Ex.join (P := fun m2 : Bool => m2 = false → ∀ a, 0 ≤ a → a < k + 1 → M.walk b.Mem b.C.Root a true true ≠ at_) ?_ fun m2 h2 => ?_
   · cases m with
     | true => exact Ex.ret ⟨_, rfl, fun h => by cases h⟩
     | false =>
      simp only [cond_false]
      rw [walk_i hl, Option.bind_some]
      refine Ex.ret ⟨_, rfl, fun h a a0 a1 => ?_⟩
      have h := of_decide_eq_false h
      by_cases e : a = k
      · rw [e]; exact h
      · exact hm rfl a a0 (by omega)
   · unfold F_laws_FnBareStep_j18
     rw [w64_in (by simp only; omega) (by simp only; omega)]
     refine Ex.ret (.inl ⟨_, rfl, ⟨?_, ?_, h2⟩, ?_⟩)
     · show 0 ≤ k + 1; omega
     · show k + 1 ≤ 64; omega
     · show 64 - (k + 1).toNat < 64 - k.toNat; omega
 · have hk : ¬ k < 64 := of_decide_eq_false hk
   refine Ex.ret (.inr ⟨_, rfl, ?_⟩)
   show m = true
   cases m with
   | true => rfl
   | false =>
    obtain ⟨a, a0, a1, ha⟩ := hw
    exact absurd ha (hm rfl a a0 (by omega))
theorem mem_loop_law {b o : DBare} (hl : b.Mem.length = 64) (hl2 : o.Mem.length = 64) (h : OneWord b o) :
 Ex (Option.bind (iter (F_laws_FnBareStep_l14 b o) ((0 : Int), (0 : Int))) LO.val) (fun j => ∃ t, j = .go t ∧ t ≤ 1) := by
 obtain ⟨p, hp⟩ := h
 refine Ex.loopv (fun s : Int × Int => 0 ≤ s.2 ∧ s.2 ≤ 64 ∧ (s.1 = 0 ∨ (s.1 = 1 ∧ p < s.2))) (fun s => 64 - s.2.toNat) (fun t => t ≤ 1) ⟨by simp, by simp, .inl rfl⟩ ?_
 rintro ⟨t, k⟩ ⟨k0, k1, ht⟩
 simp only at k0 k1 ht
 unfold F_laws_FnBareStep_l14
 refine Ex.cond (fun hk => ?_) fun hk => ?_
 · have hk : k < ((b.Mem.length : Nat) : Int) := of_decide_eq_true hk
   refine Ex.join (P := fun t2 : Int => t2 = 0 ∨ (t2 = 1 ∧ p < k + 1)) ?_ fun t2 h2 => ?_
   · refine Ex.grd ⟨k0, by simp only; omega⟩ (Ex.grd ⟨k0, hk⟩ ?_)
     refine Ex.cond (fun _ => Ex.ret ⟨_, rfl, ?_⟩) fun hne => ?_
     · rcases ht with h | ⟨h, h'⟩
       · exact .inl h
       · exact .inr ⟨h, by omega⟩
     · have hne := of_decide_eq_false hne
       obtain ⟨e, hw⟩ := hp k k0 (by omega) hne
       have ht0 : t = 0 := by omega
       refine Ex.join (P := fun m => m = true) (may_loop (b := b) (by omega) hw) fun m hm => ?_
       unfold F_laws_FnBareStep_j16
       rw [hm, ht0]
       exact Ex.ret ⟨_, rfl, .inr ⟨rfl, by omega⟩⟩
   · unfold F_laws_FnBareStep_j15
     rw [w64_in (by simp only; omega) (by simp only; omega)]
     refine Ex.ret (.inl ⟨_, rfl, ⟨?_, ?_, h2⟩, ?_⟩)
     · show 0 ≤ k + 1; omega
     · show k + 1 ≤ 64; omega
     · show 64 - (k + 1).toNat < 64 - k.toNat; omega
 · refine Ex.ret (.inr ⟨_, rfl, ?_⟩)
   show t ≤ 1; omega
theorem fnBareStep_e {xs : List Int} (hx : ∀ x ∈ xs, 0 ≤ x ∧ x ≤ 255) : Ex (F_laws_FnBareStep xs) (fun b => b = true) := by
 have al : Ex (Option.bind F_laws_alive fun v => some v) (fun b => b = true) := Ex.bind (alive_d (Q := fun b => b = true) rfl) fun b hb => Ex.ret hb
 unfold F_laws_FnBareStep
 refine Ex.cond (fun _ => Ex.ret rfl) fun _ => ?_
 refine Ex.bind (bareStep_d hx) fun b t => ?_
 have hs := t.small
 rw [bareStep_i hs, Option.bind_some, bareStep_s hs, Option.bind_some, bareOk_i hs]
 cases hok : M.bareOk b with
 | false =>
  have e : M.bareStep b = M.zero := by simp only [M.bareStep, hok, cond_false]
  rw [e, sameBare_refl zero_small]
  exact al
 | true =>
  have hb := bOk_iff.1 hok
  have ho := step_ok hb
  have e : M.bareStep b = M.step b := by simp only [M.bareStep, hok, cond_true]
  rw [e, sameBare_refl ho.small]
  simp only [Option.bind_some, Bool.not_true, cond_false]
  refine Ex.join (P := fun _ : Unit => True) ?_ fun _ _ => ?_
  · rw [bareOk_i ho.small, bOk_iff.2 ho]
    simp only [Option.bind_some, Bool.not_true, cond_false]
    cases hst : b.C.Stopped with
    | false => exact Ex.ret ⟨_, rfl, trivial⟩
    | true =>
     have e2 : M.step b = b := by unfold M.step; rw [hst]; rfl
     rw [e2, sameBare_refl hb.small]
     exact Ex.ret ⟨_, rfl, trivial⟩
  · unfold F_laws_FnBareStep_j7
    cases hu : b.C.User with
    | false => exact al
    | true =>
     cases hst : b.C.Stopped with
     | true => exact al
     | false =>
      obtain ⟨k, w⟩ := step_keeps hb hu hst
      have h1 : (M.step b).C.Root = b.C.Root := k.root.trans (tick_root _)
      have h2 : (M.step b).C.Vector = b.C.Vector := k.vec.trans (tick_vec _)
      have h3 : (M.step b).C.Timer = max (b.C.Timer - 1) 0 := k.timer.trans (tick_timer hb.timer.1)
      have h4 : (M.step b).In = b.In := k.i
      have h5 : (M.step b).Out = b.Out := k.o
      have w' : OneWord b (M.step b) := by
       obtain ⟨p, hp⟩ := w
       refine ⟨p, fun q q0 q1 hne => ?_⟩
       obtain ⟨g1, a, a0, a1, ga⟩ := hp q q0 q1 hne
       exact ⟨g1, a, a0, a1, by rw [← tick_root b.C]; exact ga⟩
      have hti := hb.timer
      have hi := hb.inn; have hoo := hb.out
      rw [w64_in (z := b.C.Timer - 1) (by omega) (by omega), decide_eq_true h1, decide_eq_true h2, decide_eq_true h3, h4, h5, sameInts_eq (by omega), sameInts_eq (by omega)]
      simp only [decide_true, Bool.not_true, cond_false, Option.bind_some]
      refine Ex.join (mem_loop_law hb.len ho.len w') fun tt ht => ?_
      unfold F_laws_FnBareStep_j12
      rw [decide_eq_true ht]
      exact al
theorem fnBareStep_t {xs : List Int} (hx : ∀ x ∈ xs, 0 ≤ x ∧ x ≤ 255) : F_laws_FnBareStep xs = some true := by
 obtain ⟨_, h, rfl⟩ := fnBareStep_e hx; exact h
end Go.Proofs.Ythbefahhpikcaaa
