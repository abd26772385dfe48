/- A step of the machine, last part: the model's side; a step of a machine is a machine. -/
import Derived.Test.YthbefahhpikcaaaPI
namespace Go.Proofs.Ythbefahhpikcaaa
set_option linter.all false
section
variable {b : DBare} {op a n : Int}
theorem walk_neg (mem : List Int) (root addr : Int) (user write : Bool) : decide (M.walk mem root addr user write < 0) = decide (M.walk mem root addr user write = -1) := by
 by_cases h : M.walk mem root addr user write = -1
 · rw [decide_eq_true h, decide_eq_true (by omega)]
 · have := walk_lt _ _ _ _ _ h
   rw [decide_eq_false h, decide_eq_false (by omega)]
theorem mdo_s {v2 : DBare} {c : DCore} {t : Bool} (hb : BOk (M.with_ v2 c)) (a0 : 0 ≤ a) (a1 : a ≤ 3) (n0 : 0 ≤ n) (ho : op = 3 ∨ op = 4) :
 F_spec_BareStep_j10 v2 (c, t) ⟨op, a, n⟩ () = some (M.mdo (M.with_ v2 c) ⟨op, a, n⟩) := by
 have hl := hb.len
 have hp := hb.pc
 have gA : 0 ≤ a ∧ a < ((c.Regs.length : Nat) : Int) := hb.gA a0 a1
 have gN : 0 ≤ n % 4 ∧ n % 4 < ((c.Regs.length : Nat) : Int) := hb.gA (a := n % 4) (by omega) (by omega)
 have g2 : 0 ≤ M.reg c (n % 4) ∧ M.reg c (n % 4) ≤ 4095 := hb.reg (k := n % 4) (by omega) (by omega)
 simp only [M.with_] at hl hp
 have e : M.mdo (M.with_ v2 c) ⟨op, a, n⟩ = (bif decide (M.walk v2.Mem c.Root (M.reg c (n % 4) % 64) c.User (decide (op = 4)) = -1) then ⟨M.trap c c.Pc 2 (M.reg c (n % 4) % 64), v2.Mem, v2.In, v2.Out⟩
  else bif decide (op = 3) then ⟨M.go (M.put c a (v2.Mem.getD (M.walk v2.Mem c.Root (M.reg c (n % 4) % 64) c.User false).toNat default)), v2.Mem, v2.In, v2.Out⟩
  else ⟨M.go c, v2.Mem.set (M.walk v2.Mem c.Root (M.reg c (n % 4) % 64) c.User true).toNat (M.reg c a), v2.In, v2.Out⟩) := rfl
 rw [e]
 unfold F_spec_BareStep_j10 F_spec_BareStep_j13
 simp only [tmod4 n0]
 rw [grd_t gN, show c.Regs.getD (n % 4).toNat default = M.reg c (n % 4) from rfl, Int.tmod_eq_emod_of_nonneg g2.1, walk_s (by omega), Option.bind_some, walk_neg]
 by_cases h : M.walk v2.Mem c.Root (M.reg c (n % 4) % 64) c.User (decide (op = 4)) = -1
 · rw [decide_eq_true h]; rfl
 · have hw := walk_lt _ _ _ _ _ h
   rw [decide_eq_false h]
   have e1 : w64 (c.Pc + 1) = c.Pc + 1 := w64_in (by omega) (by omega)
   rw [grd_t gA, grd_t gA, grd_t ⟨hw.1, by omega⟩, grd_t ⟨hw.1, by omega⟩, e1, Int.tmod_eq_emod_of_nonneg (a := c.Pc + 1) (by omega)]
   rcases ho with rfl | rfl
   · simp only [Int.reduceEq, decide_true, decide_false, cond_true, cond_false, Option.bind_some, JO.run]; rfl
   · simp only [Int.reduceEq, decide_true, decide_false, cond_true, cond_false, Option.bind_some, JO.run]; rfl
theorem kdo_mem (b : DBare) (i : DIns) : (M.kdo b i).Mem = b.Mem := by
 unfold M.kdo
 cases decide (i.Op = 0) <;> cases decide (i.Op = 8) <;> cases decide (i.Op = 9) <;> cases decide (i.Op = 10) <;> cases decide (i.Op = 11) <;> cases decide (i.Op = 12) <;> cases decide (i.Op = 13) <;> rfl
theorem did_s {v2 : DBare} {c : DCore} {t : Bool} (hb : BOk (M.with_ v2 c)) {i : DIns} (hi : M.insOk i = true) :
 (Option.bind (F_spec_InsKernel i) fun v7 =>
  cond v7
   (cond c.User
    (Option.bind (F_spec_l3Trap c c.Pc (3 : Int) (0 : Int)) fun v8 =>
    some (DBare.mk v8 v2.Mem v2.In v2.Out))
    (Option.bind (F_spec_l3Kernel c v2.In v2.Out i) fun v9 =>
    some (DBare.mk v9.1 v2.Mem v9.2.1 v9.2.2)))
   (Option.bind (cond (!decide (i.Op = (3 : Int)))
    (cond (!decide (i.Op = (4 : Int)))
     (Option.bind (F_spec_l3Plain c i) fun v14 =>
     some (.out (DBare.mk v14 v2.Mem v2.In v2.Out)))
     (some (.go ())))
    (some (.go ()))) fun j10 =>
    JO.run j10 (F_spec_BareStep_j10 v2 (c, t) i))) = some (M.did (M.with_ v2 c) i) := by
 rw [insKernel_s hi, Option.bind_some]
 obtain ⟨op, a, n⟩ := i
 simp only [M.insOk, Bool.and_eq_true, M.inR_iff] at hi
 obtain ⟨⟨⟨o0, o1⟩, a0, a1⟩, n0, n1⟩ := hi
 simp only [M.did]
 cases hk : M.kern op with
 | true =>
  simp only [cond_true]
  rw [show (M.with_ v2 c).C = c from rfl]
  cases c.User with
  | true => rfl
  | false =>
   have k := kernel_s hb o0 o1 a0 a1 n0 hk
   rw [show F_spec_l3Kernel c v2.In v2.Out ⟨op, a, n⟩ = _ from k]
   simp only [cond_false, Option.bind_some]
   have km := kdo_mem (M.with_ v2 c) ⟨op, a, n⟩
   rw [show v2.Mem = (M.kdo (M.with_ v2 c) ⟨op, a, n⟩).Mem from km.symm]
 | false =>
  simp only [cond_false]
  by_cases h3 : op = 3
  · rw [decide_eq_true h3]
    simp only [Bool.not_true, cond_false, Option.bind_some, JO.run, Bool.true_or, cond_true]
    rw [mdo_s hb a0 a1 n0 (.inl h3)]
  · by_cases h4 : op = 4
    · rw [decide_eq_false h3, decide_eq_true h4]
      simp only [Bool.not_true, Bool.not_false, cond_true, cond_false, Option.bind_some, JO.run, Bool.or_true]
      rw [mdo_s hb a0 a1 n0 (.inr h4)]
    · have k := plain_s hb o0 o1 a0 a1 n0 hk h3 h4
      rw [decide_eq_false h3, decide_eq_false h4, show F_spec_l3Plain c ⟨op, a, n⟩ = _ from k]
      rfl
namespace M
def zeroC : DCore := ⟨[], 0, 0, 0, 0, false, 0, 0, 0, false, false, false, false⟩
def zero : DBare := ⟨zeroC, [], [], []⟩
def bareStep (b : DBare) : DBare := bif bareOk b then step b else zero
end M
theorem copy_s {b : DBare} (h : SmallB b) : F_spec_l3Copy b = some b := by
 have := h.c.regs; have := h.mem; have := h.i; have := h.o
 unfold F_spec_l3Copy F_spec_l3Core
 rw [grd_t ⟨by simp only [List.length_nil]; omega, by simp only [List.length_nil]; omega⟩, Option.bind_some, grd_t ⟨by omega, by omega⟩, grd_t ⟨by omega, by omega⟩, grd_t ⟨by omega, by omega⟩]
 rfl
theorem bareStep_s {b : DBare} (h : SmallB b) : F_spec_BareStep b = some (M.bareStep b) := by
 unfold F_spec_BareStep M.bareStep
 rw [bareOk_s h, Option.bind_some]
 cases hok : M.bareOk b with
 | false => rfl
 | true =>
  have hb := bOk_iff.1 hok
  have ht := hb.tick
  have hl := hb.len
  simp only [Bool.not_true, cond_false, cond_true]
  rw [copy_s h, Option.bind_some]
  unfold M.step
  cases b.C.Stopped with
  | true => rfl
  | false =>
   simp only [cond_false]
   rw [ticked_s hb.timer.1 hb.timer.2, Option.bind_some]
   cases hw : (M.tick b.C).Waits && (M.tick b.C).On with
   | true => rfl
   | false =>
    simp only [cond_false]
    rw [walk_s (by omega), Option.bind_some, walk_neg]
    by_cases h : M.walk b.Mem (M.tick b.C).Root (M.tick b.C).Pc (M.tick b.C).User false = -1
    · rw [decide_eq_true h]; rfl
    · have hw := walk_lt _ _ _ _ _ h
      have hm := mem_word hb hw.1 hw.2
      rw [decide_eq_false h, cond_false, cond_false, grd_t ⟨hw.1, by omega⟩, insFrom_s hm.1 hm.2, Option.bind_some]
      exact did_s ht (ins_ok hm.1 hm.2)
theorem BOk.trap (hb : BOk b) {src cause bad : Int} (h1 : 0 ≤ src ∧ src ≤ 63) (h2 : 0 ≤ cause ∧ cause ≤ 4) (h3 : 0 ≤ bad ∧ bad ≤ 63) : BOk (M.with_ b (M.trap b.C src cause bad)) :=
 ⟨hb.regs, hb.words, hb.vec, hb.vec, h1, h3, hb.root, h2, hb.timer, hb.mem, hb.inn, hb.inw, hb.out, hb.outw⟩
theorem BOk.at_ (hb : BOk b) {pc : Int} (h : 0 ≤ pc ∧ pc ≤ 63) : BOk (M.with_ b (M.at_ b.C pc)) :=
 ⟨hb.regs, hb.words, h, hb.vec, hb.sav, hb.bad, hb.root, hb.cause, hb.timer, hb.mem, hb.inn, hb.inw, hb.out, hb.outw⟩
theorem BOk.go (hb : BOk b) : BOk (M.with_ b (M.go b.C)) := hb.at_ (by omega)
theorem BOk.put (hb : BOk b) {w : Int} (h : 0 ≤ w ∧ w ≤ 4095) : BOk (M.with_ b (M.put b.C a w)) :=
 ⟨by show (b.C.Regs.set _ _).length = 4; rw [List.length_set]; exact hb.regs, wordsOk_set hb.words h.1 h.2, hb.pc, hb.vec, hb.sav, hb.bad, hb.root, hb.cause, hb.timer, hb.mem, hb.inn, hb.inw, hb.out, hb.outw⟩
theorem wordsOk_app {xs : List Int} {w : Int} (h : M.wordsOk xs = true) (hw : 0 ≤ w ∧ w ≤ 4095) : M.wordsOk (xs ++ [w]) = true := by
 refine List.all_eq_true.2 fun x hx => ?_
 rcases List.mem_append.1 hx with h1 | h1
 · exact List.all_eq_true.1 h x h1
 · rw [List.mem_singleton.1 h1]; exact M.inR_iff.2 hw
theorem wordsOk_drop {xs : List Int} (h : M.wordsOk xs = true) : M.wordsOk (xs.drop 1) = true := List.all_eq_true.2 fun x hx => List.all_eq_true.1 h x (List.mem_of_mem_drop hx)
theorem first_ok {xs : List Int} (h : M.wordsOk xs = true) : 0 ≤ M.first xs ∧ M.first xs ≤ 4095 := by
 cases xs with
 | nil => exact ⟨by decide, by decide⟩
 | cons x xs => exact M.inR_iff.1 (List.all_eq_true.1 h x (List.mem_cons_self ..))
theorem cin_ok (hb : BOk b) {k : Int} : 0 ≤ M.cin b k ∧ M.cin b k ≤ 4095 := by
 have h1 := hb.cause; have h2 := hb.bad; have h3 := hb.sav; have h4 := first_ok hb.inw
 unfold M.cin
 cases decide (k = 1) <;> cases decide (k = 2) <;> cases decide (k = 3) <;> simp only [cond_true, cond_false] <;> omega
theorem kdo_ok (hb : BOk b) (a0 : 0 ≤ a) (a1 : a ≤ 3) : BOk (M.kdo b ⟨op, a, n⟩) := by
 have g := hb.reg a0 (by omega)
 unfold M.kdo
 simp only
 cases decide (op = 0) with
 | true => exact ⟨hb.regs, hb.words, hb.pc, hb.vec, hb.sav, hb.bad, hb.root, hb.cause, hb.timer, hb.mem, hb.inn, hb.inw, hb.out, hb.outw⟩
 | false =>
 cases decide (op = 8) with
 | true =>
  have hr : -1 ≤ M.root (M.reg b.C a) ∧ M.root (M.reg b.C a) ≤ 7 := by
   unfold M.root
   by_cases e : M.reg b.C a % 16 < 8
   · rw [decide_eq_true e, cond_true]; omega
   · rw [decide_eq_false e, cond_false]; omega
  exact BOk.go (b := M.with_ b ⟨b.C.Regs, b.C.Pc, M.root (M.reg b.C a), b.C.Vector, b.C.Saved, b.C.SavedUser, b.C.Cause, b.C.Bad, b.C.Timer, b.C.Waits, b.C.User, b.C.On, b.C.Stopped⟩) ⟨hb.regs, hb.words, hb.pc, hb.vec, hb.sav, hb.bad, hr, hb.cause, hb.timer, hb.mem, hb.inn, hb.inw, hb.out, hb.outw⟩
 | false =>
 cases decide (op = 9) with
 | true =>
  exact BOk.go (b := M.with_ b ⟨b.C.Regs, b.C.Pc, b.C.Root, M.reg b.C a % 64, b.C.Saved, b.C.SavedUser, b.C.Cause, b.C.Bad, b.C.Timer, b.C.Waits, b.C.User, b.C.On, b.C.Stopped⟩) ⟨hb.regs, hb.words, hb.pc, by show 0 ≤ M.reg b.C a % 64 ∧ M.reg b.C a % 64 ≤ 63; omega, hb.sav, hb.bad, hb.root, hb.cause, hb.timer, hb.mem, hb.inn, hb.inw, hb.out, hb.outw⟩
 | false =>
 cases decide (op = 10) with
 | true =>
  exact BOk.go (b := M.with_ b ⟨b.C.Regs, b.C.Pc, b.C.Root, b.C.Vector, b.C.Saved, b.C.SavedUser, b.C.Cause, b.C.Bad, M.reg b.C a, b.C.Waits, b.C.User, b.C.On, b.C.Stopped⟩) ⟨hb.regs, hb.words, hb.pc, hb.vec, hb.sav, hb.bad, hb.root, hb.cause, g, hb.mem, hb.inn, hb.inw, hb.out, hb.outw⟩
 | false =>
 cases decide (op = 11) with
 | true => exact ⟨hb.regs, hb.words, hb.sav, hb.vec, hb.sav, hb.bad, hb.root, hb.cause, hb.timer, hb.mem, hb.inn, hb.inw, hb.out, hb.outw⟩
 | false =>
 cases decide (op = 12) with
 | true =>
  exact BOk.go (b := M.with_ b ⟨b.C.Regs, b.C.Pc, b.C.Root, b.C.Vector, b.C.Saved, b.C.SavedUser, b.C.Cause, b.C.Bad, b.C.Timer, b.C.Waits, b.C.User, decide (n % 2 = 1), b.C.Stopped⟩) ⟨hb.regs, hb.words, hb.pc, hb.vec, hb.sav, hb.bad, hb.root, hb.cause, hb.timer, hb.mem, hb.inn, hb.inw, hb.out, hb.outw⟩
 | false =>
 have h := hb.go
 cases decide (op = 13) with
 | true =>
  simp only [cond_true, cond_false]
  by_cases e : b.Out.length < 30
  · rw [decide_eq_true e]
    exact ⟨h.regs, h.words, h.pc, h.vec, h.sav, h.bad, h.root, h.cause, h.timer, h.mem, h.inn, h.inw, by show (b.Out ++ [_]).length ≤ 30; simp only [List.length_append, List.length_cons, List.length_nil]; omega, wordsOk_app hb.outw g⟩
  · rw [decide_eq_false e]; exact h
 | false =>
  simp only [cond_false]
  have h := (hb.put (a := a) (cin_ok hb (k := n % 4))).go
  refine ⟨h.regs, h.words, h.pc, h.vec, h.sav, h.bad, h.root, h.cause, h.timer, h.mem, ?_, ?_, h.out, h.outw⟩
  · show (M.rest b.In (n % 4)).length ≤ 30
    have := hb.inn
    unfold M.rest
    cases decide (n % 4 = 0) <;> simp only [cond_true, cond_false, List.length_drop] <;> omega
  · show M.wordsOk (M.rest b.In (n % 4)) = true
    unfold M.rest
    cases decide (n % 4 = 0)
    · exact hb.inw
    · exact wordsOk_drop hb.inw
theorem plain_ok (hb : BOk b) (a0 : 0 ≤ a) (a1 : a ≤ 3) (n0 : 0 ≤ n) (n1 : n ≤ 63) : BOk (M.with_ b (M.plain b.C ⟨op, a, n⟩)) := by
 have hp := hb.pc
 unfold M.plain
 simp only
 cases decide (op = 1) with
 | true => exact (hb.put (a := a) (w := n) (by omega)).go
 | false =>
 cases decide (op = 2) with
 | true => exact (hb.put (a := a) (w := (M.reg b.C a + M.reg b.C (n % 4)) % 4096) (by omega)).go
 | false =>
 cases decide (op = 15) with
 | true => exact (hb.put (a := a) (w := (M.reg b.C a - M.reg b.C (n % 4) + 4096) % 4096) (by omega)).go
 | false =>
 cases decide (op = 5) with
 | true => exact hb.at_ ⟨n0, n1⟩
 | false =>
 cases decide (op = 6) with
 | true =>
  cases decide (M.reg b.C a = 0) with
  | true => exact hb.go
  | false => exact hb.at_ ⟨n0, n1⟩
 | false => exact hb.trap (src := (b.C.Pc + 1) % 64) (cause := 1) (bad := 0) (by omega) (by omega) (by omega)
theorem mdo_ok (hb : BOk b) (a0 : 0 ≤ a) (a1 : a ≤ 3) (n0 : 0 ≤ n) (ho : op = 3 ∨ op = 4) : BOk (M.mdo b ⟨op, a, n⟩) := by
 have g := hb.reg a0 (by omega)
 unfold M.mdo
 simp only
 by_cases h : M.walk b.Mem b.C.Root (M.reg b.C (n % 4) % 64) b.C.User (decide (op = 4)) = -1
 · rw [decide_eq_true h]
   exact hb.trap (src := b.C.Pc) (cause := 2) (bad := M.reg b.C (n % 4) % 64) hb.pc (by omega) (by omega)
 · have hw := walk_lt _ _ _ _ _ h
   rw [decide_eq_false h]
   rcases ho with rfl | rfl
   · simp only [Int.reduceEq, decide_false] at hw
     exact (hb.put (a := a) (mem_word hb hw.1 hw.2)).go
   · have h2 := hb.go
     refine ⟨h2.regs, h2.words, h2.pc, h2.vec, h2.sav, h2.bad, h2.root, h2.cause, h2.timer, ?_, h2.inn, h2.inw, h2.out, h2.outw⟩
     show M.memOk (b.Mem.set _ _) = true
     simp only [M.memOk, List.length_set, hb.len, decide_true, Bool.true_and]
     exact wordsOk_set (memOk_words hb.mem) g.1 g.2
theorem did_ok (hb : BOk b) {i : DIns} (hi : M.insOk i = true) : BOk (M.did b i) := by
 obtain ⟨op, a, n⟩ := i
 simp only [M.insOk, Bool.and_eq_true, M.inR_iff] at hi
 obtain ⟨⟨⟨o0, o1⟩, a0, a1⟩, n0, n1⟩ := hi
 unfold M.did
 simp only
 cases M.kern op with
 | true =>
  cases b.C.User with
  | true => exact hb.trap (src := b.C.Pc) (cause := 3) (bad := 0) hb.pc (by omega) (by omega)
  | false => exact kdo_ok hb a0 a1
 | false =>
  by_cases h3 : op = 3
  · rw [decide_eq_true h3]; exact mdo_ok hb a0 a1 n0 (.inl h3)
  · by_cases h4 : op = 4
    · rw [decide_eq_true h4, Bool.or_true]; exact mdo_ok hb a0 a1 n0 (.inr h4)
    · rw [decide_eq_false h3, decide_eq_false h4]; exact plain_ok hb a0 a1 n0 n1
theorem step_ok (hb : BOk b) : BOk (M.step b) := by
 have ht := hb.tick
 unfold M.step
 cases b.C.Stopped with
 | true => exact hb
 | false =>
 cases (M.tick b.C).Waits && (M.tick b.C).On with
 | true => 
  have hq : BOk (M.with_ b (M.quiet (M.tick b.C))) := ⟨ht.regs, ht.words, ht.pc, ht.vec, ht.sav, ht.bad, ht.root, ht.cause, ht.timer, ht.mem, ht.inn, ht.inw, ht.out, ht.outw⟩
  exact hq.trap (src := (M.tick b.C).Pc) (cause := 4) (bad := 0) ht.pc (by omega) (by omega)
 | false =>
 simp only [cond_false]
 by_cases h : M.walk b.Mem (M.tick b.C).Root (M.tick b.C).Pc (M.tick b.C).User false = -1
 · rw [decide_eq_true h]
   exact ht.trap (src := (M.tick b.C).Pc) (cause := 2) (bad := (M.tick b.C).Pc) ht.pc (by omega) ht.pc
 · have hw := walk_lt _ _ _ _ _ h
   have hm := mem_word hb hw.1 hw.2
   rw [decide_eq_false h]
   exact did_ok ht (ins_ok hm.1 hm.2)
theorem BOk.small (hb : BOk b) : SmallB b := ⟨⟨by have := hb.regs; omega⟩, by have := hb.len; omega, by have := hb.inn; omega, by have := hb.out; omega⟩
theorem copiedBare_i {b : DBare} (h : SmallB b) : F_impl_copiedBare b = some b := by
 unfold F_impl_copiedBare
 rw [copied_i h.c.regs, copied_i h.mem, copied_i h.i, copied_i h.o]; rfl
theorem bareStep_i {b : DBare} (h : SmallB b) : F_impl_BareStep b = some (M.bareStep b) := by
 unfold F_impl_BareStep M.bareStep
 rw [bareOk_i h, Option.bind_some]
 cases hok : M.bareOk b with
 | false => rfl
 | true =>
  have hb := bOk_iff.1 hok
  simp only [Bool.not_true, cond_false, cond_true]
  rw [stepped_i hb, Option.bind_some, copiedBare_i (step_ok hb).small]; rfl
end
theorem zero_small : SmallB M.zero := ⟨⟨by decide⟩, by decide, by decide, by decide⟩
end Go.Proofs.Ythbefahhpikcaaa
