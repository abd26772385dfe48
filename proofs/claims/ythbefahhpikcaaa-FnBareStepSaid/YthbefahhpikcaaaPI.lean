/- A step of the machine, third part: the program and the model answer the same, and what they answer is a machine. -/
import Derived.Test.YthbefahhpikcaaaPH
namespace Go.Proofs.Ythbefahhpikcaaa
set_option linter.all false
section
variable {b : DBare} {op a n : Int}
theorem ticked_i {c : DCore} (h0 : 0 ≤ c.Timer) (h1 : c.Timer ≤ 4095) : F_impl_ticked c = some (M.tick c) := by
 unfold F_impl_ticked M.tick F_impl_ticked_j1
 rw [w64_in (z := c.Timer - 1) (by omega) (by omega)]
 cases decide (c.Timer = 0) <;> cases decide (c.Timer - 1 = 0) <;> rfl
theorem ticked_s {c : DCore} (h0 : 0 ≤ c.Timer) (h1 : c.Timer ≤ 4095) : F_spec_l3Ticked c = some (bif (M.tick c).Waits && (M.tick c).On then (M.trap (M.quiet (M.tick c)) (M.tick c).Pc 4 0, true) else (M.tick c, false)) := by
 unfold F_spec_l3Ticked F_spec_l3Ticked_j1 F_spec_l3Ticked_j2
 obtain ⟨r, pc, ro, v, s, su, ca, ba, t, w, u, o, st⟩ := c
 simp only at h0 h1
 rw [w64_in (z := t - 1) (by omega) (by omega)]
 by_cases e : t = 0
 · subst e
   simp only [M.tick, decide_true, cond_true, Int.lt_irrefl, decide_false, cond_false, Option.bind_some, JO.run]
   cases w <;> cases o <;> rfl
 · simp only [M.tick, decide_eq_false e, decide_eq_true (show 0 < t by omega), cond_true, cond_false]
   by_cases e1 : t - 1 = 0
   · simp only [decide_eq_true e1, cond_true, Option.bind_some, JO.run]
     cases o <;> rfl
   · simp only [decide_eq_false e1, cond_false, Option.bind_some, JO.run]
     cases w <;> cases o <;> rfl
theorem plain_s (hb : BOk b) (o0 : 0 ≤ op) (o1 : op ≤ 15) (a0 : 0 ≤ a) (a1 : a ≤ 3) (n0 : 0 ≤ n) (hk : M.kern op = false) (h3 : ¬ op = 3) (h4 : ¬ op = 4) : F_spec_l3Plain b.C ⟨op, a, n⟩ = some (M.plain b.C ⟨op, a, n⟩) := by
 have g1 := hb.reg a0 (by omega)
 have g2 := hb.reg (k := n % 4) (by omega) (by omega)
 have hp := hb.pc
 unfold F_spec_l3Plain
 rw [w64_in (z := b.C.Pc + 1) (by omega) (by omega), Int.tmod_eq_emod_of_nonneg (a := b.C.Pc + 1) (by omega)]
 simp only [tmod4 n0, show b.C.Regs.getD a.toNat default = M.reg b.C a from rfl, show b.C.Regs.getD (n % 4).toNat default = M.reg b.C (n % 4) from rfl]
 simp only [grd_t (hb.gA a0 a1), grd_t (hb.gA (a := n % 4) (by omega) (by omega))]
 rw [w64_in (z := M.reg b.C a + M.reg b.C (n % 4)) (by omega) (by omega), w64_in (z := M.reg b.C a + 4096) (by omega) (by omega), w64_in (z := M.reg b.C a + 4096 - M.reg b.C (n % 4)) (by omega) (by omega), Int.tmod_eq_emod_of_nonneg (a := M.reg b.C a + M.reg b.C (n % 4)) (by omega), Int.tmod_eq_emod_of_nonneg (a := M.reg b.C a + 4096 - M.reg b.C (n % 4)) (by omega), show M.reg b.C a + 4096 - M.reg b.C (n % 4) = M.reg b.C a - M.reg b.C (n % 4) + 4096 by omega]
 rcases op_cases o0 o1 with e | e | e | e | e | e | e | e | e | e | e | e | e | e | e | e <;> subst e <;> first | (exact absurd hk (by decide)) | (exact absurd rfl h3) | (exact absurd rfl h4) | simp only [Int.reduceEq, decide_true, decide_false, cond_true, cond_false, Option.bind_some, JO.run, F_spec_l3Plain_j1, M.plain, trap_s]
 · rfl
 · rfl
 · rfl
 · cases decide (M.reg b.C a = 0) <;> rfl
 · rfl
theorem kernel_s (hb : BOk b) (o0 : 0 ≤ op) (o1 : op ≤ 15) (a0 : 0 ≤ a) (a1 : a ≤ 3) (n0 : 0 ≤ n) (hk : M.kern op = true) : F_spec_l3Kernel b.C b.In b.Out ⟨op, a, n⟩ = some ((M.kdo b ⟨op, a, n⟩).C, (M.kdo b ⟨op, a, n⟩).In, (M.kdo b ⟨op, a, n⟩).Out) := by
 have g1 := hb.reg a0 (by omega)
 have hp := hb.pc
 have ho := hb.out
 unfold F_spec_l3Kernel F_spec_l3Kernel_j2
 rw [w64_in (z := b.C.Pc + 1) (by omega) (by omega), Int.tmod_eq_emod_of_nonneg (a := b.C.Pc + 1) (by omega)]
 simp only [tmod4 n0, show b.C.Regs.getD a.toNat default = M.reg b.C a from rfl, rest_eq, Int.tmod_eq_emod_of_nonneg g1.1, Int.tmod_eq_emod_of_nonneg n0]
 simp only [grd_t (hb.gA a0 a1)]
 rcases op_cases o0 o1 with e | e | e | e | e | e | e | e | e | e | e | e | e | e | e | e <;> subst e <;> first | (exact absurd hk (by decide)) | simp only [Int.reduceEq, decide_true, decide_false, cond_true, cond_false, Option.bind_some, JO.run, F_spec_l3Kernel_j1, M.kdo]
 · rfl
 · simp only [M.root]
   cases decide (M.reg b.C a % 16 < 8) <;> rfl
 · rfl
 · rfl
 · rfl
 · rfl
 · by_cases e : b.Out.length < 30
   · rw [decide_eq_true (show ((b.Out.length : Nat) : Int) < 30 by omega), decide_eq_true e, cond_true, grd_t ⟨by simp only [List.length_cons, List.length_nil]; omega, by simp only [List.length_cons, List.length_nil]; omega⟩]; rfl
   · rw [decide_eq_false (show ¬ ((b.Out.length : Nat) : Int) < 30 by omega), decide_eq_false e]; rfl
 · rw [grd_t ⟨by omega, by omega⟩]
   simp only [M.cin, M.rest]
   by_cases h : n % 4 = 0
   · rw [h]
     simp only [decide_true, cond_true, Int.reduceEq, decide_false, cond_false]
     cases hi : b.In with
     | nil => rfl
     | cons x xs => rw [decide_eq_true (by simp only [List.length_cons]; omega), cond_true, grd_t ⟨by omega, by simp only [List.length_cons]; omega⟩, grd_t ⟨by omega, by simp only [List.length_cons]; omega, by omega⟩]; rfl
   · rw [decide_eq_false h]
     simp only [cond_false, Option.bind_some, JO.run]
     rcases (show n % 4 = 1 ∨ n % 4 = 2 ∨ n % 4 = 3 by omega) with e | e | e <;> rw [e] <;> rfl
theorem BOk.tick (hb : BOk b) : BOk (M.with_ b (M.tick b.C)) := by
 have ht := hb.timer
 unfold M.tick
 by_cases e : b.C.Timer = 0
 · rw [decide_eq_true e]; exact ⟨hb.regs, hb.words, hb.pc, hb.vec, hb.sav, hb.bad, hb.root, hb.cause, hb.timer, hb.mem, hb.inn, hb.inw, hb.out, hb.outw⟩
 · rw [decide_eq_false e]; exact ⟨hb.regs, hb.words, hb.pc, hb.vec, hb.sav, hb.bad, hb.root, hb.cause, ⟨by show 0 ≤ b.C.Timer - 1; omega, by show b.C.Timer - 1 ≤ 4095; omega⟩, hb.mem, hb.inn, hb.inw, hb.out, hb.outw⟩
theorem mem_word (hb : BOk b) {z : Int} (h0 : 0 ≤ z) (h1 : z < 64) : 0 ≤ b.Mem.getD z.toNat default ∧ b.Mem.getD z.toNat default ≤ 4095 := wordsOk_get (memOk_words hb.mem) (by have := hb.len; omega)
theorem stepped_i (hb : BOk b) : F_impl_stepped b = some (M.step b) := by
 have hl := hb.len
 have ht := hb.tick
 unfold F_impl_stepped M.step F_impl_stepped_j2
 cases hs : b.C.Stopped with
 | true => rfl
 | false =>
  simp only [cond_false, ticked_i hb.timer.1 hb.timer.2, Option.bind_some]
  have key : ∀ x : Option DBare, (Option.bind (F_impl_Walk b.Mem (M.tick b.C).Root (M.tick b.C).Pc (M.tick b.C).User false) fun v3 =>
   cond (decide (v3 = (-1 : Int))) (Option.bind (F_impl_faulted (DBare.mk (M.tick b.C) b.Mem b.In b.Out) (M.tick b.C).Pc) fun v4 => some v4)
    (grd ((0 : Int) ≤ v3 ∧ v3 < ((List.length b.Mem : Nat) : Int)) (Option.bind (F_impl_InsFrom (List.getD b.Mem (Int.toNat v3) default)) fun v5 =>
     Option.bind (F_impl_did (DBare.mk (M.tick b.C) b.Mem b.In b.Out) v5) fun v6 => some v6))) =
   some (bif decide (M.walk b.Mem (M.tick b.C).Root (M.tick b.C).Pc (M.tick b.C).User false = -1) then M.with_ b (M.trap (M.tick b.C) (M.tick b.C).Pc 2 (M.tick b.C).Pc)
    else M.did (M.with_ b (M.tick b.C)) (M.ins (b.Mem.getD (M.walk b.Mem (M.tick b.C).Root (M.tick b.C).Pc (M.tick b.C).User false).toNat default))) := fun x => by
   rw [walk_i (by omega), Option.bind_some]
   by_cases h : M.walk b.Mem (M.tick b.C).Root (M.tick b.C).Pc (M.tick b.C).User false = -1
   · rw [decide_eq_true h]; rfl
   · have hw := walk_lt _ _ _ _ _ h
     have hm := mem_word hb hw.1 hw.2
     rw [decide_eq_false h, cond_false, cond_false, grd_t ⟨hw.1, by omega⟩, insFrom_i hm.1 hm.2, Option.bind_some]
     show Option.bind (F_impl_did (M.with_ b (M.tick b.C)) _) _ = _
     rw [did_i ht (ins_ok hm.1 hm.2)]; rfl
  have k := key none
  cases hw : (M.tick b.C).Waits with
  | false => simp only [cond_false, Bool.false_and, Option.bind_some, JO.run]; exact k
  | true =>
   cases ho : (M.tick b.C).On with
   | false => simp only [cond_false, cond_true, Bool.and_false, Option.bind_some, JO.run]; exact k
   | true =>
    simp only [cond_true, Bool.and_self, trapped_i, Option.bind_some, JO.run]
    rw [← ho]; rfl
end
end Go.Proofs.Ythbefahhpikcaaa
