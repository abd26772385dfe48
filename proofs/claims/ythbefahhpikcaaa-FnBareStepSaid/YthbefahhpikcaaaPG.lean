/- A step of the machine: the program and the model do the same. -/
import Derived.Test.YthbefahhpikcaaaPV
import Derived.Test.YthbefahhpikcaaaPT
import Derived.Test.YthbefahhpikcaaaWP2
namespace Go.Proofs.Ythbefahhpikcaaa
set_option linter.all false
namespace M
def reg (c : DCore) (k : Int) : Int := c.Regs.getD k.toNat default
def trap (c : DCore) (src cause bad : Int) : DCore := ⟨c.Regs, c.Vector, c.Root, c.Vector, src, c.User, cause, bad, c.Timer, c.Waits, false, false, c.Stopped⟩
def tick (c : DCore) : DCore := bif decide (c.Timer = 0) then c else ⟨c.Regs, c.Pc, c.Root, c.Vector, c.Saved, c.SavedUser, c.Cause, c.Bad, c.Timer - 1, (bif decide (c.Timer - 1 = 0) then true else c.Waits), c.User, c.On, c.Stopped⟩
def ins (w : Int) : DIns := ⟨w / 256, w / 64 % 4, w % 64⟩
def kern (op : Int) : Bool := decide (op = 0) || inR 8 14 op
def at_ (c : DCore) (pc : Int) : DCore := ⟨c.Regs, pc, c.Root, c.Vector, c.Saved, c.SavedUser, c.Cause, c.Bad, c.Timer, c.Waits, c.User, c.On, c.Stopped⟩
def go (c : DCore) : DCore := at_ c ((c.Pc + 1) % 64)
def put (c : DCore) (a w : Int) : DCore := ⟨c.Regs.set a.toNat w, c.Pc, c.Root, c.Vector, c.Saved, c.SavedUser, c.Cause, c.Bad, c.Timer, c.Waits, c.User, c.On, c.Stopped⟩
def with_ (b : DBare) (c : DCore) : DBare := ⟨c, b.Mem, b.In, b.Out⟩
def root (w : Int) : Int := bif decide (w % 16 < 8) then w % 16 else -1
def first (xs : List Int) : Int := xs.getD 0 default
def cin (b : DBare) (k : Int) : Int := bif decide (k = 1) then b.C.Cause else bif decide (k = 2) then b.C.Bad else bif decide (k = 3) then b.C.Saved else first b.In
def rest (xs : List Int) (k : Int) : List Int := bif decide (k = 0) then xs.drop 1 else xs
def kdo (b : DBare) (i : DIns) : DBare :=
 bif decide (i.Op = 0) then with_ b ⟨b.C.Regs, b.C.Pc, b.C.Root, b.C.Vector, b.C.Saved, b.C.SavedUser, b.C.Cause, b.C.Bad, b.C.Timer, b.C.Waits, b.C.User, b.C.On, true⟩
 else bif decide (i.Op = 8) then with_ b (go ⟨b.C.Regs, b.C.Pc, root (reg b.C i.A), b.C.Vector, b.C.Saved, b.C.SavedUser, b.C.Cause, b.C.Bad, b.C.Timer, b.C.Waits, b.C.User, b.C.On, b.C.Stopped⟩)
 else bif decide (i.Op = 9) then with_ b (go ⟨b.C.Regs, b.C.Pc, b.C.Root, reg b.C i.A % 64, b.C.Saved, b.C.SavedUser, b.C.Cause, b.C.Bad, b.C.Timer, b.C.Waits, b.C.User, b.C.On, b.C.Stopped⟩)
 else bif decide (i.Op = 10) then with_ b (go ⟨b.C.Regs, b.C.Pc, b.C.Root, b.C.Vector, b.C.Saved, b.C.SavedUser, b.C.Cause, b.C.Bad, reg b.C i.A, b.C.Waits, b.C.User, b.C.On, b.C.Stopped⟩)
 else bif decide (i.Op = 11) then with_ b ⟨b.C.Regs, b.C.Saved, b.C.Root, b.C.Vector, b.C.Saved, b.C.SavedUser, b.C.Cause, b.C.Bad, b.C.Timer, b.C.Waits, b.C.SavedUser, true, b.C.Stopped⟩
 else bif decide (i.Op = 12) then with_ b (go ⟨b.C.Regs, b.C.Pc, b.C.Root, b.C.Vector, b.C.Saved, b.C.SavedUser, b.C.Cause, b.C.Bad, b.C.Timer, b.C.Waits, b.C.User, decide (i.N % 2 = 1), b.C.Stopped⟩)
 else bif decide (i.Op = 13) then ⟨go b.C, b.Mem, b.In, bif decide (b.Out.length < 30) then b.Out ++ [reg b.C i.A] else b.Out⟩
 else ⟨go (put b.C i.A (cin b (i.N % 4))), b.Mem, rest b.In (i.N % 4), b.Out⟩
def plain (c : DCore) (i : DIns) : DCore :=
 bif decide (i.Op = 1) then go (put c i.A i.N)
 else bif decide (i.Op = 2) then go (put c i.A ((reg c i.A + reg c (i.N % 4)) % 4096))
 else bif decide (i.Op = 15) then go (put c i.A ((reg c i.A - reg c (i.N % 4) + 4096) % 4096))
 else bif decide (i.Op = 5) then at_ c i.N
 else bif decide (i.Op = 6) then bif decide (reg c i.A = 0) then go c else at_ c i.N
 else trap c ((c.Pc + 1) % 64) 1 0
def mdo (b : DBare) (i : DIns) : DBare :=
 bif decide (walk b.Mem b.C.Root (reg b.C (i.N % 4) % 64) b.C.User (decide (i.Op = 4)) = -1) then with_ b (trap b.C b.C.Pc 2 (reg b.C (i.N % 4) % 64))
 else bif decide (i.Op = 3) then with_ b (go (put b.C i.A (b.Mem.getD (walk b.Mem b.C.Root (reg b.C (i.N % 4) % 64) b.C.User false).toNat default)))
 else ⟨go b.C, b.Mem.set (walk b.Mem b.C.Root (reg b.C (i.N % 4) % 64) b.C.User true).toNat (reg b.C i.A), b.In, b.Out⟩
def did (b : DBare) (i : DIns) : DBare :=
 bif kern i.Op then bif b.C.User then with_ b (trap b.C b.C.Pc 3 0) else kdo b i
 else bif decide (i.Op = 3) || decide (i.Op = 4) then mdo b i else with_ b (plain b.C i)
def quiet (c : DCore) : DCore := ⟨c.Regs, c.Pc, c.Root, c.Vector, c.Saved, c.SavedUser, c.Cause, c.Bad, c.Timer, false, c.User, c.On, c.Stopped⟩
def step (b : DBare) : DBare :=
 bif b.C.Stopped then b
 else bif (tick b.C).Waits && (tick b.C).On then with_ b (trap (quiet (tick b.C)) (tick b.C).Pc 4 0)
 else bif decide (walk b.Mem (tick b.C).Root (tick b.C).Pc (tick b.C).User false = -1) then with_ b (trap (tick b.C) (tick b.C).Pc 2 (tick b.C).Pc)
 else did (with_ b (tick b.C)) (ins (b.Mem.getD (walk b.Mem (tick b.C).Root (tick b.C).Pc (tick b.C).User false).toNat default))
end M
theorem over_all {xs : List Int} : over (List.replicate (Int.toNat ((xs.length : Nat) : Int)) (0 : Int)) 0 (List.length (List.replicate (Int.toNat ((xs.length : Nat) : Int)) (0 : Int))) xs = xs := by
 simp [over]
theorem copied_i {xs : List Int} (h : xs.length ≤ 1048576) : F_impl_copied xs = some xs := by
 unfold F_impl_copied
 rw [grd_t ⟨by omega, by omega, by omega⟩, over_all]
theorem changed_i {xs : List Int} {a w : Int} (h : xs.length ≤ 1048576) (h0 : 0 ≤ a) (h1 : a < (xs.length : Int)) : F_impl_changed xs a w = some (xs.set a.toNat w) := by
 unfold F_impl_changed
 rw [copied_i h, Option.bind_some, grd_t ⟨h0, h1⟩]
theorem nextPlace_i {pc : Int} (h0 : 0 ≤ pc) (h1 : pc ≤ 63) : F_impl_nextPlace pc = some ((pc + 1) % 64) := by
 unfold F_impl_nextPlace
 rw [w64_in (by omega) (by omega), Int.tmod_eq_emod_of_nonneg (by omega)]
theorem wentOn_i {b : DBare} (h0 : 0 ≤ b.C.Pc) (h1 : b.C.Pc ≤ 63) : F_impl_wentOn b = some (M.with_ b (M.go b.C)) := by
 unfold F_impl_wentOn
 rw [nextPlace_i h0 h1]; rfl
theorem insOk_i (x : DIns) : F_impl_InsOk x = some (M.insOk x) := by
 unfold F_impl_InsOk
 simp only [M.insOk, M.inR]
 rw [show (4 : Int) = 3 + 1 from rfl, show (64 : Int) = 63 + 1 from rfl, lt_le, lt_le]
 cases decide (0 ≤ x.Op) <;> cases decide (0 ≤ x.A) <;> cases decide (0 ≤ x.N) <;> cases decide (x.Op ≤ 15) <;> cases decide (x.A ≤ 3) <;> cases decide (x.N ≤ 63) <;> rfl
theorem op_cases {k : Int} (h0 : 0 ≤ k) (h1 : k ≤ 15) : k = 0 ∨ k = 1 ∨ k = 2 ∨ k = 3 ∨ k = 4 ∨ k = 5 ∨ k = 6 ∨ k = 7 ∨ k = 8 ∨ k = 9 ∨ k = 10 ∨ k = 11 ∨ k = 12 ∨ k = 13 ∨ k = 14 ∨ k = 15 := by omega
theorem insKernel_i {x : DIns} (h : M.insOk x = true) : F_impl_InsKernel x = some (M.kern x.Op) := by
 unfold F_impl_InsKernel
 rw [insOk_i, h]
 obtain ⟨op, a, n⟩ := x
 simp only [M.insOk, Bool.and_eq_true, M.inR_iff] at h
 rcases op_cases h.1.1.1 h.1.1.2 with e | e | e | e | e | e | e | e | e | e | e | e | e | e | e | e <;> subst e <;> rfl
theorem insKernel_s {x : DIns} (h : M.insOk x = true) : F_spec_InsKernel x = some (M.kern x.Op) := by
 unfold F_spec_InsKernel
 rw [insOk_s, h, l1In_s]
 simp only [Option.bind_some, cond_true, M.kern]
 cases decide (x.Op = 0) <;> rfl
theorem insFrom_i {w : Int} (h0 : 0 ≤ w) (h1 : w ≤ 4095) : F_impl_InsFrom w = some (M.ins w) := by
 unfold F_impl_InsFrom
 rw [wordOk_i, show M.wordOk w = true from M.inR_iff.2 ⟨h0, h1⟩]
 simp only [Option.bind_some, Bool.not_true, cond_false]
 rw [(div_in h0 h1 (k := 256) (by omega)).1, (div_in h0 h1 (k := 64) (by omega)).1, Int.tmod_eq_emod_of_nonneg (div_in h0 h1 (k := 64) (by omega)).2, Int.tmod_eq_emod_of_nonneg h0]
 rfl
theorem insFrom_s {w : Int} (h0 : 0 ≤ w) (h1 : w ≤ 4095) : F_spec_InsFrom w = some (M.ins w) := by
 unfold F_spec_InsFrom
 rw [wordOk_s, show M.wordOk w = true from M.inR_iff.2 ⟨h0, h1⟩]
 simp only [Option.bind_some, Bool.not_true, cond_false]
 rw [(div_in h0 h1 (k := 256) (by omega)).1, (div_in h0 h1 (k := 64) (by omega)).1, Int.tmod_eq_emod_of_nonneg (div_in h0 h1 (k := 64) (by omega)).2, Int.tmod_eq_emod_of_nonneg h0]
 rfl
theorem ins_ok {w : Int} (h0 : 0 ≤ w) (h1 : w ≤ 4095) : M.insOk (M.ins w) = true := by
 simp only [M.insOk, M.ins, Bool.and_eq_true, M.inR_iff]; omega
structure BOk (b : DBare) : Prop where
 regs : b.C.Regs.length = 4
 words : M.wordsOk b.C.Regs = true
 pc : 0 ≤ b.C.Pc ∧ b.C.Pc ≤ 63
 vec : 0 ≤ b.C.Vector ∧ b.C.Vector ≤ 63
 sav : 0 ≤ b.C.Saved ∧ b.C.Saved ≤ 63
 bad : 0 ≤ b.C.Bad ∧ b.C.Bad ≤ 63
 root : -1 ≤ b.C.Root ∧ b.C.Root ≤ 7
 cause : 0 ≤ b.C.Cause ∧ b.C.Cause ≤ 4
 timer : 0 ≤ b.C.Timer ∧ b.C.Timer ≤ 4095
 mem : M.memOk b.Mem = true
 inn : b.In.length ≤ 30
 inw : M.wordsOk b.In = true
 out : b.Out.length ≤ 30
 outw : M.wordsOk b.Out = true
theorem bOk_iff {b : DBare} : M.bareOk b = true ↔ BOk b := by
 simp only [M.bareOk, M.coreOk, M.rowOk, M.wordOk, Bool.and_eq_true, decide_eq_true_eq, M.inR_iff]
 constructor
 · rintro ⟨⟨⟨⟨⟨⟨⟨⟨a1, a2⟩, ⟨⟨a3, a4⟩, a5⟩, a6⟩, a7⟩, a8⟩, a9⟩, a10⟩, a11, a12⟩, a13, a14⟩
   exact ⟨a1, a2, a3, a4, a5, a6, a7, a8, a9, a10, a11, a12, a13, a14⟩
 · rintro ⟨a1, a2, a3, a4, a5, a6, a7, a8, a9, a10, a11, a12, a13, a14⟩
   exact ⟨⟨⟨⟨⟨⟨⟨⟨a1, a2⟩, ⟨⟨a3, a4⟩, a5⟩, a6⟩, a7⟩, a8⟩, a9⟩, a10⟩, a11, a12⟩, a13, a14⟩
theorem BOk.len {b : DBare} (h : BOk b) : b.Mem.length = 64 := memOk_len h.mem
theorem BOk.reg {b : DBare} (h : BOk b) {k : Int} (h0 : 0 ≤ k) (h1 : k < 4) : 0 ≤ M.reg b.C k ∧ M.reg b.C k ≤ 4095 := wordsOk_get h.words (by have := h.regs; omega)
section
variable {b : DBare} {op a n : Int}
theorem BOk.gA (hb : BOk b) (h0 : 0 ≤ a) (h1 : a ≤ 3) : 0 ≤ a ∧ a < ((b.C.Regs.length : Nat) : Int) := by have := hb.regs; omega
theorem tmod4 (h0 : 0 ≤ n) : Int.tmod n 4 = n % 4 := Int.tmod_eq_emod_of_nonneg h0
theorem trapped_i (c : DCore) (cause bad src : Int) : F_impl_trapped c cause bad src = some (M.trap c src cause bad) := rfl
theorem trap_s (c : DCore) (src cause bad : Int) : F_spec_l3Trap c src cause bad = some (M.trap c src cause bad) := rfl
theorem faulted_i (b : DBare) (addr : Int) : F_impl_faulted b addr = some (M.with_ b (M.trap b.C b.C.Pc 2 addr)) := rfl
theorem addressOf_i (hb : BOk b) (h0 : 0 ≤ n) : F_impl_addressOf b.C ⟨op, a, n⟩ = some (M.reg b.C (n % 4) % 64) := by
 unfold F_impl_addressOf
 simp only [tmod4 h0]
 rw [grd_t (hb.gA (by omega) (by omega)), show b.C.Regs.getD (n % 4).toNat default = M.reg b.C (n % 4) from rfl, Int.tmod_eq_emod_of_nonneg (hb.reg (by omega) (by omega)).1]
theorem walk_lt (mem : List Int) (root addr : Int) (user write : Bool) (h : ¬ M.walk mem root addr user write = -1) : 0 ≤ M.walk mem root addr user write ∧ M.walk mem root addr user write < 64 := by
 rcases walk_cases mem root addr user write with h1 | ⟨_, _, _, h2, h3, _⟩
 · exact absurd h1 h
 · exact ⟨h2, h3⟩
theorem wo_i (hb : BOk b) (rs ro v ti on m i ou) : F_impl_wentOn ⟨⟨rs, b.C.Pc, ro, v, b.C.Saved, b.C.SavedUser, b.C.Cause, b.C.Bad, ti, b.C.Waits, b.C.User, on, b.C.Stopped⟩, m, i, ou⟩ = some ⟨⟨rs, (b.C.Pc + 1) % 64, ro, v, b.C.Saved, b.C.SavedUser, b.C.Cause, b.C.Bad, ti, b.C.Waits, b.C.User, on, b.C.Stopped⟩, m, i, ou⟩ :=
 wentOn_i (b := ⟨⟨rs, b.C.Pc, ro, v, b.C.Saved, b.C.SavedUser, b.C.Cause, b.C.Bad, ti, b.C.Waits, b.C.User, on, b.C.Stopped⟩, m, i, ou⟩) hb.pc.1 hb.pc.2
theorem wm_i (hb : BOk b) (m) : F_impl_wentOn ⟨b.C, m, b.In, b.Out⟩ = some ⟨M.go b.C, m, b.In, b.Out⟩ := wentOn_i (b := ⟨b.C, m, b.In, b.Out⟩) hb.pc.1 hb.pc.2
theorem loaded_i (hb : BOk b) (a0 : 0 ≤ a) (a1 : a ≤ 3) (n0 : 0 ≤ n) : F_impl_loaded b ⟨3, a, n⟩ = some (M.mdo b ⟨3, a, n⟩) := by
 unfold F_impl_loaded M.mdo
 have hl := hb.len
 rw [addressOf_i hb n0]
 simp only [Option.bind_some, walk_i (mem := b.Mem) (by omega)]
 simp only [decide_true, Int.reduceEq, decide_false]
 by_cases h : M.walk b.Mem b.C.Root (M.reg b.C (n % 4) % 64) b.C.User false = -1
 · rw [decide_eq_true h]; rfl
 · have hw := walk_lt _ _ _ _ _ h
   rw [decide_eq_false h]
   simp only [cond_false, cond_true]
   rw [grd_t ⟨hw.1, by omega⟩, changed_i (by have := hb.regs; omega) a0 (hb.gA a0 a1).2]
   simp only [Option.bind_some]
   rw [wo_i hb]; rfl
theorem stored_i (hb : BOk b) (a0 : 0 ≤ a) (a1 : a ≤ 3) (n0 : 0 ≤ n) : F_impl_stored b ⟨4, a, n⟩ = some (M.mdo b ⟨4, a, n⟩) := by
 unfold F_impl_stored M.mdo
 have hl := hb.len
 rw [addressOf_i hb n0]
 simp only [Option.bind_some, walk_i (mem := b.Mem) (by omega)]
 simp only [decide_true, Int.reduceEq, decide_false]
 by_cases h : M.walk b.Mem b.C.Root (M.reg b.C (n % 4) % 64) b.C.User true = -1
 · rw [decide_eq_true h]; rfl
 · have hw := walk_lt _ _ _ _ _ h
   rw [decide_eq_false h]
   simp only [cond_false]
   rw [grd_t (hb.gA a0 a1), changed_i (by omega) hw.1 (by omega)]
   simp only [Option.bind_some]
   rw [wm_i hb]; rfl
theorem jumped_i (hb : BOk b) (a0 : 0 ≤ a) (a1 : a ≤ 3) (ho : op = 5 ∨ op = 6) : F_impl_jumped b ⟨op, a, n⟩ = some (M.with_ b (M.plain b.C ⟨op, a, n⟩)) := by
 unfold F_impl_jumped
 rcases ho with rfl | rfl
 · rfl
 · simp only [decide_true, cond_true]
   rw [grd_t (hb.gA a0 a1), show b.C.Regs.getD a.toNat default = M.reg b.C a from rfl]
   by_cases h : M.reg b.C a = 0
   · rw [decide_eq_true h, wentOn_i hb.pc.1 hb.pc.2]
     simp only [M.plain, decide_eq_true h]; rfl
   · simp only [M.plain, decide_eq_false h]; rfl
theorem counted_i (hb : BOk b) (a0 : 0 ≤ a) (a1 : a ≤ 3) (n0 : 0 ≤ n) : F_impl_counted b.C.Regs ⟨op, a, n⟩ = some (bif decide (op = 2) then (M.reg b.C a + M.reg b.C (n % 4)) % 4096 else bif decide (op = 15) then (M.reg b.C a - M.reg b.C (n % 4) + 4096) % 4096 else n) := by
 unfold F_impl_counted
 have g1 := hb.reg a0 (by omega)
 have g2 := hb.reg (k := n % 4) (by omega) (by omega)
 simp only [tmod4 n0]
 rw [grd_t (hb.gA (by omega) (by omega)), grd_t (hb.gA a0 a1), grd_t (hb.gA a0 a1), show b.C.Regs.getD a.toNat default = M.reg b.C a from rfl, show b.C.Regs.getD (n % 4).toNat default = M.reg b.C (n % 4) from rfl,
  w64_in (z := M.reg b.C a + M.reg b.C (n % 4)) (by omega) (by omega), w64_in (z := M.reg b.C a - M.reg b.C (n % 4)) (by omega) (by omega), w64_in (z := M.reg b.C a - M.reg b.C (n % 4) + 4096) (by omega) (by omega), Int.tmod_eq_emod_of_nonneg (by omega), Int.tmod_eq_emod_of_nonneg (by omega)]
 cases decide (op = 2) <;> cases decide (op = 15) <;> rfl
theorem didOpen_i (hb : BOk b) (o0 : 0 ≤ op) (o1 : op ≤ 15) (a0 : 0 ≤ a) (a1 : a ≤ 3) (n0 : 0 ≤ n) (hk : M.kern op = false) : F_impl_didOpen b ⟨op, a, n⟩ = some (M.did b ⟨op, a, n⟩) := by
 have ch : ∀ w, F_impl_changed b.C.Regs a w = some (b.C.Regs.set a.toNat w) := fun w => changed_i (by have := hb.regs; omega) a0 (hb.gA a0 a1).2
 unfold F_impl_didOpen
 rcases op_cases o0 o1 with e | e | e | e | e | e | e | e | e | e | e | e | e | e | e | e <;> subst e <;> first | (exact absurd hk (by decide)) | simp only [Int.reduceEq, decide_true, decide_false, cond_true, cond_false, Option.bind_some, JO.run, F_impl_didOpen_j5]
 · rw [counted_i hb a0 a1 n0, Option.bind_some, ch, Option.bind_some, wo_i hb]; rfl
 · rw [counted_i hb a0 a1 n0, Option.bind_some, ch, Option.bind_some, wo_i hb]; rfl
 · rw [loaded_i hb a0 a1 n0]; rfl
 · rw [stored_i hb a0 a1 n0]; rfl
 · rw [jumped_i hb a0 a1 (.inl rfl)]; rfl
 · rw [jumped_i hb a0 a1 (.inr rfl)]; rfl
 · rw [nextPlace_i hb.pc.1 hb.pc.2]; rfl
 · rw [counted_i hb a0 a1 n0, Option.bind_some, ch, Option.bind_some, wo_i hb]; rfl
end
end Go.Proofs.Ythbefahhpikcaaa
