/- The reader of a code (spec.l20Rd): what pick, odd and word give, whatever the code is. -/
import Derived.Test.YtfgfekkengennaaC2
import Derived.Deep.QuietTactic
import Derived.BigQuiet
import Derived.Lib.Hide
namespace Go.Proofs.Ytfgfekkengennaa
open Go.ChangeShapes Go.WideShapes Go.ChangeAt Go.RowKit

/-- Block b is a reader: a code of at most 2000 bytes, which lies in another block, and a place that is at most p. -/
structure RdAt (w : World) (b : Nat) (s : Option Addr) (len cap q : Nat) : Prop where
  blk : w.heap[b]? = some (.cells #[.slice s len cap, .int .i64 q] 45 (0, 0))
  few : len ≤ 2000
  byte : ∀ i, i < len → ∃ sb so z, s = some ⟨sb, so, none⟩ ∧ sb < b ∧ w.cell? ⟨sb, so + i, none⟩ = some (.int .u8 z) ∧ 0 ≤ z ∧ z ≤ 255

set_option maxHeartbeats 400000 in
theorem pick_zero {b len cap q : Nat} {s : Option Addr} {w : World} (h : RdAt w b s len cap q) (hq : q ≤ 1000000000) (n : Int) (hn : n < 1) :
    Calls Try.prog 33 #[.pointer (some ⟨b, 0, none⟩), .int .i64 n] w fun e w' => e = .returned (.int .i64 0) ∧ w' = w.setCell ⟨b, 1, none⟩ (.int .i64 (q + 1)) := by
  have c0 : w.cell? ⟨b, 0, none⟩ = some (.slice s len cap) := by simp [World.cell?, h.blk]
  have c1 : w.cell? ⟨b, 1, none⟩ = some (.int .i64 q) := by simp [World.cell?, h.blk]
  have f1 : w.frozen? ⟨b, 1, none⟩ = false := by simp [World.frozen?, h.blk]
  clear h
  go_enter Try.func33, Try.ntmps33
  go_wp2
  go_ret
  exact ⟨rfl, rfl⟩

set_option maxHeartbeats 400000 in
theorem pick_none {b cap q : Nat} {s : Option Addr} {w : World} (h : RdAt w b s 0 cap q) (hq : q ≤ 1000000000) (n : Int) (hn : 1 ≤ n) :
    Calls Try.prog 33 #[.pointer (some ⟨b, 0, none⟩), .int .i64 n] w fun e w' => e = .returned (.int .i64 0) ∧ w' = w.setCell ⟨b, 1, none⟩ (.int .i64 (q + 1)) := by
  have c0 : w.cell? ⟨b, 0, none⟩ = some (.slice s 0 cap) := by simp [World.cell?, h.blk]
  have c1 : w.cell? ⟨b, 1, none⟩ = some (.int .i64 q) := by simp [World.cell?, h.blk]
  have f1 : w.frozen? ⟨b, 1, none⟩ = false := by simp [World.frozen?, h.blk]
  clear h
  go_enter Try.func33, Try.ntmps33
  go_wp2
  go_ret
  exact ⟨rfl, rfl⟩

set_option maxHeartbeats 400000 in
theorem pick_byte {b len cap q : Nat} {s : Option Addr} {w : World} (h : RdAt w b s len cap q) (hq : q ≤ 1000000000) (hl : q < len) (n : Int) (hn : 1 ≤ n) :
    Calls Try.prog 33 #[.pointer (some ⟨b, 0, none⟩), .int .i64 n] w fun e w' => (∃ v : Int, 0 ≤ v ∧ v < n ∧ e = .returned (.int .i64 v)) ∧ w' = w.setCell ⟨b, 1, none⟩ (.int .i64 (q + 1)) := by
  have c0 : w.cell? ⟨b, 0, none⟩ = some (.slice s len cap) := by simp [World.cell?, h.blk]
  have c1 : w.cell? ⟨b, 1, none⟩ = some (.int .i64 q) := by simp [World.cell?, h.blk]
  have f1 : w.frozen? ⟨b, 1, none⟩ = false := by simp [World.frozen?, h.blk]
  obtain ⟨sb, so, z, rfl, hlt, hz, z0, z1⟩ := h.byte q hl
  have hne : sb ≠ b := by omega
  have hne' : b ≠ sb := fun e => hne e.symm
  clear hlt
  have hl0 : ((len : Int) == 0) = false := by simp; omega
  have fw := h.few
  clear h
  go_enter Try.func33, Try.ntmps33
  go_wp2
  go_ret
  exact ⟨⟨z % n, Int.emod_nonneg _ (by omega), Int.emod_lt_of_pos _ (by omega), rfl⟩, rfl⟩


theorem xor_nonneg (x y : Int) (x0 : 0 ≤ x) (x1 : x < 4611686018427387904) (y0 : 0 ≤ y) (y1 : y < 4611686018427387904) : 0 ≤ bits .xor .i64 x y := by
  obtain ⟨a, rfl⟩ := Int.eq_ofNat_of_zero_le x0
  obtain ⟨b, rfl⟩ := Int.eq_ofNat_of_zero_le y0
  have hx : a ^^^ b < 2 ^ 62 := Nat.xor_lt_two_pow (by omega) (by omega)
  have h1 : (BitVec.ofInt 64 (a : Int)).toNat = a := by
    rw [BitVec.ofInt_natCast, BitVec.toNat_ofNat]; exact Nat.mod_eq_of_lt (by omega)
  have h2 : (BitVec.ofInt 64 (b : Int)).toNat = b := by
    rw [BitVec.ofInt_natCast, BitVec.toNat_ofNat]; exact Nat.mod_eq_of_lt (by omega)
  show 0 ≤ IntKind.i64.wrap ((BitVec.ofInt 64 (a : Int) ^^^ BitVec.ofInt 64 (b : Int)).toNat : Int)
  rw [BitVec.toNat_xor, h1, h2, IntKind.wrap_i64]
  omega

set_option maxHeartbeats 800000 in
theorem pick_far {b len cap q : Nat} {s : Option Addr} {w : World} (h : RdAt w b s len cap q) (hq : q ≤ 1000000000) (hlen : 0 < len) (hl : len ≤ q) (n : Int) (hn : 1 ≤ n) :
    Calls Try.prog 33 #[.pointer (some ⟨b, 0, none⟩), .int .i64 n] w fun e w' => (∃ v : Int, 0 ≤ v ∧ v < n ∧ e = .returned (.int .i64 v)) ∧ ∃ k, w' = (w.setCell ⟨b, 1, none⟩ (.int .i64 (q + 1))).drewN k := by
  have c0 : w.cell? ⟨b, 0, none⟩ = some (.slice s len cap) := by simp [World.cell?, h.blk]
  have c1 : w.cell? ⟨b, 1, none⟩ = some (.int .i64 q) := by simp [World.cell?, h.blk]
  have f1 : w.frozen? ⟨b, 1, none⟩ = false := by simp [World.frozen?, h.blk]
  have m1 : q % len < len := Nat.mod_lt _ hlen
  have m2 : (q * 7 + 3) % len < len := Nat.mod_lt _ hlen
  obtain ⟨sb, so, z, rfl, hlt, hz, z0, z1⟩ := h.byte _ m1
  have hne : sb ≠ b := by omega
  obtain ⟨sb', so', y, e, _, hy, y0, y1⟩ := h.byte _ m2
  simp only [Option.some.injEq, Addr.mk.injEq, and_true] at e
  obtain ⟨rfl, rfl⟩ := e
  have hne' : b ≠ sb := fun e => hne e.symm
  clear hlt
  have hl0 : ((len : Int) == 0) = false := by simp; omega
  have fw := h.few
  have r1 : 0 ≤ (q : Int) % (len : Int) := Int.emod_nonneg _ (by omega)
  have r2 : (q : Int) % (len : Int) < (len : Int) := Int.emod_lt_of_pos _ (by omega)
  have r3 : 0 ≤ ((q : Int) * 7 + 3) % (len : Int) := Int.emod_nonneg _ (by omega)
  have r4 : ((q : Int) * 7 + 3) % (len : Int) < (len : Int) := Int.emod_lt_of_pos _ (by omega)
  have hz' : w.cell? ⟨sb, so + ((q : Int) % (len : Int)).toNat, none⟩ = some (.int .u8 z) := by
    have : ((q : Int) % (len : Int)).toNat = q % len := Int.toNat_natCast (q % len)
    rw [this]; exact hz
  have hy' : w.cell? ⟨sb, so + (((q : Int) * 7 + 3) % (len : Int)).toNat, none⟩ = some (.int .u8 y) := by
    have : (((q : Int) * 7 + 3) % (len : Int)).toNat = (q * 7 + 3) % len := Int.toNat_natCast ((q * 7 + 3) % len)
    rw [this]; exact hy
  have r5 : 0 ≤ (q : Int) / (len : Int) := Int.ediv_nonneg (by omega) (by omega)
  have r6 : (q : Int) / (len : Int) ≤ q := Int.ediv_le_self _ (by omega)
  clear h
  go_enter Try.func33, Try.ntmps33
  go_wp2
  go_quiet (fail)
  go_wp2
  go_ret
  go_light
  have hb := xor_nonneg (z * 131 + y * 1117 + q * 29 + (q : Int) / (len : Int) * 53) ((z * 131 + y * 1117 + q * 29 + (q : Int) / (len : Int) * 53) / 64) (by omega) (by omega) (by omega) (by omega)
  exact ⟨⟨_, Int.tmod_nonneg _ hb, Int.tmod_lt_of_pos _ (by omega), rfl⟩, nq, rfl⟩

/-- Whatever its place, up to p. -/
inductive Rd (w : World) (b p : Nat) : Prop
  | at (s : Option Addr) (len cap q : Nat) (h : RdAt w b s len cap q) (hq : q ≤ p) : Rd w b p

/-- Block b alone has turned. -/
structure Only (b : Nat) (w w' : World) : Prop where
  os : w'.os = w.os
  tape : w'.tape = w.tape
  output : w'.output = w.output
  size : w'.heap.size = w.heap.size
  block : ∀ k, k ≠ b → w'.heap[k]? = w.heap[k]?

theorem Only.refl (b : Nat) (w : World) : Only b w w := ⟨rfl, rfl, rfl, rfl, fun _ _ => rfl⟩
theorem Only.trans {b : Nat} {u v w : World} (h : Only b u v) (k : Only b v w) : Only b u w :=
  ⟨k.os.trans h.os, k.tape.trans h.tape, k.output.trans h.output, k.size.trans h.size, fun i hi => (k.block i hi).trans (h.block i hi)⟩
theorem Only.drewN {b : Nat} {u v : World} (h : Only b u v) (n : Nat) : Only b u (v.drewN n) := ⟨h.os, h.tape, h.output, h.size, h.block⟩
theorem Only.setCell (b o : Nat) (w : World) (v : Value) : Only b w (w.setCell ⟨b, o, none⟩ v) :=
  ⟨rfl, rfl, rfl, by simp [World.setCell], fun k hk => Below.heap_setCell _ _ _ _ hk⟩
theorem Only.below {b B : Nat} {u v : World} (h : Only b u v) (hB : B ≤ b) : Below B u v :=
  ⟨h.os, h.tape, h.output, by rw [h.size]; exact Nat.le_refl _, fun k hk => h.block k (by omega)⟩

theorem Rd.mono {w : World} {b p p' : Nat} (h : Rd w b p) (hp : p ≤ p') : Rd w b p' := by
  obtain ⟨s, len, cap, q, hr, hq⟩ := h
  exact ⟨s, len, cap, q, hr, by omega⟩

theorem Rd.below {w w' : World} {b p : Nat} (h : Rd w b p) (hb : Below (b + 1) w w') : Rd w' b p := by
  obtain ⟨s, len, cap, q, hr, hq⟩ := h
  refine ⟨s, len, cap, q, ⟨(hb.block b (by omega)).trans hr.blk, hr.few, fun i hi => ?_⟩, hq⟩
  obtain ⟨sb, so, z, e, hlt, hz, h0, h1⟩ := hr.byte i hi
  exact ⟨sb, so, z, e, hlt, (hb.cell (p := ⟨sb, so + i, none⟩) (show sb < b + 1 by omega)).trans hz, h0, h1⟩

theorem RdAt.next {w w' : World} {b len cap q : Nat} {s : Option Addr} (h : RdAt w b s len cap q) (n : Nat) (hw : w' = (w.setCell ⟨b, 1, none⟩ (.int .i64 (q + 1))).drewN n) : RdAt w' b s len cap (q + 1) ∧ Only b w w' := by
  subst hw
  refine ⟨⟨?_, h.few, fun i hi => ?_⟩, (Only.setCell _ _ _ _).drewN _⟩
  · show (w.setCell ⟨b, 1, none⟩ (.int .i64 (q + 1))).heap[b]? = _
    simp only [World.setCell, Array.getElem?_modify, if_true]
    rw [h.blk]
    simp
  · obtain ⟨sb, so, z, e, hlt, hz, h0, h1⟩ := h.byte i hi
    refine ⟨sb, so, z, e, hlt, ?_, h0, h1⟩
    exact (World.cell?_of_block (w := w) (((Only.setCell b 1 w (.int .i64 (q + 1))).drewN n).block sb (by omega))).trans hz

def PickPost (n : Int) (b p : Nat) (w : World) (e : Ending) (w' : World) : Prop :=
  (∃ v : Int, 0 ≤ v ∧ v < n ∧ e = .returned (.int .i64 v)) ∧ Rd w' b p ∧ Only b w w'

theorem pick_any {b p : Nat} {w : World} (h : Rd w b p) (hp : p ≤ 1000000000) (n : Int) (hn : 1 ≤ n) :
    Calls Try.prog 33 #[.pointer (some ⟨b, 0, none⟩), .int .i64 n] w (PickPost n b (p + 1) w) := by
  obtain ⟨s, len, cap, q, hr, hq⟩ := h
  by_cases h0 : len = 0
  · subst h0
    exact (pick_none hr (by omega) n hn).mono fun e w' ⟨he, hw⟩ =>
      ⟨⟨0, by omega, by omega, he⟩, ⟨s, 0, cap, q + 1, (hr.next 0 hw).1, by omega⟩, (hr.next 0 hw).2⟩
  · by_cases hl : q < len
    · exact (pick_byte hr (by omega) hl n hn).mono fun e w' ⟨he, hw⟩ =>
        ⟨he, ⟨s, len, cap, q + 1, (hr.next 0 hw).1, by omega⟩, (hr.next 0 hw).2⟩
    · exact (pick_far hr (by omega) (by omega) (by omega) n hn).mono fun e w' ⟨he, k, hw⟩ =>
        ⟨he, ⟨s, len, cap, q + 1, (hr.next k hw).1, by omega⟩, (hr.next k hw).2⟩

def OddPost (b p : Nat) (w : World) (e : Ending) (w' : World) : Prop :=
  (∃ v : Bool, e = .returned (.bool v)) ∧ Rd w' b p ∧ Only b w w'

theorem odd_any {b p : Nat} {w : World} (h : Rd w b p) (hp : p ≤ 1000000000) (n : Int) (hn : 1 ≤ n) (hn' : n ≤ 1000000) :
    Calls Try.prog 36 #[.pointer (some ⟨b, 0, none⟩), .int .i64 n] w (OddPost b (p + 1) w) := by
  go_enter Try.func36, Try.ntmps36
  go_wp2_with (go_at_call 33; refine (pick_any h hp _ hn).mono ?_; rintro e w1 ⟨⟨v, v0, v1, rfl⟩, h1, o1⟩)
  go_ret
  exact ⟨⟨_, rfl⟩, h1, o1⟩

def IntPost (lo hi : Int) (b p : Nat) (w : World) (e : Ending) (w' : World) : Prop :=
  (∃ v : Int, lo ≤ v ∧ v ≤ hi ∧ e = .returned (.int .i64 v)) ∧ Rd w' b p ∧ Only b w w'

theorem word_any {b p : Nat} {w : World} (h : Rd w b p) (hp : p ≤ 900000000) :
    Calls Try.prog 32 #[.pointer (some ⟨b, 0, none⟩)] w (IntPost 0 4095 b (p + 2) w) := by
  go_enter Try.func32, Try.ntmps32
  go_wp2_with (go_at_call 33; refine (pick_any (by assumption) (by omega) _ (by omega)).mono ?_; rintro e w1 ⟨⟨v, v0, v1, rfl⟩, h1, o1⟩)
  go_ret
  rename_i v' v0' v1' h1' o1'
  exact ⟨⟨_, by omega, by omega, rfl⟩, h1, (by assumption : Only b w _).trans o1⟩
end Go.Proofs.Ytfgfekkengennaa
