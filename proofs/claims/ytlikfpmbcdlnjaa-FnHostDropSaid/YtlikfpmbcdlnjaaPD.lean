/- The draws: a draw's answer lies in its range. -/
import Derived.Test.YtlikfpmbcdlnjaaPF0
import Derived.Test.YtlikfpmbcdlnjaaZY
import Derived.Laws.Bits64
namespace Go.Proofs.Ytlikfpmbcdlnjaa
set_option linter.all false
theorem i64_xor_nat (a b : Nat) (ha : a < 9223372036854775808) (hb : b < 9223372036854775808) : bits .xor .i64 (a : Int) (b : Int) = ((a ^^^ b : Nat) : Int) := by
 have hx : a ^^^ b < 2 ^ 63 := Nat.xor_lt_two_pow (by omega) (by omega)
 have h1 : (BitVec.ofInt 64 (a : Int)).toNat = a := by
  rw [BitVec.ofInt_natCast, BitVec.toNat_ofNat]; exact Nat.mod_eq_of_lt (by omega)
 have h2 : (BitVec.ofInt 64 (b : Int)).toNat = b := by
  rw [BitVec.ofInt_natCast, BitVec.toNat_ofNat]; exact Nat.mod_eq_of_lt (by omega)
 show IntKind.i64.wrap ((BitVec.ofInt 64 (a : Int) ^^^ BitVec.ofInt 64 (b : Int)).toNat : Int) = _
 rw [BitVec.toNat_xor, h1, h2]
 exact wrap_in (by omega) (by omega)
theorem xor_in {a b : Int} (a0 : 0 ≤ a) (a1 : a ≤ 9223372036854775807) (b0 : 0 ≤ b) (b1 : b ≤ 9223372036854775807) : 0 ≤ bits .xor .i64 a b := by
 obtain ⟨x, rfl⟩ := Int.eq_ofNat_of_zero_le a0
 obtain ⟨y, rfl⟩ := Int.eq_ofNat_of_zero_le b0
 rw [i64_xor_nat x y (by omega) (by omega)]
 omega
theorem byte_in {b : List Int} (hb : ∀ x ∈ b, 0 ≤ x ∧ x ≤ 255) (i : Nat) : 0 ≤ b.getD i default ∧ b.getD i default ≤ 255 := by
 by_cases h : i < b.length
 · rw [List.getD, List.getElem?_eq_getElem h]; exact hb _ (List.getElem_mem h)
 · rw [List.getD, List.getElem?_eq_none (by omega)]; exact ⟨by decide, by decide⟩
theorem pick_in {r : Dl20Rd} {n : Int} (hn : 1 ≤ n) (h0 : 0 ≤ r.p) (h1 : r.p ≤ 1000000) (hb : ∀ x ∈ r.b, 0 ≤ x ∧ x ≤ 255) : ∃ v, F___spec_l20Rd__pick r n = some (⟨r.b, r.p + 1⟩, v) ∧ 0 ≤ v ∧ v < n := by
 unfold F___spec_l20Rd__pick
 have e1 : w64 (r.p + 1) = r.p + 1 := w64_in (by omega) (by omega)
 rw [e1, show r.p + 1 - 1 = r.p by omega, w64_in (z := r.p) (by omega) (by omega), decide_eq_false (show ¬ n < 1 by omega), cond_false]
 by_cases hl : ((r.b.length : Nat) : Int) = 0
 · rw [decide_eq_true hl]; exact ⟨_, rfl, by omega, by omega⟩
 · rw [decide_eq_false hl, cond_false]
   have hp : (0 : Int) < ((r.b.length : Nat) : Int) := by omega
   have hn0 : n ≠ 0 := by omega
   by_cases hk : r.p < ((r.b.length : Nat) : Int)
   · rw [decide_eq_true hk, cond_true, grd_t ⟨h0, hk⟩, grd_t hn0]
     have g := byte_in hb r.p.toNat
     rw [wrap_in (by omega) (by omega)]
     exact ⟨_, rfl, tmod_in g.1 (by omega)⟩
   · have e2 : w64 (w64 (r.p * 7) + 3) = r.p * 7 + 3 := by rw [w64_in (z := r.p * 7) (by omega) (by omega), w64_in (by omega) (by omega)]
     rw [decide_eq_false hk, cond_false, e2, grd_t hl, grd_t (tmod_in h0 hp), grd_t hl, grd_t (tmod_in (by omega) hp), grd_t hl, grd_t hn0]
     have g1 := byte_in hb (Int.toNat (Int.tmod r.p ((r.b.length : Nat) : Int)))
     have g2 := byte_in hb (Int.toNat (Int.tmod (r.p * 7 + 3) ((r.b.length : Nat) : Int)))
     generalize r.b.getD (Int.toNat (Int.tmod r.p ((r.b.length : Nat) : Int))) default = X at g1 ⊢
     generalize r.b.getD (Int.toNat (Int.tmod (r.p * 7 + 3) ((r.b.length : Nat) : Int))) default = Y at g2 ⊢
     have q : Int.tdiv r.p ((r.b.length : Nat) : Int) = r.p / ((r.b.length : Nat) : Int) := Int.tdiv_eq_ediv_of_nonneg h0
     have q0 : 0 ≤ r.p / ((r.b.length : Nat) : Int) := Int.ediv_nonneg h0 (by omega)
     have q1 : r.p / ((r.b.length : Nat) : Int) ≤ r.p := Int.ediv_le_self _ h0
     rw [q]
     generalize r.p / ((r.b.length : Nat) : Int) = Q at q0 q1 ⊢
     have k1 : IntKind.wrap .i64 X = X := wrap_in (by omega) (by omega)
     have k2 : IntKind.wrap .i64 Y = Y := wrap_in (by omega) (by omega)
     have k3 : w64 (w64 (w64 (w64 (X * 131) + w64 (Y * 1117)) + w64 (r.p * 29)) + w64 (w64 Q * 53)) = X * 131 + Y * 1117 + r.p * 29 + Q * 53 := by
      rw [w64_in (z := X * 131) (by omega) (by omega), w64_in (z := Y * 1117) (by omega) (by omega), w64_in (z := X * 131 + Y * 1117) (by omega) (by omega), w64_in (z := r.p * 29) (by omega) (by omega), w64_in (z := X * 131 + Y * 1117 + r.p * 29) (by omega) (by omega), w64_in (z := Q) (by omega) (by omega), w64_in (z := Q * 53) (by omega) (by omega), w64_in (by omega) (by omega)]
     rw [k1, k2, k3]
     have a0 : 0 ≤ X * 131 + Y * 1117 + r.p * 29 + Q * 53 := by omega
     have a1 : X * 131 + Y * 1117 + r.p * 29 + Q * 53 ≤ 9223372036854775807 := by omega
     generalize X * 131 + Y * 1117 + r.p * 29 + Q * 53 = A at a0 a1 ⊢
     have d : Int.tdiv A 64 = A / 64 := Int.tdiv_eq_ediv_of_nonneg a0
     rw [d, w64_in (z := A / 64) (by omega) (by omega)]
     exact ⟨_, rfl, tmod_in (xor_in a0 a1 (by omega) (by omega)) (by omega)⟩
structure Rdr (m : Int) (r : Dl20Rd) : Prop where
 b : ∀ x ∈ r.b, 0 ≤ x ∧ x ≤ 255
 p0 : 0 ≤ r.p
 p1 : r.p ≤ m
theorem Rdr.up {m n : Int} {r : Dl20Rd} (h : Rdr m r) (hn : m ≤ n) : Rdr n r := ⟨h.b, h.p0, Int.le_trans h.p1 hn⟩
theorem pick_d {m n : Int} {r : Dl20Rd} (R : Rdr m r) (hm : m ≤ 1000000) (hn : 1 ≤ n) : Ex (F___spec_l20Rd__pick r n) (fun v => Rdr (m + 1) v.1 ∧ 0 ≤ v.2 ∧ v.2 < n) := by
 obtain ⟨b, p0, p1⟩ := R
 obtain ⟨v, h1, h2, h3⟩ := pick_in hn p0 (by omega) b
 exact ⟨_, h1, ⟨b, by show 0 ≤ r.p + 1; omega, by show r.p + 1 ≤ m + 1; omega⟩, h2, h3⟩
theorem word_d {m : Int} {r : Dl20Rd} (R : Rdr m r) (hm : m ≤ 999999) : Ex (F___spec_l20Rd__word r) (fun v => Rdr (m + 2) v.1 ∧ 0 ≤ v.2 ∧ v.2 ≤ 4095) := by
 unfold F___spec_l20Rd__word
 refine Ex.bind (pick_d R (by omega) (by omega)) fun v1 ⟨R1, a1, b1⟩ => ?_
 refine Ex.bind (pick_d R1 (by omega) (by omega)) fun v2 ⟨R2, a2, b2⟩ => ?_
 rw [w64_in (z := v1.2 * 256) (by omega) (by omega), w64_in (by omega) (by omega)]
 exact Ex.ret ⟨R2.up (by omega), by show 0 ≤ v1.2 * 256 + v2.2; omega, by show v1.2 * 256 + v2.2 ≤ 4095; omega⟩
theorem open_d {xs : List Int} (h : ∀ x ∈ xs, 0 ≤ x ∧ x ≤ 255) : Ex (F_spec_l20Open xs) (fun r => Rdr 0 r) := by
 unfold F_spec_l20Open
 refine Ex.join (P := fun s => ∀ x ∈ s, 0 ≤ x ∧ x ≤ 255) ?_ fun s hs => Ex.ret ⟨hs, Int.le_refl _, Int.le_refl _⟩
 refine Ex.cond (fun hc => ?_) fun hc => Ex.ret ⟨_, rfl, h⟩
 have := of_decide_eq_true hc
 exact Ex.grd ⟨by omega, by omega, by omega⟩ (Ex.ret ⟨_, rfl, fun x hx => h x (List.mem_of_mem_drop (List.mem_of_mem_take hx))⟩)
end Go.Proofs.Ytlikfpmbcdlnjaa
