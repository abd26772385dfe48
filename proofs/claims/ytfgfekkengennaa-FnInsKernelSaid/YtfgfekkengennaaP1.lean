/- The promise laws of chapter 1: their walks, whatever the code is. -/
import Derived.Test.YtfgfekkengennaaD2
import Derived.Deep.RegionHeld3
namespace Go.Proofs.Ytfgfekkengennaa
open Go.ChangeShapes Go.WideShapes Go.ChangeAt Go.RowKit

theorem held3 {B : Nat} {x y z : Value} {w u v : World} (h : Below u.heap.size u v)
    (k : u.cell? ⟨B, 0, none⟩ = some x ∧ u.cell? ⟨B, 1, none⟩ = some y ∧ u.cell? ⟨B, 2, none⟩ = some z ∧ B < u.heap.size ∧ Below w.heap.size w u) :
    v.cell? ⟨B, 0, none⟩ = some x ∧ v.cell? ⟨B, 1, none⟩ = some y ∧ v.cell? ⟨B, 2, none⟩ = some z ∧ B < v.heap.size ∧ Below w.heap.size w v :=
  ⟨(h.cell (p := ⟨B, 0, none⟩) k.2.2.2.1).trans k.1, (h.cell (p := ⟨B, 1, none⟩) k.2.2.2.1).trans k.2.1, (h.cell (p := ⟨B, 2, none⟩) k.2.2.2.1).trans k.2.2.1, Nat.lt_of_lt_of_le k.2.2.2.1 h.size, belowStep k.2.2.2.2 h⟩

theorem fnWordOk_big {w : World} {s : Option Addr} {len cap : Nat} (hlen : ¬ len ≤ 1048576) (hm : len ≤ 9223372036854775807) :
    Calls Try.prog 3 #[.slice s len cap] w fun e w' => e = .returned (.bool true) ∧ Below w.heap.size w w' := by
  go_enter Try.func3, Try.ntmps3
  go_wp2
  go_ret
  exact ⟨rfl, Below.refl _ _⟩

theorem fnInsOk_big {w : World} {s : Option Addr} {len cap : Nat} (hlen : ¬ len ≤ 1048576) (hm : len ≤ 9223372036854775807) :
    Calls Try.prog 4 #[.slice s len cap] w fun e w' => e = .returned (.bool true) ∧ Below w.heap.size w w' := by
  go_enter Try.func4, Try.ntmps4
  go_wp2
  go_ret
  exact ⟨rfl, Below.refl _ _⟩

theorem fnInsWord_big {w : World} {s : Option Addr} {len cap : Nat} (hlen : ¬ len ≤ 1048576) (hm : len ≤ 9223372036854775807) :
    Calls Try.prog 5 #[.slice s len cap] w fun e w' => e = .returned (.bool true) ∧ Below w.heap.size w w' := by
  go_enter Try.func5, Try.ntmps5
  go_wp2
  go_ret
  exact ⟨rfl, Below.refl _ _⟩

theorem fnInsFrom_big {w : World} {s : Option Addr} {len cap : Nat} (hlen : ¬ len ≤ 1048576) (hm : len ≤ 9223372036854775807) :
    Calls Try.prog 6 #[.slice s len cap] w fun e w' => e = .returned (.bool true) ∧ Below w.heap.size w w' := by
  go_enter Try.func6, Try.ntmps6
  go_wp2
  go_ret
  exact ⟨rfl, Below.refl _ _⟩

theorem fnInsKernel_big {w : World} {s : Option Addr} {len cap : Nat} (hlen : ¬ len ≤ 1048576) (hm : len ≤ 9223372036854775807) :
    Calls Try.prog 7 #[.slice s len cap] w fun e w' => e = .returned (.bool true) ∧ Below w.heap.size w w' := by
  go_enter Try.func7, Try.ntmps7
  go_wp2
  go_ret
  exact ⟨rfl, Below.refl _ _⟩

theorem fnWordOk_small {w : World} {s : Option Addr} {len cap : Nat} (h : CodeAt w s len cap) (hlen : len ≤ 1048576) :
    Calls Try.prog 3 #[.slice s len cap] w fun e w' => e = .returned (.bool true) ∧ Below w.heap.size w w' := by
  go_enter Try.func3, Try.ntmps3
  go_wp2_with fail
  refine (drawWordOk_any h hlen).mono ?_
  rintro e w1 ⟨⟨v, v0, v1, rfl⟩, hb1⟩
  by_cases hk : M.wordOk v = true
  · have e0 : v / 4096 = 0 := by rw [M.wordOk_iff] at hk; omega
    go_wp2_with (first | (go_at_call 14; refine (impl_WordOk_any _ _).mono ?_; rintro e w' ⟨rfl, rfl⟩) | (go_at_call 15; refine (spec_WordOk_any _ _).mono ?_; rintro e w' ⟨rfl, rfl⟩) | (go_at_call 16; refine (laws_alive_any _).mono ?_; rintro e w' ⟨rfl, rfl⟩))
    go_ret
    exact ⟨rfl, hb1⟩
  · replace hk : M.wordOk v = false := by simpa using hk
    have e0 : ¬ v / 4096 = 0 := by rw [M.wordOk_no] at hk; omega
    have e1 : (v / 4096 == 0) = false := by simpa using e0
    go_wp2_with (first | (go_at_call 14; refine (impl_WordOk_any _ _).mono ?_; rintro e w' ⟨rfl, rfl⟩) | (go_at_call 15; refine (spec_WordOk_any _ _).mono ?_; rintro e w' ⟨rfl, rfl⟩) | (go_at_call 16; refine (laws_alive_any _).mono ?_; rintro e w' ⟨rfl, rfl⟩))
    go_ret
    exact ⟨rfl, hb1⟩

theorem fnInsOk_small {w : World} {s : Option Addr} {len cap : Nat} (h : CodeAt w s len cap) (hlen : len ≤ 1048576) :
    Calls Try.prog 4 #[.slice s len cap] w fun e w' => e = .returned (.bool true) ∧ Below w.heap.size w w' := by
  go_enter Try.func4, Try.ntmps4
  go_wp2_with fail
  refine (drawInsOk_any h hlen).mono ?_
  rintro e w1 ⟨⟨op, a, n, ⟨o1, o2⟩, ⟨a1, a2⟩, ⟨n1, n2⟩, rfl⟩, hb1⟩
  clear h
  have k0 : M.insOk 0 0 0 = true := rfl
  by_cases hk : M.insOk op a n = true
  · have hk0 : M.insOk op 0 0 = true := by rw [M.insOk_iff] at hk ⊢; omega
    go_wp2_with fail
    refine (impl_InsOk_any _ _ _ _).mono ?_
    rintro e w2 ⟨rfl, hb2⟩
    obtain ⟨hc2, hf2⟩ := bcell hb2
    have hz2 := hb2.size
    try simp at hz2
    have z2_0 : w1.heap.size < w2.heap.size := by omega
    go_wp2_with fail
    refine (spec_InsOk_any _ _ _ _).mono ?_
    rintro e w3 ⟨rfl, hb3⟩
    obtain ⟨hc3, hf3⟩ := bcell hb3
    have hz3 := hb3.size
    try simp at hz3
    have z3_0 : w1.heap.size < w3.heap.size := by omega
    go_wp2_with fail
    refine (impl_InsOk_any _ _ _ _).mono ?_
    rintro e w4 ⟨rfl, hb4⟩
    obtain ⟨hc4, hf4⟩ := bcell hb4
    have hz4 := hb4.size
    try simp at hz4
    have z4_0 : w1.heap.size < w4.heap.size := by omega
    go_wp2_with fail
    refine (impl_InsOk_any _ _ _ _).mono ?_
    rintro e w5 ⟨rfl, hb5⟩
    obtain ⟨hc5, hf5⟩ := bcell hb5
    have hz5 := hb5.size
    try simp at hz5
    have z5_0 : w1.heap.size < w5.heap.size := by omega
    go_wp2_with fail
    refine (laws_alive_any _).mono ?_
    rintro e w' ⟨rfl, rfl⟩
    go_wp2
    go_ret
    exact ⟨rfl, by repeat (first | exact Below.refl _ _ | refine belowAlloc ?_ _ | refine belowStep ?_ (by assumption))⟩
  · replace hk : M.insOk op a n = false := by simpa using hk
    go_wp2_with fail
    refine (impl_InsOk_any _ _ _ _).mono ?_
    rintro e w2 ⟨rfl, hb2⟩
    obtain ⟨hc2, hf2⟩ := bcell hb2
    have hz2 := hb2.size
    try simp at hz2
    have z2_0 : w1.heap.size < w2.heap.size := by omega
    go_wp2_with fail
    refine (spec_InsOk_any _ _ _ _).mono ?_
    rintro e w3 ⟨rfl, hb3⟩
    obtain ⟨hc3, hf3⟩ := bcell hb3
    have hz3 := hb3.size
    try simp at hz3
    have z3_0 : w1.heap.size < w3.heap.size := by omega
    go_wp2_with fail
    refine (impl_InsOk_any _ _ _ _).mono ?_
    rintro e w4 ⟨rfl, hb4⟩
    obtain ⟨hc4, hf4⟩ := bcell hb4
    have hz4 := hb4.size
    try simp at hz4
    have z4_0 : w1.heap.size < w4.heap.size := by omega
    go_wp2_with fail
    refine (laws_alive_any _).mono ?_
    rintro e w' ⟨rfl, rfl⟩
    go_wp2
    go_ret
    exact ⟨rfl, by repeat (first | exact Below.refl _ _ | refine belowAlloc ?_ _ | refine belowStep ?_ (by assumption))⟩

theorem fnInsKernel_small {w : World} {s : Option Addr} {len cap : Nat} (h : CodeAt w s len cap) (hlen : len ≤ 1048576) :
    Calls Try.prog 7 #[.slice s len cap] w fun e w' => e = .returned (.bool true) ∧ Below w.heap.size w w' := by
  go_enter Try.func7, Try.ntmps7
  go_wp2_with fail
  refine (drawInsKernel_any h hlen).mono ?_
  rintro e w1 ⟨⟨op, a, n, ⟨o1, o2⟩, ⟨a1, a2⟩, ⟨n1, n2⟩, rfl⟩, hb1⟩
  clear h
  by_cases hk : M.insOk op a n = true
  · have hk0 : M.insKernel op (3 - a) (63 - n) = M.insKernel op a n := by
      have := (M.insOk_iff op a n).1 hk
      have : M.insOk op (3 - a) (63 - n) = true := by rw [M.insOk_iff]; omega
      simp only [M.insKernel, hk, this]
    go_wp2_with fail
    refine (impl_InsKernel_any _ _ _ _).mono ?_
    rintro e w2 ⟨rfl, hb2⟩
    obtain ⟨hc2, hf2⟩ := bcell hb2
    have hz2 := hb2.size
    try simp at hz2
    have z2_0 : w1.heap.size < w2.heap.size := by omega
    go_wp2_with fail
    refine (spec_InsKernel_any _ _ _ _).mono ?_
    rintro e w3 ⟨rfl, hb3⟩
    obtain ⟨hc3, hf3⟩ := bcell hb3
    have hz3 := hb3.size
    try simp at hz3
    have z3_0 : w1.heap.size < w3.heap.size := by omega
    go_wp2_with fail
    refine (impl_InsOk_any _ _ _ _).mono ?_
    rintro e w4 ⟨rfl, hb4⟩
    obtain ⟨hc4, hf4⟩ := bcell hb4
    have hz4 := hb4.size
    try simp at hz4
    have z4_0 : w1.heap.size < w4.heap.size := by omega
    go_wp2_with fail
    refine (impl_InsKernel_any _ _ _ _).mono ?_
    rintro e w5 ⟨rfl, hb5⟩
    obtain ⟨hc5, hf5⟩ := bcell hb5
    have hz5 := hb5.size
    try simp at hz5
    have z5_0 : w1.heap.size < w5.heap.size := by omega
    go_wp2_with fail
    refine (laws_alive_any _).mono ?_
    rintro e w' ⟨rfl, rfl⟩
    go_wp2
    go_ret
    exact ⟨rfl, by repeat (first | exact Below.refl _ _ | refine belowAlloc ?_ _ | refine belowStep ?_ (by assumption))⟩
  · replace hk : M.insOk op a n = false := by simpa using hk
    go_wp2_with fail
    refine (impl_InsKernel_any _ _ _ _).mono ?_
    rintro e w2 ⟨rfl, hb2⟩
    obtain ⟨hc2, hf2⟩ := bcell hb2
    have hz2 := hb2.size
    try simp at hz2
    have z2_0 : w1.heap.size < w2.heap.size := by omega
    go_wp2_with fail
    refine (spec_InsKernel_any _ _ _ _).mono ?_
    rintro e w3 ⟨rfl, hb3⟩
    obtain ⟨hc3, hf3⟩ := bcell hb3
    have hz3 := hb3.size
    try simp at hz3
    have z3_0 : w1.heap.size < w3.heap.size := by omega
    go_wp2_with fail
    refine (impl_InsOk_any _ _ _ _).mono ?_
    rintro e w4 ⟨rfl, hb4⟩
    obtain ⟨hc4, hf4⟩ := bcell hb4
    have hz4 := hb4.size
    try simp at hz4
    have z4_0 : w1.heap.size < w4.heap.size := by omega
    go_wp2_with fail
    refine (laws_alive_any _).mono ?_
    rintro e w' ⟨rfl, rfl⟩
    go_wp2
    go_ret
    exact ⟨rfl, by repeat (first | exact Below.refl _ _ | refine belowAlloc ?_ _ | refine belowStep ?_ (by assumption))⟩

theorem fnInsWord_small {w : World} {s : Option Addr} {len cap : Nat} (h : CodeAt w s len cap) (hlen : len ≤ 1048576) :
    Calls Try.prog 5 #[.slice s len cap] w fun e w' => e = .returned (.bool true) ∧ Below w.heap.size w w' := by
  go_enter Try.func5, Try.ntmps5
  go_wp2_with fail
  refine (drawInsWord_any h hlen).mono ?_
  rintro e w1 ⟨⟨op, a, n, ⟨o1, o2⟩, ⟨a1, a2⟩, ⟨n1, n2⟩, rfl⟩, hb1⟩
  clear h
  by_cases hk : M.insOk op a n = true
  · have hr := (M.insOk_iff op a n).1 hk
    obtain ⟨v, hv, g0, g1, g2, g3, g4, g5⟩ : ∃ v, M.insWord op a n = v ∧ 0 ≤ v ∧ v ≤ 4095 ∧ M.wordOk v = true ∧ M.insOp v = op ∧ M.insA v = a ∧ M.insN v = n := by
      have e : M.insWord op a n = 256 * op + 64 * a + n := by simp [M.insWord, hk]
      have g : M.wordOk (256 * op + 64 * a + n) = true := by rw [M.wordOk_iff]; omega
      refine ⟨_, e, by omega, by omega, g, ?_, ?_, ?_⟩
      · simp only [M.insOp, g, if_true]; omega
      · simp only [M.insA, g, if_true]; omega
      · simp only [M.insN, g, if_true]; omega
    clear hr
    go_wp2_with fail
    refine (impl_InsWord_any _ _ _ _).mono ?_
    rintro e w2 ⟨rfl, hb2⟩
    obtain ⟨hc2, hf2⟩ := bcell hb2
    have hz2 := hb2.size
    try simp at hz2
    have z2_0 : w1.heap.size < w2.heap.size := by omega
    go_wp2_with fail
    refine (spec_InsWord_any _ _ _ _).mono ?_
    rintro e w3 ⟨rfl, hb3⟩
    obtain ⟨hc3, hf3⟩ := bcell hb3
    have hz3 := hb3.size
    try simp at hz3
    have z3_0 : w1.heap.size < w3.heap.size := by omega
    go_wp2_with fail
    have c0 : w3.cell? ⟨w1.heap.size, 0, none⟩ = some (.int .i64 op) := by simp [*]
    have c1 : w3.cell? ⟨w1.heap.size, 1, none⟩ = some (.int .i64 a) := by simp [*]
    have c2 : w3.cell? ⟨w1.heap.size, 2, none⟩ = some (.int .i64 n) := by simp [*]
    have B3 : Below w.heap.size w w3 := by repeat (first | exact Below.refl _ _ | refine belowAlloc ?_ _ | refine belowStep ?_ (by assumption))
    go_region_held3 (fun u => u.cell? ⟨w1.heap.size, 0, none⟩ = some (.int .i64 op) ∧ u.cell? ⟨w1.heap.size, 1, none⟩ = some (.int .i64 a) ∧ u.cell? ⟨w1.heap.size, 2, none⟩ = some (.int .i64 n) ∧ w1.heap.size < u.heap.size ∧ Below w.heap.size w u)
      (first | exact ⟨c0, c1, c2, z3_0, B3⟩ | exact ⟨c0, c1, c2, z3_0, B3.drew⟩ | exact held3 (by assumption) (by assumption))
      (first | (go_at_call 14; refine (impl_WordOk_any _ _).mono ?_; rintro e w' ⟨rfl, rfl⟩) | (go_at_call 23; refine (impl_InsFrom_any _ _).mono ?_; rintro e w' ⟨rfl, hb⟩))
    go_wp2
    go_ret
    exact ⟨rfl, (by assumption : _ ∧ _ ∧ _ ∧ _ ∧ Below w.heap.size w _).2.2.2.2⟩
  · replace hk : M.insOk op a n = false := by simpa using hk
    have hv : M.insWord op a n = -1 := by simp [M.insWord, hk]
    go_wp2_with fail
    refine (impl_InsWord_any _ _ _ _).mono ?_
    rintro e w2 ⟨rfl, hb2⟩
    obtain ⟨hc2, hf2⟩ := bcell hb2
    have hz2 := hb2.size
    try simp at hz2
    have z2_0 : w1.heap.size < w2.heap.size := by omega
    go_wp2_with fail
    refine (spec_InsWord_any _ _ _ _).mono ?_
    rintro e w3 ⟨rfl, hb3⟩
    obtain ⟨hc3, hf3⟩ := bcell hb3
    have hz3 := hb3.size
    try simp at hz3
    have z3_0 : w1.heap.size < w3.heap.size := by omega
    go_wp2_with fail
    refine (impl_InsOk_any _ _ _ _).mono ?_
    rintro e w4 ⟨rfl, hb4⟩
    obtain ⟨hc4, hf4⟩ := bcell hb4
    have hz4 := hb4.size
    try simp at hz4
    have z4_0 : w1.heap.size < w4.heap.size := by omega
    go_wp2_with fail
    refine (laws_alive_any _).mono ?_
    rintro e w' ⟨rfl, rfl⟩
    go_wp2
    go_ret
    exact ⟨rfl, by repeat (first | exact Below.refl _ _ | refine belowAlloc ?_ _ | refine belowStep ?_ (by assumption))⟩

theorem fnInsFrom_small {w : World} {s : Option Addr} {len cap : Nat} (h : CodeAt w s len cap) (hlen : len ≤ 1048576) :
    Calls Try.prog 6 #[.slice s len cap] w fun e w' => e = .returned (.bool true) ∧ Below w.heap.size w w' := by
  go_enter Try.func6, Try.ntmps6
  go_wp2_with fail
  refine (drawInsFrom_any h hlen).mono ?_
  rintro e w1 ⟨⟨v, v0, v1, rfl⟩, hb1⟩
  clear h
  obtain ⟨op, a, n, k0, k1, k2⟩ : ∃ op a n, M.insOp v = op ∧ M.insA v = a ∧ M.insN v = n := ⟨_, _, _, rfl, rfl, rfl⟩
  have k3 : M.insOk op a n = true := by rw [← k0, ← k1, ← k2]; exact M.insOk_from v
  by_cases hk : M.wordOk v = true
  · have k4 : M.insWord op a n = v := by rw [← k0, ← k1, ← k2]; exact M.insWord_from hk
    go_wp2_with fail
    refine (impl_InsFrom_any _ _).mono ?_
    rintro e w2 ⟨rfl, hb2⟩
    obtain ⟨hc2, hf2⟩ := bcell hb2
    have hz2 := hb2.size
    try simp at hz2
    go_wp2_with fail
    have c0 : (w2.alloc (.cells #[.int .i64 op, .int .i64 a, .int .i64 n] 29)).cell? ⟨w2.heap.size, 0, none⟩ = some (.int .i64 op) := by simp
    have c1 : (w2.alloc (.cells #[.int .i64 op, .int .i64 a, .int .i64 n] 29)).cell? ⟨w2.heap.size, 1, none⟩ = some (.int .i64 a) := by simp
    have c2 : (w2.alloc (.cells #[.int .i64 op, .int .i64 a, .int .i64 n] 29)).cell? ⟨w2.heap.size, 2, none⟩ = some (.int .i64 n) := by simp
    have z2 : w2.heap.size < (w2.alloc (.cells #[.int .i64 op, .int .i64 a, .int .i64 n] 29)).heap.size := by simp
    have B2 : Below w.heap.size w (w2.alloc (.cells #[.int .i64 op, .int .i64 a, .int .i64 n] 29)) := by repeat (first | exact Below.refl _ _ | refine belowAlloc ?_ _ | refine belowStep ?_ (by assumption))
    go_region_held3 (fun u => u.cell? ⟨w2.heap.size, 0, none⟩ = some (.int .i64 op) ∧ u.cell? ⟨w2.heap.size, 1, none⟩ = some (.int .i64 a) ∧ u.cell? ⟨w2.heap.size, 2, none⟩ = some (.int .i64 n) ∧ w2.heap.size < u.heap.size ∧ Below w.heap.size w u)
      (first | exact ⟨c0, c1, c2, z2, B2⟩ | exact ⟨c0, c1, c2, z2, B2.drew⟩ | exact held3 (by assumption) (by assumption))
      (first | (go_at_call 25; refine (spec_InsFrom_any _ _).mono ?_; rintro e w' ⟨rfl, hb⟩))
    rename_i w3 _ hh
    obtain ⟨d0, d1, d2, z3, B3⟩ := hh
    go_wp2_with fail
    refine (impl_InsOk_any _ _ _ _).mono ?_
    rintro e w4 ⟨rfl, hb4⟩
    obtain ⟨hc4, hf4⟩ := bcell hb4
    have hz4 := hb4.size
    try simp at hz4
    have z4_0 : w2.heap.size < w4.heap.size := by omega
    go_wp2_with fail
    refine (impl_WordOk_any _ _).mono ?_
    rintro e w' ⟨rfl, rfl⟩
    go_wp2_with fail
    refine (impl_InsWord_any _ _ _ _).mono ?_
    rintro e w6 ⟨rfl, hb6⟩
    obtain ⟨hc6, hf6⟩ := bcell hb6
    have hz6 := hb6.size
    try simp at hz6
    have z6_0 : w2.heap.size < w6.heap.size := by omega
    go_wp2_with fail
    refine (laws_alive_any _).mono ?_
    rintro e w' ⟨rfl, rfl⟩
    go_wp2
    go_ret
    exact ⟨rfl, by repeat (first | exact B3 | refine belowStep ?_ (by assumption))⟩
  · replace hk : M.wordOk v = false := by simpa using hk
    go_wp2_with fail
    refine (impl_InsFrom_any _ _).mono ?_
    rintro e w2 ⟨rfl, hb2⟩
    obtain ⟨hc2, hf2⟩ := bcell hb2
    have hz2 := hb2.size
    try simp at hz2
    go_wp2_with fail
    have c0 : (w2.alloc (.cells #[.int .i64 op, .int .i64 a, .int .i64 n] 29)).cell? ⟨w2.heap.size, 0, none⟩ = some (.int .i64 op) := by simp
    have c1 : (w2.alloc (.cells #[.int .i64 op, .int .i64 a, .int .i64 n] 29)).cell? ⟨w2.heap.size, 1, none⟩ = some (.int .i64 a) := by simp
    have c2 : (w2.alloc (.cells #[.int .i64 op, .int .i64 a, .int .i64 n] 29)).cell? ⟨w2.heap.size, 2, none⟩ = some (.int .i64 n) := by simp
    have z2 : w2.heap.size < (w2.alloc (.cells #[.int .i64 op, .int .i64 a, .int .i64 n] 29)).heap.size := by simp
    have B2 : Below w.heap.size w (w2.alloc (.cells #[.int .i64 op, .int .i64 a, .int .i64 n] 29)) := by repeat (first | exact Below.refl _ _ | refine belowAlloc ?_ _ | refine belowStep ?_ (by assumption))
    go_region_held3 (fun u => u.cell? ⟨w2.heap.size, 0, none⟩ = some (.int .i64 op) ∧ u.cell? ⟨w2.heap.size, 1, none⟩ = some (.int .i64 a) ∧ u.cell? ⟨w2.heap.size, 2, none⟩ = some (.int .i64 n) ∧ w2.heap.size < u.heap.size ∧ Below w.heap.size w u)
      (first | exact ⟨c0, c1, c2, z2, B2⟩ | exact ⟨c0, c1, c2, z2, B2.drew⟩ | exact held3 (by assumption) (by assumption))
      (first | (go_at_call 25; refine (spec_InsFrom_any _ _).mono ?_; rintro e w' ⟨rfl, hb⟩))
    rename_i w3 _ hh
    obtain ⟨d0, d1, d2, z3, B3⟩ := hh
    go_wp2_with fail
    refine (impl_InsOk_any _ _ _ _).mono ?_
    rintro e w4 ⟨rfl, hb4⟩
    obtain ⟨hc4, hf4⟩ := bcell hb4
    have hz4 := hb4.size
    try simp at hz4
    have z4_0 : w2.heap.size < w4.heap.size := by omega
    go_wp2_with fail
    refine (impl_WordOk_any _ _).mono ?_
    rintro e w' ⟨rfl, rfl⟩
    go_wp2_with fail
    refine (laws_alive_any _).mono ?_
    rintro e w' ⟨rfl, rfl⟩
    go_wp2
    go_ret
    exact ⟨rfl, by repeat (first | exact B3 | refine belowStep ?_ (by assumption))⟩

end Go.Proofs.Ytfgfekkengennaa
