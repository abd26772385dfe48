/- Contracts of chapter 1, second part. -/
import Derived.Test.YtfgfekkengennaaC1
import Derived.Deep.Light
namespace Go.Proofs.Ytfgfekkengennaa
open Go.ChangeShapes Go.WideShapes Go.ChangeAt Go.RowKit

theorem bcell {W w1 : World} (hb : Below W.heap.size W w1) : (∀ b o, b < W.heap.size → w1.cell? ⟨b, o, none⟩ = W.cell? ⟨b, o, none⟩) ∧ (∀ b o, b < W.heap.size → w1.frozen? ⟨b, o, none⟩ = W.frozen? ⟨b, o, none⟩) :=
  ⟨fun b o h => hb.cell (p := ⟨b, o, none⟩) h, fun b o h => hb.frozen (p := ⟨b, o, none⟩) h⟩

theorem impl_InsWord_any (op a n : Int) (w : World) :
    Calls Try.prog 21 #[.agg #[.int .i64 op, .int .i64 a, .int .i64 n]] w fun e w' => e = .returned (.int .i64 (M.insWord op a n)) ∧ Below w.heap.size w w' := by
  by_cases h : M.insOk op a n = true
  · obtain ⟨⟨b1, b2⟩, ⟨b3, b4⟩, b5, b6⟩ := (M.insOk_iff op a n).1 h
    go_enter Try.func21, Try.ntmps21
    go_wp2_with (go_at_call 18; refine (impl_InsOk_any _ _ _ _).mono ?_; rintro e w1 ⟨rfl, hb⟩; obtain ⟨hc, hf⟩ := bcell hb)
    go_ret
    exact ⟨ret_int (by unfold M.insWord; rw [if_pos h] <;> omega), ((Below.refl _ _).alloc (Nat.le_refl _) _).trans (hb.mono (by simp))⟩
  · go_enter Try.func21, Try.ntmps21
    go_wp2_with (go_at_call 18; refine (impl_InsOk_any _ _ _ _).mono ?_; rintro e w1 ⟨rfl, hb⟩; obtain ⟨hc, hf⟩ := bcell hb)
    go_ret
    exact ⟨ret_int (by unfold M.insWord; rw [if_neg h]), ((Below.refl _ _).alloc (Nat.le_refl _) _).trans (hb.mono (by simp))⟩

theorem impl_InsKernel_any (op a n : Int) (w : World) :
    Calls Try.prog 27 #[.agg #[.int .i64 op, .int .i64 a, .int .i64 n]] w fun e w' => e = .returned (.bool (M.insKernel op a n)) ∧ Below w.heap.size w w' := by
  go_enter Try.func27, Try.ntmps27
  go_wp2_with (go_at_call 18; refine (impl_InsOk_any _ _ _ _).mono ?_; rintro e w1 ⟨rfl, hb⟩; obtain ⟨hc, hf⟩ := bcell hb)
  all_goals
    go_ret
    exact ⟨ret_bool (by go_light; rw [Bool.eq_iff_iff]; simp_all [M.insKernel] <;> omega), ((Below.refl _ _).alloc (Nat.le_refl _) _).trans (hb.mono (by simp))⟩

theorem impl_InsFrom_any (x : Int) (w : World) :
    Calls Try.prog 23 #[.int .i64 x] w fun e w' => e = .returned (.agg #[.int .i64 (M.insOp x), .int .i64 (M.insA x), .int .i64 (M.insN x)]) ∧ Below w.heap.size w w' := by
  by_cases h : M.wordOk x = true
  · obtain ⟨b1, b2⟩ := (M.wordOk_iff x).1 h
    go_enter Try.func23, Try.ntmps23
    go_wp2_with (go_at_call 14; refine (impl_WordOk_any _ _).mono ?_; rintro e w1 ⟨rfl, rfl⟩)
    exact bodyPost_ret (v := .agg #[.int .i64 (x / 256), .int .i64 (x / 64 % 4), .int .i64 (x % 64)]) (by simp [results, Try.results23, go_sem]) rfl ⟨by simp [M.insOp, M.insA, M.insN, h], (Below.refl _ _).alloc (Nat.le_refl _) _⟩
  · go_enter Try.func23, Try.ntmps23
    go_wp2_with (go_at_call 14; refine (impl_WordOk_any _ _).mono ?_; rintro e w1 ⟨rfl, rfl⟩)
    exact bodyPost_ret (v := .agg #[.int .i64 0, .int .i64 0, .int .i64 0]) (by simp [results, Try.results23, go_sem]) rfl ⟨by simp [M.insOp, M.insA, M.insN, h], (Below.refl _ _).alloc (Nat.le_refl _) _⟩

theorem spec_InsWord_any (op a n : Int) (w : World) :
    Calls Try.prog 22 #[.agg #[.int .i64 op, .int .i64 a, .int .i64 n]] w fun e w' => e = .returned (.int .i64 (M.insWord op a n)) ∧ Below w.heap.size w w' := by
  by_cases h : M.insOk op a n = true
  · obtain ⟨⟨b1, b2⟩, ⟨b3, b4⟩, b5, b6⟩ := (M.insOk_iff op a n).1 h
    go_enter Try.func22, Try.ntmps22
    go_wp2_with (go_at_call 19; refine (spec_InsOk_any _ _ _ _).mono ?_; rintro e w1 ⟨rfl, hb⟩; obtain ⟨hc, hf⟩ := bcell hb)
    go_ret
    exact ⟨ret_int (by unfold M.insWord; rw [if_pos h] <;> omega), ((Below.refl _ _).alloc (Nat.le_refl _) _).trans (hb.mono (by simp))⟩
  · go_enter Try.func22, Try.ntmps22
    go_wp2_with (go_at_call 19; refine (spec_InsOk_any _ _ _ _).mono ?_; rintro e w1 ⟨rfl, hb⟩; obtain ⟨hc, hf⟩ := bcell hb)
    go_ret
    exact ⟨ret_int (by unfold M.insWord; rw [if_neg h]), ((Below.refl _ _).alloc (Nat.le_refl _) _).trans (hb.mono (by simp))⟩

theorem spec_InsKernel_any (op a n : Int) (w : World) :
    Calls Try.prog 28 #[.agg #[.int .i64 op, .int .i64 a, .int .i64 n]] w fun e w' => e = .returned (.bool (M.insKernel op a n)) ∧ Below w.heap.size w w' := by
  go_enter Try.func28, Try.ntmps28
  go_wp2_with (first | (go_at_call 19; refine (spec_InsOk_any _ _ _ _).mono ?_; rintro e w1 ⟨rfl, hb⟩; obtain ⟨hc, hf⟩ := bcell hb) | (go_at_call 34; refine (l1In_any _ _ _ _).mono ?_; rintro e w2 ⟨rfl, rfl⟩))
  all_goals
    go_ret
    exact ⟨ret_bool (by go_light; rw [Bool.eq_iff_iff]; simp_all [M.insKernel] <;> omega), ((Below.refl _ _).alloc (Nat.le_refl _) _).trans (hb.mono (by simp))⟩

theorem spec_InsFrom_any (x : Int) (w : World) :
    Calls Try.prog 25 #[.int .i64 x] w fun e w' => e = .returned (.agg #[.int .i64 (M.insOp x), .int .i64 (M.insA x), .int .i64 (M.insN x)]) ∧ Below w.heap.size w w' := by
  by_cases h : M.wordOk x = true
  · obtain ⟨b1, b2⟩ := (M.wordOk_iff x).1 h
    go_enter Try.func25, Try.ntmps25
    go_wp2_with (go_at_call 15; refine (spec_WordOk_any _ _).mono ?_; rintro e w1 ⟨rfl, rfl⟩)
    exact bodyPost_ret (v := .agg #[.int .i64 (x / 256), .int .i64 (x / 64 % 4), .int .i64 (x % 64)]) (by simp [results, Try.results25, go_sem]) rfl ⟨by simp [M.insOp, M.insA, M.insN, h], (Below.refl _ _).alloc (Nat.le_refl _) _⟩
  · go_enter Try.func25, Try.ntmps25
    go_wp2_with (go_at_call 15; refine (spec_WordOk_any _ _).mono ?_; rintro e w1 ⟨rfl, rfl⟩)
    exact bodyPost_ret (v := .agg #[.int .i64 0, .int .i64 0, .int .i64 0]) (by simp [results, Try.results25, go_sem]) rfl ⟨by simp [M.insOp, M.insA, M.insN, h], (Below.refl _ _).alloc (Nat.le_refl _) _⟩

theorem laws_toIns_any (op a n : Int) (w : World) :
    Calls Try.prog 29 #[.agg #[.int .i64 op, .int .i64 a, .int .i64 n]] w fun e w' => e = .returned (.agg #[.int .i64 op, .int .i64 a, .int .i64 n]) ∧ Below w.heap.size w w' := by
  go_enter Try.func29, Try.ntmps29
  go_wp2
  exact bodyPost_ret (v := .agg #[.int .i64 op, .int .i64 a, .int .i64 n]) (by simp [results, Try.results29, go_sem]) rfl ⟨rfl, by repeat (first | exact Below.refl _ _ | refine Below.alloc ?_ (by simp <;> omega) _)⟩

theorem laws_eqIns_any (op a n op' a' n' : Int) (w : World) :
    Calls Try.prog 30 #[.agg #[.int .i64 op, .int .i64 a, .int .i64 n], .agg #[.int .i64 op', .int .i64 a', .int .i64 n']] w fun e w' => e = .returned (.bool (op == op' && a == a' && n == n')) ∧ Below w.heap.size w w' := by
  go_enter Try.func30, Try.ntmps30
  go_wp2
  all_goals
    go_ret
    exact ⟨ret_bool (by go_light; rw [Bool.eq_iff_iff]; simp_all), by repeat (first | exact Below.refl _ _ | refine Below.alloc ?_ (by simp <;> omega) _)⟩


end Go.Proofs.Ytfgfekkengennaa
