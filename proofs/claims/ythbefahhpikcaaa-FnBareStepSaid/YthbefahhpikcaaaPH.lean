/- A step of the machine, second part: the kernel's instructions, and all of it. -/
import Derived.Test.YthbefahhpikcaaaPG
namespace Go.Proofs.Ythbefahhpikcaaa
set_option linter.all false
section
variable {b : DBare} {op a n : Int}
theorem first_nil : M.first [] = 0 := rfl
theorem comesIn_i {k : Int} (h0 : 0 ≤ k) (h1 : k < 4) : F_impl_comesIn b k = some (M.cin b k) := by
 unfold F_impl_comesIn M.cin
 by_cases e1 : k = 1
 · rw [decide_eq_true e1]; rfl
 by_cases e2 : k = 2
 · rw [decide_eq_false e1, decide_eq_true e2]; rfl
 by_cases e3 : k = 3
 · rw [decide_eq_false e1, decide_eq_false e2, decide_eq_true e3]; rfl
 rw [decide_eq_false e1, decide_eq_false e2, decide_eq_false e3]
 simp only [cond_false]
 cases hi : b.In with
 | nil => rfl
 | cons x xs => rw [decide_eq_false (by simp only [List.length_cons]; omega), cond_false, grd_t ⟨by omega, by simp only [List.length_cons]; omega⟩]; rfl
theorem rest_eq {xs : List Int} : List.take (Int.toNat ((List.length xs : Nat) : Int) - Int.toNat (1 : Int)) (List.drop (Int.toNat (1 : Int)) xs) = xs.drop 1 := by
 rw [show Int.toNat (1 : Int) = 1 from rfl]
 exact List.take_of_length_le (by simp)
theorem tookIn_i (hb : BOk b) (a0 : 0 ≤ a) (a1 : a ≤ 3) (n0 : 0 ≤ n) : F_impl_tookIn b ⟨op, a, n⟩ = some ⟨M.put b.C a (M.cin b (n % 4)), b.Mem, M.rest b.In (n % 4), b.Out⟩ := by
 unfold F_impl_tookIn
 simp only [tmod4 n0]
 rw [comesIn_i (by omega) (by omega), Option.bind_some, changed_i (by have := hb.regs; omega) a0 (hb.gA a0 a1).2, Option.bind_some, rest_eq]
 simp only [M.rest]
 by_cases h : n % 4 = 0
 · rw [decide_eq_true h]
   cases hi : b.In with
   | nil => rfl
   | cons x xs => rw [decide_eq_true (by simp only [List.length_cons]; omega), cond_true, cond_true, grd_t ⟨by omega, by simp only [List.length_cons]; omega, by omega⟩]; rfl
 · rw [decide_eq_false h]; rfl
theorem wentOut_i {xs : List Int} {w : Int} (h : xs.length ≤ 30) : F_impl_wentOut xs w = some (bif decide (xs.length < 30) then xs ++ [w] else xs) := by
 unfold F_impl_wentOut
 by_cases e : xs.length < 30
 · rw [decide_eq_false (show ¬ (30 : Int) ≤ ((xs.length : Nat) : Int) by omega), decide_eq_true e, cond_false, copied_i (by omega), Option.bind_some, grd_t ⟨by simp only [List.length_cons, List.length_nil]; omega, by simp only [List.length_cons, List.length_nil]; omega⟩]; rfl
 · rw [decide_eq_true (show (30 : Int) ≤ ((xs.length : Nat) : Int) by omega), decide_eq_false e]; rfl
theorem rootFrom_i {w : Int} (h : 0 ≤ w) : F_impl_rootFrom w = some (M.root w) := by
 unfold F_impl_rootFrom
 rw [Int.tmod_eq_emod_of_nonneg h, pageOk_i]
 simp only [Option.bind_some, M.root, M.inR]
 by_cases e : w % 16 < 8
 · rw [decide_eq_true e, decide_eq_true (show 0 ≤ w % 16 by omega), decide_eq_true (show w % 16 ≤ 7 by omega)]; rfl
 · rw [decide_eq_false e, decide_eq_false (show ¬ w % 16 ≤ 7 by omega), Bool.and_false]; rfl
theorem didKernel_i (hb : BOk b) (o0 : 0 ≤ op) (o1 : op ≤ 15) (a0 : 0 ≤ a) (a1 : a ≤ 3) (n0 : 0 ≤ n) (hk : M.kern op = true) : F_impl_didKernel b ⟨op, a, n⟩ = some (M.kdo b ⟨op, a, n⟩) := by
 have g1 := hb.reg a0 (by omega)
 unfold F_impl_didKernel
 rw [grd_t (hb.gA a0 a1)]
 simp only [show b.C.Regs.getD a.toNat default = M.reg b.C a from rfl]
 rcases op_cases o0 o1 with e | e | e | e | e | e | e | e | e | e | e | e | e | e | e | e <;> subst e <;> first | (exact absurd hk (by decide)) | simp only [Int.reduceEq, decide_true, decide_false, cond_true, cond_false, Option.bind_some, JO.run, F_impl_didKernel_j1, M.kdo]
 · rfl
 · rw [rootFrom_i g1.1]
   simp only [Option.bind_some, JO.run, F_impl_didKernel_j1]
   rw [wo_i hb]; rfl
 · simp only [Int.tmod_eq_emod_of_nonneg g1.1]
   rw [wo_i hb]; rfl
 · rw [wo_i hb]; rfl
 · rfl
 · simp only [Int.tmod_eq_emod_of_nonneg n0]
   rw [wo_i hb]; rfl
 · rw [wentOut_i hb.out]
   simp only [Option.bind_some, JO.run, F_impl_didKernel_j1]
   rw [wo_i hb]; rfl
 · rw [tookIn_i hb a0 a1 n0]
   simp only [Option.bind_some, JO.run, F_impl_didKernel_j1, M.put]
   rw [wo_i hb]; rfl
theorem did_i (hb : BOk b) {i : DIns} (hi : M.insOk i = true) : F_impl_did b i = some (M.did b i) := by
 unfold F_impl_did
 rw [insKernel_i hi]
 obtain ⟨op, a, n⟩ := i
 simp only [M.insOk, Bool.and_eq_true, M.inR_iff] at hi
 obtain ⟨⟨⟨o0, o1⟩, a0, a1⟩, n0, n1⟩ := hi
 simp only [Option.bind_some]
 cases hk : M.kern op with
 | false => simp only [Bool.not_false, cond_true]; rw [didOpen_i hb o0 o1 a0 a1 n0 hk]; rfl
 | true =>
  simp only [Bool.not_true, cond_false, M.did, hk, cond_true]
  cases b.C.User with
  | true => rfl
  | false => simp only [cond_false]; rw [didKernel_i hb o0 o1 a0 a1 n0 hk]; rfl
end
end Go.Proofs.Ythbefahhpikcaaa
