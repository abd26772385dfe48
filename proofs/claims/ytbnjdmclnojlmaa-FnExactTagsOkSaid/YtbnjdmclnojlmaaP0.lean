/- What is a word and a memory: the program's functions and the model's answer alike. -/
import Derived.Test.YtbnjdmclnojlmaaZ5
import Derived.Test.YtbnjdmclnojlmaaWO1
namespace Go.Proofs.Ytbnjdmclnojlmaa
set_option linter.all false
theorem getD_lt {α : Type} [Inhabited α] {xs : List α} {i : Nat} (h : i < xs.length) : xs.getD i default = xs[i] := by simp [List.getD, h]
namespace M
def inR (lo hi n : Int) : Bool := decide (lo ≤ n) && decide (n ≤ hi)
def wordOk (n : Int) : Bool := inR 0 4095 n
def wordsOk (xs : List Int) : Bool := xs.all wordOk
theorem inR_iff {lo hi n : Int} : inR lo hi n = true ↔ lo ≤ n ∧ n ≤ hi := by simp [inR]
end M
theorem cond_b {b : Bool} {x : Option Bool} {y : Bool} (h : x = some y) : (cond b x (some false)) = some (b && y) := by cases b <;> simp [h]
theorem cond_bs {b y : Bool} : (cond b (some y) (some false)) = some (b && y) := by cases b <;> rfl
theorem wordOk_i (n : Int) : F_impl_WordOk n = some (M.wordOk n) := by
 unfold F_impl_WordOk; rw [cond_bs]; rfl
theorem l1In_s (n lo hi : Int) : F_spec_l1In n lo hi = some (M.inR lo hi n) := by
 unfold F_spec_l1In; rw [cond_bs]; rfl
theorem wordOk_s (n : Int) : F_spec_WordOk n = some (M.wordOk n) := by
 unfold F_spec_WordOk; rw [l1In_s]; rfl
theorem lt_le {a b : Int} : decide (a < b + 1) = decide (a ≤ b) := by rw [decide_eq_decide]; omega
theorem all_loop {T : Type} [Inhabited T] {xs : List T} {Pf : T → Option Bool} {p : T → Bool} (hP : ∀ x, Pf x = some (p x)) (hl : xs.length ≤ 9223372036854775806) (step : Int → Option (LO Int (JO Unit Bool)))
 (hs : ∀ k, step k = cond (decide (k < ((List.length xs : Nat) : Int))) (grd ((0 : Int) ≤ k ∧ k < ((List.length xs : Nat) : Int)) (Option.bind (Pf (List.getD xs (Int.toNat k) default)) fun v => cond (!v) (some (.ret (.out false))) (some (.next (w64 (k + (1 : Int))))))) (some (.ret (.go ())))) :
 iter step 0 = some (.ret (bif xs.all p then .go () else .out false)) := by
 have key : ∀ k : Int, (0 ≤ k ∧ k ≤ (xs.length : Int)) → iter step k = some (.ret (bif (xs.drop k.toNat).all p then .go () else .out false)) := by
  refine iter_rec _ (fun k => xs.length - k.toNat) _ ?_
  rintro k ⟨h0, h1⟩
  by_cases hk : k < xs.length
  · have e1 : xs.drop k.toNat = xs.getD k.toNat default :: xs.drop (k + 1).toNat := by
     rw [getD_lt (by omega), show (k + 1).toNat = k.toNat + 1 by omega]; exact List.drop_eq_getElem_cons (by omega)
    have hst : step k = cond (!p (xs.getD k.toNat default)) (some (.ret (.out false))) (some (.next (k + 1))) := by
     rw [hs, decide_eq_true hk, cond_true, grd_t ⟨h0, hk⟩, hP, w64_in (by omega) (by omega)]; rfl
    cases hp : p (xs.getD k.toNat default) with
    | true =>
     refine .inl ⟨k + 1, by rw [hst, hp]; rfl, ⟨by omega, by omega⟩, by omega, ?_⟩
     rw [e1, List.all_cons, hp, Bool.true_and]
    | false =>
     refine .inr ⟨fun s' => by rw [hst, hp]; simp, ?_⟩
     rw [hst, hp, e1, List.all_cons, hp]; rfl
  · have hk2 : k = xs.length := by omega
    have hf : decide (k < ((List.length xs : Nat) : Int)) = false := by simp; omega
    refine .inr ⟨fun s' => by rw [hs, hf]; simp, ?_⟩
    rw [hs, hf, hk2]; simp
 simpa using key 0 ⟨by omega, by omega⟩
theorem wordsOk_i {xs : List Int} (h : xs.length ≤ 9223372036854775806) : F_impl_wordsOk xs = some (M.wordsOk xs) := by
 unfold F_impl_wordsOk
 rw [all_loop wordOk_i h (F_impl_wordsOk_l2 xs) (fun k => rfl)]
 simp only [M.wordsOk]
 cases xs.all M.wordOk <;> rfl
theorem wordsOk_get {xs : List Int} (h : M.wordsOk xs = true) {i : Nat} (hi : i < xs.length) : 0 ≤ xs.getD i default ∧ xs.getD i default ≤ 4095 := by
 rw [getD_lt hi]
 exact M.inR_iff.1 (List.all_eq_true.1 h _ (List.getElem_mem hi))
end Go.Proofs.Ytbnjdmclnojlmaa
