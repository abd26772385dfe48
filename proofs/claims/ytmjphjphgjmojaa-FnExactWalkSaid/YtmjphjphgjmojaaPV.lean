/- Where an address leads: the program and the model answer alike. -/
import Derived.Test.YtmjphjphgjmojaaPN
import Derived.Test.YtmjphjphgjmojaaP7
import Derived.Test.YtmjphjphgjmojaaWV1
namespace Go.Proofs.Ytmjphjphgjmojaa
set_option linter.all false
namespace M
def lets (e : DEntry) (user write : Bool) : Bool := e.There && (e.Write || !write) && (e.User || !user)
def walk (mem : List Int) (root addr : Int) (user write : Bool) : Int :=
 bif memOk mem && inR (-1) 7 root && inR 0 63 addr then
  bif decide (root = -1) then addr else
   bif lets (dec (mem.getD (root * 8 + addr / 8).toNat default)) user write then (dec (mem.getD (root * 8 + addr / 8).toNat default)).Page * 8 + addr % 8 else -1
 else -1
end M
theorem memOk_words {xs : List Int} (h : M.memOk xs = true) : M.wordsOk xs = true := (Bool.and_eq_true _ _ ▸ h).2
theorem dec_page (w : Int) : 0 ≤ (dec w).Page ∧ (dec w).Page ≤ 7 := by simp only [dec]; omega
theorem lets_i (e : DEntry) (user write : Bool) : F_impl_entryLets e user write = some (M.lets e user write) := by
 obtain ⟨t, w, u, p⟩ := e
 unfold F_impl_entryLets
 cases t <;> cases w <;> cases u <;> cases user <;> cases write <;> rfl
theorem walk_i {mem : List Int} {root addr : Int} {user write : Bool} (hl : mem.length ≤ 9223372036854775806) : F_impl_Walk mem root addr user write = some (M.walk mem root addr user write) := by
 unfold F_impl_Walk M.walk
 rw [memOk_i hl, rootOk_i, addressOk_i]
 cases hm : M.memOk mem with
 | false => simp only [Option.bind_some, Bool.not_false, cond_true, Bool.false_and, cond_false]
 | true =>
  cases hr : M.inR (-1) 7 root with
  | false => simp only [Option.bind_some, Bool.not_false, Bool.not_true, cond_true, Bool.false_and, Bool.and_false, cond_false]
  | true =>
   cases ha : M.inR 0 63 addr with
   | false => simp only [Option.bind_some, Bool.not_false, Bool.not_true, cond_true, Bool.false_and, Bool.and_false, cond_false]
   | true =>
    have hr := M.inR_iff.1 hr
    have ha := M.inR_iff.1 ha
    have hlen := memOk_len hm
    simp only [Option.bind_some, Bool.not_true, cond_true, cond_false, Bool.and_self]
    by_cases h1 : root = -1
    · rw [decide_eq_true h1]; rfl
    · have e1 : Int.tdiv addr 8 = addr / 8 := Int.tdiv_eq_ediv_of_nonneg ha.1
      have e2 : Int.tmod addr 8 = addr % 8 := Int.tmod_eq_emod_of_nonneg ha.1
      rw [decide_eq_false h1, cond_false, cond_false, e1, e2, w64_in (z := root * 8) (by omega) (by omega), w64_in (z := addr / 8) (by omega) (by omega), w64_in (z := root * 8 + addr / 8) (by omega) (by omega), grd_t ⟨by omega, by omega⟩]
      have hw := wordsOk_get (memOk_words hm) (i := (root * 8 + addr / 8).toNat) (by omega)
      rw [entryFrom_i hw.1 hw.2]
      generalize mem.getD (root * 8 + addr / 8).toNat default = w
      have hp := dec_page w
      simp only [Option.bind_some, lets_i]
      rw [w64_in (z := (dec w).Page * 8) (by omega) (by omega), w64_in (z := (dec w).Page * 8 + addr % 8) (by omega) (by omega)]
      cases M.lets (dec w) user write <;> rfl
theorem walk_s {mem : List Int} {root addr : Int} {user write : Bool} (hl : mem.length ≤ 9223372036854775806) : F_spec_Walk mem root addr user write = some (M.walk mem root addr user write) := by
 unfold F_spec_Walk M.walk
 rw [memOk_s hl, l1In_s, l1In_s]
 cases hm : M.memOk mem with
 | false => simp only [Option.bind_some, Bool.not_false, cond_true, Bool.false_and, cond_false]
 | true =>
  cases hr : M.inR (-1) 7 root with
  | false => simp only [Option.bind_some, Bool.not_false, Bool.not_true, cond_true, Bool.false_and, Bool.and_false, cond_false]
  | true =>
   cases ha : M.inR 0 63 addr with
   | false => simp only [Option.bind_some, Bool.not_false, Bool.not_true, cond_true, Bool.false_and, Bool.and_false, cond_false]
   | true =>
    have hr := M.inR_iff.1 hr
    have ha := M.inR_iff.1 ha
    have hlen := memOk_len hm
    simp only [Option.bind_some, Bool.not_true, cond_true, cond_false, Bool.and_self]
    by_cases h1 : root = -1
    · rw [decide_eq_true h1]; rfl
    · have e1 : Int.tdiv addr 8 = addr / 8 := Int.tdiv_eq_ediv_of_nonneg ha.1
      have e2 : Int.tmod addr 8 = addr % 8 := Int.tmod_eq_emod_of_nonneg ha.1
      rw [decide_eq_false h1, cond_false, cond_false, e1, w64_in (z := root * 8) (by omega) (by omega), w64_in (z := addr / 8) (by omega) (by omega), w64_in (z := root * 8 + addr / 8) (by omega) (by omega), grd_t ⟨by omega, by omega⟩]
      have hw := wordsOk_get (memOk_words hm) (i := (root * 8 + addr / 8).toNat) (by omega)
      rw [entryFrom_s hw.1 hw.2]
      generalize mem.getD (root * 8 + addr / 8).toNat default = w
      have hp := dec_page w
      unfold F_spec_Walk_j5
      simp only [Option.bind_some, e2, M.lets]
      rw [w64_in (z := (dec w).Page * 8) (by omega) (by omega), w64_in (z := (dec w).Page * 8 + addr % 8) (by omega) (by omega)]
      generalize (dec w).Page * 8 + addr % 8 = z
      cases (dec w).There <;> cases (dec w).Write <;> cases (dec w).User <;> cases user <;> cases write <;> rfl
theorem walk_cases (mem : List Int) (root addr : Int) (user write : Bool) : M.walk mem root addr user write = -1 ∨
 (M.memOk mem = true ∧ (-1 ≤ root ∧ root ≤ 7) ∧ (0 ≤ addr ∧ addr ≤ 63) ∧ 0 ≤ M.walk mem root addr user write ∧ M.walk mem root addr user write < 64 ∧
  M.walk mem root addr false false = M.walk mem root addr user write ∧ M.walk mem root addr user false = M.walk mem root addr user write ∧ M.walk mem root (addr - addr % 8) user write = M.walk mem root addr user write - addr % 8) := by
 by_cases hm : M.memOk mem = true
 · by_cases hr : M.inR (-1) 7 root = true
   · by_cases ha : M.inR 0 63 addr = true
     · have hr2 := M.inR_iff.1 hr
       have ha2 := M.inR_iff.1 ha
       have hb : M.inR 0 63 (addr - addr % 8) = true := M.inR_iff.2 ⟨by omega, by omega⟩
       by_cases h1 : root = -1
       · have e : ∀ u w, M.walk mem root addr u w = addr := fun u w => by simp only [M.walk, hm, hr, ha, decide_eq_true h1, Bool.and_self, cond_true]
         have e' : ∀ u w, M.walk mem root (addr - addr % 8) u w = addr - addr % 8 := fun u w => by simp only [M.walk, hm, hr, hb, decide_eq_true h1, Bool.and_self, cond_true]
         rw [e, e, e, e']
         exact .inr ⟨hm, hr2, ha2, by omega, by omega, rfl, rfl, rfl⟩
       · have e : ∀ u w, M.walk mem root addr u w = (bif M.lets (dec (mem.getD (root * 8 + addr / 8).toNat default)) u w then (dec (mem.getD (root * 8 + addr / 8).toNat default)).Page * 8 + addr % 8 else -1) := fun u w => by
          simp only [M.walk, hm, hr, ha, decide_eq_false h1, Bool.and_self, cond_true, cond_false]
         have e' : ∀ u w, M.walk mem root (addr - addr % 8) u w = (bif M.lets (dec (mem.getD (root * 8 + addr / 8).toNat default)) u w then (dec (mem.getD (root * 8 + addr / 8).toNat default)).Page * 8 else -1) := fun u w => by
          simp only [M.walk, hm, hr, hb, decide_eq_false h1, Bool.and_self, cond_true, cond_false]
          rw [show (addr - addr % 8) / 8 = addr / 8 by omega, show (addr - addr % 8) % 8 = 0 by omega]; simp
         rw [e, e, e, e']
         have hp := dec_page (mem.getD (root * 8 + addr / 8).toNat default)
         generalize dec (mem.getD (root * 8 + addr / 8).toNat default) = x at hp ⊢
         cases hx : M.lets x user write with
         | false => exact .inl rfl
         | true =>
          have h2 : M.lets x false false = true := by
           simp only [M.lets, Bool.and_eq_true, Bool.or_eq_true, Bool.not_false, Bool.or_true, and_true] at hx ⊢; exact hx.1.1
          have h3 : M.lets x user false = true := by
           simp only [M.lets, Bool.and_eq_true, Bool.or_eq_true, Bool.not_false, Bool.or_true, and_true] at hx ⊢; exact ⟨hx.1.1, hx.2⟩
          rw [h2, h3]
          simp only [cond_true]
          exact .inr ⟨hm, hr2, ha2, by omega, by omega, by first | trivial | rfl, by first | trivial | rfl, by omega⟩
     · exact .inl (by simp only [M.walk, Bool.eq_false_iff.2 ha, Bool.and_false, cond_false])
   · exact .inl (by simp only [M.walk, Bool.eq_false_iff.2 hr, Bool.and_false, Bool.false_and, cond_false])
 · exact .inl (by simp only [M.walk, Bool.eq_false_iff.2 hm, Bool.false_and, cond_false])
end Go.Proofs.Ytmjphjphgjmojaa
