/- TagsOk: the program's function and the model's answer alike. -/
import Derived.Test.YtbnjdmclnojlmaaPSA
import Derived.Test.YtbnjdmclnojlmaaP7
import Derived.Test.YtbnjdmclnojlmaaPZ0
import Derived.Test.YtbnjdmclnojlmaaWTK1
namespace Go.Proofs.Ytbnjdmclnojlmaa
set_option linter.all false
theorem find_loop {S R : Type} {n : Nat} {step : S → Option (LO S R)} (st : Nat → S) (ok : Nat → Bool) (a : R) (r : Nat → R)
 (hs : ∀ i, i < n → step (st i) = some (bif ok i then .next (st (i + 1)) else .ret (r i))) (he : step (st n) = some (.ret a)) :
 iter step (st 0) = some (.ret (match (List.range n).find? (fun i => !ok i) with | some i => r i | none => a)) := by
 have key : ∀ m i, i + m = n → iter step (st i) = some (.ret (match (List.range' i m).find? (fun i => !ok i) with | some i => r i | none => a)) := by
  intro m
  induction m with
  | zero =>
   intro i hi
   have : i = n := by omega
   subst this
   rw [iter_eq, he]; rfl
  | succ m ih =>
   intro i hi
   rw [iter_eq, hs i (by omega)]
   cases e : ok i with
   | true =>
    rw [List.range'_succ, List.find?_cons]
    simp only [e, Bool.not_true, cond_true]
    exact ih (i + 1) (by omega)
   | false => rw [List.range'_succ, List.find?_cons]; simp only [e, Bool.not_false, cond_false]
 have := key n 0 (by omega)
 rwa [← List.range_eq_range'] at this
namespace M
def eqSh (a b : DShade) : Bool := (a.There == b.There) && ((a.Write == b.Write) && ((a.User == b.User) && (decide (a.Page = b.Page) && (decide (a.Frame = b.Frame) && ((a.Ready == b.Ready) && true)))))
noncomputable def lineOk (h : DHost) (t : DLine) : Bool := there h t.Tag && (inR 0 7 t.At && eqSh t.What (shade h.Words (h.Guests.getD t.Tag.toNat default) t.At.toNat))
def hit (t : DLine) (g a : Int) : Bool := decide (t.Tag = g) && decide (t.At = a)
def lineFor (xs : List DLine) (g a : Int) : Int := match (List.range xs.length).find? (fun i => !!hit (xs.getD i default) g a) with | some i => (i : Int) | none => -1
def first (xs : List DLine) (k : Nat) : Bool := (List.range k).all fun j => !hit (xs.getD j default) (xs.getD k default).Tag (xs.getD k default).At
noncomputable def tagsOk (h : DHost) (xs : List DLine) : Bool := hostOk h && (decide (xs.length ≤ 6) && (List.range xs.length).all fun k => lineOk h (xs.getD k default) && first xs k)
end M
theorem eqSh_iff {a b : DShade} : M.eqSh a b = true ↔ a = b := by
 obtain ⟨t, w, u, p, f, r⟩ := a
 obtain ⟨t', w', u', p', f', r'⟩ := b
 simp only [M.eqSh, DShade.mk.injEq, Bool.and_eq_true, beq_iff_eq, decide_eq_true_eq, and_true]
theorem eqSh_comm {a b : DShade} : M.eqSh a b = M.eqSh b a := Bool.eq_iff_iff.2 (by rw [eqSh_iff, eqSh_iff]; exact eq_comm)
theorem hit_iff {t : DLine} {g a : Int} : M.hit t g a = true ↔ t.Tag = g ∧ t.At = a := by simp only [M.hit, Bool.and_eq_true, decide_eq_true_eq]
theorem lineFor_range {xs : List DLine} {g a : Int} : -1 ≤ M.lineFor xs g a ∧ M.lineFor xs g a < xs.length := by
 unfold M.lineFor
 split
 · rename_i i hi
   have := List.mem_of_find?_eq_some hi
   rw [List.mem_range] at this
   omega
 · omega
theorem lineFor_none {xs : List DLine} {g a : Int} : decide (M.lineFor xs g a = -1) = (List.range xs.length).all fun i => !M.hit (xs.getD i default) g a := by
 unfold M.lineFor
 rw [Bool.eq_iff_iff, decide_eq_true_eq, List.all_eq_true]
 split
 · rename_i i hi
   have h1 := List.find?_some hi
   have h2 := List.mem_of_find?_eq_some hi
   constructor
   · intro h; omega
   · intro h; have := h i h2; simp only [Bool.not_not] at h1; rw [h1] at this; cases this
 · rename_i hi
   rw [List.find?_eq_none] at hi
   exact ⟨fun _ i h => by have := hi i h; simpa using this, fun _ => rfl⟩
theorem lineFor_some {xs : List DLine} {g a : Int} (h : M.lineFor xs g a ≠ -1) : M.hit (xs.getD (M.lineFor xs g a).toNat default) g a = true := by
 unfold M.lineFor at h ⊢
 split at h
 · rename_i i hi
   have := List.find?_some hi
   simpa [hi] using this
 · exact absurd rfl h
theorem lineFor_i {xs : List DLine} {g a : Int} (h : xs.length ≤ 1048576) : F_impl_lineFor xs g a = some (M.lineFor xs g a) := by
 have key := find_loop (n := xs.length) (step := F_impl_lineFor_l2 xs g a) (fun i => (i : Int)) (fun i => !M.hit (xs.getD i default) g a) (.go ()) (fun i => .out (i : Int)) (fun i hi => by
  have h1 : (i : Int) < (xs.length : Int) := by omega
  simp only [F_impl_lineFor_l2, decide_eq_true h1, cond_true]
  rw [grd_t ⟨by omega, h1⟩, Int.toNat_natCast]
  unfold M.hit
  cases decide ((xs.getD i default).Tag = g) <;> cases decide ((xs.getD i default).At = a) <;> simp only [cond_true, cond_false, Option.bind_some, JO.run, F_impl_lineFor_j3, Bool.and_true, Bool.and_false, Bool.not_true, Bool.not_false] <;> first | rfl | (rw [w64_in (by omega) (by omega)]; rfl)) (by
  simp only [F_impl_lineFor_l2]; rw [decide_eq_false (by omega), cond_false])
 unfold F_impl_lineFor M.lineFor
 rw [show ((0 : Int)) = ((0 : Nat) : Int) from rfl, key]
 cases (List.range xs.length).find? (fun i => !!M.hit (xs.getD i default) g a) <;> rfl
theorem lineOk_i {h : DHost} {t : DLine} (hs : SmallH h) (hk : HOk h) : F_impl_lineOk h t = some (M.lineOk h t) := by
 unfold F_impl_lineOk M.lineOk
 rw [isThere_i hk.three, Option.bind_some]
 have e : M.there h t.Tag = (M.inR 0 2 t.Tag && (h.Guests.getD t.Tag.toNat default).Live) := by unfold M.there; rw [hOk_iff.2 hk]; rfl
 rw [← e]
 cases ht : M.there h t.Tag with
 | false => rfl
 | true =>
  have l := there_live hs ht
  rw [cond_true, Bool.true_and, pageOk_i, Option.bind_some]
  cases hp : M.inR 0 7 t.At with
  | false => rfl
  | true =>
   obtain ⟨p0, p1⟩ := M.inR_iff.1 hp
   have := shadeOf_i l (p := t.At.toNat) (by omega)
   rw [show ((t.At.toNat : Nat) : Int) = t.At by omega] at this
   rw [cond_true, Bool.true_and, this]; rfl
theorem take_get {T : Type} [Inhabited T] {xs : List T} {i k : Nat} (h : i < k) : (xs.take k).getD i default = xs.getD i default := by
 simp only [List.getD_eq_getElem?_getD]
 rw [List.getElem?_take_of_lt h]
theorem first_take {xs : List DLine} {k : Nat} (hk : k ≤ xs.length) : decide (M.lineFor (xs.take k) (xs.getD k default).Tag (xs.getD k default).At = -1) = M.first xs k := by
 rw [lineFor_none, List.length_take, Nat.min_eq_left hk]
 unfold M.first
 rw [Bool.eq_iff_iff, List.all_eq_true, List.all_eq_true]
 exact ⟨fun h i hi => by have := h i hi; rwa [take_get (List.mem_range.1 hi)] at this, fun h i hi => by rw [take_get (List.mem_range.1 hi)]; exact h i hi⟩
theorem tagsOk_i {h : DHost} {xs : List DLine} (hs : SmallH h) (hl : xs.length ≤ 1048576) : F_impl_TagsOk h xs = some (M.tagsOk h xs) := by
 unfold F_impl_TagsOk M.tagsOk
 rw [hostOk_i hs, Option.bind_some]
 cases hh : M.hostOk h with
 | false => rfl
 | true =>
  have hk := hOk_iff.1 hh
  rw [Bool.not_true, cond_false, Bool.true_and]
  by_cases h6 : xs.length ≤ 6
  · rw [decide_eq_false (by omega), cond_false, decide_eq_true h6, Bool.true_and]
    have key := walk_loop (n := xs.length) (step := F_impl_TagsOk_l3 h xs) (fun i => (i : Int)) (fun k => M.lineOk h (xs.getD k default) && M.first xs k) (.go ()) (.out false) (fun i hi _ => by
     have h1 : (i : Int) < (xs.length : Int) := by omega
     simp only [F_impl_TagsOk_l3, decide_eq_true h1, cond_true]
     rw [grd_t ⟨by omega, h1⟩, Int.toNat_natCast]
     show Option.bind (F_impl_lineOk h (xs.getD i default)) _ = _
     rw [lineOk_i hs hk, Option.bind_some]
     cases M.lineOk h (xs.getD i default) with
     | false => rfl
     | true =>
      rw [Bool.not_true, cond_false, grd_t ⟨by omega, by omega, by omega⟩]
      simp only [Int.toNat_zero, Nat.sub_zero, List.drop_zero]
      rw [lineFor_i (by rw [List.length_take]; omega), Option.bind_some, first_take (by omega), Bool.true_and, w64_in (by omega) (by omega)]
      cases M.first xs i <;> rfl) (fun _ => by
     simp only [F_impl_TagsOk_l3]; rw [decide_eq_false (by omega), cond_false])
    rw [show ((0 : Int)) = ((0 : Nat) : Int) from rfl, key]
    cases (List.range xs.length).all fun k => M.lineOk h (xs.getD k default) && M.first xs k <;> rfl
  · rw [decide_eq_true (by omega), decide_eq_false h6]; rfl
theorem tagsOk_s {h : DHost} {xs : List DLine} (hs : SmallH h) (hl : xs.length ≤ 1048576) : F_spec_TagsOk h xs = some (M.tagsOk h xs) := by
 unfold F_spec_TagsOk M.tagsOk
 rw [hostOk_s hs, Option.bind_some]
 cases hh : M.hostOk h with
 | false => rfl
 | true =>
  have hk := hOk_iff.1 hh
  rw [Bool.not_true, cond_false, Bool.true_and]
  by_cases h6 : xs.length ≤ 6
  · rw [decide_eq_false (by omega), cond_false, decide_eq_true h6, Bool.true_and]
    have key := walk_loop (n := xs.length) (step := F_spec_TagsOk_l3 h xs) (fun i => (i : Int)) (fun k => M.lineOk h (xs.getD k default) && M.first xs k) (.go ()) (.out false) (fun i hi _ => by
     have h1 : (i : Int) < (xs.length : Int) := by omega
     have inner := walk_loop (n := i) (step := F_spec_TagsOk_l8 xs (i : Int)) (fun j => (j : Int)) (fun j => !M.hit (xs.getD j default) (xs.getD i default).Tag (xs.getD i default).At) (.go ()) (.out (.ret (.out false))) (fun j hj _ => by
      have h2 : (j : Int) < (i : Int) := by omega
      simp only [F_spec_TagsOk_l8, decide_eq_true h2, cond_true, Int.toNat_natCast]
      rw [grd_t ⟨by omega, by omega⟩]
      unfold M.hit
      cases decide ((xs.getD j default).Tag = (xs.getD i default).Tag) with
      | false => simp only [cond_false, Option.bind_some, JO.run, F_spec_TagsOk_j9, Bool.false_and, Bool.not_false, cond_true]; rw [w64_in (by omega) (by omega)]; rfl
      | true =>
       rw [cond_true, grd_t ⟨by omega, by omega⟩]
       cases decide ((xs.getD j default).At = (xs.getD i default).At) with
       | false => simp only [cond_false, Option.bind_some, JO.run, F_spec_TagsOk_j9, Bool.and_false, Bool.not_false, cond_true]; rw [w64_in (by omega) (by omega)]; rfl
       | true => rfl) (fun _ => by
      simp only [F_spec_TagsOk_l8]; rw [decide_eq_false (by omega), cond_false])
     simp only [F_spec_TagsOk_l3, decide_eq_true h1, cond_true]
     rw [grd_t ⟨by omega, h1⟩, Int.toNat_natCast, live_s hs, Option.bind_some]
     unfold M.lineOk
     cases ht : M.there h (xs.getD i default).Tag with
     | false => rfl
     | true =>
      have hso := shadowOf_s (g := (xs.getD i default).Tag) hs
      unfold M.shadowOf at hso
      rw [ht, cond_true] at hso
      rw [Bool.not_true, cond_false, l1In_s, Option.bind_some]
      cases hp : M.inR 0 7 (xs.getD i default).At with
      | false => rfl
      | true =>
       obtain ⟨p0, p1⟩ := M.inR_iff.1 hp
       rw [Bool.not_true, cond_false, hso, Option.bind_some, grd_t ⟨p0, by rw [shadow_len]; omega⟩, shadow_get (by omega)]
       show Option.bind (cond (!M.eqSh (M.shade h.Words (h.Guests.getD (xs.getD i default).Tag.toNat default) (xs.getD i default).At.toNat) (xs.getD i default).What) _ _) _ = _
       rw [eqSh_comm, show ((0 : Int)) = ((0 : Nat) : Int) from rfl, inner]
       cases M.eqSh (xs.getD i default).What (M.shade h.Words (h.Guests.getD (xs.getD i default).Tag.toNat default) (xs.getD i default).At.toNat) with
       | false => rfl
       | true =>
        have : w64 ((i : Int) + 1) = (i : Int) + 1 := w64_in (by omega) (by omega)
        have e : M.first xs i = (List.range i).all fun j => !M.hit (xs.getD j default) (xs.getD i default).Tag (xs.getD i default).At := rfl
        rw [← e]
        cases M.first xs i with
        | false => rfl
        | true => simp only [Bool.not_true, cond_false, cond_true, Option.bind_some, LO.val, JO.run, F_spec_TagsOk_j4, Bool.true_and]; rw [this]; rfl) (fun _ => by
     simp only [F_spec_TagsOk_l3]; rw [decide_eq_false (by omega), cond_false])
    rw [show ((0 : Int)) = ((0 : Nat) : Int) from rfl, key]
    cases (List.range xs.length).all fun k => M.lineOk h (xs.getD k default) && M.first xs k <;> rfl
  · rw [decide_eq_true (by omega), decide_eq_false h6]; rfl
end Go.Proofs.Ytbnjdmclnojlmaa
