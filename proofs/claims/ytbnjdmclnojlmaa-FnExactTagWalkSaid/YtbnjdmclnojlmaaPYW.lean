/- TagWalk: the program's function and the model's answer alike. -/
import Derived.Test.YtbnjdmclnojlmaaPYL
import Derived.Test.YtbnjdmclnojlmaaPSB
import Derived.Test.YtbnjdmclnojlmaaWTW1
namespace Go.Proofs.Ytbnjdmclnojlmaa
set_option linter.all false
namespace M
def withLine (xs : List DLine) (t : DLine) : List DLine := (bif decide (xs.length = 6) then xs.drop 1 else xs) ++ [t]
noncomputable def shadeHG (h : DHost) (g a : Int) : DShade := shade h.Words (h.Guests.getD g.toNat default) (a / 8).toNat
noncomputable def tagWalk (h : DHost) (xs : List DLine) (g a : Int) (user write : Bool) : List DLine × Int × Int := bif tagsOk h xs && (there h g && inR 0 63 a) then ((bif decide (lineFor xs g (a / 8) = -1) then withLine xs ⟨g, a / 8, shadeHG h g a⟩ else xs), place (shadeHG h g a) a user write) else ([], -1, -1)
end M
theorem over_alls {T : Type} {n : Nat} {d : T} {xs : List T} (h : n = xs.length) : over (List.replicate n d) 0 (List.replicate n d).length xs = xs := by
 subst h; simp [over]
theorem copiedLines_i {xs : List DLine} (h : xs.length ≤ 1048576) : F_impl_copiedLines xs = some xs := by
 unfold F_impl_copiedLines
 rw [grd_t ⟨by omega, by omega, by omega⟩, over_alls (by omega)]
theorem take_rest {T : Type} {xs : List T} : List.take (Int.toNat ((xs.length : Nat) : Int) - Int.toNat (1 : Int)) (List.drop (Int.toNat (1 : Int)) xs) = xs.drop 1 := by
 rw [Int.toNat_natCast, show Int.toNat (1 : Int) = 1 from rfl, List.take_of_length_le (by rw [List.length_drop]; omega)]
theorem withLine_i {xs : List DLine} {t : DLine} (h : xs.length ≤ 6) : F_impl_withLine xs t = some (M.withLine xs t) := by
 unfold F_impl_withLine M.withLine
 by_cases e : xs.length = 6
 · rw [decide_eq_true (by omega), decide_eq_true e, cond_true, cond_true, grd_t ⟨by omega, by omega, by omega⟩, take_rest]
   simp only [Option.bind_some, JO.run, F_impl_withLine_j1]
   rw [copiedLines_i (by rw [List.length_drop]; omega), Option.bind_some, grd_t ⟨by simp only [List.length_drop, List.length_cons, List.length_nil]; omega, by simp only [List.length_drop, List.length_cons, List.length_nil]; omega⟩]
 · rw [decide_eq_false (by omega), decide_eq_false e, cond_false, cond_false]
   simp only [Option.bind_some, JO.run, F_impl_withLine_j1]
   rw [copiedLines_i (by omega), Option.bind_some, grd_t ⟨by simp only [List.length_cons, List.length_nil]; omega, by simp only [List.length_cons, List.length_nil]; omega⟩]
theorem tagsOk_spec {h : DHost} {xs : List DLine} (ht : M.tagsOk h xs = true) : HOk h ∧ xs.length ≤ 6 ∧ ∀ k, k < xs.length → M.lineOk h (xs.getD k default) = true ∧ M.first xs k = true := by
 unfold M.tagsOk at ht
 simp only [Bool.and_eq_true, decide_eq_true_eq, List.all_eq_true, List.mem_range] at ht
 exact ⟨hOk_iff.1 ht.1, ht.2.1, fun k hk => ht.2.2 k hk⟩
theorem lineOk_spec {h : DHost} {t : DLine} (ht : M.lineOk h t = true) : M.there h t.Tag = true ∧ (0 ≤ t.At ∧ t.At ≤ 7) ∧ t.What = M.shade h.Words (h.Guests.getD t.Tag.toNat default) t.At.toNat := by
 unfold M.lineOk at ht
 simp only [Bool.and_eq_true] at ht
 exact ⟨ht.1, M.inR_iff.1 ht.2.1, eqSh_iff.1 ht.2.2⟩
theorem hit_what {h : DHost} {xs : List DLine} (ht : M.tagsOk h xs = true) {k : Nat} (hk : k < xs.length) {g a : Int} (hh : M.hit (xs.getD k default) g (a / 8) = true) : (xs.getD k default).What = M.shadeHG h g a := by
 obtain ⟨h1, h2⟩ := hit_iff.1 hh
 have := (lineOk_spec ((tagsOk_spec ht).2.2 k hk).1).2.2
 rw [this, h1, h2]; rfl
theorem tagWalk_i {h : DHost} {xs : List DLine} {g a : Int} {user write : Bool} (hs : SmallH h) (hl : xs.length ≤ 1048576) : F_impl_TagWalk h xs g a user write = some (M.tagWalk h xs g a user write) := by
 unfold F_impl_TagWalk M.tagWalk
 rw [tagsOk_i hs hl, Option.bind_some]
 cases ht : M.tagsOk h xs with
 | false => rfl
 | true =>
  obtain ⟨hk, h6, hall⟩ := tagsOk_spec ht
  have e : M.there h g = (M.inR 0 2 g && (h.Guests.getD g.toNat default).Live) := by unfold M.there; rw [hOk_iff.2 hk]; rfl
  rw [Bool.not_true, cond_false, isThere_i hk.three, Option.bind_some, ← e, Bool.true_and]
  cases hg : M.there h g with
  | false => rfl
  | true =>
   have l := there_live hs hg
   rw [Bool.not_true, cond_false, addressOk_i, Option.bind_some, Bool.true_and]
   cases ha : M.inR 0 63 a with
   | false => rfl
   | true =>
    obtain ⟨a0, a1⟩ := M.inR_iff.1 ha
    have hp : (a / 8).toNat < 8 := by omega
    have hf := shade_frame l hp
    have hr := lineFor_range (xs := xs) (g := g) (a := a / 8)
    have hsh := shadeOf_i l hp
    rw [show (((a / 8).toNat : Nat) : Int) = a / 8 by omega] at hsh
    rw [Bool.not_true, cond_false, cond_true, Int.tdiv_eq_ediv_of_nonneg a0, w64_in (by omega) (by omega), lineFor_i hl, Option.bind_some]
    by_cases hn : M.lineFor xs g (a / 8) = -1
    · rw [decide_eq_true hn, cond_true, cond_true, hsh, Option.bind_some, shadeLeads_i a0 a1 hf.1 hf.2, Option.bind_some, withLine_i h6]; rfl
    · have hw := hit_what ht (by omega) (lineFor_some hn)
      rw [decide_eq_false hn, cond_false, cond_false, grd_t ⟨by omega, by omega⟩]
      show Option.bind (F_impl_shadeLeads (xs.getD (M.lineFor xs g (a / 8)).toNat default).What a user write) _ = _
      rw [hw, shadeLeads_i (s := M.shadeHG h g a) a0 a1 hf.1 hf.2, Option.bind_some, copiedLines_i hl]; rfl
theorem tagWalk_s {h : DHost} {xs : List DLine} {g a : Int} {user write : Bool} (hs : SmallH h) (hl : xs.length ≤ 1048576) : F_spec_TagWalk h xs g a user write = some (M.tagWalk h xs g a user write) := by
 unfold F_spec_TagWalk M.tagWalk
 rw [tagsOk_s hs hl, Option.bind_some]
 cases ht : M.tagsOk h xs with
 | false => rfl
 | true =>
  obtain ⟨hk, h6, hall⟩ := tagsOk_spec ht
  rw [Bool.not_true, cond_false, live_s hs, Option.bind_some, Bool.true_and]
  cases hg : M.there h g with
  | false => rfl
  | true =>
   have l := there_live hs hg
   have hso := shadowOf_s (g := g) hs
   unfold M.shadowOf at hso
   rw [hg, cond_true] at hso
   rw [Bool.not_true, cond_false, l1In_s, Option.bind_some, Bool.true_and]
   cases ha : M.inR 0 63 a with
   | false => rfl
   | true =>
    obtain ⟨a0, a1⟩ := M.inR_iff.1 ha
    have hp : (a / 8).toNat < 8 := by omega
    have hf := shade_frame l hp
    have e8 : w64 (Int.tdiv a 8) = a / 8 := by rw [Int.tdiv_eq_ediv_of_nonneg a0, w64_in (by omega) (by omega)]
    generalize hz : List.replicate (Int.toNat (8 : Int)) (DShade.mk false false false (0 : Int) (0 : Int) false) = zs
    have hzl : zs.length = 8 := by rw [← hz]; simp
    generalize hss : M.shadeHG h g a = s
    have key := walk_loop (n := xs.length) (step := F_spec_TagWalk_l8 xs g a) (fun i => ((bif (List.range i).all (fun j => !M.hit (xs.getD j default) g (a / 8)) then zs else zs.set (a / 8).toNat s), !(List.range i).all (fun j => !M.hit (xs.getD j default) g (a / 8)), (i : Int))) (fun _ => true) (.go ((bif (List.range xs.length).all (fun j => !M.hit (xs.getD j default) g (a / 8)) then zs else zs.set (a / 8).toNat s), !(List.range xs.length).all (fun j => !M.hit (xs.getD j default) g (a / 8)))) (.go (zs, false)) (fun i hi _ => by
     have h1 : (i : Int) < (xs.length : Int) := by omega
     simp only [F_spec_TagWalk_l8, decide_eq_true h1, cond_true, e8]
     rw [grd_t ⟨by omega, h1⟩, Int.toNat_natCast, List.range_succ, List.all_append]
     simp only [List.all_cons, List.all_nil, Bool.and_true]
     generalize hA : (List.range i).all (fun j => !M.hit (xs.getD j default) g (a / 8)) = A
     cases hh : M.hit (xs.getD i default) g (a / 8) with
     | false =>
      have : (bif decide ((xs.getD i default).Tag = g) then decide ((xs.getD i default).At = a / 8) else false) = false := by
       unfold M.hit at hh; cases e1 : decide ((xs.getD i default).Tag = g) <;> simp_all
      cases e1 : decide ((xs.getD i default).Tag = g) with
      | false => simp only [cond_false, Option.bind_some, JO.run, F_spec_TagWalk_j9, Bool.not_false, Bool.and_true]; rw [w64_in (by omega) (by omega)]; rfl
      | true =>
       rw [e1] at this
       rw [cond_true, grd_t ⟨by omega, h1⟩, show decide ((xs.getD i default).At = a / 8) = false from this]
       simp only [cond_false, Option.bind_some, JO.run, F_spec_TagWalk_j9, Bool.not_false, Bool.and_true]; rw [w64_in (by omega) (by omega)]; rfl
     | true =>
      obtain ⟨q1, q2⟩ := hit_iff.1 hh
      have hw := hit_what ht hi hh
      rw [hss] at hw
      have hset : ∀ ys : List DShade, List.set ys (a / 8).toNat (DShade.mk (xs.getD i default).What.There (xs.getD i default).What.Write (xs.getD i default).What.User (xs.getD i default).What.Page (xs.getD i default).What.Frame (xs.getD i default).What.Ready) = ys.set (a / 8).toNat s := fun ys => by rw [← hw]
      rw [decide_eq_true q1, cond_true, grd_t ⟨by omega, h1⟩, decide_eq_true q2, cond_true, grd_t ⟨by omega, h1⟩, hset]
      have hlen : (bif A then zs else zs.set (a / 8).toNat s).length = 8 := by cases A <;> simp [hzl]
      rw [grd_t ⟨by omega, by rw [hlen]; omega⟩]
      simp only [Option.bind_some, JO.run, F_spec_TagWalk_j9, Bool.not_true, Bool.and_false, cond_false, Bool.not_false]
      rw [w64_in (by omega) (by omega)]
      cases A <;> simp) (fun _ => by
     simp only [F_spec_TagWalk_l8]; rw [decide_eq_false (by omega), cond_false])
    have e : (List.range xs.length).all (fun _ => true) = true := by simp
    rw [e, cond_true] at key
    simp only [List.range_zero, List.all_nil, cond_true, Bool.not_true] at key
    rw [Bool.not_true, cond_false, cond_true, grd_t ⟨by simp only [List.length_nil]; omega, by simp only [List.length_nil]; omega⟩]
    rw [show ((0 : Int)) = ((0 : Nat) : Int) from rfl, key]
    simp only [Option.bind_some, LO.val, JO.run, F_spec_TagWalk_j4, List.nil_append, ← lineFor_none]
    by_cases hn : M.lineFor xs g (a / 8) = -1
    · have hss2 : M.shade h.Words (h.Guests.getD g.toNat default) (a / 8).toNat = s := hss
      rw [decide_eq_true hn]
      simp only [Bool.not_true, Bool.not_false, cond_true, e8]
      rw [hso, Option.bind_some, grd_t ⟨by omega, by rw [shadow_len]; omega⟩, shadow_get hp, hss2]
      have hll : (xs ++ [DLine.mk g (a / 8) (DShade.mk s.There s.Write s.User s.Page s.Frame s.Ready)]).length = xs.length + 1 := by simp
      rw [grd_t ⟨by simp only [List.length_cons, List.length_nil]; omega, by simp only [List.length_cons, List.length_nil]; omega⟩]
      unfold M.withLine
      by_cases e6 : xs.length = 6
      · have ed : List.drop 1 (xs ++ [DLine.mk g (a / 8) (DShade.mk s.There s.Write s.User s.Page s.Frame s.Ready)]) = xs.drop 1 ++ [DLine.mk g (a / 8) (DShade.mk s.There s.Write s.User s.Page s.Frame s.Ready)] := List.drop_append_of_le_length (by omega)
        rw [hll, decide_eq_true (by omega), cond_true, grd_t ⟨by omega, by omega, by omega⟩, List.take_of_length_le (by rw [List.length_drop, hll]; simp), ed]
        simp only [Option.bind_some, JO.run, F_spec_TagWalk_j5]
        rw [l5Place_s a0 a1 shadow_len (shadow_get hp) hf.1 hf.2, Option.bind_some, hss2, decide_eq_true e6]; rfl
      · rw [hll, decide_eq_false (by omega), cond_false]
        simp only [Option.bind_some, JO.run, F_spec_TagWalk_j5]
        rw [l5Place_s a0 a1 shadow_len (shadow_get hp) hf.1 hf.2, Option.bind_some, hss2, decide_eq_false e6]; rfl
    · rw [decide_eq_false hn]
      simp only [Bool.not_true, Bool.not_false, cond_false, Option.bind_some, JO.run, F_spec_TagWalk_j5]
      have hss2 : M.shade h.Words (h.Guests.getD g.toNat default) (a / 8).toNat = s := hss
      rw [hss2] at hf
      rw [l5Place_s a0 a1 (by rw [List.length_set, hzl]) (by rw [getD_set_self (by omega)]) hf.1 hf.2, Option.bind_some]
end Go.Proofs.Ytbnjdmclnojlmaa
