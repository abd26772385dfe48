/- A guest goes: the host is ok, and all others look as they did. -/
import Derived.Test.YtlikfpmbcdlnjaaPHD
import Derived.Test.YtlikfpmbcdlnjaaPHV
import Derived.Test.YtlikfpmbcdlnjaaPHS
import Derived.Test.YtlikfpmbcdlnjaaWK1
namespace Go.Proofs.Ytlikfpmbcdlnjaa
set_option linter.all false
theorem smallG_no2 : SmallG M.noGuest := ⟨⟨by decide⟩, by decide, by decide, by decide⟩
theorem slots_set : ∀ {gs : List DGuest} {i : Nat}, (M.slots (gs.set i M.noGuest)).Sublist (M.slots gs)
 | [], i => by simp [M.slots]
 | g :: gs, 0 => by
  simp only [List.set_cons_zero, M.slots, List.flatMap_cons, M.noGuest, List.nil_append]
  exact List.sublist_append_right _ _
 | g :: gs, i + 1 => by
  simp only [List.set_cons_succ, M.slots, List.flatMap_cons]
  exact List.Sublist.append (List.Sublist.refl _) slots_set
theorem many_set {gs : List DGuest} {i : Nat} {f : Int} : M.many (M.slots (gs.set i M.noGuest)) f ≤ M.many (M.slots gs) f := List.Sublist.countP_le slots_set
theorem guestOk_no : M.guestOk M.noGuest = true := by
 unfold M.guestOk
 rw [show M.noGuest.Live = false from rfl, cond_false, decide_eq_true rfl]
theorem drop_ok {h : DHost} {i : Nat} (hk : HOk h) : HOk ⟨h.Words, h.Guests.set i M.noGuest⟩ := by
 refine ⟨hk.len, hk.words, by simpa using hk.three, ?_, ?_⟩
 · rw [List.all_eq_true]
   intro x hx
   rcases List.mem_or_eq_of_mem_set hx with hx | rfl
   · exact List.all_eq_true.1 hk.all x hx
   · exact guestOk_no
 · have ha := hk.alone
   simp only [M.alone, List.all_eq_true, Bool.or_eq_true, Bool.not_eq_true', decide_eq_true_eq] at ha ⊢
   intro s hs
   rcases ha s (slots_set.subset hs) with h1 | h1
   · exact .inl h1
   · exact .inr (Nat.le_trans many_set h1)
theorem drop_small {h : DHost} {g : Int} (hs : SmallH h) : SmallH (M.hostDrop h g).1 := by
 unfold M.hostDrop
 cases M.there h g with
 | false => exact ⟨by simp, by simp, by simp⟩
 | true =>
  refine ⟨hs.words, by simpa using hs.guests, fun x hx => ?_⟩
  rcases List.mem_or_eq_of_mem_set hx with hx | rfl
  · exact hs.all x hx
  · exact smallG_no2
theorem view_same {h h' : DHost} {k : Int} (h1 : M.hostOk h = true) (h2 : M.hostOk h' = true) (hw : h'.Words = h.Words) (hg : h'.Guests.getD k.toNat default = h.Guests.getD k.toNat default) : M.hostView h' k = M.hostView h k := by
 unfold M.hostView M.there
 rw [h1, h2, hw, hg]
theorem views_loop {a b : DHost} {but : Int} (ha : SmallH a) (hb : SmallH b) (hv : ∀ k : Nat, k < 3 → (k : Int) ≠ but → M.hostView b (k : Int) = M.hostView a (k : Int)) : F_laws_sameViews a b but = some true := by
 unfold F_laws_sameViews
 have key := walk_loop (n := 3) (step := F_laws_sameViews_l2 a b but) (fun k => (k : Int)) (fun _ => true) (JO.go ()) (.out false) (fun k hk _ => by
  simp only [F_laws_sameViews_l2]
  rw [decide_eq_true (p := (k : Int) < 3) (by omega), cond_true, hostView_i ha, Option.bind_some, hostView_i hb, Option.bind_some]
  by_cases e : (k : Int) = but
  · rw [decide_eq_true e]
    simp only [Bool.not_true, cond_false, Option.bind_some, JO.run, F_laws_sameViews_j3, cond_true]
    rw [w64_in (by omega) (by omega)]; rfl
  · rw [decide_eq_false e, hv k hk e, sameBare_refl (small_view ha)]
    simp only [beq_self_eq_true, Bool.not_true, Bool.not_false, cond_false, Option.bind_some, JO.run, F_laws_sameViews_j3, cond_true]
    rw [w64_in (by omega) (by omega)]; rfl) (fun _ => by
  simp only [F_laws_sameViews_l2]; rfl)
 rw [show (List.range 3).all (fun _ => true) = true by simp, cond_true] at key
 rw [show ((0 : Int)) = (((0 : Nat) : Int)) from rfl, key]; rfl
theorem drop_views {h : DHost} {g : Int} (hs : SmallH h) (ht : M.there h g = true) : F_laws_sameViews h (M.hostDrop h g).1 g = some true := by
 obtain ⟨hk, g0, g1, gl⟩ := there_iff.1 ht
 have h3 := hk.three
 refine views_loop hs (drop_small hs) fun k hk3 hne => ?_
 have e : (M.hostDrop h g).1 = ⟨h.Words, h.Guests.set g.toNat M.noGuest⟩ := by unfold M.hostDrop; rw [ht]; rfl
 rw [e]
 refine view_same (hOk_iff.2 hk) (hOk_iff.2 (drop_ok hk)) rfl ?_
 simp only [Int.toNat_natCast]
 rw [getD_lt (by rw [List.length_set]; omega), List.getElem_set_ne (by omega), ← getD_lt]
theorem drop_gone {h : DHost} {g : Int} (ht : M.there h g = true) : (M.hostView (M.hostDrop h g).1 g).2 = false := by
 obtain ⟨hk, g0, g1, gl⟩ := there_iff.1 ht
 have h3 := hk.three
 have e : (M.hostDrop h g).1 = ⟨h.Words, h.Guests.set g.toNat M.noGuest⟩ := by unfold M.hostDrop; rw [ht]; rfl
 have : M.there (M.hostDrop h g).1 g = false := by
  rw [Bool.eq_false_iff]
  intro hc
  obtain ⟨_, _, _, hl⟩ := there_iff.1 hc
  rw [e] at hl
  simp only [] at hl
  rw [getD_lt (by rw [List.length_set]; omega), List.getElem_set_self] at hl
  cases hl
 unfold M.hostView
 rw [this]; rfl
theorem drop_hostOk {h : DHost} {g : Int} (ht : M.there h g = true) : M.hostOk (M.hostDrop h g).1 = true := by
 have e : (M.hostDrop h g).1 = ⟨h.Words, h.Guests.set g.toNat M.noGuest⟩ := by unfold M.hostDrop; rw [ht]; rfl
 rw [e]; exact hOk_iff.2 (drop_ok (there_iff.1 ht).1)
theorem drop_snd {h : DHost} {g : Int} : (M.hostDrop h g).2 = M.there h g := by
 unfold M.hostDrop; cases M.there h g <;> rfl
end Go.Proofs.Ytlikfpmbcdlnjaa
