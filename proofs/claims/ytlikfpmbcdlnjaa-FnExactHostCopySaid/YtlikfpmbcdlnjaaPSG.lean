/- HostFill and HostCopy: the model answers alike. -/
import Derived.Test.YtlikfpmbcdlnjaaPSF
namespace Go.Proofs.Ytlikfpmbcdlnjaa
set_option linter.all false
section
variable {ws : List Int}
theorem over_self {f : Nat} (h : f * 8 + 8 ≤ ws.length) : over ws (f * 8) 8 (M.page ws f) = ws := by
 have hp : (M.page ws f).length = 8 := page_len h
 refine list_ext (n := ws.length) (over_len3 h) rfl fun a ha => ?_
 rw [over_get hp h]
 by_cases h1 : a < f * 8
 · rw [if_pos h1]
 · by_cases h2 : a < f * 8 + 8
   · rw [if_neg h1, if_pos h2]
     show ((ws.drop (f * 8)).take 8).getD (a - f * 8) default = _
     rw [page_get (by omega)]; congr 1; omega
   · rw [if_neg h1, if_neg h2]
theorem over_long {o f : Nat} (h : f * 8 + 8 ≤ ws.length) : over ws o 8 (List.take (ws.length - f * 8) (List.drop (f * 8) ws)) = over ws o 8 (M.page ws f) := by
 have hp : (M.page ws f).length = 8 := page_len h
 have e1 : List.take (ws.length - f * 8) (List.drop (f * 8) ws) = List.drop (f * 8) ws := List.take_of_length_le (by rw [List.length_drop]; exact Nat.le_refl _)
 unfold over
 rw [e1, hp, List.length_drop, show min 8 (ws.length - f * 8) = 8 by omega, Nat.min_self, List.take_of_length_le (l := M.page ws f) (by omega)]
 rfl
theorem over_zero {o i : Nat} (h : o + 8 ≤ ws.length) (hi : i < 8) : (over ws o i (List.replicate i 0)).set (o + i) 0 = over ws o (i + 1) (List.replicate (i + 1) 0) := by
 refine list_ext (n := ws.length) (by rw [List.length_set, over_len3 (by omega)]) (over_len3 (by omega)) fun a ha => ?_
 rw [set_get (by rw [over_len3 (by omega)]; omega), over_get (by simp) (by omega), over_get (by simp) (by omega)]
 by_cases h1 : a < o
 · rw [if_neg (by omega), if_pos h1, if_pos h1]
 · by_cases h2 : a < o + i
   · rw [if_neg (by omega), if_neg h1, if_pos h2, if_neg h1, if_pos (by omega), getD_lt (by rw [List.length_replicate]; omega), List.getElem_replicate, getD_lt (by rw [List.length_replicate]; omega), List.getElem_replicate]
   · by_cases h3 : a = o + i
     · rw [if_pos h3.symm, if_neg h1, if_pos (by omega), getD_lt (by rw [List.length_replicate]; omega), List.getElem_replicate]
     · rw [if_neg (by omega), if_neg h1, if_neg h2, if_neg h1, if_neg (by omega)]
theorem over_none {o : Nat} : over ws o 0 [] = ws := by simp [over]
end
theorem fill_zero {ws free : List Int} {f : Int} (hf : free.getD 0 default = f) (h0 : 0 ≤ f) (h1 : f < 20) (hw : ws.length = 160) (hl : 0 < free.length) : iter (F_spec_HostFill_l6 free) (ws, 0) = some (.ret (.go (over ws (f.toNat * 8) 8 (List.replicate 8 0)))) := by
 have key := walk_loop (n := 8) (step := F_spec_HostFill_l6 free) (fun i => (over ws (f.toNat * 8) i (List.replicate i 0), (i : Int))) (fun _ => true) (JO.go (over ws (f.toNat * 8) 8 (List.replicate 8 0))) (JO.go []) (fun i hi _ => by
  have hl2 : (over ws (f.toNat * 8) i (List.replicate i 0)).length = 160 := by rw [over_len3 (by omega), hw]
  simp only [F_spec_HostFill_l6, hf, hl2]
  rw [decide_eq_true (p := (i : Int) < 8) (by omega), cond_true, grd_t ⟨by omega, by omega⟩, w64_in (z := f * 8) (by omega) (by omega), w64_in (z := f * 8 + (i : Int)) (by omega) (by omega), w64_in (z := (i : Int) + 1) (by omega) (by omega), grd_t ⟨by omega, by omega⟩, show Int.toNat (f * 8 + (i : Int)) = f.toNat * 8 + i by omega, over_zero (by omega) hi]; rfl) (fun _ => by
  simp only [F_spec_HostFill_l6]; rfl)
 have e0 : ((List.range 8).all fun _ => true) = true := by decide
 rw [e0] at key
 simp only [List.replicate_zero, over_none, cond_true] at key
 exact key
theorem slot_gone {s : DSlot} (h : M.slotOk s = true) (e : s.Frame = -1) : s.Dirty = false := by
 unfold M.slotOk at h
 rw [decide_eq_true e, cond_true] at h
 cases hd : s.Dirty
 · rfl
 · rw [hd] at h; simp at h
theorem hostFill_s {h : DHost} {g p : Int} (hs : SmallH h) : F_spec_HostFill h g p = some (M.hostFill h g p) := by
 unfold F_spec_HostFill M.hostFill
 rw [live_s hs, Option.bind_some]
 cases ht : M.there h g with
 | false => rfl
 | true =>
  have l := there_live hs ht
  have hfr := hostFree_s hs
  unfold M.hostFree at hfr
  rw [hOk_iff.2 l.ok, cond_true] at hfr
  generalize hx : h.Guests.getD g.toNat default = x at l
  have := l.ok.three; have := l.lo; have := l.hi; have hpl := l.pages
  rw [Bool.not_true, cond_false, l1In_s, Option.bind_some, Bool.true_and]
  cases hp : M.inR 0 7 p with
  | false => rfl
  | true =>
   obtain ⟨p0, p1⟩ := M.inR_iff.1 hp
   have hsl := live_slot l (p := p.toNat) (by omega)
   have hso := List.all_eq_true.1 l.slots _ (getD_mem (k := p.toNat) (by omega))
   rw [Bool.not_true, cond_false, cond_true, copy_s hs l.ok.all, Option.bind_some, grd_t ⟨l.lo, by omega⟩, grd_t ⟨p0, by omega⟩]
   by_cases e : (x.Pages.getD p.toNat default).Frame = -1
   · rw [decide_eq_true e, decide_eq_false (by omega), cond_false, cond_true, hfr, Option.bind_some]
     unfold M.inFree
     by_cases e2 : (M.free (M.slots h.Guests)).length = 0
     · rw [decide_eq_true e2, decide_eq_true (by omega)]; rfl
     · have hf := free_in (ss := M.slots h.Guests) (i := 0) (by omega)
       rw [decide_eq_false e2, decide_eq_false (by omega), cond_false, cond_false, fill_zero rfl hf.1 hf.2 l.ok.len (by omega)]
       simp only [Option.bind_some, LO.val, JO.run, F_spec_HostFill_j5, hx]
       rw [grd_t ⟨l.lo, by omega⟩, grd_t ⟨by omega, by omega⟩, grd_t ⟨p0, by omega⟩]
       unfold M.inFrame M.pageWords
       rw [hx, decide_eq_true e, cond_true, slot_gone hso e]
   · rw [decide_eq_false e, decide_eq_true (by omega)]; rfl
theorem many_here {h : DHost} {g : Int} {x : DGuest} (l : Live h g x) {p : Nat} (hp : p < 8) : 1 ≤ M.many (M.slots h.Guests) (x.Pages.getD p default).Frame := by
 have := l.ok.three; have := l.lo; have := l.hi; have hpl := l.pages
 unfold M.many
 refine List.countP_pos_iff.2 ⟨x.Pages.getD p default, ?_, by simp⟩
 refine List.mem_flatMap.2 ⟨x, ?_, getD_mem (by omega)⟩
 rw [← l.at_]; exact getD_mem (by omega)
theorem slot_here {h : DHost} {g : Int} {x : DGuest} (l : Live h g x) {p : Nat} (hp : p < 8) : x.Pages.getD p default ∈ M.slots h.Guests := by
 have := l.ok.three; have := l.lo; have := l.hi; have hpl := l.pages
 refine List.mem_flatMap.2 ⟨x, ?_, getD_mem (by omega)⟩
 rw [← l.at_]; exact getD_mem (by omega)
theorem hostCopy_s {h : DHost} {g p : Int} (hs : SmallH h) : F_spec_HostCopy h g p = some (M.hostCopy h g p) := by
 unfold F_spec_HostCopy M.hostCopy
 rw [live_s hs, Option.bind_some]
 cases ht : M.there h g with
 | false => rfl
 | true =>
  have l := there_live hs ht
  have hfr := hostFree_s hs
  unfold M.hostFree at hfr
  rw [hOk_iff.2 l.ok, cond_true] at hfr
  generalize hx : h.Guests.getD g.toNat default = x at l
  have := l.ok.three; have := l.lo; have := l.hi; have hpl := l.pages; have hlw := l.ok.len
  rw [Bool.not_true, cond_false, l1In_s, Option.bind_some, Bool.true_and]
  cases hp : M.inR 0 7 p with
  | false => rfl
  | true =>
   obtain ⟨p0, p1⟩ := M.inR_iff.1 hp
   have hsl := live_slot l (p := p.toNat) (by omega)
   have hss := all_slots l.ok.all
   have hl2 := takers_len hss
   have hm1 := many_here l (p := p.toNat) (by omega)
   have hal := List.all_eq_true.1 l.ok.alone _ (slot_here l (p := p.toNat) (by omega))
   rw [Bool.not_true, cond_false, cond_true, grd_t ⟨l.lo, by omega⟩, grd_t ⟨p0, by omega⟩]
   by_cases e : (x.Pages.getD p.toNat default).Frame = -1
   · rw [decide_eq_true e, decide_eq_true (by omega)]; rfl
   · have hpf : (x.Pages.getD p.toNat default).Frame.toNat * 8 + 8 ≤ h.Words.length := by omega
     have hpw : M.pageWords h.Words (x.Pages.getD p.toNat default) = M.page h.Words (x.Pages.getD p.toNat default).Frame.toNat := by unfold M.pageWords; rw [decide_eq_false e, cond_false]
     have same : JO.run (.go (h.Words, (x.Pages.getD p.toNat default).Frame)) (F_spec_HostCopy_j4 h g p h) = some (M.inFrame h g p (x.Pages.getD p.toNat default).Frame, true) := by
      simp only [JO.run, F_spec_HostCopy_j4, hx]
      rw [grd_t ⟨l.lo, by omega⟩, grd_t ⟨p0, by omega⟩]
      unfold M.inFrame
      rw [hx, hpw, over_self hpf]
     rw [decide_eq_false e, decide_eq_false (by omega), cond_false, cond_false, copy_s hs l.ok.all, Option.bind_some, grd_t ⟨l.lo, by omega⟩, grd_t ⟨p0, by omega⟩]
     cases hw : (x.Pages.getD p.toNat default).Write with
     | true =>
      rw [hw, Bool.not_true, Bool.false_or, decide_eq_true_eq] at hal
      rw [Bool.not_true, cond_false, decide_eq_true (by omega), cond_true, Option.bind_some, same]
     | false =>
      have e0 : decide ((1 : Int) < (M.takers (M.slots h.Guests)).getD (x.Pages.getD p.toNat default).Frame.toNat default) = !decide (M.many (M.slots h.Guests) (x.Pages.getD p.toNat default).Frame = 1) := by
       rw [takers_get hss (by omega), show (((x.Pages.getD p.toNat default).Frame.toNat : Nat) : Int) = (x.Pages.getD p.toNat default).Frame by omega]
       by_cases q : M.many (M.slots h.Guests) (x.Pages.getD p.toNat default).Frame = 1
       · rw [decide_eq_true q, decide_eq_false (by omega)]; rfl
       · rw [decide_eq_false q, decide_eq_true (by omega)]; rfl
      rw [Bool.not_false, cond_true, used_s hs l.ok, Option.bind_some, grd_t ⟨by omega, by omega⟩, e0]
      cases decide (M.many (M.slots h.Guests) (x.Pages.getD p.toNat default).Frame = 1) with
      | true => rw [Bool.not_true, cond_false, cond_true, Option.bind_some, same]
      | false =>
       rw [Bool.not_false, cond_true, cond_false, hfr, Option.bind_some]
       unfold M.inFree
       by_cases e2 : (M.free (M.slots h.Guests)).length = 0
       · rw [decide_eq_true e2, decide_eq_true (by omega)]; rfl
       · have hf := free_in (ss := M.slots h.Guests) (i := 0) (by omega)
         generalize hff : (M.free (M.slots h.Guests)).getD 0 default = f at hf
         rw [decide_eq_false e2, decide_eq_false (by omega), cond_false, cond_false, grd_t ⟨by omega, by omega⟩, grd_t ⟨by omega, by omega⟩, w64_in (z := f * 8) (by omega) (by omega), w64_in (z := f + 1) (by omega) (by omega), w64_in (z := (f + 1) * 8) (by omega) (by omega), w64_in (z := (x.Pages.getD p.toNat default).Frame * 8) (by omega) (by omega), grd_t ⟨by omega, by omega, by omega⟩, grd_t ⟨by omega, by omega, by omega⟩, grd_t ⟨by omega, by omega⟩, Option.bind_some]
         rw [show Int.toNat (f * 8) = f.toNat * 8 by omega, show Int.toNat ((f + 1) * 8) - f.toNat * 8 = 8 by omega, show Int.toNat ((h.Words.length : Nat) : Int) - Int.toNat ((x.Pages.getD p.toNat default).Frame * 8) = h.Words.length - (x.Pages.getD p.toNat default).Frame.toNat * 8 by omega, show Int.toNat ((x.Pages.getD p.toNat default).Frame * 8) = (x.Pages.getD p.toNat default).Frame.toNat * 8 by omega, over_long hpf]
         simp only [JO.run, F_spec_HostCopy_j4, hx]
         rw [grd_t ⟨l.lo, by omega⟩, grd_t ⟨p0, by omega⟩]
         unfold M.inFrame
         rw [hx, hpw]
end Go.Proofs.Ytlikfpmbcdlnjaa
