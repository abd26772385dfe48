/- The law of HostView answers true. -/
import Derived.Test.YtlikfpmbcdlnjaaPHV
import Derived.Test.YtlikfpmbcdlnjaaP6
import Derived.Test.YtlikfpmbcdlnjaaPHR
import Derived.Test.YtlikfpmbcdlnjaaWFV1
namespace Go.Proofs.Ytlikfpmbcdlnjaa
set_option linter.all false
theorem view_ok {h : DHost} {g : Int} {x : DGuest} (l : Live h g x) : M.bareOk ⟨x.C, M.mem h.Words x.Pages, x.In, x.Out⟩ = true := by
 have hk := l.ok
 unfold M.bareOk M.memOk
 simp only [Bool.and_eq_true, decide_eq_true_eq]
 refine ⟨⟨⟨l.core, mem_len, ?_⟩, l.inn⟩, l.out⟩
 simp only [M.wordsOk, List.all_eq_true, M.mem, List.mem_map, List.mem_range]
 rintro w ⟨a, ha, rfl⟩
 unfold M.word M.wordOk
 rw [M.inR_iff]
 have hr := slot_getD l.slots (i := a / 8) (by rw [l.pages]; omega)
 split
 · omega
 · exact wordsOk_get hk.words (by rw [hk.len]; omega)
theorem view_zero {h : DHost} {x : DGuest} {p k : Nat} (hp : p < 8) (hk : k < 8) (hf : (x.Pages.getD p default).Frame < 0) : (M.mem h.Words x.Pages).getD (p * 8 + k) default = 0 := by
 rw [mem_get (by omega)]
 unfold M.word
 rw [show (p * 8 + k) / 8 = p by omega, if_pos hf]
theorem drawView_d {xs : List Int} (hx : ∀ x ∈ xs, 0 ≤ x ∧ x ≤ 255) : Ex (F_spec_DrawHostView xs) (fun v => SmallH v.1) := by
 unfold F_spec_DrawHostView
 refine Ex.bind (open_d hx) fun r R => ?_
 refine Ex.bind (host_d R (by omega) (by omega)) fun v ⟨R2, hs⟩ => ?_
 refine Ex.bind (pick_d R2 (by omega) (by omega)) fun v3 ⟨R3, _, _⟩ => ?_
 exact Ex.bind (pick_d R3 (by omega) (by omega)) fun v4 ⟨R4, _, _⟩ => Ex.ret hs
theorem fnHostView_e {xs : List Int} (hx : ∀ x ∈ xs, 0 ≤ x ∧ x ≤ 255) : Ex (F_laws_FnHostView xs) (fun b => b = true) := by
 have al : Ex (Option.bind F_laws_alive fun v => some v) (fun b => b = true) := Ex.bind (alive_d (Q := fun b => b = true) rfl) fun b hb => Ex.ret hb
 unfold F_laws_FnHostView
 refine Ex.cond (fun _ => Ex.ret rfl) fun _ => ?_
 refine Ex.bind (drawView_d hx) fun v hs => ?_
 obtain ⟨h, g⟩ := v
 have hs : SmallH h := hs
 have hz := small_view (g := g) hs
 rw [hostView_i hs, Option.bind_some, hostView_s hs, Option.bind_some, beq_self_eq_true, Bool.not_true, cond_false, sameBare_refl hz, Option.bind_some, Bool.not_true, cond_false]
 simp only []
 cases ht : M.there h g with
 | false =>
  have : (M.hostView h g).2 = false := by unfold M.hostView; rw [ht]; rfl
  rw [this]; exact al
 | true =>
  have l := there_live hs ht
  have ev : M.hostView h g = (⟨(h.Guests.getD g.toNat default).C, M.mem h.Words (h.Guests.getD g.toNat default).Pages, (h.Guests.getD g.toNat default).In, (h.Guests.getD g.toNat default).Out⟩, true) := by unfold M.hostView; rw [ht]; rfl
  have h3 := l.ok.three
  have g0 := l.lo
  have g1 := l.hi
  rw [ev] at hz ⊢
  generalize hx : h.Guests.getD g.toNat default = x at l hz ⊢
  have hp := l.pages
  have hml : (M.mem h.Words x.Pages).length = 64 := mem_len
  simp only [Bool.not_true, cond_false]
  have inner : ∀ p : Nat, p < 8 → iter (F_laws_FnHostView_l11 (h, g) (⟨x.C, M.mem h.Words x.Pages, x.In, x.Out⟩, true) (p : Int)) 0 = some (.ret (.go ())) := fun p hp8 => by
   have key := walk_loop (n := 8) (step := F_laws_FnHostView_l11 (h, g) (⟨x.C, M.mem h.Words x.Pages, x.In, x.Out⟩, true) (p : Int)) (fun k => (k : Int)) (fun _ => true) (JO.go ()) (.go ()) (fun k hk _ => by
    simp only [F_laws_FnHostView_l11, hx, Int.toNat_natCast]
    rw [decide_eq_true (p := (k : Int) < 8) (by omega), cond_true, grd_t ⟨by omega, by omega⟩, grd_t ⟨by omega, by omega⟩]
    by_cases e : (x.Pages.getD p default).Frame < 0
    · rw [decide_eq_true e, cond_true, w64_in (z := (p : Int) * 8) (by omega) (by omega), w64_in (z := (p : Int) * 8 + k) (by omega) (by omega), grd_t ⟨by omega, by omega⟩]
      have e0 : decide ((M.mem h.Words x.Pages).getD (Int.toNat ((p : Int) * 8 + (k : Int))) default = 0) = true := by
       rw [show Int.toNat ((p : Int) * 8 + (k : Int)) = p * 8 + k by omega]
       exact decide_eq_true (view_zero hp8 hk e)
      rw [e0]
      simp only [Bool.not_true, cond_false, Option.bind_some, JO.run, F_laws_FnHostView_j12, cond_true]
      rw [w64_in (by omega) (by omega)]; rfl
    · rw [decide_eq_false e]
      simp only [cond_false, Option.bind_some, JO.run, F_laws_FnHostView_j12, cond_true]
      rw [w64_in (by omega) (by omega)]; rfl) (fun _ => by
    simp only [F_laws_FnHostView_l11]; rfl)
   rw [show (List.range 8).all (fun _ => true) = true by simp, cond_true] at key
   exact key
  have key := walk_loop (n := 8) (step := F_laws_FnHostView_l9 (h, g) (⟨x.C, M.mem h.Words x.Pages, x.In, x.Out⟩, true)) (fun k => (k : Int)) (fun _ => true) (JO.go ()) (.out false) (fun p hp8 _ => by
   simp only [F_laws_FnHostView_l9]
   rw [decide_eq_true (p := (p : Int) < 8) (by omega), cond_true, inner p hp8]
   simp only [Option.bind_some, LO.val, JO.run, F_laws_FnHostView_j10, cond_true]
   rw [w64_in (by omega) (by omega)]; rfl) (fun _ => by
   simp only [F_laws_FnHostView_l9]; rfl)
  rw [show (List.range 8).all (fun _ => true) = true by simp, cond_true] at key
  rw [show ((0 : Int)) = (((0 : Nat) : Int)) from rfl, key]
  simp only [Option.bind_some, LO.val, JO.run, F_laws_FnHostView_j6]
  rw [bareOk_i hz, view_ok l, Option.bind_some, cond_true, grd_t ⟨by omega, by omega⟩, hx]
  show Ex (Option.bind (F_laws_sameCore x.C x.C) fun v8 => some v8) _
  rw [sameCore_refl (by have := l.small.c.regs; omega)]
  exact Ex.ret rfl
theorem fnHostView_t {xs : List Int} (hx : ∀ x ∈ xs, 0 ≤ x ∧ x ≤ 255) : F_laws_FnHostView xs = some true := by
 obtain ⟨_, h, rfl⟩ := fnHostView_e hx; exact h
end Go.Proofs.Ytlikfpmbcdlnjaa
