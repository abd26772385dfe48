/- What is a host: the program's function and the model's answer alike. -/
import Derived.Test.YtbnjdmclnojlmaaPZ0
import Derived.Test.YtbnjdmclnojlmaaPO
import Derived.Test.YtbnjdmclnojlmaaWHO1
namespace Go.Proofs.Ytbnjdmclnojlmaa
set_option linter.all false
noncomputable instance : DecidableEq DSlot := fun a b => Classical.propDecidable (a = b)
noncomputable instance : DecidableEq DGuest := fun a b => Classical.propDecidable (a = b)
noncomputable instance : DecidableEq DHost := fun a b => Classical.propDecidable (a = b)
structure SmallG (g : DGuest) : Prop where
 c : SmallC g.C
 pages : g.Pages.length ≤ 1048576
 i : g.In.length ≤ 1048576
 o : g.Out.length ≤ 1048576
structure SmallH (h : DHost) : Prop where
 words : h.Words.length ≤ 1048576
 guests : h.Guests.length ≤ 1048576
 all : ∀ g ∈ h.Guests, SmallG g
theorem getD_mem {T : Type} [Inhabited T] {xs : List T} {k : Nat} (h : k < xs.length) : xs.getD k default ∈ xs := by rw [getD_lt h]; exact List.getElem_mem _
namespace M
def noCore : DCore := ⟨[], 0, 0, 0, 0, false, 0, 0, 0, false, false, false, false⟩
def noGuest : DGuest := ⟨false, noCore, [], [], []⟩
def slotOk (s : DSlot) : Bool := bif decide (s.Frame = -1) then !s.Write && !s.Dirty else decide (0 ≤ s.Frame) && decide (s.Frame < 20)
noncomputable def guestOk (g : DGuest) : Bool := bif g.Live then coreOk g.C && (decide (g.Pages.length = 8) && g.Pages.all slotOk) && rowOk g.In && rowOk g.Out else decide (g = noGuest)
def slots (gs : List DGuest) : List DSlot := gs.flatMap (·.Pages)
def many (ss : List DSlot) (f : Int) : Nat := ss.countP fun s => decide (s.Frame = f)
def alone (ss : List DSlot) : Bool := ss.all fun s => !s.Write || decide (many ss s.Frame ≤ 1)
def bump (xs : List Int) (s : DSlot) : List Int := bif decide (s.Frame = -1) then xs else xs.set s.Frame.toNat (xs.getD s.Frame.toNat default + 1)
def takers (ss : List DSlot) : List Int := ss.foldl bump (List.replicate 20 0)
noncomputable def hostOk (h : DHost) : Bool := decide (h.Words.length = 160) && wordsOk h.Words && (decide (h.Guests.length = 3) && h.Guests.all guestOk) && alone (slots h.Guests)
end M
theorem slotOk_i (s : DSlot) : F_impl_slotOk s = some (M.slotOk s) := by
 unfold F_impl_slotOk M.slotOk
 by_cases h : s.Frame = -1
 · rw [decide_eq_true h]; cases s.Write <;> rfl
 · rw [decide_eq_false h]; simp only [cond_false]; exact cond_bs
theorem slotsOk_i {xs : List DSlot} (h : xs.length ≤ 9223372036854775806) : F_impl_slotsOk xs = some (decide (xs.length = 8) && xs.all M.slotOk) := by
 unfold F_impl_slotsOk
 by_cases hl : xs.length = 8
 · have : decide (((xs.length : Nat) : Int) = 8) = true := by simp; omega
   rw [this, Bool.not_true, cond_false, all_loop slotOk_i h (F_impl_slotsOk_l2 xs) (fun k => rfl), decide_eq_true hl]
   cases xs.all M.slotOk <;> rfl
 · have : decide (((xs.length : Nat) : Int) = 8) = false := by simp; omega
   rw [this, decide_eq_false hl]; rfl
theorem dbe {a b : Bool} (h : a = true ↔ b = true) : a = b := Bool.eq_iff_iff.2 h
theorem isNoCore_i (c : DCore) : F_impl_isNoCore c = some (decide (c = M.noCore)) := by
 obtain ⟨a1, a2, a3, a4, a5, a6, a7, a8, a9, a10, a11, a12, a13⟩ := c
 unfold F_impl_isNoCore
 simp only []
 by_cases h2 : a2 = 0
 · by_cases h3 : a3 = 0
   · by_cases h4 : a4 = 0
     · by_cases h5 : a5 = 0
       · by_cases h1 : a1 = []
         · by_cases h8 : a8 = 0
           · by_cases h7 : a7 = 0
             · by_cases h9 : a9 = 0
               · subst h1 h2 h3 h4 h5 h7 h8 h9
                 cases a6 <;> cases a10 <;> cases a11 <;> cases a12 <;> cases a13 <;> simp [M.noCore]
               · rw [decide_eq_false (p := DCore.mk _ _ _ _ _ _ _ _ _ _ _ _ _ = M.noCore) (by simp [M.noCore, h9])]
                 simp only [decide_eq_false h9]; cases a6 <;> cases a10 <;> cases a11 <;> cases a12 <;> simp
             · rw [decide_eq_false (p := DCore.mk _ _ _ _ _ _ _ _ _ _ _ _ _ = M.noCore) (by simp [M.noCore, h7])]
               simp only [decide_eq_false h7]; cases a6 <;> cases a10 <;> cases a11 <;> cases a12 <;> simp
           · rw [decide_eq_false (p := DCore.mk _ _ _ _ _ _ _ _ _ _ _ _ _ = M.noCore) (by simp [M.noCore, h8])]
             simp only [decide_eq_false h8]; cases a6 <;> cases a10 <;> cases a11 <;> cases a12 <;> simp
         · rw [decide_eq_false (p := DCore.mk _ _ _ _ _ _ _ _ _ _ _ _ _ = M.noCore) (by simp [M.noCore, h1])]
           have : decide (((a1.length : Nat) : Int) = 0) = false := by simp [h1]
           simp only [this]; cases a6 <;> cases a10 <;> cases a11 <;> cases a12 <;> simp
       · rw [decide_eq_false (p := DCore.mk _ _ _ _ _ _ _ _ _ _ _ _ _ = M.noCore) (by simp [M.noCore, h5])]
         simp only [decide_eq_false h5]; cases a6 <;> cases a10 <;> cases a11 <;> cases a12 <;> simp
     · rw [decide_eq_false (p := DCore.mk _ _ _ _ _ _ _ _ _ _ _ _ _ = M.noCore) (by simp [M.noCore, h4])]
       simp only [decide_eq_false h4]; cases a6 <;> cases a10 <;> cases a11 <;> cases a12 <;> simp
   · rw [decide_eq_false (p := DCore.mk _ _ _ _ _ _ _ _ _ _ _ _ _ = M.noCore) (by simp [M.noCore, h3])]
     simp only [decide_eq_false h3]; cases a6 <;> cases a10 <;> cases a11 <;> cases a12 <;> simp
 · rw [decide_eq_false (p := DCore.mk _ _ _ _ _ _ _ _ _ _ _ _ _ = M.noCore) (by simp [M.noCore, h2])]
   simp only [decide_eq_false h2]; cases a6 <;> cases a10 <;> cases a11 <;> cases a12 <;> simp
theorem hasNothing_i {g : DGuest} (hl : g.Live = false) : F_impl_hasNothing g = some (decide (g = M.noGuest)) := by
 unfold F_impl_hasNothing
 rw [isNoCore_i, Option.bind_some]
 obtain ⟨l, c, p, i, o⟩ := g
 simp only at hl
 subst hl
 simp only [M.noGuest, DGuest.mk.injEq, true_and]
 by_cases h1 : c = M.noCore <;> by_cases h2 : p = [] <;> by_cases h3 : i = [] <;> by_cases h4 : o = [] <;> simp [h1, h2, h3, h4]
theorem zero_s {g : DGuest} (hl : g.Live = false) : F_spec_l4Zero g = some (decide (g = M.noGuest)) := by
 unfold F_spec_l4Zero
 obtain ⟨l, ⟨a1, a2, a3, a4, a5, a6, a7, a8, a9, a10, a11, a12, a13⟩, p, i, o⟩ := g
 simp only at hl
 subst hl
 simp only [cond_b rfl, cond_bs]
 congr 1
 apply dbe
 simp only [Bool.and_eq_true, decide_eq_true_eq, Bool.not_eq_true', M.noGuest, M.noCore, DGuest.mk.injEq, DCore.mk.injEq, true_and, Int.natCast_eq_zero, List.length_eq_zero_iff]
 constructor
 · rintro ⟨h1, h2, h3, h4, h5, h6, h7, h8, h9, h10, h11, h12, h13, h14, h15, h16⟩; exact ⟨⟨h1, h2, h3, h4, h5, h6, h7, h8, h9, h10, h11, h12, h13⟩, h14, h15, h16⟩
 · rintro ⟨⟨h1, h2, h3, h4, h5, h6, h7, h8, h9, h10, h11, h12, h13⟩, h14, h15, h16⟩; exact ⟨h1, h2, h3, h4, h5, h6, h7, h8, h9, h10, h11, h12, h13, h14, h15, h16⟩
theorem guestOk_i {g : DGuest} (h : SmallG g) : F_impl_guestOk g = some (M.guestOk g) := by
 have := h.c.regs; have := h.pages; have := h.i; have := h.o
 unfold F_impl_guestOk M.guestOk
 cases hl : g.Live with
 | false =>
  simp only [Bool.not_false, cond_true, hasNothing_i hl, Option.bind_some, cond_false]
 | true =>
  simp only [Bool.not_true, cond_false, cond_true]
  rw [coreOk_i (by omega), slotsOk_i (by omega), rowOk_i (by omega), rowOk_i (by omega)]
  simp only [Option.bind_some]
  cases M.coreOk g.C <;> cases (decide (g.Pages.length = 8) && g.Pages.all M.slotOk) <;> cases M.rowOk g.In <;> rfl
theorem guestsOk_i {gs : List DGuest} (hl : gs.length ≤ 1048576) (h : ∀ g ∈ gs, SmallG g) : F_impl_guestsOk gs = some (decide (gs.length = 3) && gs.all M.guestOk) := by
 unfold F_impl_guestsOk
 by_cases hl : gs.length = 3
 · have : decide (((gs.length : Nat) : Int) = 3) = true := by simp; omega
   rw [this, Bool.not_true, cond_false, decide_eq_true hl, Bool.true_and]
   have key := (chk_loop (xs := gs) (σ := Unit) (step := F_impl_guestsOk_l2 gs) (fun _ k => k) M.guestOk (fun _ _ => ()) (fun _ => JO.go ()) (.out false) (fun _ _ => True) (fun i x s h1 h2 h3 h4 => by
    refine ⟨?_, fun _ => trivial⟩
    simp only [F_impl_guestsOk_l2, decide_eq_true h1, cond_true]
    rw [grd_t ⟨by omega, h1⟩, Int.toNat_natCast, h3]
    show Option.bind (F_impl_guestOk x) _ = _
    rw [guestOk_i (h x h2), Option.bind_some, w64_in (by omega) (by omega)]
    cases M.guestOk x <;> rfl) (fun s _ => by
    simp only [F_impl_guestsOk_l2]; rw [decide_eq_false (by omega), cond_false]) () trivial).1
   rw [key]
   cases gs.all M.guestOk <;> rfl
 · have : decide (((gs.length : Nat) : Int) = 3) = false := by simp; omega
   rw [this, decide_eq_false hl]; rfl
theorem set_get {xs : List Int} {i j : Nat} {v : Int} (hi : i < xs.length) : (xs.set i v).getD j default = if i = j then v else xs.getD j default := by
 by_cases h : i = j
 · subst h; simp [List.getD, hi]
 · simp [List.getD, List.getElem?_set, h]
theorem bump_len {xs : List Int} {s : DSlot} : (M.bump xs s).length = xs.length := by
 unfold M.bump; cases decide (s.Frame = -1) <;> simp
theorem slot_range {s : DSlot} (h : M.slotOk s = true) : -1 ≤ s.Frame ∧ s.Frame < 20 := by
 unfold M.slotOk at h
 by_cases e : s.Frame = -1
 · omega
 · rw [decide_eq_false e, cond_false, Bool.and_eq_true, decide_eq_true_eq, decide_eq_true_eq] at h; omega
theorem bump_get {xs : List Int} {s : DSlot} (hl : xs.length = 20) (h : M.slotOk s = true) {f : Nat} (hf : f < 20) : (M.bump xs s).getD f default = xs.getD f default + (if s.Frame = (f : Int) then 1 else 0) := by
 have hr := slot_range h
 unfold M.bump
 by_cases e : s.Frame = -1
 · rw [decide_eq_true e, cond_true, if_neg (by omega)]; omega
 · rw [decide_eq_false e, cond_false, set_get (by omega)]
   by_cases e2 : s.Frame = (f : Int)
   · rw [if_pos (by omega), if_pos e2]; congr 2; omega
   · rw [if_neg (by omega), if_neg e2]; omega
theorem many_cons {s : DSlot} {ss : List DSlot} {f : Int} : M.many (s :: ss) f = M.many ss f + (if s.Frame = f then 1 else 0) := by
 simp only [M.many, List.countP_cons, decide_eq_true_eq]
theorem bumps_get {f : Nat} (hf : f < 20) : ∀ {ss : List DSlot} {xs : List Int}, xs.length = 20 → ss.all M.slotOk = true → (ss.foldl M.bump xs).length = 20 ∧ (ss.foldl M.bump xs).getD f default = xs.getD f default + (M.many ss f : Int)
 | [], xs, hl, _ => ⟨hl, by simp [M.many]⟩
 | s :: ss, xs, hl, h => by
  rw [List.all_cons, Bool.and_eq_true] at h
  obtain ⟨h1, h2⟩ := bumps_get hf (ss := ss) (xs := M.bump xs s) (by rw [bump_len, hl]) h.2
  refine ⟨h1, ?_⟩
  rw [List.foldl_cons, h2, bump_get hl h.1 hf, many_cons]
  split <;> simp <;> omega
theorem takers_len {ss : List DSlot} (h : ss.all M.slotOk = true) : (M.takers ss).length = 20 := (bumps_get (f := 0) (by omega) (xs := List.replicate 20 0) (by simp) h).1
theorem takers_get {ss : List DSlot} (h : ss.all M.slotOk = true) {f : Nat} (hf : f < 20) : (M.takers ss).getD f default = (M.many ss f : Int) := by
 unfold M.takers
 rw [(bumps_get (f := f) hf (xs := List.replicate 20 0) (by simp) h).2]
 have : (List.replicate 20 (0 : Int)).getD f default = 0 := by rw [getD_lt (by rw [List.length_replicate]; omega), List.getElem_replicate]
 omega
theorem guest_slots {g : DGuest} (h : M.guestOk g = true) : g.Pages.all M.slotOk = true ∧ g.Pages.length ≤ 8 := by
 unfold M.guestOk at h
 cases hl : g.Live with
 | true =>
  rw [hl, cond_true] at h
  simp only [Bool.and_eq_true, decide_eq_true_eq] at h
  exact ⟨h.1.1.2.2, by omega⟩
 | false =>
  rw [hl, cond_false, decide_eq_true_eq] at h
  rw [h]; exact ⟨rfl, by simp [M.noGuest]⟩
theorem all_slots {gs : List DGuest} (h : gs.all M.guestOk = true) : (M.slots gs).all M.slotOk = true := by
 simp only [M.slots, List.all_flatMap, List.all_eq_true] at h ⊢
 exact fun g hg => List.all_eq_true.1 (guest_slots (h g hg)).1
structure Tl (B : Nat) (xs : List Int) : Prop where
 len : xs.length = 20
 low : ∀ i, i < 20 → 0 ≤ xs.getD i default
 top : ∀ i, i < 20 → xs.getD i default ≤ (B : Int)
theorem Tl.mono {B C : Nat} {xs : List Int} (h : Tl B xs) (hB : B ≤ C) : Tl C xs := ⟨h.len, h.low, fun i hi => by have := h.top i hi; omega⟩
theorem Tl.bump {B : Nat} {xs : List Int} {s : DSlot} (h : Tl B xs) (hs : M.slotOk s = true) : Tl (B + 1) (M.bump xs s) := by
 refine ⟨by rw [bump_len, h.len], fun i hi => ?_, fun i hi => ?_⟩
 all_goals rw [bump_get h.len hs hi]; have := h.low i hi; have := h.top i hi; split <;> omega
theorem Tl.zero : Tl 0 (List.replicate 20 0) := by
 refine ⟨by simp, fun i hi => ?_, fun i hi => ?_⟩
 all_goals rw [getD_lt (by rw [List.length_replicate]; omega), List.getElem_replicate]; omega
end Go.Proofs.Ytbnjdmclnojlmaa
