/- Shadow tables: the program's function and the model's answer alike. -/
import Derived.Test.YtbnjdmclnojlmaaPHV
import Derived.Test.YtbnjdmclnojlmaaPHD
import Derived.Test.YtbnjdmclnojlmaaPN5
namespace Go.Proofs.Ytbnjdmclnojlmaa
set_option linter.all false
namespace M
def entry (ws : List Int) (x : DGuest) (p : Nat) : DEntry := if x.C.Root = -1 then ⟨true, true, true, (p : Int)⟩ else dec (word ws x.Pages (x.C.Root.toNat * 8 + p))
def shadeFor (x : DGuest) (e : DEntry) : DShade := ⟨e.There, e.Write, e.User, e.Page, (x.Pages.getD e.Page.toNat default).Frame, (x.Pages.getD e.Page.toNat default).Write⟩
def shade (ws : List Int) (x : DGuest) (p : Nat) : DShade := shadeFor x (entry ws x p)
def shadow (ws : List Int) (x : DGuest) : List DShade := (List.range 8).map (shade ws x)
noncomputable def shadowOf (h : DHost) (g : Int) : List DShade := bif there h g then shadow h.Words (h.Guests.getD g.toNat default) else []
def pageWords (ws : List Int) (s : DSlot) : List Int := bif decide (s.Frame = -1) then List.replicate 8 0 else page ws s.Frame.toNat
end M
theorem shadow_len {ws : List Int} {x : DGuest} : (M.shadow ws x).length = 8 := by simp [M.shadow]
theorem shadow_get {ws : List Int} {x : DGuest} {p : Nat} (hp : p < 8) : (M.shadow ws x).getD p default = M.shade ws x p := by
 rw [getD_lt (by rw [shadow_len]; exact hp)]; simp [M.shadow]
theorem core_root {c : DCore} (h : M.coreOk c = true) : -1 ≤ c.Root ∧ c.Root ≤ 7 := by
 unfold M.coreOk at h
 simp only [Bool.and_eq_true] at h
 exact M.inR_iff.1 h.1.1.2
section
variable {h : DHost} {g : Int} {x : DGuest}
theorem live_slot (l : Live h g x) {p : Nat} (hp : p < 8) : -1 ≤ (x.Pages.getD p default).Frame ∧ (x.Pages.getD p default).Frame < 20 := slot_getD l.slots (by rw [l.pages]; exact hp)
theorem word_in (l : Live h g x) {a : Nat} (ha : a < 64) : 0 ≤ M.word h.Words x.Pages a ∧ M.word h.Words x.Pages a ≤ 4095 := by
 have := live_slot l (p := a / 8) (by omega)
 have := l.ok.len
 unfold M.word
 split
 · omega
 · exact wordsOk_get l.ok.words (by omega)
theorem slotWords_i {ws : List Int} {s : DSlot} (hw : ws.length = 160) (hs : -1 ≤ s.Frame ∧ s.Frame < 20) : F_impl_slotWords ws s = some (M.pageWords ws s) := by
 unfold F_impl_slotWords M.pageWords
 by_cases e : s.Frame = -1
 · rw [decide_eq_true e]; rfl
 · rw [decide_eq_false e, cond_false, cond_false, pageOf_i (by omega) (by omega) (by omega)]; rfl
theorem pageWords_len {ws : List Int} {s : DSlot} (hw : ws.length = 160) (hs : -1 ≤ s.Frame ∧ s.Frame < 20) : (M.pageWords ws s).length = 8 := by
 unfold M.pageWords
 by_cases e : s.Frame = -1
 · rw [decide_eq_true e, cond_true, List.length_replicate]
 · rw [decide_eq_false e, cond_false]; exact page_len (by omega)
theorem pageWords_get {ws : List Int} {s : DSlot} (hs : -1 ≤ s.Frame ∧ s.Frame < 20) {a : Nat} (ha : a < 8) : (M.pageWords ws s).getD a default = if s.Frame < 0 then 0 else ws.getD (s.Frame.toNat * 8 + a) default := by
 unfold M.pageWords
 by_cases e : s.Frame = -1
 · rw [decide_eq_true e, cond_true, if_pos (by omega), getD_lt (by rw [List.length_replicate]; exact ha), List.getElem_replicate]
 · rw [decide_eq_false e, cond_false, if_neg (by omega)]; exact page_get ha
theorem word_at {ws : List Int} {ps : List DSlot} {r p : Nat} (hp : p < 8) : M.word ws ps (r * 8 + p) = if (ps.getD r default).Frame < 0 then 0 else ws.getD ((ps.getD r default).Frame.toNat * 8 + p) default := by
 unfold M.word
 rw [show (r * 8 + p) / 8 = r by omega, show (r * 8 + p) % 8 = p by omega]
theorem entry_page (l : Live h g x) {p : Nat} (hp : p < 8) : 0 ≤ (M.entry h.Words x p).Page ∧ (M.entry h.Words x p).Page ≤ 7 := by
 unfold M.entry
 split
 · simp only; omega
 · exact dec_page _
theorem entryOf_i (l : Live h g x) {p : Nat} (hp : p < 8) : F_impl_entryOf h g (p : Int) = some (M.entry h.Words x p) := by
 have := l.ok.three; have := l.lo; have := l.hi; have hpl := l.pages
 have hr := core_root l.core
 unfold F_impl_entryOf M.entry
 rw [grd_t ⟨l.lo, by omega⟩, l.at_]
 by_cases e : x.C.Root = -1
 · rw [decide_eq_true e, if_pos e]; rfl
 · have hsl := live_slot l (p := x.C.Root.toNat) (by omega)
   rw [decide_eq_false e, if_neg e, cond_false, grd_t ⟨by omega, by omega⟩]
   show Option.bind (F_impl_slotWords h.Words (x.Pages.getD x.C.Root.toNat default)) _ = _
   rw [slotWords_i l.ok.len hsl, Option.bind_some, grd_t ⟨by omega, by rw [pageWords_len l.ok.len hsl]; omega⟩, Int.toNat_natCast, pageWords_get hsl hp]
   have hw := word_in l (a := x.C.Root.toNat * 8 + p) (by omega)
   rw [word_at hp] at hw ⊢
   rw [entryFrom_i hw.1 hw.2]; rfl
theorem shadeOf_i (l : Live h g x) {p : Nat} (hp : p < 8) : F_impl_shadeOf h g (p : Int) = some (M.shade h.Words x p) := by
 have := l.ok.three; have := l.lo; have := l.hi; have hpl := l.pages
 have he := entry_page l hp
 unfold F_impl_shadeOf
 rw [entryOf_i l hp, Option.bind_some, grd_t ⟨l.lo, by omega⟩, l.at_, grd_t ⟨by omega, by omega⟩]; rfl
end
section
variable {h : DHost} {g : Int} {x : DGuest}
theorem l5Word_s (l : Live h g x) {a : Nat} (ha : a < 64) : F_spec_l5Word h g (a : Int) = some (M.word h.Words x.Pages a) := by
 have := l.ok.three; have := l.lo; have := l.hi; have hpl := l.pages; have hlw := l.ok.len
 have hr := live_slot l (p := a / 8) (by omega)
 unfold F_spec_l5Word M.word
 rw [grd_t ⟨l.lo, by omega⟩, l.at_, td8, tm8, w64_in (z := ((a / 8 : Nat) : Int)) (by omega) (by omega), Int.toNat_natCast, grd_t ⟨by omega, by omega⟩]
 by_cases e : (x.Pages.getD (a / 8) default).Frame < 0
 · rw [decide_eq_true e, if_pos e]; rfl
 · rw [decide_eq_false e, if_neg e, cond_false, w64_in (z := (x.Pages.getD (a / 8) default).Frame * 8) (by omega) (by omega), w64_in (z := (x.Pages.getD (a / 8) default).Frame * 8 + ((a % 8 : Nat) : Int)) (by omega) (by omega), grd_t ⟨by omega, by omega⟩]
   rw [show Int.toNat ((x.Pages.getD (a / 8) default).Frame * 8 + ((a % 8 : Nat) : Int)) = (x.Pages.getD (a / 8) default).Frame.toNat * 8 + a % 8 by omega]
end
theorem shadowOf_s {h : DHost} {g : Int} (hs : SmallH h) : F_spec_ShadowOf h g = some (M.shadowOf h g) := by
 unfold F_spec_ShadowOf M.shadowOf
 rw [live_s hs, Option.bind_some]
 cases ht : M.there h g with
 | false => rfl
 | true =>
  have l := there_live hs ht
  generalize hx : h.Guests.getD g.toNat default = x at l
  have := l.ok.three; have := l.lo; have := l.hi; have hpl := l.pages
  have hr := core_root l.core
  rw [Bool.not_true, cond_false]
  have key := (count_loop (n := 8) (step := F_spec_ShadowOf_l3 h g) (fun s j => (s, j)) (fun s i => s ++ [M.shade h.Words x i]) (fun s => JO.go s) (fun k s => s.length = k) (fun i s hi hs => by
   refine ⟨?_, by simp; omega⟩
   have he := entry_page l hi
   have run : JO.run (.go ((M.entry h.Words x i).There, (M.entry h.Words x i).Write, (M.entry h.Words x i).User, (M.entry h.Words x i).Page)) (F_spec_ShadowOf_j4 h g (s, (i : Int))) = some (LO.next (s ++ [M.shade h.Words x i], (i : Int) + 1)) := by
    simp only [JO.run, F_spec_ShadowOf_j4]
    rw [grd_t ⟨l.lo, by omega⟩, l.at_, grd_t ⟨by omega, by omega⟩, grd_t ⟨by simp; omega, by simp; omega⟩, w64_in (by omega) (by omega)]; rfl
   simp only [F_spec_ShadowOf_l3]
   rw [decide_eq_true (p := (i : Int) < 8) (by omega), cond_true, grd_t ⟨l.lo, by omega⟩, l.at_]
   by_cases e : x.C.Root = -1
   · rw [decide_eq_false (by omega), cond_false, Option.bind_some]
     have ee : M.entry h.Words x i = ⟨true, true, true, (i : Int)⟩ := by unfold M.entry; rw [if_pos e]
     rw [ee] at run; exact run
   · have ee : M.entry h.Words x i = dec (M.word h.Words x.Pages (x.C.Root.toNat * 8 + i)) := by unfold M.entry; rw [if_neg e]
     have hw := word_in l (a := x.C.Root.toNat * 8 + i) (by omega)
     rw [decide_eq_true (by omega), cond_true, w64_in (z := x.C.Root * 8) (by omega) (by omega), w64_in (z := x.C.Root * 8 + (i : Int)) (by omega) (by omega), show x.C.Root * 8 + (i : Int) = ((x.C.Root.toNat * 8 + i : Nat) : Int) by omega, l5Word_s l (by omega), Option.bind_some, entryFrom_s hw.1 hw.2]
     rw [ee] at run; exact run) (fun s _ => by
   simp only [F_spec_ShadowOf_l3]; rfl) [] rfl).1
  rw [key, fold_map]; rfl
end Go.Proofs.Ytbnjdmclnojlmaa
