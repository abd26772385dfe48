/- HostView: the program's function and the model's answer alike. -/
import Derived.Test.YtlikfpmbcdlnjaaPHL
import Derived.Test.YtlikfpmbcdlnjaaPHQ
import Derived.Test.YtlikfpmbcdlnjaaWHV1
namespace Go.Proofs.Ytlikfpmbcdlnjaa
set_option linter.all false
theorem over_get {xs ys : List Int} {o k a : Nat} (hk : ys.length = k) (ho : o + k ≤ xs.length) : (over xs o k ys).getD a default = if a < o then xs.getD a default else if a < o + k then ys.getD (a - o) default else xs.getD a default := by
 simp only [over, hk, Nat.min_self, List.getD_eq_getElem?_getD]
 rw [List.take_of_length_le (l := ys) (i := k) (by omega)]
 by_cases h1 : a < o
 · rw [if_pos h1, List.getElem?_append_left (by simp; omega), List.getElem?_take_of_lt h1]
 · rw [if_neg h1, List.getElem?_append_right (by simp; omega)]
   have e : (xs.take o).length = o := by simp; omega
   rw [e]
   by_cases h2 : a < o + k
   · rw [if_pos h2, List.getElem?_append_left (by omega)]
   · rw [if_neg h2, List.getElem?_append_right (by omega), List.getElem?_drop]
     congr 2; omega
theorem over_len3 {xs ys : List Int} {o k : Nat} (ho : o + k ≤ xs.length) : (over xs o k ys).length = xs.length := over_len2 ho
theorem list_ext {xs ys : List Int} {n : Nat} (h1 : xs.length = n) (h2 : ys.length = n) (h : ∀ a, a < n → xs.getD a default = ys.getD a default) : xs = ys := by
 apply List.ext_getElem (by omega)
 intro i q1 q2
 have := h i (by omega)
 rwa [getD_lt q1, getD_lt q2] at this
theorem page_get {xs : List Int} {o a : Nat} (ha : a < 8) : ((xs.drop o).take 8).getD a default = xs.getD (o + a) default := by
 simp only [List.getD_eq_getElem?_getD]
 rw [List.getElem?_take_of_lt ha, List.getElem?_drop]
theorem page_len {xs : List Int} {o : Nat} (h : o + 8 ≤ xs.length) : ((xs.drop o).take 8).length = 8 := by simp; omega
namespace M
def word (ws : List Int) (ps : List DSlot) (a : Nat) : Int := if (ps.getD (a / 8) default).Frame < 0 then 0 else ws.getD ((ps.getD (a / 8) default).Frame.toNat * 8 + a % 8) default
def mem (ws : List Int) (ps : List DSlot) : List Int := (List.range 64).map (word ws ps)
def page (ws : List Int) (f : Nat) : List Int := (ws.drop (f * 8)).take 8
noncomputable def hostView (h : DHost) (g : Int) : DBare × Bool := bif there h g then (⟨(h.Guests.getD g.toNat default).C, mem h.Words (h.Guests.getD g.toNat default).Pages, (h.Guests.getD g.toNat default).In, (h.Guests.getD g.toNat default).Out⟩, true) else (⟨noCore, [], [], []⟩, false)
end M
theorem mem_len {ws : List Int} {ps : List DSlot} : (M.mem ws ps).length = 64 := by simp [M.mem]
theorem mem_get {ws : List Int} {ps : List DSlot} {a : Nat} (ha : a < 64) : (M.mem ws ps).getD a default = M.word ws ps a := by
 rw [getD_lt (by rw [mem_len]; exact ha)]; simp [M.mem]
theorem pageOf_i {xs : List Int} {f : Int} (h0 : 0 ≤ f) (h1 : f * 8 + 8 ≤ xs.length) (h2 : f ≤ 1000000) : F_impl_pageOf xs f = some (M.page xs f.toNat) := by
 unfold F_impl_pageOf M.page
 rw [w64_in (z := f * 8) (by omega) (by omega), w64_in (z := f + 1) (by omega) (by omega), w64_in (z := (f + 1) * 8) (by omega) (by omega), grd_t ⟨by omega, by omega, by omega⟩]
 rw [show Int.toNat ((f + 1) * 8) - Int.toNat (f * 8) = 8 by omega, show Int.toNat (f * 8) = f.toNat * 8 by omega]
theorem pageOf_p {xs : List Int} {f : Int} (h0 : 0 ≤ f) (h1 : f * 8 + 8 ≤ xs.length) (h2 : f ≤ 1000000) : F_impl_pageOf_p xs f = some (xs, (f.toNat * 8, 8)) := by
 unfold F_impl_pageOf_p
 rw [w64_in (z := f * 8) (by omega) (by omega), w64_in (z := f + 1) (by omega) (by omega), w64_in (z := (f + 1) * 8) (by omega) (by omega), grd_t ⟨by omega, by omega, by omega⟩]
 rw [show Int.toNat ((f + 1) * 8) - Int.toNat (f * 8) = 8 by omega, show Int.toNat (f * 8) = f.toNat * 8 by omega]
theorem slot_getD {ps : List DSlot} (hp : ps.all M.slotOk = true) {i : Nat} (hi : i < ps.length) : -1 ≤ (ps.getD i default).Frame ∧ (ps.getD i default).Frame < 20 := slot_range (List.all_eq_true.1 hp _ (getD_mem hi))
theorem memFrom_i {ws : List Int} {ps : List DSlot} (hw : ws.length = 160) (hl : ps.length = 8) (hp : ps.all M.slotOk = true) : F_impl_memFrom ws ps = some (M.mem ws ps) := by
 unfold F_impl_memFrom
 obtain ⟨key, k2⟩ := count_loop (n := 8) (step := F_impl_memFrom_l2 ws ps) (fun s j => (s, j)) (fun s i => bif decide ((ps.getD i default).Frame = -1) then s else over s (i * 8) 8 (M.page ws (ps.getD i default).Frame.toNat)) (fun s => JO.go s)
  (fun k s => s.length = 64 ∧ ∀ a, a < 64 → s.getD a default = if a < 8 * k then M.word ws ps a else 0) (fun i s hi hs => by
  have hr := slot_getD hp (i := i) (by omega)
  obtain ⟨s1, s2⟩ := hs
  simp only [F_impl_memFrom_l2, Int.toNat_natCast]
  rw [decide_eq_true (p := (i : Int) < _) (by omega), cond_true, grd_t ⟨by omega, by omega⟩]
  by_cases e : (ps.getD i default).Frame = -1
  · rw [decide_eq_true e]
    simp only [Bool.not_true, cond_true, cond_false, Option.bind_some, JO.run, F_impl_memFrom_j3]
    rw [w64_in (by omega) (by omega)]
    refine ⟨rfl, s1, fun a ha => ?_⟩
    rw [s2 a ha]
    by_cases e1 : a < 8 * i
    · rw [if_pos e1, if_pos (by omega)]
    · by_cases e2 : a < 8 * (i + 1)
      · rw [if_neg e1, if_pos e2]
        unfold M.word
        rw [show a / 8 = i by omega, if_pos (by omega)]
      · rw [if_neg e1, if_neg e2]
  · rw [decide_eq_false e, Bool.not_false, cond_true, pageOf_p (by omega) (by omega) (by omega), Option.bind_some, grd_t rfl, grd_t (by simp only []; omega), pageOf_i (by omega) (by omega) (by omega)]
    simp only [Option.bind_some, JO.run, F_impl_memFrom_j3, cond_false, Int.toNat_natCast]
    rw [w64_in (by omega) (by omega)]
    have hpl : (M.page ws (ps.getD i default).Frame.toNat).length = 8 := page_len (by omega)
    refine ⟨rfl, by rw [over_len3 (by omega), s1], fun a ha => ?_⟩
    rw [over_get hpl (by omega), s2 a ha]
    by_cases e1 : a < 8 * i
    · rw [if_pos (by omega), if_pos e1, if_pos (by omega)]
    · by_cases e2 : a < 8 * (i + 1)
      · rw [if_neg (by omega), if_pos (by omega), if_pos e2]
        unfold M.page M.word
        rw [page_get (by omega), show a / 8 = i by omega, if_neg (by omega)]
        congr 1; omega
      · rw [if_neg (by omega), if_neg (by omega), if_neg e1, if_neg e2]) (fun s _ => by
  simp only [F_impl_memFrom_l2]; rw [decide_eq_false (by omega), cond_false]) (List.replicate 64 0) ⟨by simp, fun a ha => by rw [if_neg (by omega), getD_lt (by rw [List.length_replicate]; omega), List.getElem_replicate]⟩
 rw [show Int.toNat (64 : Int) = 64 from rfl, key]
 simp only [Option.bind_some, LO.val, JO.run, F_impl_memFrom_j1]
 congr 1
 refine list_ext k2.1 mem_len fun a ha => ?_
 rw [k2.2 a ha, if_pos (by omega), mem_get ha]
theorem copiedBare_eq {b : DBare} (hs : SmallB b) : F_impl_copiedBare b = some b := by
 unfold F_impl_copiedBare
 rw [copied_eq hs.c.regs, copied_eq hs.mem, copied_eq hs.i, copied_eq hs.o]; rfl
structure Live (h : DHost) (g : Int) (x : DGuest) : Prop where
 small : SmallG x
 ok : HOk h
 lo : 0 ≤ g
 hi : g ≤ 2
 at_ : h.Guests.getD g.toNat default = x
 live : x.Live = true
 core : M.coreOk x.C = true
 pages : x.Pages.length = 8
 slots : x.Pages.all M.slotOk = true
 inn : M.rowOk x.In = true
 out : M.rowOk x.Out = true
theorem there_live {h : DHost} {g : Int} (hs : SmallH h) (ht : M.there h g = true) : Live h g (h.Guests.getD g.toNat default) := by
 obtain ⟨hk, h0, h1, h2⟩ := there_iff.1 ht
 have := hk.three
 have hm := getD_mem (xs := h.Guests) (k := g.toNat) (by omega)
 have ho := List.all_eq_true.1 hk.all _ hm
 unfold M.guestOk at ho
 rw [h2, cond_true] at ho
 simp only [Bool.and_eq_true, decide_eq_true_eq] at ho
 exact ⟨hs.all _ hm, hk, h0, h1, rfl, h2, ho.1.1.1, ho.1.1.2.1, ho.1.1.2.2, ho.1.2, ho.2⟩
theorem viewed_i {h : DHost} {g : Int} {x : DGuest} (l : Live h g x) : F_impl_viewed h g = some ⟨x.C, M.mem h.Words x.Pages, x.In, x.Out⟩ := by
 have := l.ok.three; have := l.lo; have := l.hi
 unfold F_impl_viewed
 rw [grd_t ⟨l.lo, by omega⟩, l.at_, memFrom_i l.ok.len l.pages l.slots]; rfl
theorem hostView_i {h : DHost} {g : Int} (hs : SmallH h) : F_impl_HostView h g = some (M.hostView h g) := by
 unfold F_impl_HostView M.hostView
 rw [hasGuest_i hs, Option.bind_some]
 cases ht : M.there h g with
 | false => rfl
 | true =>
  have l := there_live hs ht
  rw [Bool.not_true, cond_false, viewed_i l, Option.bind_some, copiedBare_eq ⟨l.small.c, by simp [mem_len], l.small.i, l.small.o⟩]; rfl
theorem small_view {h : DHost} {g : Int} (hs : SmallH h) : SmallB (M.hostView h g).1 := by
 unfold M.hostView
 cases ht : M.there h g with
 | false => exact ⟨⟨by simp [M.noCore]⟩, by simp, by simp, by simp⟩
 | true =>
  have l := there_live hs ht
  exact ⟨l.small.c, by simp [mem_len], l.small.i, l.small.o⟩
end Go.Proofs.Ytlikfpmbcdlnjaa
