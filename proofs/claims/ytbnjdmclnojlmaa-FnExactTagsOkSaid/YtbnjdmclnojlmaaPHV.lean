/- HostView: the program's function and the model's answer alike. -/
import Derived.Test.YtbnjdmclnojlmaaPHL
import Derived.Test.YtbnjdmclnojlmaaPHQ
import Derived.Test.YtbnjdmclnojlmaaWHV1
namespace Go.Proofs.Ytbnjdmclnojlmaa
set_option linter.all false
theorem page_get {xs : List Int} {o a : Nat} (ha : a < 8) : ((xs.drop o).take 8).getD a default = xs.getD (o + a) default := by
 simp only [List.getD_eq_getElem?_getD]
 rw [List.getElem?_take_of_lt ha, List.getElem?_drop]
theorem page_len {xs : List Int} {o : Nat} (h : o + 8 ≤ xs.length) : ((xs.drop o).take 8).length = 8 := by simp; omega
namespace M
def word (ws : List Int) (ps : List DSlot) (a : Nat) : Int := if (ps.getD (a / 8) default).Frame < 0 then 0 else ws.getD ((ps.getD (a / 8) default).Frame.toNat * 8 + a % 8) default
def mem (ws : List Int) (ps : List DSlot) : List Int := (List.range 64).map (word ws ps)
def page (ws : List Int) (f : Nat) : List Int := (ws.drop (f * 8)).take 8
end M
theorem pageOf_i {xs : List Int} {f : Int} (h0 : 0 ≤ f) (h1 : f * 8 + 8 ≤ xs.length) (h2 : f ≤ 1000000) : F_impl_pageOf xs f = some (M.page xs f.toNat) := by
 unfold F_impl_pageOf M.page
 rw [w64_in (z := f * 8) (by omega) (by omega), w64_in (z := f + 1) (by omega) (by omega), w64_in (z := (f + 1) * 8) (by omega) (by omega), grd_t ⟨by omega, by omega, by omega⟩]
 rw [show Int.toNat ((f + 1) * 8) - Int.toNat (f * 8) = 8 by omega, show Int.toNat (f * 8) = f.toNat * 8 by omega]
theorem slot_getD {ps : List DSlot} (hp : ps.all M.slotOk = true) {i : Nat} (hi : i < ps.length) : -1 ≤ (ps.getD i default).Frame ∧ (ps.getD i default).Frame < 20 := slot_range (List.all_eq_true.1 hp _ (getD_mem hi))
structure Live (h : DHost) (g : Int) (x : DGuest) : Prop where
 small : SmallG x
 ok : HOk h
 lo : 0 ≤ g
 hi : g ≤ 2
 at_ : h.Guests.getD g.toNat default = x
 live : x.Live = true
 core : M.coreOk x.C = true
 pages : x.Pages.length = 8
 slots : x.Pages.all M.slotOk = true
 inn : M.rowOk x.In = true
 out : M.rowOk x.Out = true
theorem there_live {h : DHost} {g : Int} (hs : SmallH h) (ht : M.there h g = true) : Live h g (h.Guests.getD g.toNat default) := by
 obtain ⟨hk, h0, h1, h2⟩ := there_iff.1 ht
 have := hk.three
 have hm := getD_mem (xs := h.Guests) (k := g.toNat) (by omega)
 have ho := List.all_eq_true.1 hk.all _ hm
 unfold M.guestOk at ho
 rw [h2, cond_true] at ho
 simp only [Bool.and_eq_true, decide_eq_true_eq] at ho
 exact ⟨hs.all _ hm, hk, h0, h1, rfl, h2, ho.1.1.1, ho.1.1.2.1, ho.1.1.2.2, ho.1.2, ho.2⟩
theorem td8 (i : Nat) : Int.tdiv (i : Int) 8 = ((i / 8 : Nat) : Int) := rfl
theorem tm8 (i : Nat) : Int.tmod (i : Int) 8 = ((i % 8 : Nat) : Int) := rfl
theorem fold_map {α : Type} {f : Nat → α} : ∀ (xs : List Nat) (s : List α), xs.foldl (fun s i => s ++ [f i]) s = s ++ xs.map f
 | [], s => by simp
 | x :: xs, s => by rw [List.foldl_cons, fold_map xs]; simp
end Go.Proofs.Ytbnjdmclnojlmaa
