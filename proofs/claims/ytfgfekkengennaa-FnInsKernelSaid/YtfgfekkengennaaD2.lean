/- The draws of chapter 1 that stand over l20Ins, and DrawInsFrom. -/
import Derived.Test.YtfgfekkengennaaD1
import Derived.Test.YtfgfekkengennaaE1
namespace Go.Proofs.Ytfgfekkengennaa
open Go.ChangeShapes Go.WideShapes Go.ChangeAt Go.RowKit

theorem drawInsFrom_any {w : World} {s : Option Addr} {len cap : Nat} (h : CodeAt w s len cap) (hlen : len ≤ 1048576) :
    Calls Try.prog 24 #[.slice s len cap] w (DrawInt (-9223372036854775808) 9223372036854775807 w) := by
  go_enter Try.func24, Try.ntmps24
  go_wp2_with (first | (go_at_call 31; refine (open_any h hlen).mono ?_; rintro e w1 ⟨rfl, h1, hb, hs⟩) | (go_at_call 32; refine (word_any (by first | assumption | exact Rd.alloc (by assumption) (by first | assumption | omega) _ | exact Rd.set (Rd.alloc (by assumption) (by first | assumption | omega) _) _ _ (by first | assumption | omega) _) (by omega)).mono ?_; rintro e w1 ⟨⟨v, v0, v1, rfl⟩, h1, o1⟩; obtain ⟨oc, of, os⟩ := ocell o1; try simp at os) | (go_at_call 33; refine (pick_any (by first | assumption | exact Rd.alloc (by assumption) (by first | assumption | omega) _ | exact Rd.set (Rd.alloc (by assumption) (by first | assumption | omega) _) _ _ (by first | assumption | omega) _) (by omega) _ (by omega)).mono ?_; rintro e w1 ⟨⟨v, v0, v1, rfl⟩, h1, o1⟩; obtain ⟨oc, of, os⟩ := ocell o1; try simp at os))
  go_ret
  exact ⟨⟨_, by go_light; omega, by go_light; omega, rfl⟩, by repeat (first | assumption | exact Below.refl _ _ | refine Below.setCell ?_ (by first | omega | (simp; omega)) _ | refine Below.alloc ?_ (by first | omega | (simp; omega)) _ | refine Below.trans ?_ (Only.below (by assumption) (by omega)))⟩

theorem drawInsOk_any {w : World} {s : Option Addr} {len cap : Nat} (h : CodeAt w s len cap) (hlen : len ≤ 1048576) :
    Calls Try.prog 17 #[.slice s len cap] w (DrawIns w) := by
  go_enter Try.func17, Try.ntmps17
  go_wp2_with fail
  refine (open_any (h.below ((Below.refl _ _).alloc (Nat.le_refl _) _)) hlen).mono ?_
  rintro e w1 ⟨rfl, h1, hb1, hs1⟩
  obtain ⟨hc1, hf1⟩ := bcell hb1
  simp at hs1
  simp only [World.size_alloc] at h1
  go_wp2_with fail
  refine (l20Ins_any h1 (by omega) (by omega) _ (by omega) (by omega)).mono ?_
  rintro e w2 ⟨⟨op, a, n, ⟨o1, o2⟩, ⟨a1, a2⟩, ⟨n1, n2⟩, rfl⟩, _, hb2⟩
  have hc2 : ∀ i, w2.cell? ⟨w.heap.size, i, none⟩ = w1.cell? ⟨w.heap.size, i, none⟩ := fun i => hb2.cell (p := ⟨w.heap.size, i, none⟩) (by simp)
  have hf2 : ∀ i, w2.frozen? ⟨w.heap.size, i, none⟩ = w1.frozen? ⟨w.heap.size, i, none⟩ := fun i => hb2.frozen (p := ⟨w.heap.size, i, none⟩) (by simp)
  have HB : Hid (Below w.heap.size w w2) := Lib.hid (((Below.refl _ _).alloc (Nat.le_refl _) _).trans ((hb1.mono (by simp)).trans (hb2.mono (by simp))))
  clear hb1 hb2 h1
  go_wp2
  exact bodyPost_ret (v := .agg #[.int .i64 op, .int .i64 a, .int .i64 n]) (by simp [results, Try.results17, go_sem, *]) rfl ⟨⟨op, a, n, ⟨o1, o2⟩, ⟨a1, a2⟩, ⟨n1, n2⟩, rfl⟩, by repeat (first | exact HB.out | refine Below.setCell ?_ (by simp) _)⟩

theorem drawInsWord_any {w : World} {s : Option Addr} {len cap : Nat} (h : CodeAt w s len cap) (hlen : len ≤ 1048576) :
    Calls Try.prog 20 #[.slice s len cap] w (DrawIns w) := by
  go_enter Try.func20, Try.ntmps20
  go_wp2_with fail
  refine (open_any (h.below ((Below.refl _ _).alloc (Nat.le_refl _) _)) hlen).mono ?_
  rintro e w1 ⟨rfl, h1, hb1, hs1⟩
  obtain ⟨hc1, hf1⟩ := bcell hb1
  simp at hs1
  simp only [World.size_alloc] at h1
  go_wp2_with fail
  refine (l20Ins_any h1 (by omega) (by omega) _ (by omega) (by omega)).mono ?_
  rintro e w2 ⟨⟨op, a, n, ⟨o1, o2⟩, ⟨a1, a2⟩, ⟨n1, n2⟩, rfl⟩, _, hb2⟩
  have hc2 : ∀ i, w2.cell? ⟨w.heap.size, i, none⟩ = w1.cell? ⟨w.heap.size, i, none⟩ := fun i => hb2.cell (p := ⟨w.heap.size, i, none⟩) (by simp)
  have hf2 : ∀ i, w2.frozen? ⟨w.heap.size, i, none⟩ = w1.frozen? ⟨w.heap.size, i, none⟩ := fun i => hb2.frozen (p := ⟨w.heap.size, i, none⟩) (by simp)
  have HB : Hid (Below w.heap.size w w2) := Lib.hid (((Below.refl _ _).alloc (Nat.le_refl _) _).trans ((hb1.mono (by simp)).trans (hb2.mono (by simp))))
  clear hb1 hb2 h1
  go_wp2
  exact bodyPost_ret (v := .agg #[.int .i64 op, .int .i64 a, .int .i64 n]) (by simp [results, Try.results20, go_sem, *]) rfl ⟨⟨op, a, n, ⟨o1, o2⟩, ⟨a1, a2⟩, ⟨n1, n2⟩, rfl⟩, by repeat (first | exact HB.out | refine Below.setCell ?_ (by simp) _)⟩

theorem drawInsKernel_any {w : World} {s : Option Addr} {len cap : Nat} (h : CodeAt w s len cap) (hlen : len ≤ 1048576) :
    Calls Try.prog 26 #[.slice s len cap] w (DrawIns w) := by
  go_enter Try.func26, Try.ntmps26
  go_wp2_with fail
  refine (open_any (h.below ((Below.refl _ _).alloc (Nat.le_refl _) _)) hlen).mono ?_
  rintro e w1 ⟨rfl, h1, hb1, hs1⟩
  obtain ⟨hc1, hf1⟩ := bcell hb1
  simp at hs1
  simp only [World.size_alloc] at h1
  go_wp2_with fail
  refine (l20Ins_any h1 (by omega) (by omega) _ (by omega) (by omega)).mono ?_
  rintro e w2 ⟨⟨op, a, n, ⟨o1, o2⟩, ⟨a1, a2⟩, ⟨n1, n2⟩, rfl⟩, _, hb2⟩
  have hc2 : ∀ i, w2.cell? ⟨w.heap.size, i, none⟩ = w1.cell? ⟨w.heap.size, i, none⟩ := fun i => hb2.cell (p := ⟨w.heap.size, i, none⟩) (by simp)
  have hf2 : ∀ i, w2.frozen? ⟨w.heap.size, i, none⟩ = w1.frozen? ⟨w.heap.size, i, none⟩ := fun i => hb2.frozen (p := ⟨w.heap.size, i, none⟩) (by simp)
  have HB : Hid (Below w.heap.size w w2) := Lib.hid (((Below.refl _ _).alloc (Nat.le_refl _) _).trans ((hb1.mono (by simp)).trans (hb2.mono (by simp))))
  clear hb1 hb2 h1
  go_wp2
  exact bodyPost_ret (v := .agg #[.int .i64 op, .int .i64 a, .int .i64 n]) (by simp [results, Try.results26, go_sem, *]) rfl ⟨⟨op, a, n, ⟨o1, o2⟩, ⟨a1, a2⟩, ⟨n1, n2⟩, rfl⟩, by repeat (first | exact HB.out | refine Below.setCell ?_ (by simp) _)⟩

end Go.Proofs.Ytfgfekkengennaa
