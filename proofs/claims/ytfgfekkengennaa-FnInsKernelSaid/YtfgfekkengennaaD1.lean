/- What the draws of chapter 1 give, whatever the code is. -/
import Derived.Test.YtfgfekkengennaaR
namespace Go.Proofs.Ytfgfekkengennaa
open Go.ChangeShapes Go.WideShapes Go.ChangeAt Go.RowKit

/-- A code: bytes that lie in memory. -/
structure CodeAt (w : World) (s : Option Addr) (len cap : Nat) : Prop where
  room : len ≤ cap
  byte : ∀ i, i < len → ∃ sb so z, s = some ⟨sb, so, none⟩ ∧ sb < w.heap.size ∧ w.cell? ⟨sb, so + i, none⟩ = some (.int .u8 z) ∧ 0 ≤ z ∧ z ≤ 255

theorem CodeAt.below {w w' : World} {s : Option Addr} {len cap : Nat} (h : CodeAt w s len cap) (hb : Below w.heap.size w w') : CodeAt w' s len cap := by
  refine ⟨h.room, fun i hi => ?_⟩
  obtain ⟨sb, so, z, e, hlt, hz, h0, h1⟩ := h.byte i hi
  exact ⟨sb, so, z, e, Nat.lt_of_lt_of_le hlt hb.size, (hb.cell (p := ⟨sb, so + i, none⟩) hlt).trans hz, h0, h1⟩

theorem ocell {b : Nat} {w w1 : World} (o : Only b w w1) : (∀ k i, k ≠ b → w1.cell? ⟨k, i, none⟩ = w.cell? ⟨k, i, none⟩) ∧ (∀ k i, k ≠ b → w1.frozen? ⟨k, i, none⟩ = w.frozen? ⟨k, i, none⟩) ∧ w1.heap.size = w.heap.size :=
  ⟨fun k i hk => World.cell?_of_block (w := w) (o.block k hk), fun k i hk => World.frozen?_of_block (w := w) (o.block k hk), o.size⟩

theorem Rd.alloc {w : World} {b p : Nat} (h : Rd w b p) (hb : b < w.heap.size) (o : Obj) : Rd (w.alloc o) b p := h.below ((Below.refl _ _).alloc hb o)
theorem Rd.set {w : World} {b p : Nat} (h : Rd w b p) (k o : Nat) (hb : b < k) (v : Value) : Rd (w.setCell ⟨k, o, none⟩ v) b p := h.below ((Below.refl _ _).setCell hb v)

def OpenPost (w : World) (e : Ending) (w' : World) : Prop :=
  e = .returned (.pointer (some ⟨w.heap.size, 0, none⟩)) ∧ Rd w' w.heap.size 0 ∧ Below w.heap.size w w' ∧ w'.heap.size = w.heap.size + 1

theorem rd_new {w : World} {s : Option Addr} {len cap : Nat} (h : CodeAt w s len cap) (hl : len ≤ 2000) :
    Rd (w.alloc (.cells #[.slice s len cap, .int .i64 0] 45)) w.heap.size 0 := by
  refine ⟨s, len, cap, 0, ⟨(MapKept.heap_alloc w _).1, hl, fun i hi => ?_⟩, Nat.le_refl _⟩
  obtain ⟨sb, so, z, e, hlt, hz, h0, h1⟩ := h.byte i hi
  exact ⟨sb, so, z, e, hlt, (((Below.refl w.heap.size w).alloc (Nat.le_refl _) _).cell (p := ⟨sb, so + i, none⟩) hlt).trans hz, h0, h1⟩

theorem open_any {w : World} {s : Option Addr} {len cap : Nat} (h : CodeAt w s len cap) (hlen : len ≤ 1048576) :
    Calls Try.prog 31 #[.slice s len cap] w (OpenPost w) := by
  by_cases hl : len ≤ 2000
  · have hn := rd_new h hl
    clear h
    go_enter Try.func31, Try.ntmps31
    go_wp2
    go_ret
    exact ⟨rfl, hn, (Below.refl _ _).alloc (Nat.le_refl _) _, by simp⟩
  · have hn := rd_new (s := s) (len := 2000) (cap := cap) ⟨by have := h.room; omega, fun i hi => h.byte i (by omega)⟩ (Nat.le_refl _)
    obtain ⟨sb, so, z, rfl, _, _, _, _⟩ := h.byte 0 (by omega)
    have hcap := h.room
    have hcap2 : 2000 ≤ cap := by omega
    clear h
    go_enter Try.func31, Try.ntmps31
    go_wp2
    go_ret
    exact ⟨rfl, hn, (Below.refl _ _).alloc (Nat.le_refl _) _, by simp⟩

def DrawInt (lo hi : Int) (w : World) (e : Ending) (w' : World) : Prop :=
  (∃ v : Int, lo ≤ v ∧ v ≤ hi ∧ e = .returned (.int .i64 v)) ∧ Below w.heap.size w w'

theorem drawWordOk_any {w : World} {s : Option Addr} {len cap : Nat} (h : CodeAt w s len cap) (hlen : len ≤ 1048576) :
    Calls Try.prog 13 #[.slice s len cap] w (DrawInt (-9223372036854775808) 9223372036854775807 w) := by
  go_enter Try.func13, Try.ntmps13
  go_wp2_with (first | (go_at_call 31; refine (open_any h hlen).mono ?_; rintro e w1 ⟨rfl, h1, hb, hs⟩) | (go_at_call 32; refine (word_any (by first | assumption | exact Rd.alloc (by assumption) (by first | assumption | omega) _ | exact Rd.set (Rd.alloc (by assumption) (by first | assumption | omega) _) _ _ (by first | assumption | omega) _) (by omega)).mono ?_; rintro e w1 ⟨⟨v, v0, v1, rfl⟩, h1, o1⟩; obtain ⟨oc, of, os⟩ := ocell o1; try simp at os) | (go_at_call 33; refine (pick_any (by first | assumption | exact Rd.alloc (by assumption) (by first | assumption | omega) _ | exact Rd.set (Rd.alloc (by assumption) (by first | assumption | omega) _) _ _ (by first | assumption | omega) _) (by omega) _ (by omega)).mono ?_; rintro e w1 ⟨⟨v, v0, v1, rfl⟩, h1, o1⟩; obtain ⟨oc, of, os⟩ := ocell o1; try simp at os))
  go_ret
  exact ⟨⟨_, by go_light; unfold wrap64; omega, by go_light; unfold wrap64; omega, rfl⟩, by repeat (first | assumption | exact Below.refl _ _ | refine Below.setCell ?_ (by first | omega | (simp; omega)) _ | refine Below.alloc ?_ (by first | omega | (simp; omega)) _ | refine Below.trans ?_ (Only.below (by assumption) (by omega)))⟩

def DrawIns (w : World) (e : Ending) (w' : World) : Prop :=
  (∃ op a n : Int, (-1 ≤ op ∧ op ≤ 64) ∧ (-1 ≤ a ∧ a ≤ 64) ∧ (-1 ≤ n ∧ n ≤ 64) ∧ e = .returned (.agg #[.int .i64 op, .int .i64 a, .int .i64 n])) ∧ Below w.heap.size w w'

theorem l20Ins_any {b p : Nat} {w : World} (h : Rd w b p) (hb : b < w.heap.size) (hp : p ≤ 1000000) (n : Int) (hn : 1 ≤ n) (hn' : n ≤ 1000) :
    Calls Try.prog 35 #[.pointer (some ⟨b, 0, none⟩), .int .i64 n] w fun e w' =>
      (∃ op a n : Int, (-1 ≤ op ∧ op ≤ 64) ∧ (-1 ≤ a ∧ a ≤ 64) ∧ (-1 ≤ n ∧ n ≤ 64) ∧ e = .returned (.agg #[.int .i64 op, .int .i64 a, .int .i64 n])) ∧ Rd w' b (p + 10) ∧ Below b w w' := by
  have n0 : w.heap.size ≠ b := by omega
  have n1 : w.heap.size + 1 ≠ b := by omega
  go_enter Try.func35, Try.ntmps35
  go_wp2_with (first | (go_at_call 33; refine (pick_any (by first | assumption | exact Rd.alloc (by assumption) (by first | assumption | omega) _ | exact Rd.set (Rd.alloc (by assumption) (by first | assumption | omega) _) _ _ (by first | assumption | omega) _) (by omega) _ (by omega)).mono ?_; rintro e w1 ⟨⟨v, v0, v1, rfl⟩, h1, o1⟩; obtain ⟨oc, of, os⟩ := ocell o1; try simp at os) | (go_at_call 36; refine (odd_any (by first | assumption | exact Rd.alloc (by assumption) (by first | assumption | omega) _ | exact Rd.set (Rd.alloc (by assumption) (by first | assumption | omega) _) _ _ (by first | assumption | omega) _) (by omega) _ (by omega) (by omega)).mono ?_; rintro e w1 ⟨⟨v, rfl⟩, h1, o1⟩; obtain ⟨oc, of, os⟩ := ocell o1; try simp at os))
  all_goals
    exact bodyPost_ret (v := .agg #[.int .i64 _, .int .i64 _, .int .i64 _]) (by simp [results, Try.results35, go_sem, *]; exact ⟨rfl, rfl, rfl⟩) rfl ⟨⟨_, _, _, by go_light; omega, by go_light; omega, by go_light; omega, rfl⟩, by repeat (first | refine Rd.set ?_ _ _ (by omega) _ | exact Rd.mono (by assumption) (by omega)), by repeat (first | assumption | exact Below.refl _ _ | refine Below.setCell ?_ (by first | omega | (simp; omega)) _ | refine Below.alloc ?_ (by first | omega | (simp; omega)) _ | refine Below.trans ?_ (Only.below (by assumption) (by omega)))⟩
end Go.Proofs.Ytfgfekkengennaa
