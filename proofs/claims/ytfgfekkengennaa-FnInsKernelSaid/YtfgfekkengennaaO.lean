/- A []byte argument, opened: a code that lies in memory. -/
import Derived.Test.YtfgfekkengennaaD1
import Derived.OpenShut
namespace Go.Proofs.Ytfgfekkengennaa
open Go.ChangeShapes Go.WideShapes Go.ChangeAt Go.RowKit

theorem cells5 : Try.prog.cellsOf 5 = 1 := by kernel_rfl

theorem code_open {H : Type} {enc : TypeId × Value → H} {W : World} {base : Nat} {v : Value} {d : DataW H} {p : List MemPlace}
    (hv : Value.okWide Try.prog W .any base 22 v) (h : DataW.Trod enc Try.prog W 0 (fun _ => true) true 22 v d p) :
    ∃ s len cap, v = .slice s len cap ∧ CodeAt W s len cap ∧ len ≤ 9223372036854775807 := by
  obtain ⟨a0, len, cap, rfl⟩ := okWide_slice Try.underlying22 hv
  obtain ⟨fuel, hf⟩ := h
  rcases open_ints Try.underlying22 Try.underlying5 cells5 hf with ⟨hcs, _⟩ | ⟨a, len', cap', zs, hcs, _, hl, hm, hz, _, hcell, hwz⟩
  · simp [Value.cells] at hcs
    obtain ⟨rfl, rfl, rfl⟩ := hcs
    exact ⟨none, 0, 0, rfl, ⟨Nat.le_refl _, fun i hi => by omega⟩, by omega⟩
  · simp [Value.cells] at hcs
    obtain ⟨rfl, rfl, rfl⟩ := hcs
    unfold maxLen at hm
    refine ⟨_, len, cap, rfl, ⟨hl, fun i hi => ?_⟩, by omega⟩
    simp only [if_true] at hz
    obtain ⟨b, off, rfl, hc⟩ := ints_at hcell (by omega)
    have hi' : i < zs.length := by omega
    have hc' := hc i hi'
    have hw := hwz (zs.getD i 0) (by simp [List.getD, List.getElem?_eq_getElem hi'])
    have hb := bounds_u8 hw
    refine ⟨b, off, zs.getD i 0, rfl, ?_, hc', hb.1, hb.2⟩
    unfold World.cell? at hc'
    cases hh : W.heap[b]? with
    | none => simp [hh] at hc'
    | some o => exact (Array.getElem?_eq_some_iff.1 hh).1
end Go.Proofs.Ytfgfekkengennaa
