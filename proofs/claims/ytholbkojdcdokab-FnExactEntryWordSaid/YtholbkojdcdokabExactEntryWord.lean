/- For every entry the exact law of EntryWord returns true, and its arguments read afterwards as they read before.
   Conditions: none beyond the row's own. -/
import Derived.Test.YtholbkojdcdokabRows
import Derived.Test.YtholbkojdcdokabN
import Derived.Test.YtholbkojdcdokabY3
namespace Go.Proofs.Ytholbkojdcdokab.fnExactEntryWord
open Go.ChangeShapes Go.WideShapes Go.ChangeAt Go.RowKit

theorem own : ownKnob Try.prog.godebug = none := by kernel_rfl
theorem laidOut : laidOutB Try.prog = true := by kernel_rfl
set_option maxRecDepth 100000 in
theorem lifted (os : Os) (started : os.Started) (H : Type) (enc : TypeId × Value → H) :
    ReturnsInHanded {} Try.checked os 6 .any (Rows.fnExactEntryWordSpec.pre6 enc Try.prog Try.f6 Rows.fnExactEntryWordRow.domain false) (Rows.fnExactEntryWordSpec.post enc Try.prog Try.f6 false true false false) := by
  refine law_lifted (C := Try.checked) own started (by kernel_rfl) Try.func6
    (ChangeSpec.witness6 (enc := enc) (C := Try.checked) false ⟨#[], #[.agg #[.bool false, .bool false, .bool false, .int .i64 0]], []⟩ 8 (by kernel_rfl) (by kernel_rfl) (by kernel_rfl) (by kernel_rfl)) 4 rfl Try.underlying4 rfl (fun ds h => by match ds, h with | [d0], _ => rfl) laidOut (by kernel_rfl) ?_
  intro W base args ds p hval hA hlt
  rw [Try.params6] at hA hval
  obtain ⟨v0, vs0, d0, ds0, p0, q0, hargs, rfl, rfl, h0, r0⟩ := trodAll_cons hA
  obtain ⟨rfl, rfl, rfl⟩ := trodAll_nil r0
  obtain rfl : args = #[v0] := by cases args; simp_all
  obtain ⟨x0, f0, y0⟩ := arg_agg (β := fun _ => ⟨0, 0⟩) (n := 8) (ss := [.bool, .bool, .bool, .int]) Try.underlying36 (by kernel_rfl) (hval 0 36 v0 rfl rfl) h0
  simp only [Fits, Fit] at f0
  obtain ⟨_, _, rfl, ⟨th, rfl⟩, ⟨_, _, rfl, ⟨wr, rfl⟩, ⟨_, _, rfl, ⟨us, rfl⟩, ⟨_, _, rfl, ⟨pg, rfl⟩, rfl⟩⟩⟩⟩ := f0
  simp only [avs, Dat.av] at y0
  exact law_of_pur (exactEntryWord th wr us pg) (by simp only [RVt]; exact ⟨_, _, rfl, y0, rfl⟩)

theorem over : Rows.fnExactEntryWordRow.holds Try.pinned (OpenSpec.ofChange Rows.fnExactEntryWordSpec) :=
  OpenClaim.holds_of_wide 6 Try.f6 rfl rfl rfl rfl rfl rfl rfl ⟨rfl, rfl, rfl, rfl, rfl⟩ rfl rfl rfl rfl rfl (by kernel_rfl) Try.func6 (by kernel_rfl)
    (of_decide_eq_true (by kernel_rfl)) (by unfold Func.isWrapper; first | (rw [if_pos (by decide +kernel)]; kernel_rfl) | (rw [if_neg (by decide +kernel)]; exact ⟨rfl, rfl⟩))
    (fun os started H enc _ => lifted os started H enc)

theorem proved : Rows.FnExactEntryWordSaid := over
end Go.Proofs.Ytholbkojdcdokab.fnExactEntryWord
