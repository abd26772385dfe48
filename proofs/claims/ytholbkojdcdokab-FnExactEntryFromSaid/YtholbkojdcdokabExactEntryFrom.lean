/- For every int the exact law of EntryFrom returns true, and its arguments read afterwards as they read before.
   Conditions: none beyond the row's own. -/
import Derived.Test.YtholbkojdcdokabRows
import Derived.Test.YtholbkojdcdokabN
import Derived.Test.YtholbkojdcdokabY3
namespace Go.Proofs.Ytholbkojdcdokab.fnExactEntryFrom
open Go.ChangeShapes Go.WideShapes Go.ChangeAt Go.RowKit

theorem own : ownKnob Try.prog.godebug = none := by kernel_rfl
theorem laidOut : laidOutB Try.prog = true := by kernel_rfl
set_option maxRecDepth 100000 in
theorem lifted (os : Os) (started : os.Started) (H : Type) (enc : TypeId × Value → H) :
    ReturnsInHanded {} Try.checked os 7 .any (Rows.fnExactEntryFromSpec.pre6 enc Try.prog Try.f7 Rows.fnExactEntryFromRow.domain false) (Rows.fnExactEntryFromSpec.post enc Try.prog Try.f7 false true false false) := by
  refine law_lifted (C := Try.checked) own started (by kernel_rfl) Try.func7
    (ChangeSpec.witness6 (enc := enc) (C := Try.checked) false ⟨#[], #[.int .i64 0], []⟩ 8 (by kernel_rfl) (by kernel_rfl) (by kernel_rfl) (by kernel_rfl)) 4 rfl Try.underlying4 rfl (fun ds h => by match ds, h with | [d0], _ => rfl) laidOut (by kernel_rfl) ?_
  intro W base args ds p hval hA hlt
  rw [Try.params7] at hA hval
  obtain ⟨v0, vs0, d0, ds0, p0, q0, hargs, rfl, rfl, h0, r0⟩ := trodAll_cons hA
  obtain ⟨rfl, rfl, rfl⟩ := trodAll_nil r0
  obtain rfl : args = #[v0] := by cases args; simp_all
  obtain ⟨w, y0⟩ := arg_int (β := fun _ => ⟨0, 0⟩) Try.underlying3 (hval 0 3 v0 rfl rfl) h0
  exact law_of_pur (exactEntryFrom w) (by simp only [RVt]; exact ⟨_, _, rfl, y0, rfl⟩)

theorem over : Rows.fnExactEntryFromRow.holds Try.pinned (OpenSpec.ofChange Rows.fnExactEntryFromSpec) :=
  OpenClaim.holds_of_wide 7 Try.f7 rfl rfl rfl rfl rfl rfl rfl ⟨rfl, rfl, rfl, rfl, rfl⟩ rfl rfl rfl rfl rfl (by kernel_rfl) Try.func7 (by kernel_rfl)
    (of_decide_eq_true (by kernel_rfl)) (by unfold Func.isWrapper; first | (rw [if_pos (by decide +kernel)]; kernel_rfl) | (rw [if_neg (by decide +kernel)]; exact ⟨rfl, rfl⟩))
    (fun os started H enc _ => lifted os started H enc)

theorem proved : Rows.FnExactEntryFromSaid := over
end Go.Proofs.Ytholbkojdcdokab.fnExactEntryFrom
