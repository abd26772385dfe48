/- For every int the exact law of InsFrom returns true, and its argument reads afterwards as it read before.
   Conditions: none beyond the row's own. -/
import Derived.Test.YtfgfekkengennaaRows
import Derived.Test.YtfgfekkengennaaF
import Derived.Test.YtfgfekkengennaaE1
import Derived.Lib.SmallJoins
namespace Go.Proofs.Ytfgfekkengennaa.fnExactInsFrom
open Go.ChangeShapes Go.WideShapes Go.ChangeAt Go.RowKit Go.Joins

theorem own : ownKnob Try.prog.godebug = none := by kernel_rfl
theorem laidOut : laidOutB Try.prog = true := by kernel_rfl
set_option maxRecDepth 100000 in
theorem lifted (os : Os) (started : os.Started) (H : Type) (enc : TypeId × Value → H) :
    ReturnsInHanded {} Try.checked os 11 .any (Rows.fnExactInsFromSpec.pre6 enc Try.prog Try.f11 Rows.fnExactInsFromRow.domain false) (Rows.fnExactInsFromSpec.post enc Try.prog Try.f11 false true false false) := by
  refine law_lifted (C := Try.checked) own started (by kernel_rfl) Try.func11
    (ChangeSpec.witness6 (enc := enc) (C := Try.checked) false ⟨#[], #[.int .i64 0], []⟩ 8 (by kernel_rfl) (by kernel_rfl) (by kernel_rfl) (by kernel_rfl)) 4 rfl Try.underlying4 rfl (fun ds h => by match ds, h with | [d0], _ => rfl) laidOut (by kernel_rfl) ?_
  intro W base args ds p hval hA hlt
  rw [Try.params11] at hA hval
  obtain ⟨v0, vs0, d0, ds0, p0, q0, hargs, rfl, rfl, h0, r0⟩ := trodAll_cons hA
  obtain ⟨rfl, rfl, rfl⟩ := trodAll_nil r0
  obtain rfl : args = #[v0] := by cases args; simp_all
  obtain ⟨a0, rfl, rfl, rfl, w0⟩ := open_int Try.underlying3 (hval 0 3 v0 rfl rfl) h0
  exact exactInsFrom_walk a0 W

theorem over : Rows.fnExactInsFromRow.holds Try.pinned (OpenSpec.ofChange Rows.fnExactInsFromSpec) :=
  OpenClaim.holds_of_wide 11 Try.f11 rfl rfl rfl rfl rfl rfl rfl ⟨rfl, rfl, rfl, rfl, rfl⟩ rfl rfl rfl rfl rfl (by kernel_rfl) Try.func11 (by kernel_rfl)
    (of_decide_eq_true (by kernel_rfl)) (by unfold Func.isWrapper; first | (rw [if_pos (by decide +kernel)]; kernel_rfl) | (rw [if_neg (by decide +kernel)]; exact ⟨rfl, rfl⟩))
    (fun os started H enc _ => lifted os started H enc)

theorem proved : Rows.FnExactInsFromSaid := over
end Go.Proofs.Ytfgfekkengennaa.fnExactInsFrom
