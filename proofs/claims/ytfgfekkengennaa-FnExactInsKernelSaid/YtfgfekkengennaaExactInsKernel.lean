/- For every instruction the exact law of InsKernel returns true, and its argument reads afterwards as it read before.
   Conditions: none beyond the row's own. -/
import Derived.Test.YtfgfekkengennaaRows
import Derived.Test.YtfgfekkengennaaF
import Derived.Test.YtfgfekkengennaaE1
import Derived.Lib.SmallJoins
namespace Go.Proofs.Ytfgfekkengennaa.fnExactInsKernel
open Go.ChangeShapes Go.WideShapes Go.ChangeAt Go.RowKit Go.Joins

theorem own : ownKnob Try.prog.godebug = none := by kernel_rfl
theorem laidOut : laidOutB Try.prog = true := by kernel_rfl
set_option maxRecDepth 100000 in
theorem lifted (os : Os) (started : os.Started) (H : Type) (enc : TypeId × Value → H) :
    ReturnsInHanded {} Try.checked os 12 .any (Rows.fnExactInsKernelSpec.pre6 enc Try.prog Try.f12 Rows.fnExactInsKernelRow.domain false) (Rows.fnExactInsKernelSpec.post enc Try.prog Try.f12 false true false false) := by
  refine law_lifted (C := Try.checked) own started (by kernel_rfl) Try.func12
    (ChangeSpec.witness6 (enc := enc) (C := Try.checked) false ⟨#[], #[.agg #[.int .i64 0, .int .i64 0, .int .i64 0]], []⟩ 8 (by kernel_rfl) (by kernel_rfl) (by kernel_rfl) (by kernel_rfl)) 4 rfl Try.underlying4 rfl (fun ds h => by match ds, h with | [d0], _ => rfl) laidOut (by kernel_rfl) ?_
  intro W base args ds p hval hA hlt
  rw [Try.params12] at hA hval
  obtain ⟨v0, vs0, d0, ds0, p0, q0, hargs, rfl, rfl, h0, r0⟩ := trodAll_cons hA
  obtain ⟨rfl, rfl, rfl⟩ := trodAll_nil r0
  obtain rfl : args = #[v0] := by cases args; simp_all
  obtain ⟨c0, c1, c2, y0, y1, y2, m, rfl, rfl, rfl, hy0, hy1, hy2⟩ := open_agg3 Try.underlying34 (by kernel_rfl) (by kernel_rfl : Try.prog.cellsOf 34 = 3) (hval 0 34 v0 rfl rfl) h0
  obtain ⟨op, e0, rfl, _⟩ := DataW.trod_int Try.underlying3 hy0
  obtain ⟨a, e1, rfl, _⟩ := DataW.trod_int Try.underlying3 hy1
  obtain ⟨n, e2, rfl, _⟩ := DataW.trod_int Try.underlying3 hy2
  simp at e0 e1 e2; subst e0 e1 e2
  exact exactInsKernel_walk op a n W

theorem over : Rows.fnExactInsKernelRow.holds Try.pinned (OpenSpec.ofChange Rows.fnExactInsKernelSpec) :=
  OpenClaim.holds_of_wide 12 Try.f12 rfl rfl rfl rfl rfl rfl rfl ⟨rfl, rfl, rfl, rfl, rfl⟩ rfl rfl rfl rfl rfl (by kernel_rfl) Try.func12 (by kernel_rfl)
    (of_decide_eq_true (by kernel_rfl)) (by unfold Func.isWrapper; first | (rw [if_pos (by decide +kernel)]; kernel_rfl) | (rw [if_neg (by decide +kernel)]; exact ⟨rfl, rfl⟩))
    (fun os started H enc _ => lifted os started H enc)

theorem proved : Rows.FnExactInsKernelSaid := over
end Go.Proofs.Ytfgfekkengennaa.fnExactInsKernel
