/- For every core the exact law of CoreOk returns true, and its argument reads afterwards as it read before.
   Conditions: none beyond the row's own. -/
import Derived.Test.YthbefahhpikcaaaRows
import Derived.Test.YthbefahhpikcaaaZU
import Derived.Test.YthbefahhpikcaaaPB
namespace Go.Proofs.Ythbefahhpikcaaa
set_option linter.all false
open Go.ChangeShapes Go.WideShapes Go.ChangeAt Go.RowKit

def shCore : List Sh := [.sl 1 [.int], .int, .int, .int, .int, .bool, .int, .int, .int, .bool, .bool, .bool, .bool]
theorem fits_core {ss : List Sh} {ds : List Dat} (h : Fits (shCore ++ ss) ds) (ho : oks ds) : ∃ (c : DCore) (ds' : List Dat), avs ds = B_39 c ++ avs ds' ∧ okL InI c.Regs ∧ Fits ss ds' ∧ oks ds' := by
  simp only [shCore, List.cons_append, List.nil_append] at h
  obtain ⟨d0, r0, rfl, f0, o0, h, ho⟩ := fits_c h ho
  obtain ⟨d1, r1, rfl, f1, o1, h, ho⟩ := fits_c h ho
  obtain ⟨d2, r2, rfl, f2, o2, h, ho⟩ := fits_c h ho
  obtain ⟨d3, r3, rfl, f3, o3, h, ho⟩ := fits_c h ho
  obtain ⟨d4, r4, rfl, f4, o4, h, ho⟩ := fits_c h ho
  obtain ⟨d5, r5, rfl, f5, o5, h, ho⟩ := fits_c h ho
  obtain ⟨d6, r6, rfl, f6, o6, h, ho⟩ := fits_c h ho
  obtain ⟨d7, r7, rfl, f7, o7, h, ho⟩ := fits_c h ho
  obtain ⟨d8, r8, rfl, f8, o8, h, ho⟩ := fits_c h ho
  obtain ⟨d9, r9, rfl, f9, o9, h, ho⟩ := fits_c h ho
  obtain ⟨d10, r10, rfl, f10, o10, h, ho⟩ := fits_c h ho
  obtain ⟨d11, r11, rfl, f11, o11, h, ho⟩ := fits_c h ho
  obtain ⟨d12, r12, rfl, f12, o12, h, ho⟩ := fits_c h ho
  obtain ⟨xs, e0, p0⟩ := fit_rows (c := eI .i64) (p := InI) (fun r => fits_i) f0 o0
  obtain ⟨n1, e1, -⟩ := fit_i f1 o1
  obtain ⟨n2, e2, -⟩ := fit_i f2 o2
  obtain ⟨n3, e3, -⟩ := fit_i f3 o3
  obtain ⟨n4, e4, -⟩ := fit_i f4 o4
  obtain ⟨n5, e5, -⟩ := fit_b f5 o5
  obtain ⟨n6, e6, -⟩ := fit_i f6 o6
  obtain ⟨n7, e7, -⟩ := fit_i f7 o7
  obtain ⟨n8, e8, -⟩ := fit_i f8 o8
  obtain ⟨n9, e9, -⟩ := fit_b f9 o9
  obtain ⟨n10, e10, -⟩ := fit_b f10 o10
  obtain ⟨n11, e11, -⟩ := fit_b f11 o11
  obtain ⟨n12, e12, -⟩ := fit_b f12 o12
  refine ⟨⟨xs, n1, n2, n3, n4, n5, n6, n7, n8, n9, n10, n11, n12⟩, r12, ?_, p0, h, ho⟩
  simp only [avs, e0, e1, e2, e3, e4, e5, e6, e7, e8, e9, e10, e11, e12, B_39, bo, List.cons_append, List.nil_append]

namespace fnExactCoreOk
theorem own : ownKnob Try.prog.godebug = none := by kernel_rfl
theorem laidOut : laidOutB Try.prog = true := by kernel_rfl
set_option maxRecDepth 100000 in
theorem lifted (os : Os) (started : os.Started) (H : Type) (enc : TypeId × Value → H) :
    ReturnsInHanded {} Try.checked os 11 .any (Rows.fnExactCoreOkSpec.pre6 enc Try.prog Try.f11 Rows.fnExactCoreOkRow.domain false) (Rows.fnExactCoreOkSpec.post enc Try.prog Try.f11 false true false false) := by
  refine law_lifted (C := Try.checked) own started (by kernel_rfl) Try.func11
    (ChangeSpec.witness6 (enc := enc) (C := Try.checked) false ⟨#[], #[.agg #[.slice none 0 0, .int .i64 0, .int .i64 0, .int .i64 0, .int .i64 0, .bool false, .int .i64 0, .int .i64 0, .int .i64 0, .bool false, .bool false, .bool false, .bool false]], []⟩ 8 (by kernel_rfl) (by kernel_rfl) (by kernel_rfl) (by kernel_rfl)) 4 rfl Try.underlying4 rfl (fun ds h => by match ds, h with | [d0], _ => rfl) laidOut (by kernel_rfl) ?_
  intro W base args ds p hval hA hlt
  rw [Try.params11] at hA hval
  obtain ⟨v0, vs0, d0, ds0, p0, q0, hargs, rfl, rfl, h0, r0⟩ := trodAll_cons hA
  obtain ⟨rfl, rfl, rfl⟩ := trodAll_nil r0
  obtain rfl : args = #[v0] := by cases args; simp_all
  obtain ⟨es, f0, o0, y0⟩ := arg_agg (n := 0) (β := fun _ _ => ⟨false, 0, 0⟩) (k := 8) (ss := shCore) Try.underlying52 (by kernel_rfl) (hval 0 52 v0 rfl rfl) h0
  obtain ⟨c, es', e0, b0, f1, -⟩ := fits_core (ss := []) f0 o0
  obtain rfl := fits_n f1
  rw [e0, avs, List.append_nil] at y0
  exact law_of_fn (laws_FnExactCoreOk_fn (exactCoreOk (c := c) (by have := b0.1; omega))) (by simp only [cleans, AV.clean, cl_B_39, Bool.and_self]) (by simp only [RVt]; exact ⟨_, _, rfl, y0, rfl⟩)

theorem over : Rows.fnExactCoreOkRow.holds Try.pinned (OpenSpec.ofChange Rows.fnExactCoreOkSpec) :=
  OpenClaim.holds_of_wide 11 Try.f11 rfl rfl rfl rfl rfl rfl rfl ⟨rfl, rfl, rfl, rfl, rfl⟩ rfl rfl rfl rfl rfl (by kernel_rfl) Try.func11 (by kernel_rfl)
    (of_decide_eq_true (by kernel_rfl)) (by unfold Func.isWrapper; first | (rw [if_pos (by decide +kernel)]; kernel_rfl) | (rw [if_neg (by decide +kernel)]; exact ⟨rfl, rfl⟩))
    (fun os started H enc _ => lifted os started H enc)

theorem proved : Rows.FnExactCoreOkSaid := over
end fnExactCoreOk
end Go.Proofs.Ythbefahhpikcaaa
