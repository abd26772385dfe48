/- For every machine the exact law of BareOk returns true, and its argument reads afterwards as it read before.
   Conditions: none beyond the row's own. -/
import Derived.Test.YthbefahhpikcaaaLC
namespace Go.Proofs.Ythbefahhpikcaaa
set_option linter.all false
open Go.ChangeShapes Go.WideShapes Go.ChangeAt Go.RowKit

def shBare : List Sh := shCore ++ [.sl 1 [.int], .sl 1 [.int], .sl 1 [.int]]
theorem fits_bare {ss : List Sh} {ds : List Dat} (h : Fits (shBare ++ ss) ds) (ho : oks ds) : ∃ (b : DBare) (ds' : List Dat), avs ds = B_43 b ++ avs ds' ∧ (okL InI b.C.Regs ∧ okL InI b.Mem ∧ okL InI b.In ∧ okL InI b.Out) ∧ Fits ss ds' ∧ oks ds' := by
  rw [shBare, List.append_assoc] at h
  obtain ⟨c, r, e, p, h, ho⟩ := fits_core h ho
  simp only [List.cons_append, List.nil_append] at h
  obtain ⟨d0, r0, rfl, f0, o0, h, ho⟩ := fits_c h ho
  obtain ⟨d1, r1, rfl, f1, o1, h, ho⟩ := fits_c h ho
  obtain ⟨d2, r2, rfl, f2, o2, h, ho⟩ := fits_c h ho
  obtain ⟨xs, e0, p0⟩ := fit_rows (c := eI .i64) (p := InI) (fun r => fits_i) f0 o0
  obtain ⟨ys, e1, p1⟩ := fit_rows (c := eI .i64) (p := InI) (fun r => fits_i) f1 o1
  obtain ⟨zs, e2, p2⟩ := fit_rows (c := eI .i64) (p := InI) (fun r => fits_i) f2 o2
  refine ⟨⟨c, xs, ys, zs⟩, r2, ?_, ⟨p, p0, p1, p2⟩, h, ho⟩
  rw [e]
  simp only [avs, e0, e1, e2, B_39, B_43, bo, List.cons_append, List.nil_append]

namespace fnExactBareOk
theorem own : ownKnob Try.prog.godebug = none := by kernel_rfl
theorem laidOut : laidOutB Try.prog = true := by kernel_rfl
set_option maxRecDepth 100000 in
theorem lifted (os : Os) (started : os.Started) (H : Type) (enc : TypeId × Value → H) :
    ReturnsInHanded {} Try.checked os 12 .any (Rows.fnExactBareOkSpec.pre6 enc Try.prog Try.f12 Rows.fnExactBareOkRow.domain false) (Rows.fnExactBareOkSpec.post enc Try.prog Try.f12 false true false false) := by
  refine law_lifted (C := Try.checked) own started (by kernel_rfl) Try.func12
    (ChangeSpec.witness6 (enc := enc) (C := Try.checked) false ⟨#[], #[.agg #[.slice none 0 0, .int .i64 0, .int .i64 0, .int .i64 0, .int .i64 0, .bool false, .int .i64 0, .int .i64 0, .int .i64 0, .bool false, .bool false, .bool false, .bool false, .slice none 0 0, .slice none 0 0, .slice none 0 0]], []⟩ 8 (by kernel_rfl) (by kernel_rfl) (by kernel_rfl) (by kernel_rfl)) 4 rfl Try.underlying4 rfl (fun ds h => by match ds, h with | [d0], _ => rfl) laidOut (by kernel_rfl) ?_
  intro W base args ds p hval hA hlt
  rw [Try.params12] at hA hval
  obtain ⟨v0, vs0, d0, ds0, p0, q0, hargs, rfl, rfl, h0, r0⟩ := trodAll_cons hA
  obtain ⟨rfl, rfl, rfl⟩ := trodAll_nil r0
  obtain rfl : args = #[v0] := by cases args; simp_all
  obtain ⟨es, f0, o0, y0⟩ := arg_agg (n := 0) (β := fun _ _ => ⟨false, 0, 0⟩) (k := 8) (ss := shBare) Try.underlying58 (by kernel_rfl) (hval 0 58 v0 rfl rfl) h0
  obtain ⟨b, es', e0, b0, f1, -⟩ := fits_bare (ss := []) f0 o0
  obtain rfl := fits_n f1
  rw [e0, avs, List.append_nil] at y0
  exact law_of_fn (laws_FnExactBareOk_fn (exactBareOk (b := b) b0.1.1 b0.2.1.1 b0.2.2.1.1 b0.2.2.2.1)) (by simp only [cleans, AV.clean, cl_B_43, Bool.and_self]) (by simp only [RVt]; exact ⟨_, _, rfl, y0, rfl⟩)

theorem over : Rows.fnExactBareOkRow.holds Try.pinned (OpenSpec.ofChange Rows.fnExactBareOkSpec) :=
  OpenClaim.holds_of_wide 12 Try.f12 rfl rfl rfl rfl rfl rfl rfl ⟨rfl, rfl, rfl, rfl, rfl⟩ rfl rfl rfl rfl rfl (by kernel_rfl) Try.func12 (by kernel_rfl)
    (of_decide_eq_true (by kernel_rfl)) (by unfold Func.isWrapper; first | (rw [if_pos (by decide +kernel)]; kernel_rfl) | (rw [if_neg (by decide +kernel)]; exact ⟨rfl, rfl⟩))
    (fun os started H enc _ => lifted os started H enc)

theorem proved : Rows.FnExactBareOkSaid := over
end fnExactBareOk
end Go.Proofs.Ythbefahhpikcaaa
