/- For all arguments the law FnExactTagWalk returns true, and its arguments read afterwards as they read before.
   Conditions: none beyond the row's own. -/
import Derived.Test.YtbnjdmclnojlmaaRows
import Derived.Test.YtbnjdmclnojlmaaLZ
import Derived.Test.YtbnjdmclnojlmaaLH
import Derived.Test.YtbnjdmclnojlmaaLIN
import Derived.Test.YtbnjdmclnojlmaaPYXW
namespace Go.Proofs.Ytbnjdmclnojlmaa
set_option linter.all false
open Go.ChangeShapes Go.WideShapes Go.ChangeAt Go.RowKit
namespace fnExactTagWalk
theorem own : ownKnob Try.prog.godebug = none := by kernel_rfl
theorem laidOut : laidOutB Try.prog = true := by kernel_rfl
set_option maxRecDepth 100000 in
theorem lifted (os : Os) (started : os.Started) (H : Type) (enc : TypeId × Value → H) :
 ReturnsInHanded {} Try.checked os 7 .any (Rows.fnExactTagWalkSpec.pre6 enc Try.prog Try.f7 Rows.fnExactTagWalkRow.domain false) (Rows.fnExactTagWalkSpec.post enc Try.prog Try.f7 false true false false) := by
 refine law_lifted (C := Try.checked) own started (by kernel_rfl) Try.func7
  (ChangeSpec.witness6 (enc := enc) (C := Try.checked) false ⟨#[], #[.agg #[.slice none 0 0, .slice none 0 0], .slice none 0 0, .int .i64 0, .int .i64 0, .bool false, .bool false], []⟩ 8 (by kernel_rfl) (by kernel_rfl) (by kernel_rfl) (by kernel_rfl)) 4 rfl Try.underlying4 rfl (fun ds h => by match ds, h with | [d0, d1, d2, d3, d4, d5], _ => rfl) laidOut (by kernel_rfl) ?_
 intro W base args ds p hval hA hlt
 rw [Try.params7] at hA hval
 obtain ⟨v0, vs0, d0, ds0, p0, q0, hargs, rfl, rfl, h0, r0⟩ := trodAll_cons hA
 obtain ⟨v1, vs1, d1, ds1, p1, q1, hvs1, rfl, rfl, h1, r1⟩ := trodAll_cons r0
 obtain ⟨v2, vs2, d2, ds2, p2, q2, hvs2, rfl, rfl, h2, r2⟩ := trodAll_cons r1
 obtain ⟨v3, vs3, d3, ds3, p3, q3, hvs3, rfl, rfl, h3, r3⟩ := trodAll_cons r2
 obtain ⟨v4, vs4, d4, ds4, p4, q4, hvs4, rfl, rfl, h4, r4⟩ := trodAll_cons r3
 obtain ⟨v5, vs5, d5, ds5, p5, q5, hvs5, rfl, rfl, h5, r5⟩ := trodAll_cons r4
 obtain ⟨rfl, rfl, rfl⟩ := trodAll_nil r5
 obtain rfl : args = #[v0, v1, v2, v3, v4, v5] := by cases args; simp_all
 obtain ⟨es0, f0, o0, y0⟩ := arg_agg (n := 0) (β := fun _ _ => ⟨false, 0, 0⟩) (k := 8) (ss := shHost) Try.underlying50 (by kernel_rfl) (hval 0 50 v0 rfl rfl) h0
 obtain ⟨h, fs0, e0, b0, g0, -⟩ := fits_host (ss := []) f0 o0
 obtain rfl := fits_n g0
 rw [e0, avs, List.append_nil] at y0
 obtain ⟨x1, f1, o1, y1⟩ := arg_slice (n := 0) (β := fun _ _ => ⟨false, 0, 0⟩) (k := 8) (s := .sl 8 shLine) Try.underlying51 (by kernel_rfl) (hval 1 51 v1 rfl rfl) h1
 obtain ⟨xs, e1, b1⟩ := fit_rows (c := C_90) (p := fun _ => True) (fun r => fits_line) f1 o1
 rw [e1] at y1
 obtain ⟨g, i2, y2⟩ := arg_int (n := 0) (β := fun _ _ => ⟨false, 0, 0⟩) Try.underlying3 (hval 2 3 v2 rfl rfl) h2
 obtain ⟨a, i3, y3⟩ := arg_int (n := 0) (β := fun _ _ => ⟨false, 0, 0⟩) Try.underlying3 (hval 3 3 v3 rfl rfl) h3
 obtain ⟨u, y4⟩ := arg_bool (n := 0) (β := fun _ _ => ⟨false, 0, 0⟩) Try.underlying4 (hval 4 4 v4 rfl rfl)
 obtain ⟨w, y5⟩ := arg_bool (n := 0) (β := fun _ _ => ⟨false, 0, 0⟩) Try.underlying4 (hval 5 4 v5 rfl rfl)
 exact law_of_fn (laws_FnExactTagWalk_fn (exactTagWalk (g := g) (a := a) (u := u) (w := w) b0 b1.1)) (by simp only [cleans, AV.clean, cleans_fl cl_eI, Bool.and_self, cleans_fl cl_B_126, cleans_fl cl_C_90]) (by simp only [RVt, bo]; exact ⟨_, _, rfl, y0, _, _, rfl, y1, _, _, rfl, y2, _, _, rfl, y3, _, _, rfl, y4, _, _, rfl, y5, rfl⟩)
set_option maxRecDepth 100000 in
theorem closed : joinedFacts Try.pinned.checked.prog 7 Try.f7 Rows.fnExactTagWalkSpec Rows.fnExactTagWalkRow = true := by
 unfold joinedFacts
 rw [w_enter, w_lifts, w_make]
 kernel_rfl
theorem over : Rows.fnExactTagWalkRow.holds Try.pinned (OpenSpec.ofChange Rows.fnExactTagWalkSpec) :=
 OpenClaim.holds_of_wide 7 Try.f7 rfl rfl rfl rfl rfl rfl rfl ⟨rfl, rfl, rfl, rfl, rfl⟩ rfl rfl rfl rfl rfl (by kernel_rfl) Try.func7 closed
  (of_decide_eq_true (by kernel_rfl)) (by unfold Func.isWrapper; first | (rw [if_pos (by decide +kernel)]; kernel_rfl) | (rw [if_neg (by decide +kernel)]; exact ⟨rfl, rfl⟩))
  (fun os started H enc _ => lifted os started H enc)
theorem proved : Rows.FnExactTagWalkSaid := over
end fnExactTagWalk
end Go.Proofs.Ytbnjdmclnojlmaa
