/- For all arguments the law FnExactTagsOk returns true, and its arguments read afterwards as they read before.
   Conditions: none beyond the row's own. -/
import Derived.Test.YtbnjdmclnojlmaaRows
import Derived.Test.YtbnjdmclnojlmaaLZ
import Derived.Test.YtbnjdmclnojlmaaLH
import Derived.Test.YtbnjdmclnojlmaaLIN
import Derived.Test.YtbnjdmclnojlmaaPYXK
namespace Go.Proofs.Ytbnjdmclnojlmaa
set_option linter.all false
open Go.ChangeShapes Go.WideShapes Go.ChangeAt Go.RowKit
namespace fnExactTagsOk
theorem own : ownKnob Try.prog.godebug = none := by kernel_rfl
theorem laidOut : laidOutB Try.prog = true := by kernel_rfl
set_option maxRecDepth 100000 in
theorem lifted (os : Os) (started : os.Started) (H : Type) (enc : TypeId × Value → H) :
 ReturnsInHanded {} Try.checked os 6 .any (Rows.fnExactTagsOkSpec.pre6 enc Try.prog Try.f6 Rows.fnExactTagsOkRow.domain false) (Rows.fnExactTagsOkSpec.post enc Try.prog Try.f6 false true false false) := by
 refine law_lifted (C := Try.checked) own started (by kernel_rfl) Try.func6
  (ChangeSpec.witness6 (enc := enc) (C := Try.checked) false ⟨#[], #[.agg #[.slice none 0 0, .slice none 0 0], .slice none 0 0], []⟩ 8 (by kernel_rfl) (by kernel_rfl) (by kernel_rfl) (by kernel_rfl)) 4 rfl Try.underlying4 rfl (fun ds h => by match ds, h with | [d0, d1], _ => rfl) laidOut (by kernel_rfl) ?_
 intro W base args ds p hval hA hlt
 rw [Try.params6] at hA hval
 obtain ⟨v0, vs0, d0, ds0, p0, q0, hargs, rfl, rfl, h0, r0⟩ := trodAll_cons hA
 obtain ⟨v1, vs1, d1, ds1, p1, q1, hvs1, rfl, rfl, h1, r1⟩ := trodAll_cons r0
 obtain ⟨rfl, rfl, rfl⟩ := trodAll_nil r1
 obtain rfl : args = #[v0, v1] := by cases args; simp_all
 obtain ⟨es0, f0, o0, y0⟩ := arg_agg (n := 0) (β := fun _ _ => ⟨false, 0, 0⟩) (k := 8) (ss := shHost) Try.underlying50 (by kernel_rfl) (hval 0 50 v0 rfl rfl) h0
 obtain ⟨h, fs0, e0, b0, g0, -⟩ := fits_host (ss := []) f0 o0
 obtain rfl := fits_n g0
 rw [e0, avs, List.append_nil] at y0
 obtain ⟨x1, f1, o1, y1⟩ := arg_slice (n := 0) (β := fun _ _ => ⟨false, 0, 0⟩) (k := 8) (s := .sl 8 shLine) Try.underlying51 (by kernel_rfl) (hval 1 51 v1 rfl rfl) h1
 obtain ⟨xs, e1, b1⟩ := fit_rows (c := C_90) (p := fun _ => True) (fun r => fits_line) f1 o1
 rw [e1] at y1
 exact law_of_fn (laws_FnExactTagsOk_fn (exactTagsOk b0 b1.1)) (by simp only [cleans, AV.clean, cleans_fl cl_eI, Bool.and_self, cleans_fl cl_B_126, cleans_fl cl_C_90]) (by simp only [RVt, bo]; exact ⟨_, _, rfl, y0, _, _, rfl, y1, rfl⟩)
set_option maxRecDepth 100000 in
theorem closed : joinedFacts Try.pinned.checked.prog 6 Try.f6 Rows.fnExactTagsOkSpec Rows.fnExactTagsOkRow = true := by
 unfold joinedFacts
 rw [w_enter, w_lifts, w_make]
 kernel_rfl
theorem over : Rows.fnExactTagsOkRow.holds Try.pinned (OpenSpec.ofChange Rows.fnExactTagsOkSpec) :=
 OpenClaim.holds_of_wide 6 Try.f6 rfl rfl rfl rfl rfl rfl rfl ⟨rfl, rfl, rfl, rfl, rfl⟩ rfl rfl rfl rfl rfl (by kernel_rfl) Try.func6 closed
  (of_decide_eq_true (by kernel_rfl)) (by unfold Func.isWrapper; first | (rw [if_pos (by decide +kernel)]; kernel_rfl) | (rw [if_neg (by decide +kernel)]; exact ⟨rfl, rfl⟩))
  (fun os started H enc _ => lifted os started H enc)
theorem proved : Rows.FnExactTagsOkSaid := over
end fnExactTagsOk
end Go.Proofs.Ytbnjdmclnojlmaa
