/- For every list of numbers the exact law of MemOk returns true, and its argument reads afterwards as it read before.
   Conditions: none beyond the row's own. -/
import Derived.Test.YtmjphjphgjmojaaRows
import Derived.Test.YtmjphjphgjmojaaZU
import Derived.Test.YtmjphjphgjmojaaPm
namespace Go.Proofs.Ytmjphjphgjmojaa
open Go.ChangeShapes Go.WideShapes Go.ChangeAt Go.RowKit
namespace fnExactMemOk
theorem own : ownKnob Try.prog.godebug = none := by kernel_rfl
theorem laidOut : laidOutB Try.prog = true := by kernel_rfl
set_option maxRecDepth 100000 in
theorem lifted (os : Os) (started : os.Started) (H : Type) (enc : TypeId × Value → H) :
 ReturnsInHanded {} Try.checked os 3 .any (Rows.fnExactMemOkSpec.pre6 enc Try.prog Try.f3 Rows.fnExactMemOkRow.domain false) (Rows.fnExactMemOkSpec.post enc Try.prog Try.f3 false true false false) := by
 refine law_lifted (C := Try.checked) own started (by kernel_rfl) Try.func3
  (ChangeSpec.witness6 (enc := enc) (C := Try.checked) false ⟨#[], #[.slice none 0 0], []⟩ 8 (by kernel_rfl) (by kernel_rfl) (by kernel_rfl) (by kernel_rfl)) 4 rfl Try.underlying4 rfl (fun ds h => by match ds, h with | [d0], _ => rfl) laidOut (by kernel_rfl) ?_
 intro W base args ds p hval hA hlt
 rw [Try.params3] at hA hval
 obtain ⟨v0, vs0, d0, ds0, p0, q0, hargs, rfl, rfl, h0, r0⟩ := trodAll_cons hA
 obtain ⟨rfl, rfl, rfl⟩ := trodAll_nil r0
 obtain rfl : args = #[v0] := by cases args; simp_all
 obtain ⟨x, f0, o0, y0⟩ := arg_slice (n := 0) (β := fun _ _ => ⟨false, 0, 0⟩) (k := 8) (s := .sl 1 [.int]) Try.underlying22 (by kernel_rfl) (hval 0 22 v0 rfl rfl) h0
 obtain ⟨xs, e0, b0⟩ := fit_rows (c := eI .i64) (p := InI) (fun r => fits_i) f0 o0
 rw [e0] at y0
 exact law_of_fn (laws_FnExactMemOk_fn (exactMemOk b0.1)) (by simp only [cleans, AV.clean, Bool.and_self, cleans_fl cl_eI]) (by simp only [RVt, bo]; exact ⟨_, _, rfl, y0, rfl⟩)
theorem over : Rows.fnExactMemOkRow.holds Try.pinned (OpenSpec.ofChange Rows.fnExactMemOkSpec) :=
 OpenClaim.holds_of_wide 3 Try.f3 rfl rfl rfl rfl rfl rfl rfl ⟨rfl, rfl, rfl, rfl, rfl⟩ rfl rfl rfl rfl rfl (by kernel_rfl) Try.func3 (by kernel_rfl)
  (of_decide_eq_true (by kernel_rfl)) (by unfold Func.isWrapper; first | (rw [if_pos (by decide +kernel)]; kernel_rfl) | (rw [if_neg (by decide +kernel)]; exact ⟨rfl, rfl⟩))
  (fun os started H enc _ => lifted os started H enc)
theorem proved : Rows.FnExactMemOkSaid := over
end fnExactMemOk
end Go.Proofs.Ytmjphjphgjmojaa
