/- For all arguments the law FnExactShadowWalk returns true, and its arguments read afterwards as they read before.
   Conditions: none beyond the row's own. -/
import Derived.Test.YtlikfpmbcdlnjaaRows
import Derived.Test.YtlikfpmbcdlnjaaLZ
import Derived.Test.YtlikfpmbcdlnjaaLH
import Derived.Test.YtlikfpmbcdlnjaaPSW
namespace Go.Proofs.Ytlikfpmbcdlnjaa
set_option linter.all false
open Go.ChangeShapes Go.WideShapes Go.ChangeAt Go.RowKit
namespace fnExactShadowWalk
theorem own : ownKnob Try.prog.godebug = none := by kernel_rfl
theorem laidOut : laidOutB Try.prog = true := by kernel_rfl
set_option maxRecDepth 100000 in
theorem lifted (os : Os) (started : os.Started) (H : Type) (enc : TypeId × Value → H) :
 ReturnsInHanded {} Try.checked os 10 .any (Rows.fnExactShadowWalkSpec.pre6 enc Try.prog Try.f10 Rows.fnExactShadowWalkRow.domain false) (Rows.fnExactShadowWalkSpec.post enc Try.prog Try.f10 false true false false) := by
 refine law_lifted (C := Try.checked) own started (by kernel_rfl) Try.func10
  (ChangeSpec.witness6 (enc := enc) (C := Try.checked) false ⟨#[], #[.agg #[.slice none 0 0, .slice none 0 0], .int .i64 0, .int .i64 0, .bool false, .bool false], []⟩ 8 (by kernel_rfl) (by kernel_rfl) (by kernel_rfl) (by kernel_rfl)) 4 rfl Try.underlying4 rfl (fun ds h => by match ds, h with | [d0, d1, d2, d3, d4], _ => rfl) laidOut (by kernel_rfl) ?_
 intro W base args ds p hval hA hlt
 rw [Try.params10] at hA hval
 obtain ⟨v0, vs0, d0, ds0, p0, q0, hargs, rfl, rfl, h0, r0⟩ := trodAll_cons hA
 obtain ⟨v1, vs1, d1, ds1, p1, q1, hvs1, rfl, rfl, h1, r1⟩ := trodAll_cons r0
 obtain ⟨v2, vs2, d2, ds2, p2, q2, hvs2, rfl, rfl, h2, r2⟩ := trodAll_cons r1
 obtain ⟨v3, vs3, d3, ds3, p3, q3, hvs3, rfl, rfl, h3, r3⟩ := trodAll_cons r2
 obtain ⟨v4, vs4, d4, ds4, p4, q4, hvs4, rfl, rfl, h4, r4⟩ := trodAll_cons r3
 obtain ⟨rfl, rfl, rfl⟩ := trodAll_nil r4
 obtain rfl : args = #[v0, v1, v2, v3, v4] := by cases args; simp_all
 obtain ⟨es0, f0, o0, y0⟩ := arg_agg (n := 0) (β := fun _ _ => ⟨false, 0, 0⟩) (k := 8) (ss := shHost) Try.underlying65 (by kernel_rfl) (hval 0 65 v0 rfl rfl) h0
 obtain ⟨h, fs0, e0, b0, g0, -⟩ := fits_host (ss := []) f0 o0
 obtain rfl := fits_n g0
 rw [e0, avs, List.append_nil] at y0
 obtain ⟨g, i1, y1⟩ := arg_int (n := 0) (β := fun _ _ => ⟨false, 0, 0⟩) Try.underlying3 (hval 1 3 v1 rfl rfl) h1
 obtain ⟨a, i2, y2⟩ := arg_int (n := 0) (β := fun _ _ => ⟨false, 0, 0⟩) Try.underlying3 (hval 2 3 v2 rfl rfl) h2
 obtain ⟨u, y3⟩ := arg_bool (n := 0) (β := fun _ _ => ⟨false, 0, 0⟩) Try.underlying4 (hval 3 4 v3 rfl rfl)
 obtain ⟨w, y4⟩ := arg_bool (n := 0) (β := fun _ _ => ⟨false, 0, 0⟩) Try.underlying4 (hval 4 4 v4 rfl rfl)
 exact law_of_fn (laws_FnExactShadowWalk_fn (exactShadowWalk (g := g) (a := a) (u := u) (w := w) b0)) (by simp only [cleans, AV.clean, cleans_fl cl_eI, Bool.and_self, cleans_fl cl_B_149]) (by simp only [RVt, bo]; exact ⟨_, _, rfl, y0, _, _, rfl, y1, _, _, rfl, y2, _, _, rfl, y3, _, _, rfl, y4, rfl⟩)
set_option maxRecDepth 100000 in
theorem closed : joinedFacts Try.pinned.checked.prog 10 Try.f10 Rows.fnExactShadowWalkSpec Rows.fnExactShadowWalkRow = true := by
 unfold joinedFacts
 rw [w_enter, w_lifts, w_make]
 kernel_rfl
theorem over : Rows.fnExactShadowWalkRow.holds Try.pinned (OpenSpec.ofChange Rows.fnExactShadowWalkSpec) :=
 OpenClaim.holds_of_wide 10 Try.f10 rfl rfl rfl rfl rfl rfl rfl ⟨rfl, rfl, rfl, rfl, rfl⟩ rfl rfl rfl rfl rfl (by kernel_rfl) Try.func10 closed
  (of_decide_eq_true (by kernel_rfl)) (by unfold Func.isWrapper; first | (rw [if_pos (by decide +kernel)]; kernel_rfl) | (rw [if_neg (by decide +kernel)]; exact ⟨rfl, rfl⟩))
  (fun os started H enc _ => lifted os started H enc)
theorem proved : Rows.FnExactShadowWalkSaid := over
end fnExactShadowWalk
end Go.Proofs.Ytlikfpmbcdlnjaa
