/- Lines as a law's argument, opened. -/
import Derived.Test.YtbnjdmclnojlmaaZ5
import Derived.Test.YtbnjdmclnojlmaaWT
namespace Go.Proofs.Ytbnjdmclnojlmaa
set_option linter.all false
open Go.ChangeShapes Go.WideShapes Go.ChangeAt Go.RowKit
def shLine : List Sh := [.int, .int, .bool, .bool, .bool, .int, .int, .bool]
theorem fits_line {ds : List Dat} (h : Fits shLine ds) (ho : oks ds) : ∃ x : DLine, avs ds = C_90 x ∧ True := by
 simp only [shLine] at h
 obtain ⟨d0, r0, rfl, f0, o0, h, ho⟩ := fits_c h ho
 obtain ⟨d1, r1, rfl, f1, o1, h, ho⟩ := fits_c h ho
 obtain ⟨d2, r2, rfl, f2, o2, h, ho⟩ := fits_c h ho
 obtain ⟨d3, r3, rfl, f3, o3, h, ho⟩ := fits_c h ho
 obtain ⟨d4, r4, rfl, f4, o4, h, ho⟩ := fits_c h ho
 obtain ⟨d5, r5, rfl, f5, o5, h, ho⟩ := fits_c h ho
 obtain ⟨d6, r6, rfl, f6, o6, h, ho⟩ := fits_c h ho
 obtain ⟨d7, r7, rfl, f7, o7, h, ho⟩ := fits_c h ho
 obtain rfl := fits_n h
 obtain ⟨n0, e0, -⟩ := fit_i f0 o0
 obtain ⟨n1, e1, -⟩ := fit_i f1 o1
 obtain ⟨n2, e2, -⟩ := fit_b f2 o2
 obtain ⟨n3, e3, -⟩ := fit_b f3 o3
 obtain ⟨n4, e4, -⟩ := fit_b f4 o4
 obtain ⟨n5, e5, -⟩ := fit_i f5 o5
 obtain ⟨n6, e6, -⟩ := fit_i f6 o6
 obtain ⟨n7, e7, -⟩ := fit_b f7 o7
 refine ⟨⟨n0, n1, ⟨n2, n3, n4, n5, n6, n7⟩⟩, ?_, trivial⟩
 simp only [avs, e0, e1, e2, e3, e4, e5, e6, e7, C_90]
end Go.Proofs.Ytbnjdmclnojlmaa
