/- A host as an argument, opened. -/
import Derived.Test.YtbnjdmclnojlmaaLS
import Derived.Test.YtbnjdmclnojlmaaPZB
namespace Go.Proofs.Ytbnjdmclnojlmaa
set_option linter.all false
open Go.ChangeShapes Go.WideShapes Go.ChangeAt Go.RowKit
def shSlot : List Sh := [.int, .bool, .bool]
theorem fits_slot {ds : List Dat} (h : Fits shSlot ds) (ho : oks ds) : ∃ s : DSlot, avs ds = C_156 s ∧ True := by
 simp only [shSlot] at h
 obtain ⟨d0, r0, rfl, f0, o0, h, ho⟩ := fits_c h ho
 obtain ⟨d1, r1, rfl, f1, o1, h, ho⟩ := fits_c h ho
 obtain ⟨d2, r2, rfl, f2, o2, h, ho⟩ := fits_c h ho
 obtain rfl := fits_n h
 obtain ⟨n0, e0, -⟩ := fit_i f0 o0
 obtain ⟨n1, e1, -⟩ := fit_b f1 o1
 obtain ⟨n2, e2, -⟩ := fit_b f2 o2
 refine ⟨⟨n0, n1, n2⟩, ?_, trivial⟩
 simp only [avs, e0, e1, e2, C_156]
def shGuest : List Sh := .bool :: (shCore ++ [.sl 3 shSlot, .sl 1 [.int], .sl 1 [.int]])
theorem fits_guest {ds : List Dat} (h : Fits shGuest ds) (ho : oks ds) : ∃ g : DGuest, avs ds = B_126 g ∧ FitG g := by
 simp only [shGuest] at h
 obtain ⟨d0, r0, rfl, f0, o0, h, ho⟩ := fits_c h ho
 obtain ⟨c, r, ec, pc, h, ho⟩ := fits_core h ho
 obtain ⟨d1, r1, rfl, f1, o1, h, ho⟩ := fits_c h ho
 obtain ⟨d2, r2, rfl, f2, o2, h, ho⟩ := fits_c h ho
 obtain ⟨d3, r3, rfl, f3, o3, h, ho⟩ := fits_c h ho
 obtain rfl := fits_n h
 obtain ⟨l, e0, -⟩ := fit_b f0 o0
 obtain ⟨ps, e1, p1⟩ := fit_rows (c := C_156) (p := fun _ => True) (fun r => fits_slot) f1 o1
 obtain ⟨is, e2, p2⟩ := fit_rows (c := eI .i64) (p := InI) (fun r => fits_i) f2 o2
 obtain ⟨os, e3, p3⟩ := fit_rows (c := eI .i64) (p := InI) (fun r => fits_i) f3 o3
 refine ⟨⟨l, c, ps, is, os⟩, ?_, ⟨pc.1, p1.1, p2.1, p3.1⟩⟩
 rw [avs, ec]
 simp only [avs, e0, e1, e2, e3, B_100, B_126, bo, List.cons_append, List.nil_append]
def shHost : List Sh := [.sl 1 [.int], .sl 17 shGuest]
theorem fits_host {ss : List Sh} {ds : List Dat} (h : Fits (shHost ++ ss) ds) (ho : oks ds) : ∃ (x : DHost) (ds' : List Dat), avs ds = [bo (eI .i64) x.Words, bo B_126 x.Guests] ++ avs ds' ∧ FitH x ∧ Fits ss ds' ∧ oks ds' := by
 simp only [shHost, List.cons_append, List.nil_append] at h
 obtain ⟨d0, r0, rfl, f0, o0, h, ho⟩ := fits_c h ho
 obtain ⟨d1, r1, rfl, f1, o1, h, ho⟩ := fits_c h ho
 obtain ⟨ws, e0, p0⟩ := fit_rows (c := eI .i64) (p := InI) (fun r => fits_i) f0 o0
 obtain ⟨gs, e1, p1⟩ := fit_rows (c := B_126) (p := FitG) (fun r => fits_guest) f1 o1
 refine ⟨⟨ws, gs⟩, r1, ?_, ⟨p0.1, p1.1, p1.2⟩, h, ho⟩
 simp only [avs, e0, e1, bo, List.cons_append, List.nil_append]
end Go.Proofs.Ytbnjdmclnojlmaa
