/- An instruction as an argument, opened. -/
import Derived.Test.YtbanbjdcgdmkaaaLS
namespace Go.Proofs.Ytbanbjdcgdmkaaa
set_option linter.all false
open Go.ChangeShapes Go.WideShapes Go.ChangeAt Go.RowKit
def shIns:List Sh:=[.int,.int,.int]
theorem fits_ins {ss:List Sh} {ds:List Dat} (h:Fits (shIns ++ ss) ds) (ho:oks ds):∃ (x:DIns) (ds':List Dat),avs ds=C_45 x ++ avs ds'∧True∧Fits ss ds'∧oks ds':=by
 simp only [shIns,List.cons_append,List.nil_append] at h
 obtain ⟨d0,r0,rfl,f0,o0,h,ho⟩:=fits_c h ho
 obtain ⟨d1,r1,rfl,f1,o1,h,ho⟩:=fits_c h ho
 obtain ⟨d2,r2,rfl,f2,o2,h,ho⟩:=fits_c h ho
 obtain ⟨n0,e0,-⟩:=fit_i f0 o0
 obtain ⟨n1,e1,-⟩:=fit_i f1 o1
 obtain ⟨n2,e2,-⟩:=fit_i f2 o2
 refine ⟨⟨n0,n1,n2⟩,r2,?_,trivial,h,ho⟩
 simp only [avs,e0,e1,e2,C_45,List.cons_append,List.nil_append]
end Go.Proofs.Ytbanbjdcgdmkaaa
