/- Rows with memory of their own, as rows that are only read. Made by program. -/
import Derived.Test.YtkjabgefacfpfaaGreatWT
import Derived.Test.YtkjabgefacfpfaaGreatZY
namespace Go.Proofs.YtkjabgefacfpfaaGreat
open Go.RowKit
set_option maxRecDepth 100000
set_option linter.all false
set_option maxHeartbeats 0
theorem bDd:∀x,(bJ x).map AV.thaw=eG x:=λ_=>rfl
theorem aSc:∀x,Shal (bJ x):=λx=>(bD trivial (bD (And.intro (dL cK) (bI bK)) (bD trivial (bD trivial (bD trivial (bD trivial (bD trivial (bD trivial (bD trivial (bD trivial (bD trivial (bD trivial (bD trivial (bD trivial (bD (And.intro (dL aKg) (bI vE)) (bD (And.intro (dL cK) (bI bK)) (bD (And.intro (dL cK) (bI bK)) aQx)))))))))))))))))
theorem bPq:∀x,Shal (aNr x):=λx=>(bD (And.intro (dL cK) (bI bK)) (bD trivial (bD trivial (bD trivial (bD trivial (bD trivial (bD trivial (bD trivial (bD trivial (bD trivial (bD trivial (bD trivial (bD trivial aQx)))))))))))))
theorem bOy:∀x,Shal (aMl x):=λx=>(bD (And.intro (dL cK) (bI bK)) (bD trivial (bD trivial (bD trivial (bD trivial (bD trivial (bD trivial (bD trivial (bD trivial (bD trivial (bD trivial (bD trivial (bD trivial (bD (And.intro (dL cK) (bI bK)) (bD (And.intro (dL cK) (bI bK)) (bD (And.intro (dL cK) (bI bK)) aQx))))))))))))))))
theorem bNr:∀x,Shal (aEu x):=λx=>(bD (And.intro (dL cK) (bI bK)) (bD trivial aQx))
theorem bMz:∀x,Shal (aDz x):=λx=>(bD (And.intro (dL cK) (bI bK)) (bD trivial (bD trivial (bD trivial (bD trivial (bD trivial (bD trivial (bD trivial (bD trivial (bD trivial (bD trivial (bD trivial (bD trivial aQx)))))))))))))
theorem bLx:∀x,Shal (aBl x):=λx=>(bD trivial (bD (And.intro (dL cK) (bI bK)) (bD trivial (bD trivial (bD trivial (bD trivial (bD trivial (bD trivial (bD trivial (bD trivial (bD trivial (bD trivial (bD trivial (bD trivial (bD (And.intro (dL aFh) (bI aTt)) (bD (And.intro (dL cK) (bI bK)) (bD (And.intro (dL cK) (bI bK)) aQx)))))))))))))))))
end Go.Proofs.YtkjabgefacfpfaaGreat
