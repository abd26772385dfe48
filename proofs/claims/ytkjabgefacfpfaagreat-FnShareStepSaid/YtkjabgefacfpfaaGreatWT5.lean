/- Rows with memory of their own, as rows that are only read. Made by program. -/
import Derived.Test.YtkjabgefacfpfaaGreatWT
import Derived.Test.YtkjabgefacfpfaaGreatZY
namespace Go.Proofs.YtkjabgefacfpfaaGreat
open Go.RowKit
set_option maxRecDepth 100000
set_option linter.all false
set_option maxHeartbeats 0
theorem bCw:∀x,(bK x).map AV.thaw=dO x:=λ_=>rfl
theorem aTq:∀x,Shal (bK x):=λx=>(bI trivial (bI (And.intro (dV cE) (bM bH)) (bI trivial (bI trivial (bI trivial (bI trivial (bI trivial (bI trivial (bI trivial (bI trivial (bI trivial (bI trivial (bI trivial (bI trivial (bI (And.intro (dV aLr) (bM pY)) (bI (And.intro (dV cE) (bM bH)) (bI (And.intro (dV cE) (bM bH)) aSs)))))))))))))))))
theorem bSp:∀x,Shal (aOr x):=λx=>(bI (And.intro (dV cE) (bM bH)) (bI trivial (bI trivial (bI trivial (bI trivial (bI trivial (bI trivial (bI trivial (bI trivial (bI trivial (bI trivial (bI trivial (bI trivial aSs)))))))))))))
theorem bSc:∀x,Shal (aPa x):=λx=>(bI (And.intro (dV cE) (bM bH)) (bI trivial (bI trivial (bI trivial (bI trivial (bI trivial (bI trivial (bI trivial (bI trivial (bI trivial (bI trivial (bI trivial (bI trivial (bI (And.intro (dV cE) (bM bH)) (bI (And.intro (dV cE) (bM bH)) (bI (And.intro (dV cE) (bM bH)) aSs))))))))))))))))
theorem bOb:∀x,Shal (aFe x):=λx=>(bI (And.intro (dV cE) (bM bH)) (bI trivial aSs))
theorem bQe:∀x,Shal (aHg x):=λx=>(bI (And.intro (dV cE) (bM bH)) (bI trivial (bI trivial (bI trivial (bI trivial (bI trivial (bI trivial (bI trivial (bI trivial (bI trivial (bI trivial (bI trivial (bI trivial aSs)))))))))))))
theorem bPz:∀x,Shal (aCj x):=λx=>(bI trivial (bI (And.intro (dV cE) (bM bH)) (bI trivial (bI trivial (bI trivial (bI trivial (bI trivial (bI trivial (bI trivial (bI trivial (bI trivial (bI trivial (bI trivial (bI trivial (bI (And.intro (dV aFz) (bM aUr)) (bI (And.intro (dV cE) (bM bH)) (bI (And.intro (dV cE) (bM bH)) aSs)))))))))))))))))
end Go.Proofs.YtkjabgefacfpfaaGreat
