/- Rows with memory of their own, as rows that are only read. Made by program. -/
import Derived.Test.YtkjabgefacfpfaaGreatWT
import Derived.Test.YtkjabgefacfpfaaGreatZY
namespace Go.Proofs.YtkjabgefacfpfaaGreat
open Go.RowKit
set_option maxRecDepth 100000
set_option linter.all false
set_option maxHeartbeats 0
theorem bFn:∀x,(bK x).map AV.thaw=dZ x:=λ_=>rfl
theorem aUl:∀x,Shal (bK x):=λx=>(bI trivial (bI (And.intro (dV cH) (bM bH)) (bI trivial (bI trivial (bI trivial (bI trivial (bI trivial (bI trivial (bI trivial (bI trivial (bI trivial (bI trivial (bI trivial (bI trivial (bI (And.intro (dV aMr) (bM qU)) (bI (And.intro (dV cH) (bM bH)) (bI (And.intro (dV cH) (bM bH)) aUv)))))))))))))))))
theorem bRo:∀x,Shal (aPo x):=λx=>(bI (And.intro (dV cH) (bM bH)) (bI trivial (bI trivial (bI trivial (bI trivial (bI trivial (bI trivial (bI trivial (bI trivial (bI trivial (bI trivial (bI trivial (bI trivial aUv)))))))))))))
theorem bSh:∀x,Shal (aQa x):=λx=>(bI (And.intro (dV cH) (bM bH)) (bI trivial (bI trivial (bI trivial (bI trivial (bI trivial (bI trivial (bI trivial (bI trivial (bI trivial (bI trivial (bI trivial (bI trivial (bI (And.intro (dV cH) (bM bH)) (bI (And.intro (dV cH) (bM bH)) (bI (And.intro (dV cH) (bM bH)) aUv))))))))))))))))
theorem bPe:∀x,Shal (aFr x):=λx=>(bI (And.intro (dV cH) (bM bH)) (bI trivial aUv))
theorem bNy:∀x,Shal (aGe x):=λx=>(bI (And.intro (dV cH) (bM bH)) (bI trivial (bI trivial (bI trivial (bI trivial (bI trivial (bI trivial (bI trivial (bI trivial (bI trivial (bI trivial (bI trivial (bI trivial aUv)))))))))))))
theorem bPx:∀x,Shal (aDf x):=λx=>(bI trivial (bI (And.intro (dV cH) (bM bH)) (bI trivial (bI trivial (bI trivial (bI trivial (bI trivial (bI trivial (bI trivial (bI trivial (bI trivial (bI trivial (bI trivial (bI trivial (bI (And.intro (dV aFu) (bM aVc)) (bI (And.intro (dV cH) (bM bH)) (bI (And.intro (dV cH) (bM bH)) aUv)))))))))))))))))
end Go.Proofs.YtkjabgefacfpfaaGreat
