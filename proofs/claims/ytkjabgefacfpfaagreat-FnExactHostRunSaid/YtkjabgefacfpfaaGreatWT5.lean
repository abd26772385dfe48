/- Rows with memory of their own, as rows that are only read. Made by program. -/
import Derived.Test.YtkjabgefacfpfaaGreatWT
import Derived.Test.YtkjabgefacfpfaaGreatZY
namespace Go.Proofs.YtkjabgefacfpfaaGreat
open Go.RowKit
set_option maxRecDepth 100000
set_option linter.all false
set_option maxHeartbeats 0
theorem aIo:∀x,(aQ x).map AV.thaw=cB x:=λ_=>rfl
theorem aCh:∀x,Shal (aQ x):=λx=>(bM trivial (bM (And.intro (dP bJ) (bW aP)) (bM trivial (bM trivial (bM trivial (bM trivial (bM trivial (bM trivial (bM trivial (bM trivial (bM trivial (bM trivial (bM trivial (bM trivial (bM (And.intro (dP aJc) (bW nW)) (bM (And.intro (dP bJ) (bW aP)) (bM (And.intro (dP bJ) (bW aP)) aPo)))))))))))))))))
theorem bMj:∀x,Shal (aLc x):=λx=>(bM (And.intro (dP bJ) (bW aP)) (bM trivial (bM trivial (bM trivial (bM trivial (bM trivial (bM trivial (bM trivial (bM trivial (bM trivial (bM trivial (bM trivial (bM trivial aPo)))))))))))))
theorem bLs:∀x,Shal (aMh x):=λx=>(bM (And.intro (dP bJ) (bW aP)) (bM trivial (bM trivial (bM trivial (bM trivial (bM trivial (bM trivial (bM trivial (bM trivial (bM trivial (bM trivial (bM trivial (bM trivial (bM (And.intro (dP bJ) (bW aP)) (bM (And.intro (dP bJ) (bW aP)) (bM (And.intro (dP bJ) (bW aP)) aPo))))))))))))))))
theorem bJo:∀x,Shal (aCw x):=λx=>(bM (And.intro (dP bJ) (bW aP)) (bM trivial aPo))
theorem bIr:∀x,Shal (aEb x):=λx=>(bM (And.intro (dP bJ) (bW aP)) (bM trivial (bM trivial (bM trivial (bM trivial (bM trivial (bM trivial (bM trivial (bM trivial (bM trivial (bM trivial (bM trivial (bM trivial aPo)))))))))))))
theorem bJa:∀x,Shal (aAe x):=λx=>(bM trivial (bM (And.intro (dP bJ) (bW aP)) (bM trivial (bM trivial (bM trivial (bM trivial (bM trivial (bM trivial (bM trivial (bM trivial (bM trivial (bM trivial (bM trivial (bM trivial (bM (And.intro (dP aEc) (bW aRw)) (bM (And.intro (dP bJ) (bW aP)) (bM (And.intro (dP bJ) (bW aP)) aPo)))))))))))))))))
end Go.Proofs.YtkjabgefacfpfaaGreat
