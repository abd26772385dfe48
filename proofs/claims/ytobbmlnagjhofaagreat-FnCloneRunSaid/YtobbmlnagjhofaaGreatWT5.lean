/- Rows with memory of their own, as rows that are only read. Made by program. -/
import Derived.Test.YtobbmlnagjhofaaGreatWT
import Derived.Test.YtobbmlnagjhofaaGreatZY
namespace Go.Proofs.YtobbmlnagjhofaaGreat
open Go.RowKit
set_option maxRecDepth 100000
set_option linter.all false
set_option maxHeartbeats 0
theorem bJp:∀x,Shal (lJ x):=λx=>(cA trivial (cA (And.intro (gC fJ) (bC dJ)) (cA trivial (cA trivial (cA trivial (cA trivial (cA trivial (cA trivial (cA trivial (cA trivial (cA trivial (cA trivial (cA trivial (cA trivial (cA (And.intro (gC aEy) (bC qT)) (cA (And.intro (gC fJ) (bC dJ)) (cA (And.intro (gC fJ) (bC dJ)) bAz)))))))))))))))))
theorem bKh:∀x,Shal (aIf x):=λx=>(cA (And.intro (gC fJ) (bC dJ)) (cA trivial (cA trivial (cA trivial (cA trivial (cA trivial (cA trivial (cA trivial (cA trivial (cA trivial (cA trivial (cA trivial (cA trivial bAz)))))))))))))
theorem bJl:∀x,Shal (aIi x):=λx=>(cA (And.intro (gC fJ) (bC dJ)) (cA trivial (cA trivial (cA trivial (cA trivial (cA trivial (cA trivial (cA trivial (cA trivial (cA trivial (cA trivial (cA trivial (cA trivial (cA (And.intro (gC fJ) (bC dJ)) (cA (And.intro (gC fJ) (bC dJ)) (cA (And.intro (gC fJ) (bC dJ)) bAz))))))))))))))))
theorem bIw:∀x,Shal (aIw x):=λx=>(cA (And.intro (gC fJ) (bC dJ)) (cA trivial bAz))
end Go.Proofs.YtobbmlnagjhofaaGreat
