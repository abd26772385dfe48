/- Rows with memory of their own, as rows that are only read. Made by program. -/
import Derived.Test.YtcgggihjcelmhaaGreatWT
import Derived.Test.YtcgggihjcelmhaaGreatZY
namespace Go.Proofs.YtcgggihjcelmhaaGreat
open Go.RowKit
set_option maxRecDepth 100000
set_option linter.all false
set_option maxHeartbeats 0
theorem bXg:∀x,Shal (dO x):=λx=>(aZ trivial (aZ (And.intro (eE dN) (bE cG)) (aZ trivial (aZ trivial (aZ trivial (aZ trivial (aZ trivial (aZ trivial (aZ trivial (aZ trivial (aZ trivial (aZ trivial (aZ trivial (aZ trivial (aZ (And.intro (eE aNg) (bE rT)) (aZ (And.intro (eE dN) (bE cG)) (aZ (And.intro (eE dN) (bE cG)) aVu)))))))))))))))))
theorem bRq:∀x,Shal (yL x):=λx=>(aZ trivial (aZ (And.intro (eE dN) (bE cG)) (aZ trivial (aZ trivial (aZ trivial (aZ trivial (aZ trivial (aZ trivial (aZ trivial (aZ trivial (aZ trivial (aZ trivial (aZ trivial (aZ trivial (aZ (And.intro (eE aIe) (bE aYr)) (aZ (And.intro (eE dN) (bE cG)) (aZ (And.intro (eE dN) (bE cG)) aVu)))))))))))))))))
theorem bZe:∀x,Shal (aQy x):=λx=>(aZ (And.intro (eE dN) (bE cG)) (aZ trivial (aZ trivial (aZ trivial (aZ trivial (aZ trivial (aZ trivial (aZ trivial (aZ trivial (aZ trivial (aZ trivial (aZ trivial (aZ trivial aVu)))))))))))))
theorem bXs:∀x,Shal (aRf x):=λx=>(aZ (And.intro (eE dN) (bE cG)) (aZ trivial (aZ trivial (aZ trivial (aZ trivial (aZ trivial (aZ trivial (aZ trivial (aZ trivial (aZ trivial (aZ trivial (aZ trivial (aZ trivial (aZ (And.intro (eE dN) (bE cG)) (aZ (And.intro (eE dN) (bE cG)) (aZ (And.intro (eE dN) (bE cG)) aVu))))))))))))))))
theorem bVq:∀x,Shal (aIq x):=λx=>(aZ (And.intro (eE dN) (bE cG)) (aZ trivial aVu))
theorem bVb:∀x,Shal (aIl x):=λx=>(aZ (And.intro (eE dN) (bE cG)) (aZ trivial (aZ trivial (aZ trivial (aZ trivial (aZ trivial (aZ trivial (aZ trivial (aZ trivial (aZ trivial (aZ trivial (aZ trivial (aZ trivial aVu)))))))))))))
end Go.Proofs.YtcgggihjcelmhaaGreat
