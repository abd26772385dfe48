/- Rows with memory of their own, as rows that are only read. Made by program. -/
import Derived.Test.YtcgggihjcelmhaaGreatWT
import Derived.Test.YtcgggihjcelmhaaGreatZY
namespace Go.Proofs.YtcgggihjcelmhaaGreat
open Go.RowKit
set_option maxRecDepth 100000
set_option linter.all false
set_option maxHeartbeats 0
theorem bZa:∀x,Shal (dO x):=λx=>(aZ trivial (aZ (And.intro (eF dN) (bE cH)) (aZ trivial (aZ trivial (aZ trivial (aZ trivial (aZ trivial (aZ trivial (aZ trivial (aZ trivial (aZ trivial (aZ trivial (aZ trivial (aZ trivial (aZ (And.intro (eF aNt) (bE rI)) (aZ (And.intro (eF dN) (bE cH)) (aZ (And.intro (eF dN) (bE cH)) aVr)))))))))))))))))
theorem bWj:∀x,Shal (yI x):=λx=>(aZ trivial (aZ (And.intro (eF dN) (bE cH)) (aZ trivial (aZ trivial (aZ trivial (aZ trivial (aZ trivial (aZ trivial (aZ trivial (aZ trivial (aZ trivial (aZ trivial (aZ trivial (aZ trivial (aZ (And.intro (eF aGt) (bE aYt)) (aZ (And.intro (eF dN) (bE cH)) (aZ (And.intro (eF dN) (bE cH)) aVr)))))))))))))))))
theorem bXd:∀x,Shal (aRe x):=λx=>(aZ (And.intro (eF dN) (bE cH)) (aZ trivial (aZ trivial (aZ trivial (aZ trivial (aZ trivial (aZ trivial (aZ trivial (aZ trivial (aZ trivial (aZ trivial (aZ trivial (aZ trivial aVr)))))))))))))
theorem bXi:∀x,Shal (aQi x):=λx=>(aZ (And.intro (eF dN) (bE cH)) (aZ trivial (aZ trivial (aZ trivial (aZ trivial (aZ trivial (aZ trivial (aZ trivial (aZ trivial (aZ trivial (aZ trivial (aZ trivial (aZ trivial (aZ (And.intro (eF dN) (bE cH)) (aZ (And.intro (eF dN) (bE cH)) (aZ (And.intro (eF dN) (bE cH)) aVr))))))))))))))))
theorem bTi:∀x,Shal (aIq x):=λx=>(aZ (And.intro (eF dN) (bE cH)) (aZ trivial aVr))
theorem bTo:∀x,Shal (aIu x):=λx=>(aZ (And.intro (eF dN) (bE cH)) (aZ trivial (aZ trivial (aZ trivial (aZ trivial (aZ trivial (aZ trivial (aZ trivial (aZ trivial (aZ trivial (aZ trivial (aZ trivial (aZ trivial aVr)))))))))))))
end Go.Proofs.YtcgggihjcelmhaaGreat
