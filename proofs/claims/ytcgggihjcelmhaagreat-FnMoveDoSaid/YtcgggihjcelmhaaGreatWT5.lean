/- Rows with memory of their own, as rows that are only read. Made by program. -/
import Derived.Test.YtcgggihjcelmhaaGreatWT
import Derived.Test.YtcgggihjcelmhaaGreatZY
namespace Go.Proofs.YtcgggihjcelmhaaGreat
open Go.RowKit
set_option maxRecDepth 100000
set_option linter.all false
set_option maxHeartbeats 0
theorem bVl:∀x,Shal (fG x):=λx=>(aZ trivial (aZ (And.intro (dV dG) (bD cD)) (aZ trivial (aZ trivial (aZ trivial (aZ trivial (aZ trivial (aZ trivial (aZ trivial (aZ trivial (aZ trivial (aZ trivial (aZ trivial (aZ trivial (aZ (And.intro (dV aKy) (bD qH)) (aZ (And.intro (dV dG) (bD cD)) (aZ (And.intro (dV dG) (bD cD)) aUh)))))))))))))))))
theorem bRh:∀x,Shal (xA x):=λx=>(aZ trivial (aZ (And.intro (dV dG) (bD cD)) (aZ trivial (aZ trivial (aZ trivial (aZ trivial (aZ trivial (aZ trivial (aZ trivial (aZ trivial (aZ trivial (aZ trivial (aZ trivial (aZ trivial (aZ (And.intro (dV aGq) (bD aVt)) (aZ (And.intro (dV dG) (bD cD)) (aZ (And.intro (dV dG) (bD cD)) aUh)))))))))))))))))
theorem bVt:∀x,Shal (aOt x):=λx=>(aZ (And.intro (dV dG) (bD cD)) (aZ trivial (aZ trivial (aZ trivial (aZ trivial (aZ trivial (aZ trivial (aZ trivial (aZ trivial (aZ trivial (aZ trivial (aZ trivial (aZ trivial aUh)))))))))))))
theorem bVq:∀x,Shal (aPu x):=λx=>(aZ (And.intro (dV dG) (bD cD)) (aZ trivial (aZ trivial (aZ trivial (aZ trivial (aZ trivial (aZ trivial (aZ trivial (aZ trivial (aZ trivial (aZ trivial (aZ trivial (aZ trivial (aZ (And.intro (dV dG) (bD cD)) (aZ (And.intro (dV dG) (bD cD)) (aZ (And.intro (dV dG) (bD cD)) aUh))))))))))))))))
theorem bPb:∀x,Shal (aHc x):=λx=>(aZ (And.intro (dV dG) (bD cD)) (aZ trivial aUh))
theorem bPt:∀x,Shal (aGy x):=λx=>(aZ (And.intro (dV dG) (bD cD)) (aZ trivial (aZ trivial (aZ trivial (aZ trivial (aZ trivial (aZ trivial (aZ trivial (aZ trivial (aZ trivial (aZ trivial (aZ trivial (aZ trivial aUh)))))))))))))
end Go.Proofs.YtcgggihjcelmhaaGreat
