/- Rows with memory of their own, as rows that are only read. Made by program. -/
import Derived.Test.YtcgggihjcelmhaaGreatWT
import Derived.Test.YtcgggihjcelmhaaGreatZY
namespace Go.Proofs.YtcgggihjcelmhaaGreat
open Go.RowKit
set_option maxRecDepth 100000
set_option linter.all false
set_option maxHeartbeats 0
theorem bUt:∀x,Shal (bE x):=λx=>(bG trivial (bG (And.intro (eD bL) (bN aV)) (bG trivial (bG trivial (bG trivial (bG trivial (bG trivial (bG trivial (bG trivial (bG trivial (bG trivial (bG trivial (bG trivial (bG trivial (bG (And.intro (eD aLb) (bN mC)) (bG (And.intro (eD bL) (bN aV)) (bG (And.intro (eD bL) (bN aV)) aTr)))))))))))))))))
theorem bQt:∀x,Shal (xP x):=λx=>(bG trivial (bG (And.intro (eD bL) (bN aV)) (bG trivial (bG trivial (bG trivial (bG trivial (bG trivial (bG trivial (bG trivial (bG trivial (bG trivial (bG trivial (bG trivial (bG trivial (bG (And.intro (eD aFk) (bN aVw)) (bG (And.intro (eD bL) (bN aV)) (bG (And.intro (eD bL) (bN aV)) aTr)))))))))))))))))
theorem bTa:∀x,Shal (aPr x):=λx=>(bG (And.intro (eD bL) (bN aV)) (bG trivial (bG trivial (bG trivial (bG trivial (bG trivial (bG trivial (bG trivial (bG trivial (bG trivial (bG trivial (bG trivial (bG trivial aTr)))))))))))))
theorem bUo:∀x,Shal (aPg x):=λx=>(bG (And.intro (eD bL) (bN aV)) (bG trivial (bG trivial (bG trivial (bG trivial (bG trivial (bG trivial (bG trivial (bG trivial (bG trivial (bG trivial (bG trivial (bG trivial (bG (And.intro (eD bL) (bN aV)) (bG (And.intro (eD bL) (bN aV)) (bG (And.intro (eD bL) (bN aV)) aTr))))))))))))))))
theorem bSg:∀x,Shal (aGz x):=λx=>(bG (And.intro (eD bL) (bN aV)) (bG trivial aTr))
theorem bQj:∀x,Shal (aEv x):=λx=>(bG (And.intro (eD bL) (bN aV)) (bG trivial (bG trivial (bG trivial (bG trivial (bG trivial (bG trivial (bG trivial (bG trivial (bG trivial (bG trivial (bG trivial (bG trivial aTr)))))))))))))
end Go.Proofs.YtcgggihjcelmhaaGreat
