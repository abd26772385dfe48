/- Rows with memory of their own, as rows that are only read. Made by program. -/
import Derived.Test.YtcgggihjcelmhaaGreatWT
import Derived.Test.YtcgggihjcelmhaaGreatZY
namespace Go.Proofs.YtcgggihjcelmhaaGreat
open Go.RowKit
set_option maxRecDepth 100000
set_option linter.all false
set_option maxHeartbeats 0
theorem bUb:∀x,Shal (fD x):=λx=>(aY trivial (aY (And.intro (dU dD) (bE cC)) (aY trivial (aY trivial (aY trivial (aY trivial (aY trivial (aY trivial (aY trivial (aY trivial (aY trivial (aY trivial (aY trivial (aY trivial (aY (And.intro (dU aJr) (bE oP)) (aY (And.intro (dU dD) (bE cC)) (aY (And.intro (dU dD) (bE cC)) aRv)))))))))))))))))
theorem bNh:∀x,Shal (vB x):=λx=>(aY trivial (aY (And.intro (dU dD) (bE cC)) (aY trivial (aY trivial (aY trivial (aY trivial (aY trivial (aY trivial (aY trivial (aY trivial (aY trivial (aY trivial (aY trivial (aY trivial (aY (And.intro (dU aFc) (bE aUh)) (aY (And.intro (dU dD) (bE cC)) (aY (And.intro (dU dD) (bE cC)) aRv)))))))))))))))))
theorem bUt:∀x,Shal (aMr x):=λx=>(aY (And.intro (dU dD) (bE cC)) (aY trivial (aY trivial (aY trivial (aY trivial (aY trivial (aY trivial (aY trivial (aY trivial (aY trivial (aY trivial (aY trivial (aY trivial aRv)))))))))))))
theorem bSx:∀x,Shal (aMf x):=λx=>(aY (And.intro (dU dD) (bE cC)) (aY trivial (aY trivial (aY trivial (aY trivial (aY trivial (aY trivial (aY trivial (aY trivial (aY trivial (aY trivial (aY trivial (aY trivial (aY (And.intro (dU dD) (bE cC)) (aY (And.intro (dU dD) (bE cC)) (aY (And.intro (dU dD) (bE cC)) aRv))))))))))))))))
theorem bNn:∀x,Shal (aEs x):=λx=>(aY (And.intro (dU dD) (bE cC)) (aY trivial aRv))
theorem bOj:∀x,Shal (aFt x):=λx=>(aY (And.intro (dU dD) (bE cC)) (aY trivial (aY trivial (aY trivial (aY trivial (aY trivial (aY trivial (aY trivial (aY trivial (aY trivial (aY trivial (aY trivial (aY trivial aRv)))))))))))))
end Go.Proofs.YtcgggihjcelmhaaGreat
