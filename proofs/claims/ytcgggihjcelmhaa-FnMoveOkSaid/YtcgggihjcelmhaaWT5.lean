/- Rows with memory of their own, as rows that are only read. Made by program. -/
import Derived.Test.YtcgggihjcelmhaaWT
import Derived.Test.YtcgggihjcelmhaaZY
namespace Go.Proofs.Ytcgggihjcelmhaa
open Go.RowKit
set_option maxRecDepth 100000
set_option linter.all false
set_option maxHeartbeats 0
theorem bMu:∀x,Shal (bG x):=λx=>(bH trivial (bH (And.intro (eC dE) (bK cH)) (bH trivial (bH trivial (bH trivial (bH trivial (bH trivial (bH trivial (bH trivial (bH trivial (bH trivial (bH trivial (bH trivial (bH trivial (bH (And.intro (eC aIa) (bK zQ)) (bH (And.intro (eC dE) (bK cH)) (bH (And.intro (eC dE) (bK cH)) aPy)))))))))))))))))
theorem bOn:∀x,Shal (aKp x):=λx=>(bH (And.intro (eC dE) (bK cH)) (bH trivial (bH trivial (bH trivial (bH trivial (bH trivial (bH trivial (bH trivial (bH trivial (bH trivial (bH trivial (bH trivial (bH trivial aPy)))))))))))))
theorem bMs:∀x,Shal (aLj x):=λx=>(bH (And.intro (eC dE) (bK cH)) (bH trivial (bH trivial (bH trivial (bH trivial (bH trivial (bH trivial (bH trivial (bH trivial (bH trivial (bH trivial (bH trivial (bH trivial (bH (And.intro (eC dE) (bK cH)) (bH (And.intro (eC dE) (bK cH)) (bH (And.intro (eC dE) (bK cH)) aPy))))))))))))))))
theorem bIs:∀x,Shal (aEt x):=λx=>(bH (And.intro (eC dE) (bK cH)) (bH trivial aPy))
theorem bJc:∀x,Shal (aDo x):=λx=>(bH (And.intro (eC dE) (bK cH)) (bH trivial (bH trivial (bH trivial (bH trivial (bH trivial (bH trivial (bH trivial (bH trivial (bH trivial (bH trivial (bH trivial (bH trivial aPy)))))))))))))
theorem bJw:∀x,Shal (uW x):=λx=>(bH trivial (bH (And.intro (eC dE) (bK cH)) (bH trivial (bH trivial (bH trivial (bH trivial (bH trivial (bH trivial (bH trivial (bH trivial (bH trivial (bH trivial (bH trivial (bH trivial (bH (And.intro (eC aEs) (bK aRj)) (bH (And.intro (eC dE) (bK cH)) (bH (And.intro (eC dE) (bK cH)) aPy)))))))))))))))))
end Go.Proofs.Ytcgggihjcelmhaa
