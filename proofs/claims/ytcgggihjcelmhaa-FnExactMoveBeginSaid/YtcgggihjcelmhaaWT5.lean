/- Rows with memory of their own, as rows that are only read. Made by program. -/
import Derived.Test.YtcgggihjcelmhaaWT
import Derived.Test.YtcgggihjcelmhaaZY
namespace Go.Proofs.Ytcgggihjcelmhaa
open Go.RowKit
set_option maxRecDepth 100000
set_option linter.all false
set_option maxHeartbeats 0
theorem bHt:∀x,Shal (bB x):=λx=>(bS trivial (bS (And.intro (eK aU) (bY aN)) (bS trivial (bS trivial (bS trivial (bS trivial (bS trivial (bS trivial (bS trivial (bS trivial (bS trivial (bS trivial (bS trivial (bS trivial (bS (And.intro (eK aFb) (bY xC)) (bS (And.intro (eK aU) (bY aN)) (bS (And.intro (eK aU) (bY aN)) aMp)))))))))))))))))
theorem bIt:∀x,Shal (aIm x):=λx=>(bS (And.intro (eK aU) (bY aN)) (bS trivial (bS trivial (bS trivial (bS trivial (bS trivial (bS trivial (bS trivial (bS trivial (bS trivial (bS trivial (bS trivial (bS trivial aMp)))))))))))))
theorem bJa:∀x,Shal (aIz x):=λx=>(bS (And.intro (eK aU) (bY aN)) (bS trivial (bS trivial (bS trivial (bS trivial (bS trivial (bS trivial (bS trivial (bS trivial (bS trivial (bS trivial (bS trivial (bS trivial (bS (And.intro (eK aU) (bY aN)) (bS (And.intro (eK aU) (bY aN)) (bS (And.intro (eK aU) (bY aN)) aMp))))))))))))))))
theorem bGt:∀x,Shal (aAl x):=λx=>(bS (And.intro (eK aU) (bY aN)) (bS trivial aMp))
theorem bGj:∀x,Shal (aAz x):=λx=>(bS (And.intro (eK aU) (bY aN)) (bS trivial (bS trivial (bS trivial (bS trivial (bS trivial (bS trivial (bS trivial (bS trivial (bS trivial (bS trivial (bS trivial (bS trivial aMp)))))))))))))
theorem bFw:∀x,Shal (tL x):=λx=>(bS trivial (bS (And.intro (eK aU) (bY aN)) (bS trivial (bS trivial (bS trivial (bS trivial (bS trivial (bS trivial (bS trivial (bS trivial (bS trivial (bS trivial (bS trivial (bS trivial (bS (And.intro (eK aAi) (bY aNx)) (bS (And.intro (eK aU) (bY aN)) (bS (And.intro (eK aU) (bY aN)) aMp)))))))))))))))))
end Go.Proofs.Ytcgggihjcelmhaa
