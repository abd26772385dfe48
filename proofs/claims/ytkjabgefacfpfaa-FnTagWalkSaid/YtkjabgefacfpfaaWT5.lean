/- Rows with memory of their own, as rows that are only read. Made by program. -/
import Derived.Test.YtkjabgefacfpfaaWT
import Derived.Test.YtkjabgefacfpfaaZY
namespace Go.Proofs.Ytkjabgefacfpfaa
open Go.RowKit
set_option maxRecDepth 100000
set_option linter.all false
set_option maxHeartbeats 0
theorem bBf:∀x,Shal (rG x):=λx=>(aV trivial (aV (And.intro (cS cN) (aZ cC)) (aV trivial (aV trivial (aV trivial (aV trivial (aV trivial (aV trivial (aV trivial (aV trivial (aV trivial (aV trivial (aV trivial (aV trivial (aV (And.intro (cS aAy) (aZ wJ)) (aV (And.intro (cS cN) (aZ cC)) (aV (And.intro (cS cN) (aZ cC)) aGq)))))))))))))))))
theorem bBb:∀x,Shal (aEm x):=λx=>(aV (And.intro (cS cN) (aZ cC)) (aV trivial (aV trivial (aV trivial (aV trivial (aV trivial (aV trivial (aV trivial (aV trivial (aV trivial (aV trivial (aV trivial (aV trivial aGq)))))))))))))
theorem bAj:∀x,Shal (aEj x):=λx=>(aV (And.intro (cS cN) (aZ cC)) (aV trivial (aV trivial (aV trivial (aV trivial (aV trivial (aV trivial (aV trivial (aV trivial (aV trivial (aV trivial (aV trivial (aV trivial (aV (And.intro (cS cN) (aZ cC)) (aV (And.intro (cS cN) (aZ cC)) (aV (And.intro (cS cN) (aZ cC)) aGq))))))))))))))))
theorem aXr:∀x,Shal (xT x):=λx=>(aV (And.intro (cS cN) (aZ cC)) (aV trivial aGq))
theorem aXa:∀x,Shal (wP x):=λx=>(aV (And.intro (cS cN) (aZ cC)) (aV trivial (aV trivial (aV trivial (aV trivial (aV trivial (aV trivial (aV trivial (aV trivial (aV trivial (aV trivial (aV trivial (aV trivial aGq)))))))))))))
theorem aXf:∀x,Shal (uC x):=λx=>(aV trivial (aV (And.intro (cS cN) (aZ cC)) (aV trivial (aV trivial (aV trivial (aV trivial (aV trivial (aV trivial (aV trivial (aV trivial (aV trivial (aV trivial (aV trivial (aV trivial (aV (And.intro (cS yC) (aZ aIm)) (aV (And.intro (cS cN) (aZ cC)) (aV (And.intro (cS cN) (aZ cC)) aGq)))))))))))))))))
end Go.Proofs.Ytkjabgefacfpfaa
