/- Rows with memory of their own, as rows that are only read. Made by program. -/
import Derived.Test.YtkjabgefacfpfaaWT
import Derived.Test.YtkjabgefacfpfaaZY
namespace Go.Proofs.Ytkjabgefacfpfaa
open Go.RowKit
set_option maxRecDepth 100000
set_option linter.all false
set_option maxHeartbeats 0
theorem aYy:∀x,Shal (pY x):=λx=>(aV trivial (aV (And.intro (cU cN) (bB cB)) (aV trivial (aV trivial (aV trivial (aV trivial (aV trivial (aV trivial (aV trivial (aV trivial (aV trivial (aV trivial (aV trivial (aV trivial (aV (And.intro (cU aAf) (bB wJ)) (aV (And.intro (cU cN) (bB cB)) (aV (And.intro (cU cN) (bB cB)) aHb)))))))))))))))))
theorem aZd:∀x,Shal (aCf x):=λx=>(aV (And.intro (cU cN) (bB cB)) (aV trivial (aV trivial (aV trivial (aV trivial (aV trivial (aV trivial (aV trivial (aV trivial (aV trivial (aV trivial (aV trivial (aV trivial aHb)))))))))))))
theorem aZo:∀x,Shal (aCx x):=λx=>(aV (And.intro (cU cN) (bB cB)) (aV trivial (aV trivial (aV trivial (aV trivial (aV trivial (aV trivial (aV trivial (aV trivial (aV trivial (aV trivial (aV trivial (aV trivial (aV (And.intro (cU cN) (bB cB)) (aV (And.intro (cU cN) (bB cB)) (aV (And.intro (cU cN) (bB cB)) aHb))))))))))))))))
theorem aWq:∀x,Shal (vR x):=λx=>(aV (And.intro (cU cN) (bB cB)) (aV trivial aHb))
theorem aXy:∀x,Shal (wZ x):=λx=>(aV (And.intro (cU cN) (bB cB)) (aV trivial (aV trivial (aV trivial (aV trivial (aV trivial (aV trivial (aV trivial (aV trivial (aV trivial (aV trivial (aV trivial (aV trivial aHb)))))))))))))
theorem aWh:∀x,Shal (sR x):=λx=>(aV trivial (aV (And.intro (cU cN) (bB cB)) (aV trivial (aV trivial (aV trivial (aV trivial (aV trivial (aV trivial (aV trivial (aV trivial (aV trivial (aV trivial (aV trivial (aV trivial (aV (And.intro (cU xB) (bB aHt)) (aV (And.intro (cU cN) (bB cB)) (aV (And.intro (cU cN) (bB cB)) aHb)))))))))))))))))
end Go.Proofs.Ytkjabgefacfpfaa
