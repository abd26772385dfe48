/- Rows with memory of their own, as rows that are only read. Made by program. -/
import Derived.Test.YtkjabgefacfpfaaWT
import Derived.Test.YtkjabgefacfpfaaZY
namespace Go.Proofs.Ytkjabgefacfpfaa
open Go.RowKit
set_option maxRecDepth 100000
set_option linter.all false
set_option maxHeartbeats 0
theorem bKd:∀x,Shal (bV x):=λx=>(aZ trivial (aZ (And.intro (eH bI) (bJ aX)) (aZ trivial (aZ trivial (aZ trivial (aZ trivial (aZ trivial (aZ trivial (aZ trivial (aZ trivial (aZ trivial (aZ trivial (aZ trivial (aZ trivial (aZ (And.intro (eH aIi) (bJ sH)) (aZ (And.intro (eH bI) (bJ aX)) (aZ (And.intro (eH bI) (bJ aX)) aOv)))))))))))))))))
theorem bKa:∀x,Shal (aJy x):=λx=>(aZ (And.intro (eH bI) (bJ aX)) (aZ trivial (aZ trivial (aZ trivial (aZ trivial (aZ trivial (aZ trivial (aZ trivial (aZ trivial (aZ trivial (aZ trivial (aZ trivial (aZ trivial aOv)))))))))))))
theorem bIk:∀x,Shal (aKg x):=λx=>(aZ (And.intro (eH bI) (bJ aX)) (aZ trivial (aZ trivial (aZ trivial (aZ trivial (aZ trivial (aZ trivial (aZ trivial (aZ trivial (aZ trivial (aZ trivial (aZ trivial (aZ trivial (aZ (And.intro (eH bI) (bJ aX)) (aZ (And.intro (eH bI) (bJ aX)) (aZ (And.intro (eH bI) (bJ aX)) aOv))))))))))))))))
theorem bGt:∀x,Shal (aEn x):=λx=>(aZ (And.intro (eH bI) (bJ aX)) (aZ trivial aOv))
theorem bGg:∀x,Shal (aCu x):=λx=>(aZ (And.intro (eH bI) (bJ aX)) (aZ trivial (aZ trivial (aZ trivial (aZ trivial (aZ trivial (aZ trivial (aZ trivial (aZ trivial (aZ trivial (aZ trivial (aZ trivial (aZ trivial aOv)))))))))))))
theorem bGv:∀x,Shal (aAd x):=λx=>(aZ trivial (aZ (And.intro (eH bI) (bJ aX)) (aZ trivial (aZ trivial (aZ trivial (aZ trivial (aZ trivial (aZ trivial (aZ trivial (aZ trivial (aZ trivial (aZ trivial (aZ trivial (aZ trivial (aZ (And.intro (eH aEj) (bJ aPx)) (aZ (And.intro (eH bI) (bJ aX)) (aZ (And.intro (eH bI) (bJ aX)) aOv)))))))))))))))))
end Go.Proofs.Ytkjabgefacfpfaa
