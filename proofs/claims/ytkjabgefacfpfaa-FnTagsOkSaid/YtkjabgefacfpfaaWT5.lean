/- Rows with memory of their own, as rows that are only read. Made by program. -/
import Derived.Test.YtkjabgefacfpfaaWT
import Derived.Test.YtkjabgefacfpfaaZY
namespace Go.Proofs.Ytkjabgefacfpfaa
open Go.RowKit
set_option maxRecDepth 100000
set_option linter.all false
set_option maxHeartbeats 0
theorem aYj:∀x,(oE x).map AV.thaw=nT x:=λ_=>rfl
theorem aNg:∀x,Shal (oE x):=λx=>(aU trivial (aU (And.intro (cJ cG) (bB bX)) (aU trivial (aU trivial (aU trivial (aU trivial (aU trivial (aU trivial (aU trivial (aU trivial (aU trivial (aU trivial (aU trivial (aU trivial (aU (And.intro (cJ zW) (bB wX)) (aU (And.intro (cJ cG) (bB bX)) (aU (And.intro (cJ cG) (bB bX)) aFo)))))))))))))))))
theorem aZj:∀x,Shal (aBp x):=λx=>(aU (And.intro (cJ cG) (bB bX)) (aU trivial (aU trivial (aU trivial (aU trivial (aU trivial (aU trivial (aU trivial (aU trivial (aU trivial (aU trivial (aU trivial (aU trivial aFo)))))))))))))
theorem aYg:∀x,Shal (aCt x):=λx=>(aU (And.intro (cJ cG) (bB bX)) (aU trivial (aU trivial (aU trivial (aU trivial (aU trivial (aU trivial (aU trivial (aU trivial (aU trivial (aU trivial (aU trivial (aU trivial (aU (And.intro (cJ cG) (bB bX)) (aU (And.intro (cJ cG) (bB bX)) (aU (And.intro (cJ cG) (bB bX)) aFo))))))))))))))))
theorem aVd:∀x,Shal (wQ x):=λx=>(aU (And.intro (cJ cG) (bB bX)) (aU trivial aFo))
theorem aVm:∀x,Shal (xB x):=λx=>(aU (And.intro (cJ cG) (bB bX)) (aU trivial (aU trivial (aU trivial (aU trivial (aU trivial (aU trivial (aU trivial (aU trivial (aU trivial (aU trivial (aU trivial (aU trivial aFo)))))))))))))
theorem aVt:∀x,Shal (tV x):=λx=>(aU trivial (aU (And.intro (cJ cG) (bB bX)) (aU trivial (aU trivial (aU trivial (aU trivial (aU trivial (aU trivial (aU trivial (aU trivial (aU trivial (aU trivial (aU trivial (aU trivial (aU (And.intro (cJ wY) (bB aGt)) (aU (And.intro (cJ cG) (bB bX)) (aU (And.intro (cJ cG) (bB bX)) aFo)))))))))))))))))
end Go.Proofs.Ytkjabgefacfpfaa
