/- Rows with memory of their own, as rows that are only read. Made by program. -/
import Derived.Test.YtobbmlnagjhofaaWT
import Derived.Test.YtobbmlnagjhofaaZY
namespace Go.Proofs.Ytobbmlnagjhofaa
open Go.RowKit
set_option maxRecDepth 100000
set_option linter.all false
set_option maxHeartbeats 0
theorem bFg:∀x,Shal (bY x):=λx=>(bD trivial (bD (And.intro (dH aM) (bO aF)) (bD trivial (bD trivial (bD trivial (bD trivial (bD trivial (bD trivial (bD trivial (bD trivial (bD trivial (bD trivial (bD trivial (bD trivial (bD (And.intro (dH yL) (bO lC)) (bD (And.intro (dH aM) (bO aF)) (bD (And.intro (dH aM) (bO aF)) aHc)))))))))))))))))
theorem bEc:∀x,Shal (aHn x):=λx=>(bD (And.intro (dH aM) (bO aF)) (bD trivial (bD trivial (bD trivial (bD trivial (bD trivial (bD trivial (bD trivial (bD trivial (bD trivial (bD trivial (bD trivial (bD trivial aHc)))))))))))))
theorem bFk:∀x,Shal (aGv x):=λx=>(bD (And.intro (dH aM) (bO aF)) (bD trivial (bD trivial (bD trivial (bD trivial (bD trivial (bD trivial (bD trivial (bD trivial (bD trivial (bD trivial (bD trivial (bD trivial (bD (And.intro (dH aM) (bO aF)) (bD (And.intro (dH aM) (bO aF)) (bD (And.intro (dH aM) (bO aF)) aHc))))))))))))))))
theorem bDv:∀x,Shal (aHp x):=λx=>(bD (And.intro (dH aM) (bO aF)) (bD trivial (bD trivial (bD trivial (bD trivial (bD trivial (bD trivial (bD trivial (bD trivial (bD trivial (bD trivial (bD trivial (bD trivial aHc)))))))))))))
theorem bEe:∀x,Shal (aGw x):=λx=>(bD (And.intro (dH aM) (bO aF)) (bD trivial (bD trivial (bD trivial (bD trivial (bD trivial (bD trivial (bD trivial (bD trivial (bD trivial (bD trivial (bD trivial (bD trivial (bD (And.intro (dH aM) (bO aF)) (bD (And.intro (dH aM) (bO aF)) (bD (And.intro (dH aM) (bO aF)) aHc))))))))))))))))
theorem bCk:∀x,Shal (zO x):=λx=>(bD (And.intro (dH aM) (bO aF)) (bD trivial aHc))
theorem bCi:∀x,Shal (xI x):=λx=>(bD trivial (bD (And.intro (dH aM) (bO aF)) (bD trivial (bD trivial (bD trivial (bD trivial (bD trivial (bD trivial (bD trivial (bD trivial (bD trivial (bD trivial (bD trivial (bD trivial (bD (And.intro (dH aAp) (bO aLo)) (bD (And.intro (dH aM) (bO aF)) (bD (And.intro (dH aM) (bO aF)) aHc)))))))))))))))))
end Go.Proofs.Ytobbmlnagjhofaa
