/- Rows with memory of their own, as rows that are only read. Made by program. -/
import Derived.Test.YtobbmlnagjhofaaWT
import Derived.Test.YtobbmlnagjhofaaZY
namespace Go.Proofs.Ytobbmlnagjhofaa
open Go.RowKit
set_option maxRecDepth 100000
set_option linter.all false
set_option maxHeartbeats 0
theorem bHi:∀x,Shal (kI x):=λx=>(aQ trivial (aQ (And.intro (cI cG) (aY bK)) (aQ trivial (aQ trivial (aQ trivial (aQ trivial (aQ trivial (aQ trivial (aQ trivial (aQ trivial (aQ trivial (aQ trivial (aQ trivial (aQ trivial (aQ (And.intro (cI yZ) (aY pP)) (aQ (And.intro (cI cG) (aY bK)) (aQ (And.intro (cI cG) (aY bK)) aGu)))))))))))))))))
theorem bHa:∀x,Shal (aGn x):=λx=>(aQ (And.intro (cI cG) (aY bK)) (aQ trivial (aQ trivial (aQ trivial (aQ trivial (aQ trivial (aQ trivial (aQ trivial (aQ trivial (aQ trivial (aQ trivial (aQ trivial (aQ trivial aGu)))))))))))))
theorem bGs:∀x,Shal (aId x):=λx=>(aQ (And.intro (cI cG) (aY bK)) (aQ trivial (aQ trivial (aQ trivial (aQ trivial (aQ trivial (aQ trivial (aQ trivial (aQ trivial (aQ trivial (aQ trivial (aQ trivial (aQ trivial (aQ (And.intro (cI cG) (aY bK)) (aQ (And.intro (cI cG) (aY bK)) (aQ (And.intro (cI cG) (aY bK)) aGu))))))))))))))))
theorem bFr:∀x,Shal (aGl x):=λx=>(aQ (And.intro (cI cG) (aY bK)) (aQ trivial (aQ trivial (aQ trivial (aQ trivial (aQ trivial (aQ trivial (aQ trivial (aQ trivial (aQ trivial (aQ trivial (aQ trivial (aQ trivial aGu)))))))))))))
theorem bHm:∀x,Shal (aHe x):=λx=>(aQ (And.intro (cI cG) (aY bK)) (aQ trivial (aQ trivial (aQ trivial (aQ trivial (aQ trivial (aQ trivial (aQ trivial (aQ trivial (aQ trivial (aQ trivial (aQ trivial (aQ trivial (aQ (And.intro (cI cG) (aY bK)) (aQ (And.intro (cI cG) (aY bK)) (aQ (And.intro (cI cG) (aY bK)) aGu))))))))))))))))
theorem bEj:∀x,Shal (aBo x):=λx=>(aQ (And.intro (cI cG) (aY bK)) (aQ trivial aGu))
theorem bEb:∀x,Shal (xP x):=λx=>(aQ trivial (aQ (And.intro (cI cG) (aY bK)) (aQ trivial (aQ trivial (aQ trivial (aQ trivial (aQ trivial (aQ trivial (aQ trivial (aQ trivial (aQ trivial (aQ trivial (aQ trivial (aQ trivial (aQ (And.intro (cI aAf) (aY aLw)) (aQ (And.intro (cI cG) (aY bK)) (aQ (And.intro (cI cG) (aY bK)) aGu)))))))))))))))))
end Go.Proofs.Ytobbmlnagjhofaa
