/- Rows with memory of their own, as rows that are only read. Made by program. -/
import Derived.Test.YtcgggihjcelmhaaWT
import Derived.Test.YtcgggihjcelmhaaZY
namespace Go.Proofs.Ytcgggihjcelmhaa
open Go.RowKit
set_option maxRecDepth 100000
set_option linter.all false
set_option maxHeartbeats 0
theorem bHp:∀x,Shal (gN x):=λx=>(aV trivial (aV (And.intro (dI dB) (aZ cK)) (aV trivial (aV trivial (aV trivial (aV trivial (aV trivial (aV trivial (aV trivial (aV trivial (aV trivial (aV trivial (aV trivial (aV trivial (aV (And.intro (dI aDm) (aZ aAc)) (aV (And.intro (dI dB) (aZ cK)) (aV (And.intro (dI dB) (aZ cK)) aLg)))))))))))))))))
theorem bJb:∀x,Shal (aHn x):=λx=>(aV (And.intro (dI dB) (aZ cK)) (aV trivial (aV trivial (aV trivial (aV trivial (aV trivial (aV trivial (aV trivial (aV trivial (aV trivial (aV trivial (aV trivial (aV trivial aLg)))))))))))))
theorem bIv:∀x,Shal (aGw x):=λx=>(aV (And.intro (dI dB) (aZ cK)) (aV trivial (aV trivial (aV trivial (aV trivial (aV trivial (aV trivial (aV trivial (aV trivial (aV trivial (aV trivial (aV trivial (aV trivial (aV (And.intro (dI dB) (aZ cK)) (aV (And.intro (dI dB) (aZ cK)) (aV (And.intro (dI dB) (aZ cK)) aLg))))))))))))))))
theorem bFr:∀x,Shal (aAh x):=λx=>(aV (And.intro (dI dB) (aZ cK)) (aV trivial aLg))
theorem bDp:∀x,Shal (zN x):=λx=>(aV (And.intro (dI dB) (aZ cK)) (aV trivial (aV trivial (aV trivial (aV trivial (aV trivial (aV trivial (aV trivial (aV trivial (aV trivial (aV trivial (aV trivial (aV trivial aLg)))))))))))))
theorem bFb:∀x,Shal (rR x):=λx=>(aV trivial (aV (And.intro (dI dB) (aZ cK)) (aV trivial (aV trivial (aV trivial (aV trivial (aV trivial (aV trivial (aV trivial (aV trivial (aV trivial (aV trivial (aV trivial (aV trivial (aV (And.intro (dI yY) (aZ aNc)) (aV (And.intro (dI dB) (aZ cK)) (aV (And.intro (dI dB) (aZ cK)) aLg)))))))))))))))))
end Go.Proofs.Ytcgggihjcelmhaa
