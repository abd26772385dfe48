/- Plain functions of the program, and that it hands back what they say. Made by program. -/
import Derived.Test.YtkjabgefacfpfaaWTD
import Derived.Test.YtkjabgefacfpfaaProg
import Derived.Test.YtkjabgefacfpfaaWHV1
import Derived.Test.YtkjabgefacfpfaaWI1
namespace Go.Proofs.Ytkjabgefacfpfaa
open Go.RowKit
set_option maxRecDepth 100000
set_option linter.all false
set_option maxHeartbeats 0
noncomputable def aFb  (s1:Unit):Option Bool:=some true
noncomputable def oE (s2:Int)(s3:Unit):Option (LO Int (JO Unit Bool)):=some (.next (w64 (s2+(1:Int))))
noncomputable def kS (x_a:DHost)(x_b:DHost)(x_but:Int)(s2:Int):Option (LO Int (JO Unit Bool)):=
 cond (decide (s2<(3:Int)))
  (Option.bind (Option.bind (lU x_a s2) λv4=>
   Option.bind (lU x_b s2) λv5=>
   cond (!decide (s2=x_but))
    (cond (!(v4.2==v5.2))
     (some (.out (.ret (.out false))))
     (Option.bind (oR v4.1 v5.1) λv6=>
     cond (!v6)
      (some (.out (.ret (.out false))))
      (some (.go ()))))
    (some (.go ()))) λj3=>
   JO.run j3 (oE s2))
  (some (.ret (.go ())))
noncomputable def kI (x_a:DHost)(x_b:DHost)(x_but:Int):Option Bool:=
 Option.bind (Option.bind (iter (kS x_a x_b x_but) (0:Int)) LO.val) λj1=>
  JO.run j1 aFb
noncomputable def g19:Sg tG:=⟨[.st 26,.st 26,.i .i64],.one .b,kI⟩
theorem s19:Sok 19 g19:=sgx [(54,.r g54),(55,.r g55)] ⟨s54,s55,trivial⟩ (.s .o (.j ⟨[],[],[]⟩ (.s .o (.k (.l ⟨[2,3,4],[],[(.s 7,.i .i64)]⟩ (.s .o (.j ⟨[2,3,4,7],[],[]⟩ .o .o))))) .o)) kr kr kr
end Go.Proofs.Ytkjabgefacfpfaa
