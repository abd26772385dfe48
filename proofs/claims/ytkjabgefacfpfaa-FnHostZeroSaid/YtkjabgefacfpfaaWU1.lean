/- Plain functions of the program, and that it hands back what they say. Made by program. -/
import Derived.Test.YtkjabgefacfpfaaWTD
import Derived.Test.YtkjabgefacfpfaaProg
import Derived.Test.YtkjabgefacfpfaaWO1
namespace Go.Proofs.Ytkjabgefacfpfaa
open Go.RowKit
set_option maxRecDepth 100000
set_option linter.all false
set_option maxHeartbeats 0
noncomputable def tJ (x_i:DIns):Option Bool:=
 Option.bind (cS x_i.Op (0:Int) (15:Int)) λv1=>
 cond v1
  (Option.bind (cS x_i.A (0:Int) (3:Int)) λv2=>
  cond v2
   (Option.bind (cS x_i.N (0:Int) (63:Int)) λv3=>
   some v3)
   (some false))
  (some false)
noncomputable def bLl:Sg tG:=⟨[.st 157],.one .b,tJ⟩
theorem bOd:Sok 145 bLl:=sgx [(73,.r g73)] ⟨s73,trivial⟩ .o kr kr kr
end Go.Proofs.Ytkjabgefacfpfaa
