/- Plain functions of the program, and that it hands back what they say. Made by program. -/
import Derived.Test.YtkjabgefacfpfaaWTD
import Derived.Test.YtkjabgefacfpfaaProg
import Derived.Test.YtkjabgefacfpfaaWSI1
namespace Go.Proofs.Ytkjabgefacfpfaa
open Go.RowKit
set_option maxRecDepth 100000
set_option linter.all false
set_option maxHeartbeats 0
noncomputable def lI (x_a:DCore)(x_b:DCore):Option Bool:=
 Option.bind (cZ x_a.Regs x_b.Regs) λv1=>
 cond (!v1)
  (some false)
  (cond (!decide (x_a.Pc=x_b.Pc))
   (some false)
   (cond (!decide (x_a.Root=x_b.Root))
    (some false)
    (cond (!decide (x_a.Vector=x_b.Vector))
     (some false)
     (cond (!decide (x_a.Saved=x_b.Saved))
      (some false)
      (cond (!(x_a.SavedUser==x_b.SavedUser))
       (some false)
       (cond (decide (x_a.Cause=x_b.Cause))
        (cond (decide (x_a.Bad=x_b.Bad))
         (cond (decide (x_a.Timer=x_b.Timer))
          (cond (x_a.Waits==x_b.Waits)
           (cond (x_a.User==x_b.User)
            (cond (x_a.On==x_b.On)
             (some (x_a.Stopped==x_b.Stopped))
             (some false))
            (some false))
           (some false))
          (some false))
         (some false))
        (some false)))))))
noncomputable def g89:Sg tG:=⟨[.st 38,.st 38],.one .b,lI⟩
theorem s89:Sok 89 g89:=sgx [(18,.r g18)] ⟨s18,trivial⟩ .o kr kr kr
noncomputable def oR (x_a:DBare)(x_b:DBare):Option Bool:=
 Option.bind (lI x_a.C x_b.C) λv1=>
 cond v1
  (Option.bind (cZ x_a.Mem x_b.Mem) λv2=>
  cond v2
   (Option.bind (cZ x_a.In x_b.In) λv3=>
   cond v3
    (Option.bind (cZ x_a.Out x_b.Out) λv4=>
    some v4)
    (some false))
   (some false))
  (some false)
noncomputable def g55:Sg tG:=⟨[.st 82,.st 82],.one .b,oR⟩
theorem s55:Sok 55 g55:=sgx [(89,.r g89),(18,.r g18)] ⟨s89,s18,trivial⟩ .o kr kr kr
end Go.Proofs.Ytkjabgefacfpfaa
