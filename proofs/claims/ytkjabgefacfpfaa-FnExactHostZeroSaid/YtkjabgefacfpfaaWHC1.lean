/- Plain functions of the program, and that it hands back what they say. Made by program. -/
import Derived.Test.YtkjabgefacfpfaaWTD
import Derived.Test.YtkjabgefacfpfaaProg
import Derived.Test.YtkjabgefacfpfaaWHO1
import Derived.Test.YtkjabgefacfpfaaWO1
namespace Go.Proofs.Ytkjabgefacfpfaa
open Go.RowKit
set_option maxRecDepth 100000
set_option linter.all false
set_option maxHeartbeats 0
noncomputable def dG (x_list:List Int):Option (List Int):=grd ((0:Int)<=((List.length x_list:Nat):Int)/\((List.length x_list:Nat):Int)*8<=2^47/\((List.length x_list:Nat):Int)<=2^47) (some (over (List.replicate (Int.toNat ((List.length x_list:Nat):Int)) (0:Int)) 0 (List.length (List.replicate (Int.toNat ((List.length x_list:Nat):Int)) (0:Int))) x_list))
noncomputable def g41:Sg tG:=⟨[.row 3],.one (.row 3),dG⟩
theorem s41:Sok 41 g41:=sgx [] trivial .o kr kr kr
noncomputable def nO (x_c:DCore):Option DCore:=grd ((List.length ([]:List Int)+List.length x_c.Regs)*8<=2^47/\List.length ([]:List Int)+List.length x_c.Regs<=2^47) (some (DCore.mk (([]:List Int)++x_c.Regs) x_c.Pc x_c.Root x_c.Vector x_c.Saved x_c.SavedUser x_c.Cause x_c.Bad x_c.Timer x_c.Waits x_c.User x_c.On x_c.Stopped))
noncomputable def bFc:Sg tG:=⟨[.st 38],.one (.st 38),nO⟩
theorem bKn:Sok 118 bFc:=sgx [] trivial .o kr kr kr
noncomputable def qR (x_guests:List DGuest)(x_g:Int):Option Bool:=
 cond (decide ((0:Int)<=x_g))
  (cond (decide (x_g<(3:Int)))
   (grd ((0:Int)<=x_g/\x_g<((List.length x_guests:Nat):Int)) (some (List.getD x_guests (Int.toNat x_g) default).Live))
   (some false))
  (some false)
noncomputable def g77:Sg tG:=⟨[.row 41,.i .i64],.one .b,qR⟩
theorem s77:Sok 77 g77:=sgx [] trivial .o kr kr kr
noncomputable def oM (x_h:DHost)(x_g:Int):Option Bool:=
 Option.bind (dT x_h) λv1=>
 cond v1
  (Option.bind (qR x_h.Guests x_g) λv2=>
  some v2)
  (some false)
noncomputable def g84:Sg tG:=⟨[.st 26,.i .i64],.one .b,oM⟩
theorem s84:Sok 84 g84:=sgx [(14,.r g14),(77,.r g77)] ⟨s14,s77,trivial⟩ .o kr kr kr
end Go.Proofs.Ytkjabgefacfpfaa
