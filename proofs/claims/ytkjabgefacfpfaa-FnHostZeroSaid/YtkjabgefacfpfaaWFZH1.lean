/- Plain functions of the program, and that it hands back what they say. Made by program. -/
import Derived.Test.YtkjabgefacfpfaaWTD
import Derived.Test.YtkjabgefacfpfaaProg
import Derived.Test.YtkjabgefacfpfaaWD1
import Derived.Test.YtkjabgefacfpfaaWGSH1
import Derived.Test.YtkjabgefacfpfaaWHF1
import Derived.Test.YtkjabgefacfpfaaWHO1
import Derived.Test.YtkjabgefacfpfaaWJ1
import Derived.Test.YtkjabgefacfpfaaWK1
import Derived.Test.YtkjabgefacfpfaaWZH1
namespace Go.Proofs.Ytkjabgefacfpfaa
open Go.RowKit
set_option maxRecDepth 100000
set_option linter.all false
set_option maxHeartbeats 0
noncomputable def tP (v1:DHost)(v2:DHost)(s7:Unit):Option Bool:=
 Option.bind (dT v2) λv8=>
 cond v8
  (Option.bind (kI v1 v2 (-1:Int)) λv9=>
  cond v9
   (Option.bind (fT v2) λv10=>
   Option.bind (fT v1) λv11=>
   some (decide (((List.length v11:Nat):Int)<=((List.length v10:Nat):Int))))
   (some false))
  (some false)
noncomputable def sU (s12:Int)(s13:Unit):Option (LO Int (JO Unit Bool)):=some (.next (w64 (s12+(1:Int))))
noncomputable def fO (v1:DHost)(v2:DHost)(s12:Int)(s14:Int):Option (LO Int (JO Unit (LO Int (JO Unit Bool)))):=
 grd ((0:Int)<=s12/\s12<((List.length v1.Guests:Nat):Int)) (cond (decide (s14<((List.length (List.getD v1.Guests (Int.toNat s12) default).Pages:Nat):Int)))
  (grd ((0:Int)<=s12/\s12<((List.length v1.Guests:Nat):Int)) (grd ((0:Int)<=s14/\s14<((List.length (List.getD v1.Guests (Int.toNat s12) default).Pages:Nat):Int)) (grd ((0:Int)<=s12/\s12<((List.length v2.Guests:Nat):Int)) (grd ((0:Int)<=s14/\s14<((List.length (List.getD v2.Guests (Int.toNat s12) default).Pages:Nat):Int)) (cond (!((List.getD (List.getD v1.Guests (Int.toNat s12) default).Pages (Int.toNat s14) default).Dirty==(List.getD (List.getD v2.Guests (Int.toNat s12) default).Pages (Int.toNat s14) default).Dirty))
   (some (.ret (.out (.ret (.out false)))))
   (some (.next (w64 (s14+(1:Int))))))))))
  (some (.ret (.go ()))))
noncomputable def iJ (v1:DHost)(v2:DHost)(s12:Int):Option (LO Int (JO Unit Bool)):=
 cond (decide (s12<(3:Int)))
  (Option.bind (Option.bind (iter (fO v1 v2 s12) (0:Int)) LO.val) λj13=>
   JO.run j13 (sU s12))
  (some (.ret (.go ())))
noncomputable def jD (x_code:List Int):Option Bool:=
 cond (decide ((1048576:Int)<((List.length x_code:Nat):Int)))
  (some true)
  (Option.bind (eY x_code) λv1=>
  Option.bind (fS v1) λv2=>
  Option.bind (iO v1) λv3=>
  Option.bind (iN v2 v3) λv4=>
  cond (!v4)
   (some false)
   (Option.bind (dT v1) λv5=>
   cond (!v5)
    (cond (decide (((List.length v2.Guests:Nat):Int)=(0:Int)))
     (Option.bind kB  λv6=>
     some v6)
     (some false))
    (Option.bind (Option.bind (iter (iJ v1 v2) (0:Int)) LO.val) λj7=>
     JO.run j7 (tP v1 v2))))
noncomputable def g4:Sg tG:=⟨[.row 5],.one .b,jD⟩
theorem s4:Sok 4 g4:=sgx [(20,.r g20),(21,.r g21),(22,.r g22),(12,.r g12),(14,.r g14),(15,.r g15),(19,.r g19),(16,.r g16)] ⟨s20,s21,s22,s12,s14,s15,s19,s16,trivial⟩ (.s .o (.s .o (.s .o (.s .o (.s .o (.s .o (.j ⟨[3,4],[],[]⟩ (.s .o (.k (.l ⟨[3,4],[],[(.s 5,.i .i64)]⟩ (.s .o (.j ⟨[3,4,5],[],[]⟩ (.k (.s .o (.k (.l ⟨[3,4,5],[],[(.s 6,.i .i64)]⟩ .o)))) .o))))) .o))))))) kr kr kr
theorem aFx{x_code:List Int}{R_:Bool}(hh:jD x_code=some R_):Fn Try.prog 4 [bo (eI .u8) x_code] (.bool R_):=kc (s4 x_code R_ hh)
end Go.Proofs.Ytkjabgefacfpfaa
