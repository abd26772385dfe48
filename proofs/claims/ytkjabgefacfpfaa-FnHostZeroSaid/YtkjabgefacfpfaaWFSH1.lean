/- Plain functions of the program, and that it hands back what they say. Made by program. -/
import Derived.Test.YtkjabgefacfpfaaWTD
import Derived.Test.YtkjabgefacfpfaaProg
import Derived.Test.YtkjabgefacfpfaaWD1
import Derived.Test.YtkjabgefacfpfaaWGSH1
import Derived.Test.YtkjabgefacfpfaaWHF1
import Derived.Test.YtkjabgefacfpfaaWHI1
import Derived.Test.YtkjabgefacfpfaaWHO1
import Derived.Test.YtkjabgefacfpfaaWJ1
import Derived.Test.YtkjabgefacfpfaaWK1
import Derived.Test.YtkjabgefacfpfaaWSH1
import Derived.Test.YtkjabgefacfpfaaWSI1
namespace Go.Proofs.Ytkjabgefacfpfaa
open Go.RowKit
set_option maxRecDepth 100000
set_option linter.all false
set_option maxHeartbeats 0
noncomputable def sX (v1:DHost)(v2:DHost)(v7:List Int)(s8:Unit):Option Bool:=
 Option.bind (dT v2) λv9=>
 cond v9
  (Option.bind (kI v1 v2 (-1:Int)) λv10=>
  cond v10
   (Option.bind (fT v1) λv11=>
   cond (decide (((List.length v11:Nat):Int)<=((List.length v7:Nat):Int)))
    (Option.bind (eK v2) λv12=>
    Option.bind (iN v12 v2) λv13=>
    some v13)
    (some false))
   (some false))
  (some false)
noncomputable def rG (s14:Int)(s15:Unit):Option (LO Int (JO Unit Bool)):=some (.next (w64 (s14+(1:Int))))
noncomputable def gZ (s16:Int)(s17:Unit):Option (LO Int (JO Unit (LO Int (JO Unit Bool)))):=some (.next (w64 (s16+(1:Int))))
noncomputable def fC (v2:DHost)(v7:List Int)(s14:Int)(s16:Int):Option (LO Int (JO Unit (LO Int (JO Unit Bool)))):=
 cond (decide (s16<s14))
  (Option.bind (Option.bind (nX v7 s14) λv18=>
   cond (!v18)
    (Option.bind (nX v7 s16) λv19=>
    cond (!v19)
     (grd ((0:Int)<=(w64 (s14*(8:Int)))/\(w64 (s14*(8:Int)))<=(w64 ((w64 (s14+(1:Int)))*(8:Int)))/\(w64 ((w64 (s14+(1:Int)))*(8:Int)))<=((List.length v2.Words:Nat):Int)) (grd ((0:Int)<=(w64 (s16*(8:Int)))/\(w64 (s16*(8:Int)))<=(w64 ((w64 (s16+(1:Int)))*(8:Int)))/\(w64 ((w64 (s16+(1:Int)))*(8:Int)))<=((List.length v2.Words:Nat):Int)) (Option.bind (cZ (List.take (Int.toNat (w64 ((w64 (s14+(1:Int)))*(8:Int)))-Int.toNat (w64 (s14*(8:Int)))) (List.drop (Int.toNat (w64 (s14*(8:Int)))) v2.Words)) (List.take (Int.toNat (w64 ((w64 (s16+(1:Int)))*(8:Int)))-Int.toNat (w64 (s16*(8:Int)))) (List.drop (Int.toNat (w64 (s16*(8:Int)))) v2.Words))) λv20=>
      cond v20
       (some (.out (.ret (.out (.ret (.out false))))))
       (some (.go ())))))
     (some (.go ())))
    (some (.go ()))) λj17=>
   JO.run j17 (gZ s16))
  (some (.ret (.go ())))
noncomputable def hM (v2:DHost)(v7:List Int)(s14:Int):Option (LO Int (JO Unit Bool)):=
 cond (decide (s14<(20:Int)))
  (Option.bind (Option.bind (iter (fC v2 v7 s14) (0:Int)) LO.val) λj15=>
   JO.run j15 (rG s14))
  (some (.ret (.go ())))
noncomputable def iF (x_code:List Int):Option Bool:=
 cond (decide ((1048576:Int)<((List.length x_code:Nat):Int)))
  (some true)
  (Option.bind (eO x_code) λv1=>
  Option.bind (eK v1) λv2=>
  Option.bind (gX v1) λv3=>
  Option.bind (iN v2 v3) λv4=>
  cond (!v4)
   (some false)
   (Option.bind (dT v1) λv5=>
   cond (!v5)
    (cond (decide (((List.length v2.Guests:Nat):Int)=(0:Int)))
     (Option.bind kB  λv6=>
     some v6)
     (some false))
    (Option.bind (fT v2) λv7=>
    Option.bind (Option.bind (iter (hM v2 v7) (0:Int)) LO.val) λj8=>
     JO.run j8 (sX v1 v2 v7))))
noncomputable def g3:Sg tG:=⟨[.row 5],.one .b,iF⟩
theorem s3:Sok 3 g3:=sgx [(10,.r g10),(11,.r g11),(13,.r g13),(12,.r g12),(14,.r g14),(15,.r g15),(16,.r g16),(17,.r g17),(18,.r g18),(19,.r g19)] ⟨s10,s11,s13,s12,s14,s15,s16,s17,s18,s19,trivial⟩ (.s .o (.s .o (.s .o (.s .o (.s .o (.s .o (.s .o (.j ⟨[3,4,5],[],[]⟩ (.s .o (.k (.l ⟨[3,4,5],[],[(.s 6,.i .i64)]⟩ (.s .o (.j ⟨[3,4,5,6],[],[]⟩ (.k (.s .o (.k (.l ⟨[3,4,5,6],[],[(.s 7,.i .i64)]⟩ (.s .o (.j ⟨[3,4,5,6,7],[],[]⟩ .o .o)))))) .o))))) .o)))))))) kr kr kr
theorem aFc{x_code:List Int}{R_:Bool}(hh:iF x_code=some R_):Fn Try.prog 3 [bo (eI .u8) x_code] (.bool R_):=kc (s3 x_code R_ hh)
end Go.Proofs.Ytkjabgefacfpfaa
