/- Plain functions of the program, and that it hands back what they say. Made by program. -/
import Derived.Test.YtkjabgefacfpfaaWTD
import Derived.Test.YtkjabgefacfpfaaProg
import Derived.Test.YtkjabgefacfpfaaWHO1
namespace Go.Proofs.Ytkjabgefacfpfaa
open Go.RowKit
set_option maxRecDepth 100000
set_option linter.all false
set_option maxHeartbeats 0
noncomputable def aDo  (s1:List Int):Option (List Int):=some s1
noncomputable def uA (s3:(List Int)×Int)(s4:List Int):Option (LO ((List Int)×Int) (JO (List Int) (List Int))):=some (.next (s4,w64 (s3.2+(1:Int))))
noncomputable def jI (v2:List Int)(s3:(List Int)×Int):Option (LO ((List Int)×Int) (JO (List Int) (List Int))):=
 cond (decide (s3.2<((List.length v2:Nat):Int)))
  (Option.bind (grd ((0:Int)<=s3.2/\s3.2<((List.length v2:Nat):Int)) (cond (decide ((List.getD v2 (Int.toNat s3.2) default)=(0:Int)))
   (grd ((List.length s3.1+List.length ([s3.2]:List Int))*8<=2^47/\List.length s3.1+List.length ([s3.2]:List Int)<=2^47) (some (.go (s3.1++([s3.2]:List Int)))))
   (some (.go s3.1)))) λj4=>
   JO.run j4 (uA s3))
  (some (.ret (.go s3.1)))
noncomputable def mA (x_guests:List DGuest):Option (List Int):=
 Option.bind (Option.bind (eJ x_guests) λv2=>
  Option.bind (iter (jI v2) (([]:List Int),(0:Int))) LO.val) λj1=>
  JO.run j1 aDo
noncomputable def g53:Sg tG:=⟨[.row 41],.one (.row 3),mA⟩
theorem s53:Sok 53 g53:=sgx [(86,.r g86)] ⟨s86,trivial⟩ (.s .o (.s .o (.j ⟨[],[],[(.s 3,.ro 3)]⟩ (.s .o (.k (.l ⟨[8,9],[],[(.s 3,.ro 3),(.s 10,.i .i64)]⟩ (.s .o (.s .o (.j ⟨[8,9,10],[],[(.s 3,.ro 3)]⟩ .o .o)))))) .o))) kr kr kr
noncomputable def fT (x_h:DHost):Option (List Int):=
 Option.bind (dT x_h) λv1=>
 cond (!v1)
  (some ([]:List Int))
  (Option.bind (mA x_h.Guests) λv2=>
  some v2)
noncomputable def g16:Sg tG:=⟨[.st 26],.one (.row 3),fT⟩
theorem s16:Sok 16 g16:=sgx [(14,.r g14),(53,.r g53)] ⟨s14,s53,trivial⟩ .o kr kr kr
noncomputable def zA  (s1:List Int):Option (List Int):=some s1
noncomputable def zM (s2:(List Int)×Int)(s3:List Int):Option (LO ((List Int)×Int) (JO (List Int) (List Int))):=some (.next (s3,w64 (s2.2+(1:Int))))
noncomputable def sG (s4:(List Int)×Int)(s5:List Int):Option (LO ((List Int)×Int) (JO (List Int) (LO ((List Int)×Int) (JO (List Int) (List Int))))):=some (.next (s5,w64 (s4.2+(1:Int))))
noncomputable def kE (x_h:DHost)(s2:(List Int)×Int)(s4:(List Int)×Int):Option (LO ((List Int)×Int) (JO (List Int) (LO ((List Int)×Int) (JO (List Int) (List Int))))):=
 grd ((0:Int)<=s2.2/\s2.2<((List.length x_h.Guests:Nat):Int)) (cond (decide (s4.2<((List.length (List.getD x_h.Guests (Int.toNat s2.2) default).Pages:Nat):Int)))
  (Option.bind (grd ((0:Int)<=s2.2/\s2.2<((List.length x_h.Guests:Nat):Int)) (grd ((0:Int)<=s4.2/\s4.2<((List.length (List.getD x_h.Guests (Int.toNat s2.2) default).Pages:Nat):Int)) (cond (decide ((0:Int)<=(List.getD (List.getD x_h.Guests (Int.toNat s2.2) default).Pages (Int.toNat s4.2) default).Frame))
   (grd ((0:Int)<=(List.getD (List.getD x_h.Guests (Int.toNat s2.2) default).Pages (Int.toNat s4.2) default).Frame/\(List.getD (List.getD x_h.Guests (Int.toNat s2.2) default).Pages (Int.toNat s4.2) default).Frame<((List.length s4.1:Nat):Int)) (grd ((0:Int)<=(List.getD (List.getD x_h.Guests (Int.toNat s2.2) default).Pages (Int.toNat s4.2) default).Frame/\(List.getD (List.getD x_h.Guests (Int.toNat s2.2) default).Pages (Int.toNat s4.2) default).Frame<((List.length s4.1:Nat):Int)) (some (.go (List.set s4.1 (Int.toNat (List.getD (List.getD x_h.Guests (Int.toNat s2.2) default).Pages (Int.toNat s4.2) default).Frame) (w64 ((List.getD s4.1 (Int.toNat (List.getD (List.getD x_h.Guests (Int.toNat s2.2) default).Pages (Int.toNat s4.2) default).Frame) default)+(1:Int))))))))
   (some (.go s4.1))))) λj5=>
   JO.run j5 (sG s4))
  (some (.ret (.go s4.1))))
noncomputable def nH (x_h:DHost)(s2:(List Int)×Int):Option (LO ((List Int)×Int) (JO (List Int) (List Int))):=
 cond (decide (s2.2<((List.length x_h.Guests:Nat):Int)))
  (Option.bind (Option.bind (iter (kE x_h s2) (s2.1,(0:Int))) LO.val) λj3=>
   JO.run j3 (zM s2))
  (some (.ret (.go s2.1)))
noncomputable def gF (x_h:DHost):Option (List Int):=
 Option.bind (Option.bind (iter (nH x_h) ((List.replicate (Int.toNat (20:Int)) (0:Int)),(0:Int))) LO.val) λj1=>
  JO.run j1 zA
noncomputable def g47:Sg tG:=⟨[.st 26],.one (.row 3),gF⟩
theorem s47:Sok 47 g47:=sgx [] trivial (.s .o (.s .o (.j ⟨[],[],[(.s 3,.ro 3)]⟩ (.s .o (.k (.l ⟨[1],[],[(.s 3,.ro 3),(.s 4,.i .i64)]⟩ (.s .o (.j ⟨[1,4],[],[(.s 3,.ro 3)]⟩ (.k (.s .o (.k (.l ⟨[1,4],[],[(.s 3,.ro 3),(.s 5,.i .i64)]⟩ (.s .o (.j ⟨[1,4,5],[],[(.s 3,.ro 3)]⟩ .o .o)))))) .o))))) .o))) kr kr kr
noncomputable def aFw  (s3:List Int):Option (List Int):=some s3
noncomputable def wM (s4:(List Int)×Int)(s5:List Int):Option (LO ((List Int)×Int) (JO (List Int) (List Int))):=some (.next (s5,w64 (s4.2+(1:Int))))
noncomputable def lT (v2:List Int)(s4:(List Int)×Int):Option (LO ((List Int)×Int) (JO (List Int) (List Int))):=
 cond (decide (s4.2<(20:Int)))
  (Option.bind (grd ((0:Int)<=s4.2/\s4.2<((List.length v2:Nat):Int)) (cond (decide ((List.getD v2 (Int.toNat s4.2) default)=(0:Int)))
   (grd ((List.length s4.1+List.length ([s4.2]:List Int))*8<=2^47/\List.length s4.1+List.length ([s4.2]:List Int)<=2^47) (some (.go (s4.1++([s4.2]:List Int)))))
   (some (.go s4.1)))) λj5=>
   JO.run j5 (wM s4))
  (some (.ret (.go s4.1)))
noncomputable def lK (x_h:DHost):Option (List Int):=
 Option.bind (gH x_h) λv1=>
 cond (!v1)
  (some ([]:List Int))
  (Option.bind (gF x_h) λv2=>
  Option.bind (Option.bind (iter (lT v2) (([]:List Int),(0:Int))) LO.val) λj3=>
   JO.run j3 aFw)
noncomputable def g85:Sg tG:=⟨[.st 26],.one (.row 3),lK⟩
theorem s85:Sok 85 g85:=sgx [(45,.r g45),(47,.r g47)] ⟨s45,s47,trivial⟩ (.s .o (.s .o (.s .o (.s .o (.j ⟨[],[],[(.s 3,.ro 3)]⟩ (.s .o (.k (.l ⟨[4],[],[(.s 3,.ro 3),(.s 5,.i .i64)]⟩ (.s .o (.j ⟨[4,5],[],[(.s 3,.ro 3)]⟩ .o .o))))) .o))))) kr kr kr
end Go.Proofs.Ytkjabgefacfpfaa
