/- Plain functions of the program, and that it hands back what they say. Made by program. -/
import Derived.Test.YtkjabgefacfpfaaWTD
import Derived.Test.YtkjabgefacfpfaaProg
import Derived.Test.YtkjabgefacfpfaaWHC1
import Derived.Test.YtkjabgefacfpfaaWHD1
import Derived.Test.YtkjabgefacfpfaaWHF1
import Derived.Test.YtkjabgefacfpfaaWHO1
import Derived.Test.YtkjabgefacfpfaaWHV1
namespace Go.Proofs.Ytkjabgefacfpfaa
open Go.RowKit
set_option maxRecDepth 100000
set_option linter.all false
set_option maxHeartbeats 0
noncomputable def aBa  (s3:List DGuest):Option (List DGuest):=some s3
noncomputable def rI (s4:(List DGuest)×Int)(s5:List DGuest):Option (LO ((List DGuest)×Int) (JO (List DGuest) (List DGuest))):=some (.next (s5,w64 (s4.2+(1:Int))))
noncomputable def hT (s6:(List DGuest)×Int)(s7:List DGuest):Option (LO ((List DGuest)×Int) (JO (List DGuest) (LO ((List DGuest)×Int) (JO (List DGuest) (List DGuest))))):=some (.next (s7,w64 (s6.2+(1:Int))))
noncomputable def lZ (x_guests:List DGuest)(v1:List Int)(s4:(List DGuest)×Int)(s6:(List DGuest)×Int):Option (LO ((List DGuest)×Int) (JO (List DGuest) (LO ((List DGuest)×Int) (JO (List DGuest) (List DGuest))))):=
 cond (decide (s6.2<((List.length (List.getD x_guests (Int.toNat s4.2) default).Pages:Nat):Int)))
  (Option.bind (grd ((0:Int)<=s6.2/\s6.2<((List.length (List.getD x_guests (Int.toNat s4.2) default).Pages:Nat):Int)) (cond (List.getD (List.getD x_guests (Int.toNat s4.2) default).Pages (Int.toNat s6.2) default).Write
   (grd ((0:Int)<=(List.getD (List.getD x_guests (Int.toNat s4.2) default).Pages (Int.toNat s6.2) default).Frame/\(List.getD (List.getD x_guests (Int.toNat s4.2) default).Pages (Int.toNat s6.2) default).Frame<((List.length v1:Nat):Int)) (cond (decide ((1:Int)<(List.getD v1 (Int.toNat (List.getD (List.getD x_guests (Int.toNat s4.2) default).Pages (Int.toNat s6.2) default).Frame) default)))
    (grd ((0:Int)<=s4.2/\s4.2<((List.length s6.1:Nat):Int)) (grd ((0:Int)<=s6.2/\s6.2<((List.length (List.getD s6.1 (Int.toNat s4.2) default).Pages:Nat):Int)) (some (.go (List.set s6.1 (Int.toNat s4.2) (DGuest.mk (List.getD s6.1 (Int.toNat s4.2) default).Live (DCore.mk ((List.getD s6.1 (Int.toNat s4.2) default).C).Regs ((List.getD s6.1 (Int.toNat s4.2) default).C).Pc ((List.getD s6.1 (Int.toNat s4.2) default).C).Root ((List.getD s6.1 (Int.toNat s4.2) default).C).Vector ((List.getD s6.1 (Int.toNat s4.2) default).C).Saved ((List.getD s6.1 (Int.toNat s4.2) default).C).SavedUser ((List.getD s6.1 (Int.toNat s4.2) default).C).Cause ((List.getD s6.1 (Int.toNat s4.2) default).C).Bad ((List.getD s6.1 (Int.toNat s4.2) default).C).Timer ((List.getD s6.1 (Int.toNat s4.2) default).C).Waits ((List.getD s6.1 (Int.toNat s4.2) default).C).User ((List.getD s6.1 (Int.toNat s4.2) default).C).On ((List.getD s6.1 (Int.toNat s4.2) default).C).Stopped) (List.set (List.getD s6.1 (Int.toNat s4.2) default).Pages (Int.toNat s6.2) (DSlot.mk (List.getD (List.getD s6.1 (Int.toNat s4.2) default).Pages (Int.toNat s6.2) default).Frame false (List.getD (List.getD s6.1 (Int.toNat s4.2) default).Pages (Int.toNat s6.2) default).Dirty)) (List.getD s6.1 (Int.toNat s4.2) default).In (List.getD s6.1 (Int.toNat s4.2) default).Out))))))
    (some (.go s6.1))))
   (some (.go s6.1)))) λj7=>
   JO.run j7 (hT s6))
  (some (.ret (.go s6.1)))
noncomputable def hG (x_guests:List DGuest)(v1:List Int)(s4:(List DGuest)×Int):Option (LO ((List DGuest)×Int) (JO (List DGuest) (List DGuest))):=
 cond (decide (s4.2<((List.length x_guests:Nat):Int)))
  (Option.bind (grd ((0:Int)<=s4.2/\s4.2<((List.length x_guests:Nat):Int)) (Option.bind (iter (lZ x_guests v1 s4) (s4.1,(0:Int))) LO.val)) λj5=>
   JO.run j5 (rI s4))
  (some (.ret (.go s4.1)))
noncomputable def kO (x_guests:List DGuest):Option (List DGuest):=
 Option.bind (eJ x_guests) λv1=>
 Option.bind (eZ x_guests) λv2=>
 Option.bind (Option.bind (iter (hG x_guests v1) (v2,(0:Int))) LO.val) λj3=>
  JO.run j3 aBa
noncomputable def g42:Sg tG:=⟨[.row 41],.one (.row 1041),kO⟩
theorem s42:Sok 42 g42:=sgx [(86,.r g86),(87,.r g87)] ⟨s86,s87,trivial⟩ (.s .o (.s .o (.s .o (.j ⟨[],[],[(.s 4,.ro 1041)]⟩ (.s .o (.k (.l ⟨[3,13,14],[],[(.s 4,.ro 1041),(.s 15,.i .i64)]⟩ (.s .o (.s .o (.j ⟨[3,13,14,15],[],[(.s 4,.ro 1041)]⟩ (.k (.s .o (.s .o (.k (.l ⟨[3,5,13,14,15,21,22],[],[(.s 4,.ro 1041),(.s 23,.i .i64)]⟩ (.s .o (.s .o (.j ⟨[3,5,13,14,15,21,22,23],[],[(.s 4,.ro 1041)]⟩ .o .o)))))))) .o)))))) .o)))) kr kr kr
noncomputable def aFa  (s1:Unit):Option Bool:=some true
noncomputable def kP (x_a:List Int)(x_b:List Int)(s2:Int):Option (LO Int (JO Unit Bool)):=
 cond (decide (s2<((List.length x_a:Nat):Int)))
  (grd ((0:Int)<=s2/\s2<((List.length x_a:Nat):Int)) (grd ((0:Int)<=s2/\s2<((List.length x_b:Nat):Int)) (cond (!decide ((List.getD x_a (Int.toNat s2) default)=(List.getD x_b (Int.toNat s2) default)))
   (some (.ret (.out false)))
   (some (.next (w64 (s2+(1:Int))))))))
  (some (.ret (.go ())))
noncomputable def nK (x_a:List Int)(x_b:List Int):Option Bool:=
 Option.bind (Option.bind (iter (kP x_a x_b) (0:Int)) LO.val) λj1=>
  JO.run j1 aFa
noncomputable def bLi:Sg tG:=⟨[.row 3,.row 3],.one .b,nK⟩
theorem bOv:Sok 115 bLi:=sgx [] trivial (.s .o (.j ⟨[],[],[]⟩ (.s .o (.k (.l ⟨[1,7,8],[],[(.s 9,.i .i64)]⟩ .o))) .o)) kr kr kr
noncomputable def tT (x_frame:Int)(s1:Unit):Option Int:=some x_frame
noncomputable def nC (s2:Int)(s3:Unit):Option (LO Int (JO Unit Int)):=some (.next (w64 (s2+(1:Int))))
noncomputable def fY (x_words:List Int)(x_takers:List Int)(x_frame:Int)(s2:Int):Option (LO Int (JO Unit Int)):=
 cond (decide (s2<x_frame))
  (Option.bind (grd ((0:Int)<=s2/\s2<((List.length x_takers:Nat):Int)) (cond (decide ((0:Int)<(List.getD x_takers (Int.toNat s2) default)))
   (Option.bind (gI x_words s2) λv4=>
   Option.bind (gI x_words x_frame) λv5=>
   Option.bind (nK v4 v5) λv6=>
   cond v6
    (some (.out (.ret (.out s2))))
    (some (.go ())))
   (some (.go ())))) λj3=>
   JO.run j3 (nC s2))
  (some (.ret (.go ())))
noncomputable def mJ (x_words:List Int)(x_takers:List Int)(x_frame:Int):Option Int:=
 Option.bind (Option.bind (iter (fY x_words x_takers x_frame) (0:Int)) LO.val) λj1=>
  JO.run j1 (tT x_frame)
noncomputable def g88:Sg tG:=⟨[.row 3,.row 3,.i .i64],.one (.i .i64),mJ⟩
theorem s88:Sok 88 g88:=sgx [(116,.r bHm),(115,.r bLi)] ⟨bGq,bOv,trivial⟩ (.s .o (.j ⟨[2],[],[]⟩ (.s .o (.k (.l ⟨[0,1,2],[],[(.s 7,.i .i64)]⟩ (.s .o (.j ⟨[0,1,2,7],[],[]⟩ .o .o))))) .o)) kr kr kr
noncomputable def zX  (s3:List DGuest):Option (List DGuest):=some s3
noncomputable def qS (s4:(List DGuest)×Int)(s5:List DGuest):Option (LO ((List DGuest)×Int) (JO (List DGuest) (List DGuest))):=some (.next (s5,w64 (s4.2+(1:Int))))
noncomputable def kU (s6:(List DGuest)×Int)(s7:List DGuest):Option (LO ((List DGuest)×Int) (JO (List DGuest) (LO ((List DGuest)×Int) (JO (List DGuest) (List DGuest))))):=some (.next (s7,w64 (s6.2+(1:Int))))
noncomputable def kX (x_h:DHost)(v1:List Int)(s4:(List DGuest)×Int)(s6:(List DGuest)×Int):Option (LO ((List DGuest)×Int) (JO (List DGuest) (LO ((List DGuest)×Int) (JO (List DGuest) (List DGuest))))):=
 cond (decide (s6.2<((List.length (List.getD x_h.Guests (Int.toNat s4.2) default).Pages:Nat):Int)))
  (Option.bind (grd ((0:Int)<=s6.2/\s6.2<((List.length (List.getD x_h.Guests (Int.toNat s4.2) default).Pages:Nat):Int)) (cond (!decide ((List.getD (List.getD x_h.Guests (Int.toNat s4.2) default).Pages (Int.toNat s6.2) default).Frame=(-1:Int)))
   (grd ((0:Int)<=s4.2/\s4.2<((List.length s6.1:Nat):Int)) (Option.bind (mJ x_h.Words v1 (List.getD (List.getD x_h.Guests (Int.toNat s4.2) default).Pages (Int.toNat s6.2) default).Frame) λv8=>
    grd ((0:Int)<=s6.2/\s6.2<((List.length (List.getD s6.1 (Int.toNat s4.2) default).Pages:Nat):Int)) (some (.go (List.set s6.1 (Int.toNat s4.2) (DGuest.mk (List.getD s6.1 (Int.toNat s4.2) default).Live (DCore.mk ((List.getD s6.1 (Int.toNat s4.2) default).C).Regs ((List.getD s6.1 (Int.toNat s4.2) default).C).Pc ((List.getD s6.1 (Int.toNat s4.2) default).C).Root ((List.getD s6.1 (Int.toNat s4.2) default).C).Vector ((List.getD s6.1 (Int.toNat s4.2) default).C).Saved ((List.getD s6.1 (Int.toNat s4.2) default).C).SavedUser ((List.getD s6.1 (Int.toNat s4.2) default).C).Cause ((List.getD s6.1 (Int.toNat s4.2) default).C).Bad ((List.getD s6.1 (Int.toNat s4.2) default).C).Timer ((List.getD s6.1 (Int.toNat s4.2) default).C).Waits ((List.getD s6.1 (Int.toNat s4.2) default).C).User ((List.getD s6.1 (Int.toNat s4.2) default).C).On ((List.getD s6.1 (Int.toNat s4.2) default).C).Stopped) (List.set (List.getD s6.1 (Int.toNat s4.2) default).Pages (Int.toNat s6.2) (DSlot.mk v8 (List.getD (List.getD s6.1 (Int.toNat s4.2) default).Pages (Int.toNat s6.2) default).Write (List.getD (List.getD s6.1 (Int.toNat s4.2) default).Pages (Int.toNat s6.2) default).Dirty)) (List.getD s6.1 (Int.toNat s4.2) default).In (List.getD s6.1 (Int.toNat s4.2) default).Out))))))
   (some (.go s6.1)))) λj7=>
   JO.run j7 (kU s6))
  (some (.ret (.go s6.1)))
noncomputable def gK (x_h:DHost)(v1:List Int)(s4:(List DGuest)×Int):Option (LO ((List DGuest)×Int) (JO (List DGuest) (List DGuest))):=
 cond (decide (s4.2<((List.length x_h.Guests:Nat):Int)))
  (Option.bind (grd ((0:Int)<=s4.2/\s4.2<((List.length x_h.Guests:Nat):Int)) (Option.bind (iter (kX x_h v1 s4) (s4.1,(0:Int))) LO.val)) λj5=>
   JO.run j5 (qS s4))
  (some (.ret (.go s4.1)))
noncomputable def jL (x_h:DHost):Option (List DGuest):=
 Option.bind (eJ x_h.Guests) λv1=>
 Option.bind (eZ x_h.Guests) λv2=>
 Option.bind (Option.bind (iter (gK x_h v1) (v2,(0:Int))) LO.val) λj3=>
  JO.run j3 zX
noncomputable def g43:Sg tG:=⟨[.st 26],.one (.row 1041),jL⟩
theorem s43:Sok 43 g43:=sgx [(86,.r g86),(87,.r g87),(88,.r g88)] ⟨s86,s87,s88,trivial⟩ (.s .o (.s .o (.s .o (.j ⟨[],[],[(.s 4,.ro 1041)]⟩ (.s .o (.k (.l ⟨[1,3,16,17],[],[(.s 4,.ro 1041),(.s 18,.i .i64)]⟩ (.s .o (.s .o (.j ⟨[1,3,16,17,18],[],[(.s 4,.ro 1041)]⟩ (.k (.s .o (.s .o (.k (.l ⟨[1,3,5,16,17,18,24,25],[],[(.s 4,.ro 1041),(.s 26,.i .i64)]⟩ (.s .o (.s .o (.j ⟨[1,3,5,16,17,18,24,25,26],[],[(.s 4,.ro 1041)]⟩ .o .o)))))))) .o)))))) .o)))) kr kr kr
noncomputable def eK (x_h:DHost):Option DHost:=
 Option.bind (dT x_h) λv1=>
 cond (!v1)
  (some (DHost.mk ([]:List Int) ([]:List DGuest)))
  (Option.bind (dG x_h.Words) λv2=>
  Option.bind (jL x_h) λv3=>
  Option.bind (kO v3) λv4=>
  some (DHost.mk v2 v4))
noncomputable def g11:Sg tG:=⟨[.st 26],.one (.st 2026),eK⟩
theorem s11:Sok 11 g11:=sgx [(14,.r g14),(41,.r g41),(43,.r g43),(42,.r g42)] ⟨s14,s41,s43,s42,trivial⟩ .o kr kr kr
theorem xB{x_h:DHost}{R_:DHost}(hh:eK x_h=some R_):Fn Try.prog 11 [.agg (yU x_h)] (.agg [.own 3 1 (List.length R_.Words) (fl (eI .i64) R_.Words),.own 41 17 (List.length R_.Guests) (fl bV R_.Guests)]):=kc (s11 x_h R_ hh)
noncomputable def aLi  (s1:Unit):Option Bool:=some true
noncomputable def nF (x_h:DHost)(x_a:Int)(x_b:Int)(s2:Int):Option (LO Int (JO Unit Bool)):=
 cond (decide (s2<(8:Int)))
  (grd ((0:Int)<=(w64 ((w64 (x_a*(8:Int)))+s2))/\(w64 ((w64 (x_a*(8:Int)))+s2))<((List.length x_h.Words:Nat):Int)) (grd ((0:Int)<=(w64 ((w64 (x_b*(8:Int)))+s2))/\(w64 ((w64 (x_b*(8:Int)))+s2))<((List.length x_h.Words:Nat):Int)) (cond (!decide ((List.getD x_h.Words (Int.toNat (w64 ((w64 (x_a*(8:Int)))+s2))) default)=(List.getD x_h.Words (Int.toNat (w64 ((w64 (x_b*(8:Int)))+s2))) default)))
   (some (.ret (.out false)))
   (some (.next (w64 (s2+(1:Int))))))))
  (some (.ret (.go ())))
noncomputable def rP (x_h:DHost)(x_a:Int)(x_b:Int):Option Bool:=
 Option.bind (Option.bind (iter (nF x_h x_a x_b) (0:Int)) LO.val) λj1=>
  JO.run j1 aLi
noncomputable def g48:Sg tG:=⟨[.st 26,.i .i64,.i .i64],.one .b,rP⟩
theorem s48:Sok 48 g48:=sgx [] trivial (.s .o (.j ⟨[],[],[]⟩ (.s .o (.k (.l ⟨[1,2,3],[],[(.s 7,.i .i64)]⟩ .o))) .o)) kr kr kr
noncomputable def aFh (v2:DHost)(s6:List DGuest):Option DHost:=some (DHost.mk v2.Words s6)
noncomputable def uD (s7:(List DGuest)×Int)(s8:List DGuest):Option (LO ((List DGuest)×Int) (JO (List DGuest) DHost)):=some (.next (s8,w64 (s7.2+(1:Int))))
noncomputable def jM (s9:(List DGuest)×Int)(s10:List DGuest):Option (LO ((List DGuest)×Int) (JO (List DGuest) (LO ((List DGuest)×Int) (JO (List DGuest) DHost)))):=some (.next (s10,w64 (s9.2+(1:Int))))
noncomputable def oC (v5:List Int)(s7:(List DGuest)×Int)(s9:(List DGuest)×Int):Option (LO ((List DGuest)×Int) (JO (List DGuest) (LO ((List DGuest)×Int) (JO (List DGuest) DHost)))):=
 grd ((0:Int)<=s7.2/\s7.2<((List.length s9.1:Nat):Int)) (cond (decide (s9.2<((List.length (List.getD s9.1 (Int.toNat s7.2) default).Pages:Nat):Int)))
  (Option.bind (grd ((0:Int)<=s7.2/\s7.2<((List.length s9.1:Nat):Int)) (grd ((0:Int)<=s9.2/\s9.2<((List.length (List.getD s9.1 (Int.toNat s7.2) default).Pages:Nat):Int)) (cond (decide ((0:Int)<=(List.getD (List.getD s9.1 (Int.toNat s7.2) default).Pages (Int.toNat s9.2) default).Frame))
   (grd ((0:Int)<=(List.getD (List.getD s9.1 (Int.toNat s7.2) default).Pages (Int.toNat s9.2) default).Frame/\(List.getD (List.getD s9.1 (Int.toNat s7.2) default).Pages (Int.toNat s9.2) default).Frame<((List.length v5:Nat):Int)) (cond (decide ((1:Int)<(List.getD v5 (Int.toNat (List.getD (List.getD s9.1 (Int.toNat s7.2) default).Pages (Int.toNat s9.2) default).Frame) default)))
    (grd ((0:Int)<=s7.2/\s7.2<((List.length s9.1:Nat):Int)) (grd ((0:Int)<=s9.2/\s9.2<((List.length (List.getD s9.1 (Int.toNat s7.2) default).Pages:Nat):Int)) (some (.go (List.set s9.1 (Int.toNat s7.2) (DGuest.mk (List.getD s9.1 (Int.toNat s7.2) default).Live (DCore.mk ((List.getD s9.1 (Int.toNat s7.2) default).C).Regs ((List.getD s9.1 (Int.toNat s7.2) default).C).Pc ((List.getD s9.1 (Int.toNat s7.2) default).C).Root ((List.getD s9.1 (Int.toNat s7.2) default).C).Vector ((List.getD s9.1 (Int.toNat s7.2) default).C).Saved ((List.getD s9.1 (Int.toNat s7.2) default).C).SavedUser ((List.getD s9.1 (Int.toNat s7.2) default).C).Cause ((List.getD s9.1 (Int.toNat s7.2) default).C).Bad ((List.getD s9.1 (Int.toNat s7.2) default).C).Timer ((List.getD s9.1 (Int.toNat s7.2) default).C).Waits ((List.getD s9.1 (Int.toNat s7.2) default).C).User ((List.getD s9.1 (Int.toNat s7.2) default).C).On ((List.getD s9.1 (Int.toNat s7.2) default).C).Stopped) (List.set (List.getD s9.1 (Int.toNat s7.2) default).Pages (Int.toNat s9.2) (DSlot.mk (List.getD (List.getD s9.1 (Int.toNat s7.2) default).Pages (Int.toNat s9.2) default).Frame false (List.getD (List.getD s9.1 (Int.toNat s7.2) default).Pages (Int.toNat s9.2) default).Dirty)) (List.getD s9.1 (Int.toNat s7.2) default).In (List.getD s9.1 (Int.toNat s7.2) default).Out))))))
    (some (.go s9.1))))
   (some (.go s9.1))))) λj10=>
   JO.run j10 (jM s9))
  (some (.ret (.go s9.1))))
noncomputable def gS (v5:List Int)(s7:(List DGuest)×Int):Option (LO ((List DGuest)×Int) (JO (List DGuest) DHost)):=
 cond (decide (s7.2<(3:Int)))
  (Option.bind (Option.bind (iter (oC v5 s7) (s7.1,(0:Int))) LO.val) λj8=>
   JO.run j8 (uD s7))
  (some (.ret (.go s7.1)))
noncomputable def uE (v2:DHost)(s4:List DGuest):Option DHost:=
 Option.bind (gF (DHost.mk v2.Words s4)) λv5=>
 Option.bind (Option.bind (iter (gS v5) (s4,(0:Int))) LO.val) λj6=>
  JO.run j6 (aFh v2)
noncomputable def tU (s11:(List DGuest)×Int)(s12:List DGuest):Option (LO ((List DGuest)×Int) (JO (List DGuest) DHost)):=some (.next (s12,w64 (s11.2+(1:Int))))
noncomputable def gC (s13:(List DGuest)×Int)(s14:List DGuest):Option (LO ((List DGuest)×Int) (JO (List DGuest) (LO ((List DGuest)×Int) (JO (List DGuest) DHost)))):=some (.next (s14,w64 (s13.2+(1:Int))))
noncomputable def nN (x_h:DHost)(s11:(List DGuest)×Int)(s13:(List DGuest)×Int)(s15:Int):Option (JO (List DGuest) (LO ((List DGuest)×Int) (JO (List DGuest) (LO ((List DGuest)×Int) (JO (List DGuest) DHost))))):=grd ((0:Int)<=s11.2/\s11.2<((List.length s13.1:Nat):Int)) (grd ((0:Int)<=s13.2/\s13.2<((List.length (List.getD s13.1 (Int.toNat s11.2) default).Pages:Nat):Int)) (some (.go (List.set s13.1 (Int.toNat s11.2) (DGuest.mk (List.getD s13.1 (Int.toNat s11.2) default).Live (DCore.mk ((List.getD s13.1 (Int.toNat s11.2) default).C).Regs ((List.getD s13.1 (Int.toNat s11.2) default).C).Pc ((List.getD s13.1 (Int.toNat s11.2) default).C).Root ((List.getD s13.1 (Int.toNat s11.2) default).C).Vector ((List.getD s13.1 (Int.toNat s11.2) default).C).Saved ((List.getD s13.1 (Int.toNat s11.2) default).C).SavedUser ((List.getD s13.1 (Int.toNat s11.2) default).C).Cause ((List.getD s13.1 (Int.toNat s11.2) default).C).Bad ((List.getD s13.1 (Int.toNat s11.2) default).C).Timer ((List.getD s13.1 (Int.toNat s11.2) default).C).Waits ((List.getD s13.1 (Int.toNat s11.2) default).C).User ((List.getD s13.1 (Int.toNat s11.2) default).C).On ((List.getD s13.1 (Int.toNat s11.2) default).C).Stopped) (List.set (List.getD s13.1 (Int.toNat s11.2) default).Pages (Int.toNat s13.2) (DSlot.mk s15 (List.getD (List.getD x_h.Guests (Int.toNat s11.2) default).Pages (Int.toNat s13.2) default).Write (List.getD (List.getD x_h.Guests (Int.toNat s11.2) default).Pages (Int.toNat s13.2) default).Dirty)) (List.getD s13.1 (Int.toNat s11.2) default).In (List.getD s13.1 (Int.toNat s11.2) default).Out)))))
noncomputable def jN (s16:Int×Int)(s17:Int):Option (LO (Int×Int) (JO Int (JO (List DGuest) (LO ((List DGuest)×Int) (JO (List DGuest) (LO ((List DGuest)×Int) (JO (List DGuest) DHost))))))):=some (.next (s17,w64 (s16.2-(1:Int))))
noncomputable def dN (x_h:DHost)(v3:List Int)(s11:(List DGuest)×Int)(s13:(List DGuest)×Int)(s16:Int×Int):Option (LO (Int×Int) (JO Int (JO (List DGuest) (LO ((List DGuest)×Int) (JO (List DGuest) (LO ((List DGuest)×Int) (JO (List DGuest) DHost))))))):=
 cond (decide ((0:Int)<=s16.2))
  (cond (decide ((0:Int)<=s16.1))
   (Option.bind (grd ((0:Int)<=s16.2/\s16.2<((List.length v3:Nat):Int)) (cond (decide ((0:Int)<(List.getD v3 (Int.toNat s16.2) default)))
    (grd ((0:Int)<=s11.2/\s11.2<((List.length x_h.Guests:Nat):Int)) (grd ((0:Int)<=s13.2/\s13.2<((List.length (List.getD x_h.Guests (Int.toNat s11.2) default).Pages:Nat):Int)) (Option.bind (rP x_h s16.2 (List.getD (List.getD x_h.Guests (Int.toNat s11.2) default).Pages (Int.toNat s13.2) default).Frame) λv18=>
     cond v18
      (some (.go s16.2))
      (some (.go s16.1)))))
    (some (.go s16.1)))) λj17=>
    JO.run j17 (jN s16))
   (some (.ret (.go s16.1))))
  (some (.ret (.go s16.1)))
noncomputable def nD (x_h:DHost)(v3:List Int)(s11:(List DGuest)×Int)(s13:(List DGuest)×Int):Option (LO ((List DGuest)×Int) (JO (List DGuest) (LO ((List DGuest)×Int) (JO (List DGuest) DHost)))):=
 grd ((0:Int)<=s11.2/\s11.2<((List.length x_h.Guests:Nat):Int)) (cond (decide (s13.2<((List.length (List.getD x_h.Guests (Int.toNat s11.2) default).Pages:Nat):Int)))
  (Option.bind (grd ((0:Int)<=s11.2/\s11.2<((List.length x_h.Guests:Nat):Int)) (grd ((0:Int)<=s13.2/\s13.2<((List.length (List.getD x_h.Guests (Int.toNat s11.2) default).Pages:Nat):Int)) (Option.bind (Option.bind (iter (dN x_h v3 s11 s13) ((List.getD (List.getD x_h.Guests (Int.toNat s11.2) default).Pages (Int.toNat s13.2) default).Frame,(19:Int))) LO.val) λj15=>
   JO.run j15 (nN x_h s11 s13)))) λj14=>
   JO.run j14 (gC s13))
  (some (.ret (.go s13.1))))
noncomputable def jP (x_h:DHost)(v3:List Int)(s11:(List DGuest)×Int):Option (LO ((List DGuest)×Int) (JO (List DGuest) DHost)):=
 cond (decide (s11.2<(3:Int)))
  (Option.bind (Option.bind (iter (nD x_h v3 s11) (s11.1,(0:Int))) LO.val) λj12=>
   JO.run j12 (tU s11))
  (some (.ret (.go s11.1)))
noncomputable def gX (x_h:DHost):Option DHost:=
 Option.bind (gH x_h) λv1=>
 cond (!v1)
  (some (DHost.mk ([]:List Int) ([]:List DGuest)))
  (Option.bind (kY x_h) λv2=>
  Option.bind (gF x_h) λv3=>
  Option.bind (Option.bind (iter (jP x_h v3) (v2.Guests,(0:Int))) LO.val) λj4=>
   JO.run j4 (uE v2))
noncomputable def g13:Sg tG:=⟨[.st 26],.one (.st 2026),gX⟩
theorem s13:Sok 13 g13:=sgx [(45,.r g45),(46,.r g46),(47,.r g47),(48,.r g48)] ⟨s45,s46,s47,s48,trivial⟩ (.s .o (.s .o (.s .o (.s .o (.j ⟨[2,3],[],[(.c 3 1,.ro 1041)]⟩ (.s .o (.k (.l ⟨[1,2,3,4],[],[(.c 3 1,.ro 1041),(.s 5,.i .i64)]⟩ (.s .o (.j ⟨[1,2,3,4,5],[],[(.c 3 1,.ro 1041)]⟩ (.k (.s .o (.k (.l ⟨[1,2,3,4,5],[],[(.c 3 1,.ro 1041),(.s 6,.i .i64)]⟩ (.s .o (.j ⟨[1,2,3,4,5,6],[],[(.c 3 1,.ro 1041)]⟩ (.k (.s .o (.j ⟨[1,2,3,4,5,6,7],[],[(.c 7 0,.i .i64)]⟩ (.s .o (.k (.l ⟨[1,2,3,4,5,6,7],[],[(.c 7 0,.i .i64),(.s 8,.i .i64)]⟩ (.s .o (.j ⟨[1,2,3,4,5,6,7,8],[],[(.c 7 0,.i .i64)]⟩ .o .o))))) .o))) .o)))))) .o))))) (.s .o (.j ⟨[2,3],[],[(.c 3 1,.ro 1041)]⟩ (.s .o (.k (.l ⟨[2,3,4],[],[(.c 3 1,.ro 1041),(.s 9,.i .i64)]⟩ (.s .o (.j ⟨[2,3,4,9],[],[(.c 3 1,.ro 1041)]⟩ (.k (.s .o (.k (.l ⟨[2,3,4,9],[],[(.c 3 1,.ro 1041),(.s 10,.i .i64)]⟩ (.s .o (.j ⟨[2,3,4,9,10],[],[(.c 3 1,.ro 1041)]⟩ .o .o)))))) .o))))) .o))))))) kr kr kr
theorem aIk{x_h:DHost}{R_:DHost}(hh:gX x_h=some R_):Fn Try.prog 13 [.agg (yU x_h)] (.agg [.own 3 1 (List.length R_.Words) (fl (eI .i64) R_.Words),.own 41 17 (List.length R_.Guests) (fl bV R_.Guests)]):=kc (s13 x_h R_ hh)
end Go.Proofs.Ytkjabgefacfpfaa
