/- Plain functions of the program, and that it hands back what they say. Made by program. -/
import Derived.Test.YtcgggihjcelmhaaGreatWTD
import Derived.Test.YtcgggihjcelmhaaGreatProg
namespace Go.Proofs.YtcgggihjcelmhaaGreat
open Option renaming bind → x4
open Int renaming toNat → x7, tmod → y6, tdiv → n8
open List renaming getD → x8, length → x9, replicate → j0, take → o5, drop → qQK, set → qXU
open Nat renaming zero_le → m9
noncomputable section
open Go.RowKit
set_option maxRecDepth 100000
set_option linter.all false
set_option maxHeartbeats 0
def fS(b7:Int):Option Bool:=
 cond (decide ((0:Int)<=b7))
  (some (decide (b7<=(4095:Int))))
  (some false)
def g55:Sg tG:=⟨[.i .i64],.one .b,fS⟩
theorem s55:Sok 55 g55:=sgx [] trivial .o kr kr kr
def aOl(s1:Unit):Option Bool:=some true
def aAq(a8:List Int)(s2:Int):Option (LO Int (JO Unit Bool)):=
 cond (decide (s2<((a8.length:Nat):Int)))
  (grd ((0:Int)<=s2/\s2<((a8.length:Nat):Int)) (x4 (fS (a8.getD s2.toNat default)) λv3=>
   cond (!v3)
    (some (.ret (.out false)))
    (some (.next (w64 (s2+(1:Int)))))))
  (some (.ret (.go ())))
def iQ(a8:List Int):Option Bool:=
 x4 (x4 (iter (aAq a8) (0:Int)) LO.val) λj1=>
  JO.run j1 aOl
def g71:Sg tG:=⟨[.row 3],.one .b,iQ⟩
theorem s71:Sok 71 g71:=sgx [(55,.r g55)] ⟨s55,trivial⟩ (.s .o (.j ⟨[],[],[]⟩ (.s .o (.k (.l ⟨[5,6],[],[(.s 7,.i .i64)]⟩ .o))) .o)) kr kr kr
def cL(a6:Int):Option Bool:=
 cond (decide ((0:Int)<=a6))
  (some (decide (a6<(64:Int))))
  (some false)
def bUl:Sg tG:=⟨[.i .i64],.one .b,cL⟩
theorem cDg:Sok 161 bUl:=sgx [] trivial .o kr kr kr
def fR(f:Int):Option Bool:=
 cond (decide ((0:Int)<=f))
  (some (decide (f<(8:Int))))
  (some false)
def g46:Sg tG:=⟨[.i .i64],.one .b,fR⟩
theorem s46:Sok 46 g46:=sgx [] trivial .o kr kr kr
def mQ(c1:Int):Option Bool:=
 cond (decide (c1=(-1:Int)))
  (some true)
  (x4 (fR c1) λv1=>
  some v1)
def bUi:Sg tG:=⟨[.i .i64],.one .b,mQ⟩
theorem bZt:Sok 162 bUi:=sgx [(46,.r g46)] ⟨s46,trivial⟩ .o kr kr kr
def qF(a1:DCore):Option Bool:=
 cond (decide (((a1.Regs.length:Nat):Int)=(4:Int)))
  (x4 (iQ a1.Regs) λv1=>
  x4 (cL a1.Pc) λv2=>
  cond v2
   (x4 (cL a1.Vector) λv3=>
   cond v3
    (x4 (cL a1.Saved) λv4=>
    cond v4
     (x4 (cL a1.Bad) λv5=>
     cond (decide ((0:Int)<=a1.Cause))
      (cond v1
       (cond v5
        (x4 (mQ a1.Root) λv6=>
        cond v6
         (cond (decide (a1.Cause<=(4:Int)))
          (x4 (fS a1.Timer) λv7=>
          some v7)
          (some false))
         (some false))
        (some false))
       (some false))
      (cond v1
       (cond v5
        (x4 (mQ a1.Root) λv8=>
        cond v8
         (some false)
         (some false))
        (some false))
       (some false)))
     (cond (decide ((0:Int)<=a1.Cause))
      (cond v1
       (some false)
       (some false))
      (cond v1
       (some false)
       (some false))))
    (cond (decide ((0:Int)<=a1.Cause))
     (cond v1
      (some false)
      (some false))
     (cond v1
      (some false)
      (some false))))
   (cond (decide ((0:Int)<=a1.Cause))
    (cond v1
     (some false)
     (some false))
    (cond v1
     (some false)
     (some false))))
  (x4 (cL a1.Pc) λv9=>
  cond v9
   (x4 (cL a1.Vector) λv10=>
   cond v10
    (x4 (cL a1.Saved) λv11=>
    cond v11
     (x4 (cL a1.Bad) λv12=>
     cond (decide ((0:Int)<=a1.Cause))
      (some false)
      (some false))
     (cond (decide ((0:Int)<=a1.Cause))
      (some false)
      (some false)))
    (cond (decide ((0:Int)<=a1.Cause))
     (some false)
     (some false)))
   (cond (decide ((0:Int)<=a1.Cause))
    (some false)
    (some false)))
def bTm:Sg tG:=⟨[.st 39],.one .b,qF⟩
theorem bZv:Sok 119 bTm:=sgx [(71,.r g71),(161,.r bUl),(162,.r bUi),(55,.r g55)] ⟨s71,cDg,bZt,s55,trivial⟩ .o kr kr kr
def rE(b6:List Int):Option Bool:=
 cond (decide (((b6.length:Nat):Int)=(64:Int)))
  (x4 (iQ b6) λv1=>
  some v1)
  (some false)
def bSa:Sg tG:=⟨[.row 3],.one .b,rE⟩
theorem bZr:Sok 120 bSa:=sgx [(71,.r g71)] ⟨s71,trivial⟩ .o kr kr kr
def lW(a4:List Int):Option Bool:=
 cond (decide (((a4.length:Nat):Int)<=(30:Int)))
  (x4 (iQ a4) λv1=>
  some v1)
  (some false)
def bRz:Sg tG:=⟨[.row 3],.one .b,lW⟩
theorem cDe:Sok 121 bRz:=sgx [(71,.r g71)] ⟨s71,trivial⟩ .o kr kr kr
def pU(a2:DBare):Option Bool:=
 x4 (qF a2.C) λv1=>
 cond v1
  (x4 (rE a2.Mem) λv2=>
  cond v2
   (x4 (lW a2.In) λv3=>
   cond v3
    (x4 (lW a2.Out) λv4=>
    some v4)
    (some false))
   (some false))
  (some false)
def g59:Sg tG:=⟨[.st 41],.one .b,pU⟩
theorem s59:Sok 59 g59:=sgx [(119,.r bTm),(120,.r bSa),(121,.r bRz)] ⟨bZv,bZr,cDe,trivial⟩ .o kr kr kr
def bU(b7:Int)(d5:Int)(d3:Int):Option Bool:=
 cond (decide (d5<=b7))
  (some (decide (b7<=d3)))
  (some false)
def g51:Sg tG:=⟨[.i .i64,.i .i64,.i .i64],.one .b,bU⟩
theorem s51:Sok 51 g51:=sgx [] trivial .o kr kr kr
def fO(b7:Int):Option Bool:=
 x4 (bU b7 (0:Int) (4095:Int)) λv1=>
 some v1
def aWb:Sg tG:=⟨[.i .i64],.one .b,fO⟩
theorem bBr:Sok 158 aWb:=sgx [(51,.r g51)] ⟨s51,trivial⟩ .o kr kr kr
def tT(a8:List Int)(c8:Int)(s1:Unit):Option Bool:=some (decide (((a8.length:Nat):Int)<=c8))
def tK(a8:List Int)(s2:Int):Option (LO Int (JO Unit Bool)):=
 cond (decide (s2<((a8.length:Nat):Int)))
  (grd ((0:Int)<=s2/\s2<((a8.length:Nat):Int)) (x4 (fO (a8.getD s2.toNat default)) λv3=>
   cond (!v3)
    (some (.ret (.out false)))
    (some (.next (w64 (s2+(1:Int)))))))
  (some (.ret (.go ())))
def dZ(a8:List Int)(c8:Int):Option Bool:=
 x4 (x4 (iter (tK a8) (0:Int)) LO.val) λj1=>
  JO.run j1 (tT a8 c8)
def bVv:Sg tG:=⟨[.row 3,.i .i64],.one .b,dZ⟩
theorem cAy:Sok 176 bVv:=sgx [(158,.r aWb)] ⟨bBr,trivial⟩ (.s .o (.j ⟨[0,1],[],[]⟩ (.s .o (.k (.l ⟨[0,1],[],[(.s 5,.i .i64)]⟩ .o))) .o)) kr kr kr
def aCz(a1:DCore)(s1:Unit):Option Bool:=
 cond (decide (((a1.Regs.length:Nat):Int)=(4:Int)))
  (x4 (bU a1.Pc (0:Int) (63:Int)) λv2=>
  cond v2
   (x4 (bU a1.Vector (0:Int) (63:Int)) λv3=>
   cond v3
    (x4 (bU a1.Saved (0:Int) (63:Int)) λv4=>
    cond v4
     (x4 (bU a1.Bad (0:Int) (63:Int)) λv5=>
     cond v5
      (x4 (bU a1.Root (-1:Int) (7:Int)) λv6=>
      cond v6
       (x4 (bU a1.Cause (0:Int) (4:Int)) λv7=>
       cond v7
        (x4 (fO a1.Timer) λv8=>
        some v8)
        (some false))
       (some false))
      (some false))
     (some false))
    (some false))
   (some false))
  (some false)
def aCq(a1:DCore)(s9:Int):Option (LO Int (JO Unit Bool)):=
 cond (decide (s9<((a1.Regs.length:Nat):Int)))
  (grd ((0:Int)<=s9/\s9<((a1.Regs.length:Nat):Int)) (x4 (fO (a1.Regs.getD s9.toNat default)) λv10=>
   cond (!v10)
    (some (.ret (.out false)))
    (some (.next (w64 (s9+(1:Int)))))))
  (some (.ret (.go ())))
def mN(a1:DCore):Option Bool:=
 x4 (x4 (iter (aCq a1) (0:Int)) LO.val) λj1=>
  JO.run j1 (aCz a1)
def bTr:Sg tG:=⟨[.st 39],.one .b,mN⟩
theorem cEf:Sok 178 bTr:=sgx [(158,.r aWb),(51,.r g51)] ⟨bBr,s51,trivial⟩ (.s .o (.j ⟨[1],[],[]⟩ (.s .o (.k (.l ⟨[1],[],[(.s 3,.i .i64)]⟩ .o))) .o)) kr kr kr
def aEb(b6:List Int)(s1:Unit):Option Bool:=some (decide (((b6.length:Nat):Int)=(64:Int)))
def aEj(b6:List Int)(s2:Int):Option (LO Int (JO Unit Bool)):=
 cond (decide (s2<((b6.length:Nat):Int)))
  (grd ((0:Int)<=s2/\s2<((b6.length:Nat):Int)) (x4 (fO (b6.getD s2.toNat default)) λv3=>
   cond (!v3)
    (some (.ret (.out false)))
    (some (.next (w64 (s2+(1:Int)))))))
  (some (.ret (.go ())))
def wI(b6:List Int):Option Bool:=
 x4 (x4 (iter (aEj b6) (0:Int)) LO.val) λj1=>
  JO.run j1 (aEb b6)
def cEq:Sg tG:=⟨[.row 3],.one .b,wI⟩
theorem cGi:Sok 207 cEq:=sgx [(158,.r aWb)] ⟨bBr,trivial⟩ (.s .o (.j ⟨[0],[],[]⟩ (.s .o (.k (.l ⟨[0],[],[(.s 3,.i .i64)]⟩ .o))) .o)) kr kr kr
def uO(a2:DBare):Option Bool:=
 x4 (mN a2.C) λv1=>
 cond v1
  (x4 (wI a2.Mem) λv2=>
  cond v2
   (x4 (dZ a2.In (30:Int)) λv3=>
   cond v3
    (x4 (dZ a2.Out (30:Int)) λv4=>
    some v4)
    (some false))
   (some false))
  (some false)
def cAa:Sg tG:=⟨[.st 41],.one .b,uO⟩
theorem cGb:Sok 175 cAa:=sgx [(178,.r bTr),(207,.r cEq),(176,.r bVv)] ⟨cEf,cGi,cAy,trivial⟩ .o kr kr kr
def qX(a1:DCore):Option Bool:=
 cond (decide (a1.Pc=(0:Int)))
  (cond (decide (a1.Root=(0:Int)))
   (cond (decide (a1.Vector=(0:Int)))
    (cond (decide (a1.Saved=(0:Int)))
     (cond a1.SavedUser
      (cond (decide (((a1.Regs.length:Nat):Int)=(0:Int)))
       (cond (decide (a1.Bad=(0:Int)))
        (cond (decide (a1.Cause=(0:Int)))
         (cond (decide (a1.Timer=(0:Int)))
          (some false)
          (some false))
         (some false))
        (some false))
       (some false))
      (cond a1.Waits
       (cond (decide (((a1.Regs.length:Nat):Int)=(0:Int)))
        (cond (decide (a1.Bad=(0:Int)))
         (cond (decide (a1.Cause=(0:Int)))
          (cond (decide (a1.Timer=(0:Int)))
           (some false)
           (some false))
          (some false))
         (some false))
        (some false))
       (cond a1.User
        (cond (decide (((a1.Regs.length:Nat):Int)=(0:Int)))
         (cond (decide (a1.Bad=(0:Int)))
          (cond (decide (a1.Cause=(0:Int)))
           (cond (decide (a1.Timer=(0:Int)))
            (some false)
            (some false))
           (some false))
          (some false))
         (some false))
        (cond a1.On
         (cond (decide (((a1.Regs.length:Nat):Int)=(0:Int)))
          (cond (decide (a1.Bad=(0:Int)))
           (cond (decide (a1.Cause=(0:Int)))
            (cond (decide (a1.Timer=(0:Int)))
             (some false)
             (some false))
            (some false))
           (some false))
          (some false))
         (cond (decide (((a1.Regs.length:Nat):Int)=(0:Int)))
          (cond (decide (a1.Bad=(0:Int)))
           (cond (decide (a1.Cause=(0:Int)))
            (cond (decide (a1.Timer=(0:Int)))
             (some (!a1.Stopped))
             (some false))
            (some false))
           (some false))
          (some false))))))
     (cond a1.SavedUser
      (cond (decide (((a1.Regs.length:Nat):Int)=(0:Int)))
       (some false)
       (some false))
      (cond a1.Waits
       (cond (decide (((a1.Regs.length:Nat):Int)=(0:Int)))
        (some false)
        (some false))
       (cond a1.User
        (cond (decide (((a1.Regs.length:Nat):Int)=(0:Int)))
         (some false)
         (some false))
        (cond a1.On
         (cond (decide (((a1.Regs.length:Nat):Int)=(0:Int)))
          (some false)
          (some false))
         (cond (decide (((a1.Regs.length:Nat):Int)=(0:Int)))
          (some false)
          (some false)))))))
    (cond a1.SavedUser
     (cond (decide (((a1.Regs.length:Nat):Int)=(0:Int)))
      (some false)
      (some false))
     (cond a1.Waits
      (cond (decide (((a1.Regs.length:Nat):Int)=(0:Int)))
       (some false)
       (some false))
      (cond a1.User
       (cond (decide (((a1.Regs.length:Nat):Int)=(0:Int)))
        (some false)
        (some false))
       (cond a1.On
        (cond (decide (((a1.Regs.length:Nat):Int)=(0:Int)))
         (some false)
         (some false))
        (cond (decide (((a1.Regs.length:Nat):Int)=(0:Int)))
         (some false)
         (some false)))))))
   (cond a1.SavedUser
    (cond (decide (((a1.Regs.length:Nat):Int)=(0:Int)))
     (some false)
     (some false))
    (cond a1.Waits
     (cond (decide (((a1.Regs.length:Nat):Int)=(0:Int)))
      (some false)
      (some false))
     (cond a1.User
      (cond (decide (((a1.Regs.length:Nat):Int)=(0:Int)))
       (some false)
       (some false))
      (cond a1.On
       (cond (decide (((a1.Regs.length:Nat):Int)=(0:Int)))
        (some false)
        (some false))
       (cond (decide (((a1.Regs.length:Nat):Int)=(0:Int)))
        (some false)
        (some false)))))))
  (cond a1.SavedUser
   (cond (decide (((a1.Regs.length:Nat):Int)=(0:Int)))
    (some false)
    (some false))
   (cond a1.Waits
    (cond (decide (((a1.Regs.length:Nat):Int)=(0:Int)))
     (some false)
     (some false))
    (cond a1.User
     (cond (decide (((a1.Regs.length:Nat):Int)=(0:Int)))
      (some false)
      (some false))
     (cond a1.On
      (cond (decide (((a1.Regs.length:Nat):Int)=(0:Int)))
       (some false)
       (some false))
      (cond (decide (((a1.Regs.length:Nat):Int)=(0:Int)))
       (some false)
       (some false))))))
def cAg:Sg tG:=⟨[.st 39],.one .b,qX⟩
theorem cFz:Sok 202 cAg:=sgx [] trivial .o kr kr kr
def nT(a3:DGuest):Option Bool:=
 x4 (qX a3.C) λv1=>
 cond v1
  (cond (decide (((a3.Pages.length:Nat):Int)=(0:Int)))
   (cond (decide (((a3.In.length:Nat):Int)=(0:Int)))
    (some (decide (((a3.Out.length:Nat):Int)=(0:Int))))
    (some false))
   (some false))
  (some false)
def cAz:Sg tG:=⟨[.st 94],.one .b,nT⟩
theorem cGg:Sok 170 cAz:=sgx [(202,.r cAg)] ⟨cFz,trivial⟩ .o kr kr kr
def uJ(c6:DSlot):Option Bool:=
 cond (decide (c6.Frame=(-1:Int)))
  (cond (!c6.Write)
   (some (!c6.Dirty))
   (some false))
  (cond (decide ((0:Int)<=c6.Frame))
   (some (decide (c6.Frame<(20:Int))))
   (some false))
def cDx:Sg tG:=⟨[.st 91],.one .b,uJ⟩
theorem cId:Sok 203 cDx:=sgx [] trivial .o kr kr kr
def aNz(s1:Unit):Option Bool:=some true
def aAw(a5:List DSlot)(s2:Int):Option (LO Int (JO Unit Bool)):=
 cond (decide (s2<((a5.length:Nat):Int)))
  (grd ((0:Int)<=s2/\s2<((a5.length:Nat):Int)) (x4 (uJ (DSlot.mk (a5.getD s2.toNat default).Frame (a5.getD s2.toNat default).Write (a5.getD s2.toNat default).Dirty)) λv3=>
   cond (!v3)
    (some (.ret (.out false)))
    (some (.next (w64 (s2+(1:Int)))))))
  (some (.ret (.go ())))
def sW(a5:List DSlot):Option Bool:=
 cond (!decide (((a5.length:Nat):Int)=(8:Int)))
  (some false)
  (x4 (x4 (iter (aAw a5) (0:Int)) LO.val) λj1=>
   JO.run j1 aNz)
def bZj:Sg tG:=⟨[.row 91],.one .b,sW⟩
theorem cIf:Sok 171 bZj:=sgx [(203,.r cDx)] ⟨cId,trivial⟩ (.s .o (.s .o (.j ⟨[],[],[]⟩ (.s .o (.k (.l ⟨[8,9],[],[(.s 10,.i .i64)]⟩ .o))) .o))) kr kr kr
def oQ(a3:DGuest):Option Bool:=
 cond (!a3.Live)
  (x4 (nT a3) λv1=>
  some v1)
  (x4 (qF a3.C) λv2=>
  cond v2
   (x4 (sW a3.Pages) λv3=>
   cond v3
    (x4 (lW a3.In) λv4=>
    cond v4
     (x4 (lW a3.Out) λv5=>
     some v5)
     (some false))
    (some false))
   (some false))
def cEl:Sg tG:=⟨[.st 94],.one .b,oQ⟩
theorem cIk:Sok 133 cEl:=sgx [(170,.r cAz),(119,.r bTm),(171,.r bZj),(121,.r bRz)] ⟨cGg,bZv,cIf,cDe,trivial⟩ .o kr kr kr
def aLd(s1:Unit):Option Bool:=some true
def mT(a:List DGuest)(s2:Int):Option (LO Int (JO Unit Bool)):=
 cond (decide (s2<((a.length:Nat):Int)))
  (grd ((0:Int)<=s2/\s2<((a.length:Nat):Int)) (x4 (oQ (DGuest.mk (a.getD s2.toNat default).Live (DCore.mk ((a.getD s2.toNat default).C).Regs ((a.getD s2.toNat default).C).Pc ((a.getD s2.toNat default).C).Root ((a.getD s2.toNat default).C).Vector ((a.getD s2.toNat default).C).Saved ((a.getD s2.toNat default).C).SavedUser ((a.getD s2.toNat default).C).Cause ((a.getD s2.toNat default).C).Bad ((a.getD s2.toNat default).C).Timer ((a.getD s2.toNat default).C).Waits ((a.getD s2.toNat default).C).User ((a.getD s2.toNat default).C).On ((a.getD s2.toNat default).C).Stopped) (a.getD s2.toNat default).Pages (a.getD s2.toNat default).In (a.getD s2.toNat default).Out)) λv3=>
   cond (!v3)
    (some (.ret (.out false)))
    (some (.next (w64 (s2+(1:Int)))))))
  (some (.ret (.go ())))
def qT(a:List DGuest):Option Bool:=
 cond (!decide (((a.length:Nat):Int)=(3:Int)))
  (some false)
  (x4 (x4 (iter (mT a) (0:Int)) LO.val) λj1=>
   JO.run j1 aLd)
def g72:Sg tG:=⟨[.row 94],.one .b,qT⟩
theorem s72:Sok 72 g72:=sgx [(133,.r cEl)] ⟨cIk,trivial⟩ (.s .o (.s .o (.j ⟨[],[],[]⟩ (.s .o (.k (.l ⟨[8,9],[],[(.s 10,.i .i64)]⟩ .o))) .o))) kr kr kr
def vV(s1:List Int):Option (List Int):=some s1
def vW(s2:(List Int)×Int)(s3:List Int):Option (LO ((List Int)×Int) (JO (List Int) (List Int))):=some (.next (s3,w64 (s2.2+(1:Int))))
def vS(s4:(List Int)×Int)(s5:List Int):Option (LO ((List Int)×Int) (JO (List Int) (LO ((List Int)×Int) (JO (List Int) (List Int))))):=some (.next (s5,w64 (s4.2+(1:Int))))
def gF(a:List DGuest)(s2:(List Int)×Int)(s4:(List Int)×Int):Option (LO ((List Int)×Int) (JO (List Int) (LO ((List Int)×Int) (JO (List Int) (List Int))))):=
 cond (decide (s4.2<((x9 (a.getD s2.2.toNat default).Pages:Nat):Int)))
  (x4 (grd ((0:Int)<=s4.2/\s4.2<((x9 (a.getD s2.2.toNat default).Pages:Nat):Int)) (cond (!decide ((x8 (a.getD s2.2.toNat default).Pages s4.2.toNat default).Frame=(-1:Int)))
   (grd ((0:Int)<=(x8 (a.getD s2.2.toNat default).Pages s4.2.toNat default).Frame/\(x8 (a.getD s2.2.toNat default).Pages s4.2.toNat default).Frame<((s4.1.length:Nat):Int)) (grd ((0:Int)<=(x8 (a.getD s2.2.toNat default).Pages s4.2.toNat default).Frame/\(x8 (a.getD s2.2.toNat default).Pages s4.2.toNat default).Frame<((s4.1.length:Nat):Int)) (some (.go (s4.1.set (x7 (x8 (a.getD s2.2.toNat default).Pages s4.2.toNat default).Frame) (w64 ((s4.1.getD (x7 (x8 (a.getD s2.2.toNat default).Pages s4.2.toNat default).Frame) default)+(1:Int))))))))
   (some (.go s4.1)))) λj5=>
   JO.run j5 (vS s4))
  (some (.ret (.go s4.1)))
def jW(a:List DGuest)(s2:(List Int)×Int):Option (LO ((List Int)×Int) (JO (List Int) (List Int))):=
 cond (decide (s2.2<((a.length:Nat):Int)))
  (x4 (grd ((0:Int)<=s2.2/\s2.2<((a.length:Nat):Int)) (x4 (iter (gF a s2) (s2.1,(0:Int))) LO.val)) λj3=>
   JO.run j3 (vW s2))
  (some (.ret (.go s2.1)))
def fZ(a:List DGuest):Option (List Int):=
 x4 (x4 (iter (jW a) ((j0 (x7 (20:Int)) (0:Int)),(0:Int))) LO.val) λj1=>
  JO.run j1 vV
def bMl:Sg tG:=⟨[.row 94],.one (.row 3),fZ⟩
theorem bSe:Sok 134 bMl:=sgx [] trivial (.s .o (.s .o (.j ⟨[],[],[(.s 3,.ro 3)]⟩ (.s .o (.k (.l ⟨[9,10],[],[(.s 3,.ro 3),(.s 11,.i .i64)]⟩ (.s .o (.s .o (.j ⟨[9,10,11],[],[(.s 3,.ro 3)]⟩ (.k (.s .o (.s .o (.k (.l ⟨[9,10,11,16,17],[],[(.s 3,.ro 3),(.s 18,.i .i64)]⟩ (.s .o (.s .o (.j ⟨[9,10,11,16,17,18],[],[(.s 3,.ro 3)]⟩ .o .o)))))))) .o)))))) .o))) kr kr kr
def aBo(s2:Unit):Option Bool:=some true
def qQ(s3:Int)(s4:Unit):Option (LO Int (JO Unit Bool)):=some (.next (w64 (s3+(1:Int))))
def lH(s5:Int)(s6:Unit):Option (LO Int (JO Unit (LO Int (JO Unit Bool)))):=some (.next (w64 (s5+(1:Int))))
def eK(a:List DGuest)(v1:List Int)(s3:Int)(s5:Int):Option (LO Int (JO Unit (LO Int (JO Unit Bool)))):=
 cond (decide (s5<((x9 (a.getD s3.toNat default).Pages:Nat):Int)))
  (x4 (grd ((0:Int)<=s5/\s5<((x9 (a.getD s3.toNat default).Pages:Nat):Int)) (cond (x8 (a.getD s3.toNat default).Pages s5.toNat default).Write
   (grd ((0:Int)<=(x8 (a.getD s3.toNat default).Pages s5.toNat default).Frame/\(x8 (a.getD s3.toNat default).Pages s5.toNat default).Frame<((v1.length:Nat):Int)) (cond (decide ((1:Int)<(v1.getD (x7 (x8 (a.getD s3.toNat default).Pages s5.toNat default).Frame) default)))
    (some (.out (.ret (.out (.ret (.out false))))))
    (some (.go ()))))
   (some (.go ())))) λj6=>
   JO.run j6 (lH s5))
  (some (.ret (.go ())))
def gH(a:List DGuest)(v1:List Int)(s3:Int):Option (LO Int (JO Unit Bool)):=
 cond (decide (s3<((a.length:Nat):Int)))
  (x4 (grd ((0:Int)<=s3/\s3<((a.length:Nat):Int)) (x4 (iter (eK a v1 s3) (0:Int)) LO.val)) λj4=>
   JO.run j4 (qQ s3))
  (some (.ret (.go ())))
def iU(a:List DGuest):Option Bool:=
 x4 (fZ a) λv1=>
 x4 (x4 (iter (gH a v1) (0:Int)) LO.val) λj2=>
  JO.run j2 aBo
def g73:Sg tG:=⟨[.row 94],.one .b,iU⟩
theorem s73:Sok 73 g73:=sgx [(134,.r bMl)] ⟨bSe,trivial⟩ (.s .o (.s .o (.j ⟨[],[],[]⟩ (.s .o (.k (.l ⟨[3,10,11],[],[(.s 12,.i .i64)]⟩ (.s .o (.s .o (.j ⟨[3,10,11,12],[],[]⟩ (.k (.s .o (.s .o (.k (.l ⟨[3,10,11,12,17,18],[],[(.s 19,.i .i64)]⟩ (.s .o (.s .o (.j ⟨[3,10,11,12,17,18,19],[],[]⟩ .o .o)))))))) .o)))))) .o))) kr kr kr
def mP(a0:DHost):Option Bool:=
 cond (decide (((a0.Words.length:Nat):Int)=(160:Int)))
  (x4 (iQ a0.Words) λv1=>
  cond v1
   (x4 (qT a0.Guests) λv2=>
   cond v2
    (x4 (iU a0.Guests) λv3=>
    some v3)
    (some false))
   (some false))
  (some false)
def g22:Sg tG:=⟨[.st 26],.one .b,mP⟩
theorem s22:Sok 22 g22:=sgx [(71,.r g71),(72,.r g72),(73,.r g73)] ⟨s71,s72,s73,trivial⟩ .o kr kr kr
theorem aXj{a0:DHost}{R_:Bool}(hh:mP a0=some R_):Fn Tryz.prog 22 [.agg (dE a0)] (.bool R_):=kc (s22 a0 R_ hh)
def qB(q:DGuest):Option Bool:=
 cond (decide (((q.C.Regs.length:Nat):Int)=(0:Int)))
  (cond (decide (q.C.Pc=(0:Int)))
   (cond (decide (q.C.Root=(0:Int)))
    (cond (decide (q.C.Vector=(0:Int)))
     (cond (decide (q.C.Saved=(0:Int)))
      (cond (!q.C.SavedUser)
       (cond (decide (q.C.Cause=(0:Int)))
        (cond (decide (q.C.Bad=(0:Int)))
         (cond (decide (q.C.Timer=(0:Int)))
          (cond (!q.C.Waits)
           (cond (!q.C.User)
            (cond (!q.C.On)
             (cond (!q.C.Stopped)
              (cond (decide (((q.Pages.length:Nat):Int)=(0:Int)))
               (cond (decide (((q.In.length:Nat):Int)=(0:Int)))
                (some (decide (((q.Out.length:Nat):Int)=(0:Int))))
                (some false))
               (some false))
              (some false))
             (some false))
            (some false))
           (some false))
          (some false))
         (some false))
        (some false))
       (some false))
      (some false))
     (some false))
    (some false))
   (some false))
  (some false)
def bZm:Sg tG:=⟨[.st 94],.one .b,qB⟩
theorem cHg:Sok 177 bZm:=sgx [] trivial .o kr kr kr
def aPr(s3:Unit):Option Bool:=some true
def vD(s4:Int)(s5:Unit):Option (LO Int (JO Unit Bool)):=some (.next (w64 (s4+(1:Int))))
def pG(s2:(List Int)×(List Bool))(s4:Int):Option (LO Int (JO Unit Bool)):=
 cond (decide (s4<(20:Int)))
  (x4 (grd ((0:Int)<=s4/\s4<((s2.1.length:Nat):Int)) (cond (decide ((1:Int)<(s2.1.getD s4.toNat default)))
   (grd ((0:Int)<=s4/\s4<((s2.2.length:Nat):Int)) (cond (s2.2.getD s4.toNat default)
    (some (.out (.ret (.out false))))
    (some (.go ()))))
   (some (.go ())))) λj5=>
   JO.run j5 (vD s4))
  (some (.ret (.go ())))
def aCn(s2:(List Int)×(List Bool)):Option Bool:=
 x4 (x4 (iter (pG s2) (0:Int)) LO.val) λj3=>
  JO.run j3 aPr
def uY(s6:(List Int)×(List Bool)×Int)(s7:(List Int)×(List Bool)):Option (LO ((List Int)×(List Bool)×Int) (JO ((List Int)×(List Bool)) Bool)):=some (.next (s7.1,s7.2,w64 (s6.2.2+(1:Int))))
def tV(s12:(List Int)×(List Bool)×Int)(s13:(List Bool)×(List Int)):Option (LO ((List Int)×(List Bool)×Int) (JO ((List Int)×(List Bool)) (LO ((List Int)×(List Bool)×Int) (JO ((List Int)×(List Bool)) Bool)))):=some (.next (s13.2,s13.1,w64 (s12.2.2+(1:Int))))
def tU(a0:DHost)(s6:(List Int)×(List Bool)×Int)(s12:(List Int)×(List Bool)×Int)(s14:Unit):Option (JO ((List Bool)×(List Int)) (LO ((List Int)×(List Bool)×Int) (JO ((List Int)×(List Bool)) (LO ((List Int)×(List Bool)×Int) (JO ((List Int)×(List Bool)) Bool))))):=
 cond (decide ((0:Int)<=(x8 (a0.Guests.getD s6.2.2.toNat default).Pages s12.2.2.toNat default).Frame))
  (grd ((0:Int)<=(x8 (a0.Guests.getD s6.2.2.toNat default).Pages s12.2.2.toNat default).Frame/\(x8 (a0.Guests.getD s6.2.2.toNat default).Pages s12.2.2.toNat default).Frame<((s12.1.length:Nat):Int)) (grd ((0:Int)<=(x8 (a0.Guests.getD s6.2.2.toNat default).Pages s12.2.2.toNat default).Frame/\(x8 (a0.Guests.getD s6.2.2.toNat default).Pages s12.2.2.toNat default).Frame<((s12.1.length:Nat):Int)) (grd ((0:Int)<=(x8 (a0.Guests.getD s6.2.2.toNat default).Pages s12.2.2.toNat default).Frame/\(x8 (a0.Guests.getD s6.2.2.toNat default).Pages s12.2.2.toNat default).Frame<((s12.2.1.length:Nat):Int)) (cond (s12.2.1.getD (x7 (x8 (a0.Guests.getD s6.2.2.toNat default).Pages s12.2.2.toNat default).Frame) default)
   (grd ((0:Int)<=(x8 (a0.Guests.getD s6.2.2.toNat default).Pages s12.2.2.toNat default).Frame/\(x8 (a0.Guests.getD s6.2.2.toNat default).Pages s12.2.2.toNat default).Frame<((s12.2.1.length:Nat):Int)) (some (.go ((s12.2.1.set (x7 (x8 (a0.Guests.getD s6.2.2.toNat default).Pages s12.2.2.toNat default).Frame) true),s12.1.set (x7 (x8 (a0.Guests.getD s6.2.2.toNat default).Pages s12.2.2.toNat default).Frame) (w64 ((s12.1.getD (x7 (x8 (a0.Guests.getD s6.2.2.toNat default).Pages s12.2.2.toNat default).Frame) default)+(1:Int)))))))
   (grd ((0:Int)<=(x8 (a0.Guests.getD s6.2.2.toNat default).Pages s12.2.2.toNat default).Frame/\(x8 (a0.Guests.getD s6.2.2.toNat default).Pages s12.2.2.toNat default).Frame<((s12.2.1.length:Nat):Int)) (some (.go ((s12.2.1.set (x7 (x8 (a0.Guests.getD s6.2.2.toNat default).Pages s12.2.2.toNat default).Frame) (x8 (a0.Guests.getD s6.2.2.toNat default).Pages s12.2.2.toNat default).Write),s12.1.set (x7 (x8 (a0.Guests.getD s6.2.2.toNat default).Pages s12.2.2.toNat default).Frame) (w64 ((s12.1.getD (x7 (x8 (a0.Guests.getD s6.2.2.toNat default).Pages s12.2.2.toNat default).Frame) default)+(1:Int)))))))))))
  (some (.go (s12.2.1,s12.1)))
def kV(a0:DHost)(s6:(List Int)×(List Bool)×Int)(s12:(List Int)×(List Bool)×Int):Option (LO ((List Int)×(List Bool)×Int) (JO ((List Int)×(List Bool)) (LO ((List Int)×(List Bool)×Int) (JO ((List Int)×(List Bool)) Bool)))):=
 cond (decide (s12.2.2<((x9 (a0.Guests.getD s6.2.2.toNat default).Pages:Nat):Int)))
  (x4 (grd ((0:Int)<=s12.2.2/\s12.2.2<((x9 (a0.Guests.getD s6.2.2.toNat default).Pages:Nat):Int)) (x4 (x4 (bU (x8 (a0.Guests.getD s6.2.2.toNat default).Pages s12.2.2.toNat default).Frame (-1:Int) (19:Int)) λv15=>
   cond (!v15)
    (some (.out (.out (.ret (.out (.ret (.out false)))))))
    (cond (decide ((x8 (a0.Guests.getD s6.2.2.toNat default).Pages s12.2.2.toNat default).Frame=(-1:Int)))
     (cond (x8 (a0.Guests.getD s6.2.2.toNat default).Pages s12.2.2.toNat default).Write
      (some (.out (.out (.ret (.out (.ret (.out false)))))))
      (cond (x8 (a0.Guests.getD s6.2.2.toNat default).Pages s12.2.2.toNat default).Dirty
       (some (.out (.out (.ret (.out (.ret (.out false)))))))
       (some (.go ()))))
     (some (.go ())))) λj14=>
   JO.run j14 (tU a0 s6 s12))) λj13=>
   JO.run j13 (tV s12))
  (some (.ret (.go (s12.1,s12.2.1))))
def mE(a0:DHost)(s6:(List Int)×(List Bool)×Int):Option (LO ((List Int)×(List Bool)×Int) (JO ((List Int)×(List Bool)) Bool)):=
 cond (decide (s6.2.2<((a0.Guests.length:Nat):Int)))
  (x4 (grd ((0:Int)<=s6.2.2/\s6.2.2<((a0.Guests.length:Nat):Int)) (cond (!(a0.Guests.getD s6.2.2.toNat default).Live)
   (x4 (qB (DGuest.mk (a0.Guests.getD s6.2.2.toNat default).Live (DCore.mk ((a0.Guests.getD s6.2.2.toNat default).C).Regs ((a0.Guests.getD s6.2.2.toNat default).C).Pc ((a0.Guests.getD s6.2.2.toNat default).C).Root ((a0.Guests.getD s6.2.2.toNat default).C).Vector ((a0.Guests.getD s6.2.2.toNat default).C).Saved ((a0.Guests.getD s6.2.2.toNat default).C).SavedUser ((a0.Guests.getD s6.2.2.toNat default).C).Cause ((a0.Guests.getD s6.2.2.toNat default).C).Bad ((a0.Guests.getD s6.2.2.toNat default).C).Timer ((a0.Guests.getD s6.2.2.toNat default).C).Waits ((a0.Guests.getD s6.2.2.toNat default).C).User ((a0.Guests.getD s6.2.2.toNat default).C).On ((a0.Guests.getD s6.2.2.toNat default).C).Stopped) (a0.Guests.getD s6.2.2.toNat default).Pages (a0.Guests.getD s6.2.2.toNat default).In (a0.Guests.getD s6.2.2.toNat default).Out)) λv8=>
   cond (!v8)
    (some (.out (.ret (.out false))))
    (some (.go (s6.1,s6.2.1))))
   (x4 (mN (DCore.mk ((a0.Guests.getD s6.2.2.toNat default).C).Regs ((a0.Guests.getD s6.2.2.toNat default).C).Pc ((a0.Guests.getD s6.2.2.toNat default).C).Root ((a0.Guests.getD s6.2.2.toNat default).C).Vector ((a0.Guests.getD s6.2.2.toNat default).C).Saved ((a0.Guests.getD s6.2.2.toNat default).C).SavedUser ((a0.Guests.getD s6.2.2.toNat default).C).Cause ((a0.Guests.getD s6.2.2.toNat default).C).Bad ((a0.Guests.getD s6.2.2.toNat default).C).Timer ((a0.Guests.getD s6.2.2.toNat default).C).Waits ((a0.Guests.getD s6.2.2.toNat default).C).User ((a0.Guests.getD s6.2.2.toNat default).C).On ((a0.Guests.getD s6.2.2.toNat default).C).Stopped)) λv9=>
   cond (!v9)
    (some (.out (.ret (.out false))))
    (cond (!decide (((x9 (a0.Guests.getD s6.2.2.toNat default).Pages:Nat):Int)=(8:Int)))
     (some (.out (.ret (.out false))))
     (x4 (dZ (a0.Guests.getD s6.2.2.toNat default).In (30:Int)) λv10=>
     cond (!v10)
      (some (.out (.ret (.out false))))
      (x4 (dZ (a0.Guests.getD s6.2.2.toNat default).Out (30:Int)) λv11=>
      cond (!v11)
       (some (.out (.ret (.out false))))
       (x4 (iter (kV a0 s6) (s6.1,s6.2.1,(0:Int))) LO.val))))))) λj7=>
   JO.run j7 (uY s6))
  (some (.ret (.go (s6.1,s6.2.1))))
def kC(a0:DHost):Option Bool:=
 x4 (dZ a0.Words (160:Int)) λv1=>
 cond (!v1)
  (some false)
  (cond (!decide (((a0.Words.length:Nat):Int)=(160:Int)))
   (some false)
   (cond (!decide (((a0.Guests.length:Nat):Int)=(3:Int)))
    (some false)
    (x4 (x4 (iter (mE a0) ((j0 (x7 (20:Int)) (0:Int)),j0 (x7 (20:Int)) false,(0:Int))) LO.val) λj2=>
     JO.run j2 aCn)))
def bBe:Sg tG:=⟨[.st 26],.one .b,kC⟩
theorem bNb:Sok 142 bBe:=sgx [(176,.r bVv),(177,.r bZm),(178,.r bTr),(51,.r g51)] ⟨cAy,cHg,cEf,s51,trivial⟩ (.s .o (.s .o (.s .o (.s .o (.j ⟨[],[],[(.s 3,.ro 3),(.s 4,.ro 4)]⟩ (.s .o (.k (.l ⟨[1],[],[(.s 3,.ro 3),(.s 4,.ro 4),(.s 5,.i .i64)]⟩ (.s .o (.j ⟨[1,5],[],[(.s 3,.ro 3),(.s 4,.ro 4)]⟩ (.k (.s .o (.s .o (.s .o (.s .o (.k (.l ⟨[1,5,6],[],[(.s 3,.ro 3),(.s 4,.ro 4),(.s 7,.i .i64)]⟩ (.s .o (.j ⟨[1,5,6,7],[],[(.s 4,.ro 4),(.s 3,.ro 3)]⟩ (.k (.s .o (.j ⟨[1,3,4,5,6,7,8],[],[]⟩ .o .o))) .o))))))))) .o))))) (.j ⟨[],[],[]⟩ (.s .o (.k (.l ⟨[3,4],[],[(.s 9,.i .i64)]⟩ (.s .o (.j ⟨[3,4,9],[],[]⟩ .o .o))))) .o)))))) kr kr kr
def aHe(s1:List Int):Option (List Int):=some s1
def wQ(s3:(List Int)×Int)(s4:List Int):Option (LO ((List Int)×Int) (JO (List Int) (List Int))):=some (.next (s4,w64 (s3.2+(1:Int))))
def lC(v2:List Int)(s3:(List Int)×Int):Option (LO ((List Int)×Int) (JO (List Int) (List Int))):=
 cond (decide (s3.2<((v2.length:Nat):Int)))
  (x4 (grd ((0:Int)<=s3.2/\s3.2<((v2.length:Nat):Int)) (cond (decide ((v2.getD s3.2.toNat default)=(0:Int)))
   (grd ((s3.1.length+x9 ([s3.2]:List Int))*8<=2^47/\s3.1.length+x9 ([s3.2]:List Int)<=2^47) (some (.go (s3.1++([s3.2]:List Int)))))
   (some (.go s3.1)))) λj4=>
   JO.run j4 (wQ s3))
  (some (.ret (.go s3.1)))
def nS(a:List DGuest):Option (List Int):=
 x4 (x4 (fZ a) λv2=>
  x4 (iter (lC v2) (([]:List Int),(0:Int))) LO.val) λj1=>
  JO.run j1 aHe
def bZh:Sg tG:=⟨[.row 94],.one (.row 3),nS⟩
theorem cIc:Sok 216 bZh:=sgx [(134,.r bMl)] ⟨bSe,trivial⟩ (.s .o (.s .o (.j ⟨[],[],[(.s 3,.ro 3)]⟩ (.s .o (.k (.l ⟨[8,9],[],[(.s 3,.ro 3),(.s 10,.i .i64)]⟩ (.s .o (.s .o (.j ⟨[8,9,10],[],[(.s 3,.ro 3)]⟩ .o .o)))))) .o))) kr kr kr
def aCi(s1:List Int):Option (List Int):=some s1
def aDd(s2:(List Int)×Int)(s3:List Int):Option (LO ((List Int)×Int) (JO (List Int) (List Int))):=some (.next (s3,w64 (s2.2+(1:Int))))
def vH(s4:(List Int)×Int)(s5:List Int):Option (LO ((List Int)×Int) (JO (List Int) (LO ((List Int)×Int) (JO (List Int) (List Int))))):=some (.next (s5,w64 (s4.2+(1:Int))))
def lU(a0:DHost)(s2:(List Int)×Int)(s4:(List Int)×Int):Option (LO ((List Int)×Int) (JO (List Int) (LO ((List Int)×Int) (JO (List Int) (List Int))))):=
 grd ((0:Int)<=s2.2/\s2.2<((a0.Guests.length:Nat):Int)) (cond (decide (s4.2<((x9 (a0.Guests.getD s2.2.toNat default).Pages:Nat):Int)))
  (x4 (grd ((0:Int)<=s2.2/\s2.2<((a0.Guests.length:Nat):Int)) (grd ((0:Int)<=s4.2/\s4.2<((x9 (a0.Guests.getD s2.2.toNat default).Pages:Nat):Int)) (cond (decide ((0:Int)<=(x8 (a0.Guests.getD s2.2.toNat default).Pages s4.2.toNat default).Frame))
   (grd ((0:Int)<=(x8 (a0.Guests.getD s2.2.toNat default).Pages s4.2.toNat default).Frame/\(x8 (a0.Guests.getD s2.2.toNat default).Pages s4.2.toNat default).Frame<((s4.1.length:Nat):Int)) (grd ((0:Int)<=(x8 (a0.Guests.getD s2.2.toNat default).Pages s4.2.toNat default).Frame/\(x8 (a0.Guests.getD s2.2.toNat default).Pages s4.2.toNat default).Frame<((s4.1.length:Nat):Int)) (some (.go (s4.1.set (x7 (x8 (a0.Guests.getD s2.2.toNat default).Pages s4.2.toNat default).Frame) (w64 ((s4.1.getD (x7 (x8 (a0.Guests.getD s2.2.toNat default).Pages s4.2.toNat default).Frame) default)+(1:Int))))))))
   (some (.go s4.1))))) λj5=>
   JO.run j5 (vH s4))
  (some (.ret (.go s4.1))))
def pK(a0:DHost)(s2:(List Int)×Int):Option (LO ((List Int)×Int) (JO (List Int) (List Int))):=
 cond (decide (s2.2<((a0.Guests.length:Nat):Int)))
  (x4 (x4 (iter (lU a0 s2) (s2.1,(0:Int))) LO.val) λj3=>
   JO.run j3 (aDd s2))
  (some (.ret (.go s2.1)))
def mO(a0:DHost):Option (List Int):=
 x4 (x4 (iter (pK a0) ((j0 (x7 (20:Int)) (0:Int)),(0:Int))) LO.val) λj1=>
  JO.run j1 aCi
def bVc:Sg tG:=⟨[.st 26],.one (.row 3),mO⟩
theorem cAd:Sok 115 bVc:=sgx [] trivial (.s .o (.s .o (.j ⟨[],[],[(.s 3,.ro 3)]⟩ (.s .o (.k (.l ⟨[1],[],[(.s 3,.ro 3),(.s 4,.i .i64)]⟩ (.s .o (.j ⟨[1,4],[],[(.s 3,.ro 3)]⟩ (.k (.s .o (.k (.l ⟨[1,4],[],[(.s 3,.ro 3),(.s 5,.i .i64)]⟩ (.s .o (.j ⟨[1,4,5],[],[(.s 3,.ro 3)]⟩ .o .o)))))) .o))))) .o))) kr kr kr
def aKa(s3:List Int):Option (List Int):=some s3
def zN(s4:(List Int)×Int)(s5:List Int):Option (LO ((List Int)×Int) (JO (List Int) (List Int))):=some (.next (s5,w64 (s4.2+(1:Int))))
def mS(v2:List Int)(s4:(List Int)×Int):Option (LO ((List Int)×Int) (JO (List Int) (List Int))):=
 cond (decide (s4.2<(20:Int)))
  (x4 (grd ((0:Int)<=s4.2/\s4.2<((v2.length:Nat):Int)) (cond (decide ((v2.getD s4.2.toNat default)=(0:Int)))
   (grd ((s4.1.length+x9 ([s4.2]:List Int))*8<=2^47/\s4.1.length+x9 ([s4.2]:List Int)<=2^47) (some (.go (s4.1++([s4.2]:List Int)))))
   (some (.go s4.1)))) λj5=>
   JO.run j5 (zN s4))
  (some (.ret (.go s4.1)))
def jQ(a0:DHost):Option (List Int):=
 x4 (kC a0) λv1=>
 cond (!v1)
  (some ([]:List Int))
  (x4 (mO a0) λv2=>
  x4 (x4 (iter (mS v2) (([]:List Int),(0:Int))) LO.val) λj3=>
   JO.run j3 aKa)
def bKc:Sg tG:=⟨[.st 26],.one (.row 3),jQ⟩
theorem bUt:Sok 114 bKc:=sgx [(142,.r bBe),(115,.r bVc)] ⟨bNb,cAd,trivial⟩ (.s .o (.s .o (.s .o (.s .o (.j ⟨[],[],[(.s 3,.ro 3)]⟩ (.s .o (.k (.l ⟨[4],[],[(.s 3,.ro 3),(.s 5,.i .i64)]⟩ (.s .o (.j ⟨[4,5],[],[(.s 3,.ro 3)]⟩ .o .o))))) .o))))) kr kr kr
def cM(a8:List Int):Option (List Int):=grd ((0:Int)<=((a8.length:Nat):Int)/\((a8.length:Nat):Int)*8<=2^47/\((a8.length:Nat):Int)<=2^47) (some (over (j0 (x7 ((a8.length:Nat):Int)) (0:Int)) 0 (x9 (j0 (x7 ((a8.length:Nat):Int)) (0:Int))) a8))
def aWl:Sg tG:=⟨[.row 3],.one (.row 3),cM⟩
theorem aWx:Sok 117 aWl:=sgx [] trivial .o kr kr kr
theorem aXc{a8:List Int}{R_:(List Int)}(hh:cM a8=some R_):Fn Tryz.prog 117 [bo (eI .i64) a8] (.own 3 1 R_.length (fl (eI .i64) R_)):=kc (aWx a8 R_ hh)
def kK(a1:DCore):Option DCore:=grd ((x9 ([]:List Int)+a1.Regs.length)*8<=2^47/\x9 ([]:List Int)+a1.Regs.length<=2^47) (some (DCore.mk (([]:List Int)++a1.Regs) a1.Pc a1.Root a1.Vector a1.Saved a1.SavedUser a1.Cause a1.Bad a1.Timer a1.Waits a1.User a1.On a1.Stopped))
def bLn:Sg tG:=⟨[.st 39],.one (.st 39),kK⟩
theorem bVl:Sok 132 bLn:=sgx [] trivial .o kr kr kr
def sZ(a:List DGuest)(q:Int):Option Bool:=
 cond (decide ((0:Int)<=q))
  (cond (decide (q<(3:Int)))
   (grd ((0:Int)<=q/\q<((a.length:Nat):Int)) (some (a.getD q.toNat default).Live))
   (some false))
  (some false)
def cBq:Sg tG:=⟨[.row 94,.i .i64],.one .b,sZ⟩
theorem cHf:Sok 116 cBq:=sgx [] trivial .o kr kr kr
def cJ(a0:DHost)(q:Int):Option Bool:=
 x4 (mP a0) λv1=>
 cond v1
  (x4 (sZ a0.Guests q) λv2=>
  some v2)
  (some false)
def g56:Sg tG:=⟨[.st 26,.i .i64],.one .b,cJ⟩
theorem s56:Sok 56 g56:=sgx [(22,.r g22),(116,.r cBq)] ⟨s22,cHf,trivial⟩ .o kr kr kr
theorem aDg{a0:DHost}{q:Int}{R_:Bool}(hh:cJ a0 q=some R_):Fn Tryz.prog 56 [.agg (dE a0),.int .i64 q] (.bool R_):=kc (s56 a0 q R_ hh)
def dG(a0:DHost)(q:Int):Option Bool:=
 x4 (kC a0) λv1=>
 cond v1
  (x4 (bU q (0:Int) (2:Int)) λv2=>
  cond v2
   (grd ((0:Int)<=q/\q<((a0.Guests.length:Nat):Int)) (some (a0.Guests.getD q.toNat default).Live))
   (some false))
  (some false)
def aIx:Sg tG:=⟨[.st 26,.i .i64],.one .b,dG⟩
theorem aLb:Sok 102 aIx:=sgx [(142,.r bBe),(51,.r g51)] ⟨bNb,s51,trivial⟩ .o kr kr kr
def cX(a2:DBare):Option DBare:=
 x4 (cM a2.C.Regs) λv1=>
 x4 (cM a2.Mem) λv2=>
 x4 (cM a2.In) λv3=>
 x4 (cM a2.Out) λv4=>
 some (DBare.mk (DCore.mk v1 a2.C.Pc a2.C.Root a2.C.Vector a2.C.Saved a2.C.SavedUser a2.C.Cause a2.C.Bad a2.C.Timer a2.C.Waits a2.C.User a2.C.On a2.C.Stopped) v2 v3 v4)
def g57:Sg tG:=⟨[.st 41],.one (.st 41),cX⟩
theorem s57:Sok 57 g57:=sgx [(117,.r aWl)] ⟨aWx,trivial⟩ .o kr kr kr
theorem aSr:LW 151 ⟨12,[.tmp 4],.seq (.reg false (rg 151 0)) (.seq (.reg false (rg 151 1)) .ret)⟩:=kr
def mR(a4:List Int)(f:Int):Option (List Int):=grd ((0:Int)<=(w64 (f*(8:Int)))/\(w64 (f*(8:Int)))<=(w64 ((w64 (f+(1:Int)))*(8:Int)))/\(w64 ((w64 (f+(1:Int)))*(8:Int)))<=((a4.length:Nat):Int)) (some (o5 (x7 (w64 ((w64 (f+(1:Int)))*(8:Int)))-x7 (w64 (f*(8:Int)))) (qQK (x7 (w64 (f*(8:Int)))) a4)))
def bZi:Sg tG:=⟨[.row 3,.i .i64],.one (.rb 3),mR⟩
theorem cCk:Sok 151 bZi:=sgx [] trivial .o kr kr kr
theorem aXe{a4:List Int}{f:Int}{R_:(List Int)}(hh:mR a4 f=some R_):Fn Tryz.prog 151 [bo (eI .i64) a4,.int .i64 f] (bo (eI .i64) R_):=kc (cCk a4 f R_ hh)
def gL(a4:List Int)(f:Int):Option ((List Int)×(Nat×Nat)):=grd ((0:Int)<=(w64 (f*(8:Int)))/\(w64 (f*(8:Int)))<=(w64 ((w64 (f+(1:Int)))*(8:Int)))/\(w64 ((w64 (f+(1:Int)))*(8:Int)))<=((a4.length:Nat):Int)) (some (a4,((x7 (w64 (f*(8:Int)))),(x7 (w64 ((w64 (f+(1:Int)))*(8:Int)))-x7 (w64 (f*(8:Int)))))))
theorem vC{a4:List Int}{f:Int}{R_:(List Int)×(Nat×Nat)}(hh:gL a4 f=some R_):Inl Tryz.prog 151 [.sref 0 [] 0 a4.length 1,.int .i64 f] [(0,some (rI_3 a4))] 1 (.sref 0 [] (0+R_.2.1*1) R_.2.2 1) [(0,some (rI_3 R_.1))] 1:=by unfold gL at hh;let q1:Root:=(rI_3 a4);refine Inl.start aSr [0,1] [0] (E:=sp 12 [(0,sw 0 a4),(1,ii f)]) (H1:=[(0,some q1)]) kr kr (sy [0,1] [0] (sp 12 [(0,sw 0 a4),(1,ii f)]) [(0,some q1)] 1 (Aw.sreg [4] [0] (yu 6 [(5,sw 0 a4),(6,ii f),(7,ii (w64 (f*(8:Int)))),(8,ii f),(9,ii (w64 (f+(1:Int)))),(10,ii (w64 ((w64 (f+(1:Int)))*(8:Int))))] [(0,some q1)] 1 ?_)));obtain⟨hg2,hh⟩:=bD hh;refine ys (.slc 1 (.t 5) (some (.t 7)) (some (.t 10))) (some 11) (bBu (r:=0) (π:=[]) (o:=0) (k:=a4.length) (sz:=1) (l:=(w64 (f*(8:Int)))) (h:=(w64 ((w64 (f+(1:Int)))*(8:Int)))) kr kr kr hg2 ?_);refine yt (sp 12 [(4,.sref 0 [] (0+x7 (w64 (f*(8:Int)))*1) (x7 (w64 ((w64 (f+(1:Int)))*(8:Int)))-x7 (w64 (f*(8:Int)))) 1)]) [(0,some q1)] 1 (Aw.ret ?_);rw[cI hh];exact nX (r':= .sref 0 [] (0+x7 (w64 (f*(8:Int)))*1) (x7 (w64 ((w64 (f+(1:Int)))*(8:Int)))-x7 (w64 (f*(8:Int)))) 1) kr (el [some 0] (jI wH) (hn bO cN))
theorem aQb:LW 118 ⟨29,[.tmp 4],.seq (.reg false (rg 118 0)) (.seq (.reg false (rg 118 1)) (.seq (.seq (.reg false (rg 118 2)) (.block 0 (.loop (.seq (.reg false (rg 118 3)) (.seq (.cond (.t 12) .skip (.exit 0)) (.seq (.block 1 (.seq (.reg false (rg 118 4)) (.seq (.reg false (rg 118 5)) (.cond (.t 18) (.regd (rg 118 6) (rg 118 7)) .skip)))) (.reg false (rg 118 8)))))))) (.seq (.reg false (rg 118 10)) .ret)))⟩:=kr
def nV(s1:List Int):Option (List Int):=some s1
def kX(s2:(List Int)×Int)(s3:List Int):Option (LO ((List Int)×Int) (JO (List Int) (List Int))):=some (.next (s3,w64 (s2.2+(1:Int))))
def kS(a4:List Int)(a5:List DSlot)(s2:(List Int)×Int):Option (LO ((List Int)×Int) (JO (List Int) (List Int))):=
 cond (decide (s2.2<((a5.length:Nat):Int)))
  (x4 (grd ((0:Int)<=s2.2/\s2.2<((a5.length:Nat):Int)) (cond (!decide ((a5.getD s2.2.toNat default).Frame=(-1:Int)))
   (x4 (gL s2.1 s2.2) λv4=>
   grd (v4.1.length=s2.1.length) (grd (v4.2.1+v4.2.2<=v4.1.length) (x4 (mR a4 (a5.getD s2.2.toNat default).Frame) λv5=>
    some (.go (over v4.1 v4.2.1 v4.2.2 v5)))))
   (some (.go s2.1)))) λj3=>
   JO.run j3 (kX s2))
  (some (.ret (.go s2.1)))
def lL(a4:List Int)(a5:List DSlot):Option (List Int):=
 x4 (x4 (iter (kS a4 a5) ((j0 (x7 (64:Int)) (0:Int)),(0:Int))) LO.val) λj1=>
  JO.run j1 nV
theorem aTb{a4:List Int}{a5:List DSlot}{R_:(List Int)}(hh:lL a4 a5=some R_):Fn Tryz.prog 118 [bo (eI .i64) a4,bo dP a5] (.own 3 1 R_.length (fl (eI .i64) R_)):=by let z2:=(0,bo (eI .i64) a4);let z3:=(1,bo dP a5);let z4:=(10,ii ((a5.length:Nat):Int));let z5:EV:=(5,.sref 0 [] 0 (x9 (j0 (x7 (64:Int)) (0:Int))) 1);let z6:=(9,bo dP a5);unfold lL at hh;refine Fn.start aQb [0,1] (E:=sp 29 [z2,z3]) kr (v:=sw 0 R_) (Hr:=[(0,some (rI_3 R_))]) (k:=1) kr (sy [0,1] [] (sp 29 [z2,z3]) [] 0 (Aw.sreg [0,1,5] [0] (ys (.mk 3 1 8 [ii 0] (.c (ii 64))) (some 8) (aZn (c:=(eI .i64)) (d:=(0:Int)) (k:=(64:Int)) kr dd kr ?_))));let q1:Root:=(rI_3 (j0 (x7 (64:Int)) (0:Int)));refine yt (sp 29 [z2,z3,z5]) [(0,some q1)] 1 ?_;obtain⟨j1,hh,hk1⟩:=bind_some hh;refine Aw.join (S:=(List Int)) (λs1=>sp 29 [(5,sw 0 s1)]) (λs1=>[(0,some (rI_3 s1))]) 1 (λs1=>nV s1=some R_) ?_ ?_;{intro s1 hh;unfold nV at hh;refine sy [4] [0] (sp 29 [(4,sw 0 s1)]) [(0,some (rI_3 s1))] 1 (Aw.ret ?_);rw[cI hh];exact nX (r':=sw 0 s1) kr (Ent.list [some 0] rfl rfl (m9 _) (jI wH) (hn bO cN))};intro Q1 hN1 hR1 hE1;refine sy [0,5,9,10,11] [0] (sp 29 [z2,z5,z6,z4,(11,ii 0)]) [(0,some q1)] 1 (Aw.block ?_);obtain⟨o2,hi2,hk2⟩:=bind_some hh;refine Aw.iter (λ(s2:(List Int)×Int)=>sp 29 [(0,bo (eI .i64) a4),(5,sw 0 s2.1),(9,bo dP a5),(10,ii ((a5.length:Nat):Int)),(11,ii s2.2)]) (λ(s2:(List Int)×Int)=>[(0,some (rI_3 s2.1))]) 1 hi2 (el [some 0] (xV kr (ro bO (rs (.sref 0 [] 0 (x9 (j0 (x7 (64:Int)) (0:Int))) 1) (ro oF (ri (ri aRz)))))) (hn bO cN)) ?_;intro s2 u2 Q2 hh hN2 hX2 hR2;let z7:EH:=(0,some (rI_3 s2.1));let z8:=(11,ii s2.2);let z9:=(12,bb (decide (s2.2<((a5.length:Nat):Int))));let z10:=(5,sw 0 s2.1);let z11:=(6,ii s2.2);let z1:=a5.getD s2.2.toNat default;let z12:=(18,bb (!decide (z1.Frame=(-1:Int))));unfold kS at hh;refine sy [0,5,9,10,11,12] [0] (sp 29 [z2,z10,z6,z4,z8,z9]) [z7] 1 (Aw.seq ?_);rcases aWq hh with⟨hb,hh⟩|⟨hb,hh⟩;{refine cF hb (Aw.exit (bZx (hX2 _ _ _ _ _ (cI hh) ?_)));intro hout;rw[hout]at hk2;refine bWr ?_;obtain rfl:=cI hk2;exact hN1 s2.1 _ _ _ hk1 (el [some 0] (xV kr (rs (sw 0 s2.1) aRz)) (hn bO cN))};refine cT hb (Aw.xskip (λ_ _ _ hq=>aDe hq) ?_);obtain⟨j3,hh,hk3⟩:=bind_some hh;refine Aw.join (S:=(List Int)) (λs3=>sp 29 [(0,bo (eI .i64) a4),(5,sw 0 s3),(9,bo dP a5),(10,ii ((a5.length:Nat):Int)),(11,ii s2.2)]) (λs3=>[(0,some (rI_3 s3))]) 1 (λs3=>kX s2 s3=some u2) ?_ ?_;{intro s3 hh;unfold kX at hh;exact Aw.oreg (ye (sp 29 [z2,(5,sw 0 s3),z6,z4,(11,ii (w64 (s2.2+(1:Int)))),(27,ii (w64 (s2.2+(1:Int))))]) [(0,some (rI_3 s3))] 1 (hN2 (s3,w64 (s2.2+(1:Int))) _ _ _ (cI hh) (el [some 0] (xV kr (ro bO (rs (sw 0 s3) (ro oF (ri (ri aRz)))))) (hn bO cN))))};intro Q3 hN3 hR3 hE3;refine Aw.block (Aw.sreg [0,5,6,7,9,10,11] [0,1] (yj 1  (sp 29 [z2,z10,z6,z4,z8,z9,(13,ii s2.2)]) [z7] 1 ?_));obtain⟨hg104,hh⟩:=bD hh;refine ys (.iadr 3 (.t 9) (.t 11)) (some 14) (aNi (kd:= .i64) (c:=dP) (xs:=a5) rT dd kr kr hg104 ?_);refine ys (.load true 3 (.t 14)) (some 15) (aYt (c:=dP) (xs:=a5) (o:=x7 s2.2*3) (i:=s2.2.toNat) (off:=0) (v:= .agg [ii z1.Frame,bb z1.Write,bb z1.Dirty]) rT kr ltn ltn dd kr ?_);let q2:Root:=⟨91,[ii z1.Frame,bb z1.Write,bb z1.Dirty]⟩;let z13:=(1,some q2);refine yt (sp 29 [z2,z10,z11,(7,pp 1),z6,z4,z8]) [z7,z13] 2 (sy [0,5,6,7,9,10,11,18] [0,1] (sp 29 [z2,z10,z11,(7,pp 1),z6,z4,z8,z12]) [z7,z13] 2 ?_);rcases aWq hh with⟨hb,hh⟩|⟨hb,hh⟩;{refine cF hb (Aw.skip (bMy ?_));obtain rfl:=cI hh;exact hN3 s2.1 _ _ _ hk3 (el [some 0] (xV kr (ro bO (rs (sw 0 s2.1) (ro oF (ri (ri aRz)))))) (hn bO cN))};refine cT hb (Aw.oregd [0] kr (dj 2 (sp 29 [z2,z10,z11,(7,pp 1),z6,z4,z8,z12,(19,sw 0 s2.1),(20,ii s2.2)]) [z7,z13] 2 ?_));obtain⟨v4,hv4,hh⟩:=bind_some hh;let z14:EH:=(0,some (rI_3 v4.1));let z15:EV:=(21,.sref 0 [] (0+v4.2.1*1) v4.2.2 1);obtain⟨hg107,hh⟩:=bD hh;obtain⟨hg108,hh⟩:=bD hh;refine ds (.call 151 [.t 19,.t 20]) (some 21) (yM rfl (cf (.sref 0 [] (0+v4.2.1*1) v4.2.2 1) [z14] 2 [0] (vC hv4) [sw 0 s2.1,ii s2.2] rz (hn bO cN) wH (hn bO cN) ⟨⟨⟨by decide,aLa rfl rfl⟩,Hld.un ?_⟩⟩));refine dt (sp 29 [z2,z10,z11,(7,pp 1),z6,z4,z8,z12,(19,sw 0 s2.1),(20,ii s2.2),z15,(22,bo (eI .i64) a4),(23,pp 1),(24,ii z1.Frame)]) [z14,(0,none),z7,z13] 2 ?_;obtain⟨v5,hv5,hh⟩:=bind_some hh;refine ys (.call 151 [.t 22,.t 24]) (some 25) (aIk (r:=bo (eI .i64) v5) (v:=bo (eI .i64) v5) (Hr:=[]) (n':=2) (aXe hv5) (mJ (vs:=[bo (eI .i64) a4,ii z1.Frame]) kr (fE (aE (rW (bL dB))) (cz1 hO))) nrr kr ?_);let q3:Root:=(rI_3 (over v4.1 v4.2.1 v4.2.2 v5));refine ys (.cpy 1 (.t 21) (.t 25)) (some 26) (aLe (c:=(eI .i64)) (xs:=v4.1) (ys:=v5) (e:=3) (r:=0) (π:=[]) (o:=0+v4.2.1*1) (k:=v4.2.2) (i:=v4.2.1) (H':=[(0,some q3),z14,(0,none),z7,z13]) cG (rpv kr (aUk (c:=(eI .i64)) (xs:=v5) cG)) kr kr ltn ltn kr ?_);refine ye (sp 29 [z2,z10,z11,(7,pp 1),z6,z4,z8,z12,(19,sw 0 s2.1),(20,ii s2.2),z15,(22,bo (eI .i64) a4),(23,pp 1),(24,ii z1.Frame),(25,bo (eI .i64) v5),(26,ii ((min v4.2.2 v5.length:Nat):Int))]) [(0,some q3),z14,(0,none),z7,z13] 2 (bMy ?_);obtain rfl:=cI hh;exact hN3 (over v4.1 v4.2.1 v4.2.2 v5) _ _ _ hk3 (el [some 0] (xV kr (ro bO (rs (sw 0 s2.1) (ro oF (ri (ri aRz)))))) (hn bO cN))
def cDz:Sg tG:=⟨[.row 3,.row 91],.one (.row 3),lL⟩
theorem cHc:Sok 118 cDz:=λa4 a5 R_ hh=>kc (aTb (a4:=a4) (a5:=a5) hh)
def uH(a0:DHost)(q:Int):Option DBare:=
 grd ((0:Int)<=q/\q<((a0.Guests.length:Nat):Int)) (x4 (lL a0.Words (a0.Guests.getD q.toNat default).Pages) λv1=>
  some (DBare.mk (DCore.mk ((a0.Guests.getD q.toNat default).C).Regs ((a0.Guests.getD q.toNat default).C).Pc ((a0.Guests.getD q.toNat default).C).Root ((a0.Guests.getD q.toNat default).C).Vector ((a0.Guests.getD q.toNat default).C).Saved ((a0.Guests.getD q.toNat default).C).SavedUser ((a0.Guests.getD q.toNat default).C).Cause ((a0.Guests.getD q.toNat default).C).Bad ((a0.Guests.getD q.toNat default).C).Timer ((a0.Guests.getD q.toNat default).C).Waits ((a0.Guests.getD q.toNat default).C).User ((a0.Guests.getD q.toNat default).C).On ((a0.Guests.getD q.toNat default).C).Stopped) v1 (a0.Guests.getD q.toNat default).In (a0.Guests.getD q.toNat default).Out))
def g58:Sg tG:=⟨[.st 26,.i .i64],.one (.sb 41),uH⟩
theorem s58:Sok 58 g58:=sgx [(118,.r cDz)] ⟨cHc,trivial⟩ .o kr kr kr
def gS(a0:DHost)(q:Int):Option (DBare×Bool):=
 x4 (cJ a0 q) λv1=>
 cond (!v1)
  (some ((DBare.mk (DCore.mk ([]:List Int) (0:Int) (0:Int) (0:Int) (0:Int) false (0:Int) (0:Int) (0:Int) false false false false) ([]:List Int) ([]:List Int) ([]:List Int)),false))
  (x4 (uH a0 q) λv2=>
  x4 (cX v2) λv3=>
  some (v3,true))
def g13:Sg tG:=⟨[.st 26,.i .i64],.two (.st 41) .b,gS⟩
theorem s13:Sok 13 g13:=sgx [(56,.r g56),(58,.r g58),(57,.r g57)] ⟨s56,s58,s57,trivial⟩ .o kr kr kr
def jJ(a5:List DSlot):Option (List DSlot):=grd ((0:Int)<=((a5.length:Nat):Int)/\((a5.length:Nat):Int)*16<=2^47/\((a5.length:Nat):Int)<=2^47) (some (over (j0 (x7 ((a5.length:Nat):Int)) (DSlot.mk (0:Int) false false)) 0 (x9 (j0 (x7 ((a5.length:Nat):Int)) (DSlot.mk (0:Int) false false))) a5))
def bTg:Sg tG:=⟨[.row 91],.one (.row 91),jJ⟩
theorem cAl:Sok 150 bTg:=sgx [] trivial .o kr kr kr
def dQ(a3:DGuest):Option DGuest:=
 cond (!a3.Live)
  (some (DGuest.mk false (DCore.mk ([]:List Int) (0:Int) (0:Int) (0:Int) (0:Int) false (0:Int) (0:Int) (0:Int) false false false false) ([]:List DSlot) ([]:List Int) ([]:List Int)))
  (x4 (cM a3.C.Regs) λv1=>
  x4 (jJ a3.Pages) λv2=>
  x4 (cM a3.In) λv3=>
  x4 (cM a3.Out) λv4=>
  some (DGuest.mk a3.Live (DCore.mk v1 a3.C.Pc a3.C.Root a3.C.Vector a3.C.Saved a3.C.SavedUser a3.C.Cause a3.C.Bad a3.C.Timer a3.C.Waits a3.C.User a3.C.On a3.C.Stopped) v2 v3 v4))
def cBf:Sg tG:=⟨[.st 94],.one (.st 94),dQ⟩
theorem cHz:Sok 201 cBf:=sgx [(117,.r aWl),(150,.r bTg)] ⟨aWx,cAl,trivial⟩ .o kr kr kr
def aFj(s1:List DGuest):Option (List DGuest):=some s1
def cE(a:List DGuest)(s2:(List DGuest)×Int):Option (LO ((List DGuest)×Int) (JO (List DGuest) (List DGuest))):=
 cond (decide (s2.2<((a.length:Nat):Int)))
  (grd ((0:Int)<=s2.2/\s2.2<((a.length:Nat):Int)) (x4 (dQ (DGuest.mk (a.getD s2.2.toNat default).Live (DCore.mk ((a.getD s2.2.toNat default).C).Regs ((a.getD s2.2.toNat default).C).Pc ((a.getD s2.2.toNat default).C).Root ((a.getD s2.2.toNat default).C).Vector ((a.getD s2.2.toNat default).C).Saved ((a.getD s2.2.toNat default).C).SavedUser ((a.getD s2.2.toNat default).C).Cause ((a.getD s2.2.toNat default).C).Bad ((a.getD s2.2.toNat default).C).Timer ((a.getD s2.2.toNat default).C).Waits ((a.getD s2.2.toNat default).C).User ((a.getD s2.2.toNat default).C).On ((a.getD s2.2.toNat default).C).Stopped) (a.getD s2.2.toNat default).Pages (a.getD s2.2.toNat default).In (a.getD s2.2.toNat default).Out)) λv3=>
   grd ((0:Int)<=s2.2/\s2.2<((s2.1.length:Nat):Int)) (some (.next ((s2.1.set s2.2.toNat v3),w64 (s2.2+(1:Int)))))))
  (some (.ret (.go s2.1)))
def fL(a:List DGuest):Option (List DGuest):=
 grd ((0:Int)<=((a.length:Nat):Int)/\((a.length:Nat):Int)*176<=2^47/\((a.length:Nat):Int)<=2^47) (x4 (x4 (iter (cE a) ((j0 (x7 ((a.length:Nat):Int)) (DGuest.mk false (DCore.mk ([]:List Int) (0:Int) (0:Int) (0:Int) (0:Int) false (0:Int) (0:Int) (0:Int) false false false false) ([]:List DSlot) ([]:List Int) ([]:List Int))),(0:Int))) LO.val) λj1=>
  JO.run j1 aFj)
def bUb:Sg tG:=⟨[.row 94],.one (.row 1094),fL⟩
theorem cAe:Sok 169 bUb:=sgx [(201,.r cBf)] ⟨cHz,trivial⟩ (.s .o (.s (.g [] [] [.fo (.s 3) 0]) (.j ⟨[],[],[(.s 3,.ro 1094)]⟩ (.s .o (.k (.l ⟨[9,10],[],[(.s 3,.ro 1094),(.s 11,.i .i64)]⟩ (.s .o (.s .o (.s (.k (.s .o (.g [] [] [.fo (.s 3) 0]))) .o)))))) .o))) kr kr kr
def iL(a:List DGuest)(q:Int)(a3:DGuest):Option (List DGuest):=
 x4 (fL a) λv1=>
 grd ((0:Int)<=q/\q<((v1.length:Nat):Int)) (some (v1.set q.toNat a3))
def cGp:Sw tG:=⟨[.v (.row 94),.v (.i .i64),.os 94],.one (.row 1094),iL⟩
theorem cGt:Sjk 130 cGp:=sgy [(169,.r bUb)] ⟨cAe,trivial⟩ (.s .o (.s .o (.s (.g [] [] [.fo (.s 7) 0]) .o))) kr kr kr
theorem aAn{a:List DGuest}{q:Int}{a3:DGuest}{R_:(List DGuest)}(hh:iL a q a3=some R_):Inl Tryz.prog 130 [bo dI a,.int .i64 q,.agg [.bool a3.Live,.sref 0 [] 0 a3.C.Regs.length 1,.int .i64 a3.C.Pc,.int .i64 a3.C.Root,.int .i64 a3.C.Vector,.int .i64 a3.C.Saved,.bool a3.C.SavedUser,.int .i64 a3.C.Cause,.int .i64 a3.C.Bad,.int .i64 a3.C.Timer,.bool a3.C.Waits,.bool a3.C.User,.bool a3.C.On,.bool a3.C.Stopped,.sref 1 [] 0 a3.Pages.length 3,.sref 2 [] 0 a3.In.length 1,.sref 3 [] 0 a3.Out.length 1]] [(3,some (rI_3 a3.Out)),(2,some (rI_3 a3.In)),(1,some (rC91 a3.Pages)),(0,some (rI_3 a3.C.Regs))] 4 (.sref 4 [] 0 R_.length 17) [(4,some (rO94 R_))] 5:=kc (cGt a q a3 R_ hh)
theorem aNw:LW 66 ⟨20,[.cell 4 true 2,.tmp 5],.seq (.reg false (rg 66 0)) (.seq (.seq (.reg false (rg 66 1)) (.cond (.t 9) (.seq (.reg false (rg 66 2)) .ret) .skip)) (.seq (.regd (rg 66 3) (rg 66 4)) .ret))⟩:=kr
def jP(a0:DHost)(q:Int):Option (DHost×Bool):=
 x4 (cJ a0 q) λv1=>
 cond (!v1)
  (some ((DHost.mk ([]:List Int) ([]:List DGuest)),false))
  (x4 (cM a0.Words) λv2=>
  x4 (iL a0.Guests q (DGuest.mk false (DCore.mk ([]:List Int) (0:Int) (0:Int) (0:Int) (0:Int) false (0:Int) (0:Int) (0:Int) false false false false) ([]:List DSlot) ([]:List Int) ([]:List Int))) λv3=>
  some ((DHost.mk v2 v3),true))
theorem aRd{a0:DHost}{q:Int}{R_:DHost×Bool}(hh:jP a0 q=some R_):Fn Tryz.prog 66 [.agg (dE a0),.int .i64 q] (.tup [.agg [.own 3 1 R_.1.Words.length (fl (eI .i64) R_.1.Words),.own 94 17 R_.1.Guests.length (fl dO R_.1.Guests)],.bool R_.2]):=by let z1:EH:=(0,some (rB26 a0));let z2:=(1,ii q);let z3:EH:=(1,some ⟨26,[.nil,.nil]⟩);let z4:=(12,bo (eI .i64) a0.Words);let z5:=(4,pp 1);unfold jP at hh;refine Fn.start aNw [0,1] (E:=sp 20 [(0,.agg (dE a0)),z2]) kr (v:= .tup [.agg [sw 0 R_.1.Words,.sref 1 [] 0 R_.1.Guests.length 17],bb R_.2]) (Hr:=[(1,some (rO94 R_.1.Guests)),(0,some (rI_3 R_.1.Words))]) (k:=2) kr (sy [1,2,4] [0,1] (sp 20 [z2,(2,pp 0),z5]) [z1,z3] 2 (Aw.seq (Aw.sreg [1,2,4,9] [0,1] (yj 2  (sp 20 [z2,(2,pp 0),z5,(6,.agg (dE a0)),(7,ii q)]) [z1,z3] 2 ?_))));obtain⟨v1,hv1,hh⟩:=bind_some hh;refine ys (.call 56 [.t 6,.t 7]) (some 8) (gZ (r:=bb v1) (v:=bb v1) (Hr:=[]) (n':=2) (aDg hv1) (mJ (vs:=[.agg (dE a0),ii q]) kr (fE (aE (mX (qL _))) (cz1 hO))) rfl rfl kr ?_);refine yt (sp 20 [z2,(2,pp 0),z5,(9,bb (!v1))]) [z1,z3] 2 ?_;rcases oW hh with⟨hb,hh⟩|⟨hb,hh⟩;{refine cT hb (sy [4,5] [1] (sp 20 [z5,(5,bb false)]) [z3] 2 (Aw.ret (aDs ?_)));rw[cI hh];exact nX (r':= .tup [.agg [.nil,.nil],bb false]) kr (Ent.list [none,none] rfl rfl (m9 _) (jI (fX rz)) (iW dd rfl rfl (iW dd rfl rfl cN)))};refine cF hb (Aw.xskip (λ_ _ _ hq=>aDe hq) (Aw.sregd [4,5] [1,2,7] [] kr (dj 2 (sp 20 [z2,(2,pp 0),z5,(9,bb (!v1)),(11,pp 0),z4]) [z1,z3] 2 ?_)));obtain⟨v2,hv2,hh⟩:=bind_some hh;let z6:EH:=(2,some (rI_3 v2));refine ds (.call 117 [.t 12]) (some 13) (yM rfl (gZ (r:= .own 3 1 v2.length (fl (eI .i64) v2)) (v:=sw 2 v2) (Hr:=[z6]) (n':=3) (aXc hv2) (mJ (vs:=[bo (eI .i64) a0.Words]) kr (fE (aE (rW (bL dB))) hO)) nrr nrr kr ⟨⟨⟨by decide,uU (n:=2) (n0:=2) (r:= .own 3 1 v2.length (fl (eI .i64) v2)) (v:=sw 2 v2) (Hr:=[z6]) (n':=3) kr dd⟩,Hld.un ?_⟩⟩));refine dt (sp 20 [z2,(2,pp 0),z5,(9,bb (!v1)),(11,pp 0),z4,(13,sw 2 v2),(14,.ptr 0 [] 1),(15,bo dI a0.Guests),(16,ii q),(17,.agg (bb false:: .nil::jO [.nil,.nil,.nil]))]) [z6,z1,z3] 3 ?_;obtain⟨v3,hv3,hh⟩:=bind_some hh;refine ys (.call 130 [.t 15,.t 16,.t 17]) (some 18) (bDo (args:=[bo dI a0.Guests,ii q,.agg (bb false:: .nil::jO [.nil,.nil,.nil])]) (args2:=[bo dI a0.Guests,ii q,.agg (bb false:: .sref 3 [] 0 0 1::jO [.sref 4 [] 0 0 3,.sref 5 [] 0 0 1,.sref 6 [] 0 0 1])]) kr (Ent.trans (Ent.nils (n:=6) (e:=3) (xs2:=[bo dI a0.Guests,ii q,.agg (bb false:: .sref 3 [] 0 0 1::jO [.sref 4 [] 0 0 3,.sref 5 [] 0 0 1,.sref 6 [] 0 0 1])]) (aH (.same _) (aH (.same _) (aH (.agg _ _ (aH (.same _) (aH (.same _) (aH (.same _) (aH (.same _) (aH (.same _) (aH (.same _) (aH (.same _) (aH (.same _) (aH (.same _) (aH (.same _) (aH (.same _) (aH (.same _) (aH (.same _) (aH (.same _) (aH (.same _) (aH (.same _) (aH (.nil _) wR)))))))))))))))))) wR)))) (Ent.trans (Ent.nils (n:=5) (e:=3) (xs2:=[bo dI a0.Guests,ii q,.agg (bb false:: .sref 3 [] 0 0 1::jO [.sref 4 [] 0 0 3,.sref 5 [] 0 0 1,.nil])]) (aH (.same _) (aH (.same _) (aH (.agg _ _ (aH (.same _) (aH (.same _) (aH (.same _) (aH (.same _) (aH (.same _) (aH (.same _) (aH (.same _) (aH (.same _) (aH (.same _) (aH (.same _) (aH (.same _) (aH (.same _) (aH (.same _) (aH (.same _) (aH (.same _) (aH (.nil _) (aH (.same _) wR)))))))))))))))))) wR)))) (Ent.trans (Ent.nils (n:=4) (e:=91) (xs2:=[bo dI a0.Guests,ii q,.agg (bb false:: .sref 3 [] 0 0 1::jO [.sref 4 [] 0 0 3,.nil,.nil])]) (aH (.same _) (aH (.same _) (aH (.agg _ _ (aH (.same _) (aH (.same _) (aH (.same _) (aH (.same _) (aH (.same _) (aH (.same _) (aH (.same _) (aH (.same _) (aH (.same _) (aH (.same _) (aH (.same _) (aH (.same _) (aH (.same _) (aH (.same _) (aH (.nil _) (aH (.same _) (aH (.same _) wR)))))))))))))))))) wR)))) (Ent.nils (n:=3) (e:=3) (xs2:=[bo dI a0.Guests,ii q,.agg (bb false:: .sref 3 [] 0 0 1::jO [.nil,.nil,.nil])]) (aH (.same _) (aH (.same _) (aH (.agg _ _ (aH (.same _) (aH (.nil _) (aH (.same _) (aH (.same _) (aH (.same _) (aH (.same _) (aH (.same _) (aH (.same _) (aH (.same _) (aH (.same _) (aH (.same _) (aH (.same _) (aH (.same _) (aH (.same _) (aH (.same _) (aH (.same _) (aH (.same _) wR)))))))))))))))))) wR))))))) (Inl.frameB (v':= .sref 7 [] 0 v3.length 17) (Hp':=[(7,some (rO94 v3))]) (n':=8) [3,4,5,6] (aAn hv3) rfl rfl rfl rz rfl (hq ⟨3,[]⟩ (aL rfl) (hq ⟨3,[]⟩ (aL rfl) (hq ⟨91,[]⟩ (aL rfl) (hq ⟨3,[]⟩ (aL rfl) cN)))) wH rfl (hn gX cN) rfl) ?_);refine yt (sp 20 [z5,(5,bb true)]) [(1,some ⟨26,[sw 2 v2,.sref 7 [] 0 v3.length 17]⟩),z6,(7,some (rO94 v3))] 8 (Aw.ret ?_);rw[cI hh];exact nX (r':= .tup [.agg [sw 2 v2,.sref 7 [] 0 v3.length 17],bb true]) kr (Ent.list [some 2,some 7] rfl rfl (m9 _) (jI (fX rz)) (hn gX (hn bO cN)))
def g66:Sg tG:=⟨[.st 26,.i .i64],.two (.st 2026) .b,jP⟩
theorem s66:Sok 66 g66:=λa0 q R_ hh=>kc (aRd (a0:=a0) (q:=q) hh)
def eR(q:DGuest):Option DGuest:=
 cond (!q.Live)
  (some (DGuest.mk false (DCore.mk ([]:List Int) (0:Int) (0:Int) (0:Int) (0:Int) false (0:Int) (0:Int) (0:Int) false false false false) ([]:List DSlot) ([]:List Int) ([]:List Int)))
  (x4 (kK q.C) λv1=>
  grd (q.Pages.length*16<=2^47/\q.Pages.length<=2^47) (grd (q.In.length*8<=2^47/\q.In.length<=2^47) (grd (q.Out.length*8<=2^47/\q.Out.length<=2^47) (some (DGuest.mk true v1 q.Pages q.In q.Out)))))
def g69:Sg tG:=⟨[.st 94],.one (.st 94),eR⟩
theorem s69:Sok 69 g69:=sgx [(132,.r bLn)] ⟨bVl,trivial⟩ .o kr kr kr
def aQw(a0:DHost)(s1:List DGuest):Option DHost:=some (DHost.mk (([]:List Int)++a0.Words) s1)
def pR(a0:DHost)(s2:(List DGuest)×Int):Option (LO ((List DGuest)×Int) (JO (List DGuest) DHost)):=
 cond (decide (s2.2<((a0.Guests.length:Nat):Int)))
  (grd ((0:Int)<=s2.2/\s2.2<((a0.Guests.length:Nat):Int)) (x4 (eR (DGuest.mk (a0.Guests.getD s2.2.toNat default).Live (DCore.mk ((a0.Guests.getD s2.2.toNat default).C).Regs ((a0.Guests.getD s2.2.toNat default).C).Pc ((a0.Guests.getD s2.2.toNat default).C).Root ((a0.Guests.getD s2.2.toNat default).C).Vector ((a0.Guests.getD s2.2.toNat default).C).Saved ((a0.Guests.getD s2.2.toNat default).C).SavedUser ((a0.Guests.getD s2.2.toNat default).C).Cause ((a0.Guests.getD s2.2.toNat default).C).Bad ((a0.Guests.getD s2.2.toNat default).C).Timer ((a0.Guests.getD s2.2.toNat default).C).Waits ((a0.Guests.getD s2.2.toNat default).C).User ((a0.Guests.getD s2.2.toNat default).C).On ((a0.Guests.getD s2.2.toNat default).C).Stopped) (a0.Guests.getD s2.2.toNat default).Pages (a0.Guests.getD s2.2.toNat default).In (a0.Guests.getD s2.2.toNat default).Out)) λv3=>
   grd ((s2.1.length+1)*176<=2^47/\s2.1.length+1<=2^47) (some (.next ((s2.1++([v3]:List DGuest)),w64 (s2.2+(1:Int)))))))
  (some (.ret (.go s2.1)))
def dA(a0:DHost):Option DHost:=
 grd ((x9 ([]:List Int)+a0.Words.length)*8<=2^47/\x9 ([]:List Int)+a0.Words.length<=2^47) (x4 (x4 (iter (pR a0) (([]:List DGuest),(0:Int))) LO.val) λj1=>
  JO.run j1 (aQw a0))
def aMe:Sg tG:=⟨[.st 26],.one (.st 2026),dA⟩
theorem aSg:Sok 103 aMe:=sgx [(69,.r g69)] ⟨s69,trivial⟩ (.s .o (.s .o (.j ⟨[2,3],[],[(.c 3 1,.ro 1094)]⟩ (.s .o (.k (.l ⟨[1,2,3],[],[(.c 3 1,.ro 1094),(.s 4,.i .i64)]⟩ (.s .o (.s (.k (.g [] [] [.fo (.c 3 1) 0])) .o))))) .o))) kr kr kr
def zH(a2:DBare)(v3:DHost)(s4:Int)(v6:DCore)(s7:(List Int)×(List DSlot)):Option (DHost×Int×Bool):=
 cond (decide (s4<(0:Int)))
  (some ((DHost.mk ([]:List Int) ([]:List DGuest)),(-1:Int),false))
  (grd ((0:Int)<=s4/\s4<((v3.Guests.length:Nat):Int)) (some ((DHost.mk s7.1 (v3.Guests.set s4.toNat (DGuest.mk true v6 s7.2 a2.In a2.Out))),s4,true)))
def rN(s8:(List Int)×(List Int)×(List DSlot)×Int)(s9:(List Int)×(List Int)×(List DSlot)):Option (LO ((List Int)×(List Int)×(List DSlot)×Int) (JO ((List Int)×(List DSlot)) (DHost×Int×Bool))):=some (.next (s9.1,s9.2.1,s9.2.2,w64 (s8.2.2.2+(1:Int))))
def xI(a2:DBare)(s8:(List Int)×(List Int)×(List DSlot)×Int)(s10:Bool):Option (JO ((List Int)×(List Int)×(List DSlot)) (LO ((List Int)×(List Int)×(List DSlot)×Int) (JO ((List Int)×(List DSlot)) (DHost×Int×Bool)))):=
 cond s10
  (grd ((s8.2.2.1.length+x9 ([DSlot.mk (-1:Int) false false]:List DSlot))*16<=2^47/\s8.2.2.1.length+x9 ([DSlot.mk (-1:Int) false false]:List DSlot)<=2^47) (some (.go (s8.1,s8.2.1,s8.2.2.1++([DSlot.mk (-1:Int) false false]:List DSlot)))))
  (cond (decide (((s8.2.1.length:Nat):Int)=(0:Int)))
   (some (.out (.ret (.out ((DHost.mk ([]:List Int) ([]:List DGuest)),(-1:Int),false)))))
   (grd ((0:Int)<=(0:Int)/\(0:Int)<((s8.2.1.length:Nat):Int)) (grd ((0:Int)<=(w64 ((s8.2.1.getD (x7 (0:Int)) default)*(8:Int)))/\(w64 ((s8.2.1.getD (x7 (0:Int)) default)*(8:Int)))<=((s8.1.length:Nat):Int)/\((s8.1.length:Nat):Int)<=((s8.1.length:Nat):Int)) (grd ((0:Int)<=(0:Int)/\(0:Int)<((s8.2.1.length:Nat):Int)) (grd ((s8.2.2.1.length+x9 ([DSlot.mk (s8.2.1.getD (x7 (0:Int)) default) true false]:List DSlot))*16<=2^47/\s8.2.2.1.length+x9 ([DSlot.mk (s8.2.1.getD (x7 (0:Int)) default) true false]:List DSlot)<=2^47) (grd ((0:Int)<=(1:Int)/\(1:Int)<=((s8.2.1.length:Nat):Int)/\((s8.2.1.length:Nat):Int)<=((s8.2.1.length:Nat):Int)) (some (.go ((over s8.1 (x7 (w64 ((s8.2.1.getD (x7 (0:Int)) default)*(8:Int)))) (x7 ((s8.1.length:Nat):Int)-x7 (w64 ((s8.2.1.getD (x7 (0:Int)) default)*(8:Int)))) (o5 (x7 (w64 ((w64 (s8.2.2.2+(1:Int)))*(8:Int)))-x7 (w64 (s8.2.2.2*(8:Int)))) (qQK (x7 (w64 (s8.2.2.2*(8:Int)))) a2.Mem))),o5 (x7 ((s8.2.1.length:Nat):Int)-x7 (1:Int)) (qQK (x7 (1:Int)) s8.2.1),s8.2.2.1++([DSlot.mk (s8.2.1.getD (x7 (0:Int)) default) true false]:List DSlot))))))))))
def qP(s11:Bool×Int)(s12:Bool):Option (LO (Bool×Int) (JO Bool (JO ((List Int)×(List Int)×(List DSlot)) (LO ((List Int)×(List Int)×(List DSlot)×Int) (JO ((List Int)×(List DSlot)) (DHost×Int×Bool)))))):=some (.next (s12,w64 (s11.2+(1:Int))))
def iB(a2:DBare)(s8:(List Int)×(List Int)×(List DSlot)×Int)(s11:Bool×Int):Option (LO (Bool×Int) (JO Bool (JO ((List Int)×(List Int)×(List DSlot)) (LO ((List Int)×(List Int)×(List DSlot)×Int) (JO ((List Int)×(List DSlot)) (DHost×Int×Bool)))))):=
 cond (decide (s11.2<(8:Int)))
  (x4 (cond s11.1
   (grd ((0:Int)<=s11.2/\s11.2<((x9 (o5 (x7 (w64 ((w64 (s8.2.2.2+(1:Int)))*(8:Int)))-x7 (w64 (s8.2.2.2*(8:Int)))) (qQK (x7 (w64 (s8.2.2.2*(8:Int)))) a2.Mem)):Nat):Int)) (some (.go (decide ((x8 (o5 (x7 (w64 ((w64 (s8.2.2.2+(1:Int)))*(8:Int)))-x7 (w64 (s8.2.2.2*(8:Int)))) (qQK (x7 (w64 (s8.2.2.2*(8:Int)))) a2.Mem)) s11.2.toNat default)=(0:Int))))))
   (some (.go false))) λj12=>
   JO.run j12 (qP s11))
  (some (.ret (.go s11.1)))
def gE(a2:DBare)(s4:Int)(s8:(List Int)×(List Int)×(List DSlot)×Int):Option (LO ((List Int)×(List Int)×(List DSlot)×Int) (JO ((List Int)×(List DSlot)) (DHost×Int×Bool))):=
 cond (decide (s8.2.2.2<(8:Int)))
  (cond (decide ((0:Int)<=s4))
   (x4 (grd ((0:Int)<=(w64 (s8.2.2.2*(8:Int)))/\(w64 (s8.2.2.2*(8:Int)))<=(w64 ((w64 (s8.2.2.2+(1:Int)))*(8:Int)))/\(w64 ((w64 (s8.2.2.2+(1:Int)))*(8:Int)))<=((a2.Mem.length:Nat):Int)) (x4 (x4 (iter (iB a2 s8) (true,(0:Int))) LO.val) λj10=>
    JO.run j10 (xI a2 s8))) λj9=>
    JO.run j9 (rN s8))
   (some (.ret (.go (s8.1,s8.2.2.1)))))
  (some (.ret (.go (s8.1,s8.2.2.1))))
def zC(a0:DHost)(a2:DBare)(v3:DHost)(s4:Int):Option (DHost×Int×Bool):=
 x4 (jQ a0) λv5=>
 x4 (kK a2.C) λv6=>
 grd (a2.In.length*8<=2^47/\a2.In.length<=2^47) (grd (a2.Out.length*8<=2^47/\a2.Out.length<=2^47) (x4 (x4 (iter (gE a2 s4) (v3.Words,v5,([]:List DSlot),(0:Int))) LO.val) λj7=>
  JO.run j7 (zH a2 v3 s4 v6)))
def xJ(s13:Int×Int)(s14:Int):Option (LO (Int×Int) (JO Int (DHost×Int×Bool))):=some (.next (s14,w64 (s13.2-(1:Int))))
def fK(a0:DHost)(s13:Int×Int):Option (LO (Int×Int) (JO Int (DHost×Int×Bool))):=
 cond (decide ((0:Int)<=s13.2))
  (x4 (grd ((0:Int)<=s13.2/\s13.2<((a0.Guests.length:Nat):Int)) (cond (!(a0.Guests.getD s13.2.toNat default).Live)
   (some (.go s13.2))
   (some (.go s13.1)))) λj14=>
   JO.run j14 (xJ s13))
  (some (.ret (.go s13.1)))
def qR(a0:DHost)(a2:DBare):Option (DHost×Int×Bool):=
 x4 (kC a0) λv1=>
 cond (!v1)
  (some ((DHost.mk ([]:List Int) ([]:List DGuest)),(-1:Int),false))
  (x4 (uO a2) λv2=>
  cond (!v2)
   (some ((DHost.mk ([]:List Int) ([]:List DGuest)),(-1:Int),false))
   (x4 (dA a0) λv3=>
   x4 (x4 (iter (fK a0) ((-1:Int),(2:Int))) LO.val) λj4=>
    JO.run j4 (zC a0 a2 v3)))
def bZz:Sg tG:=⟨[.st 26,.st 41],.three (.st 2026) (.i .i64) .b,qR⟩
theorem cHa:Sok 138 bZz:=sgx [(142,.r bBe),(175,.r cAa),(103,.r aMe),(114,.r bKc),(132,.r bLn)] ⟨bNb,cGb,aSg,bUt,bVl,trivial⟩ (.s .o (.s .o (.s .o (.s .o (.j ⟨[2,3,4,7],[],[(.s 8,.i .i64)]⟩ (.s .o (.k (.l ⟨[2,3,4,7],[],[(.s 8,.i .i64),(.s 9,.i .i64)]⟩ (.s .o (.j ⟨[2,3,4,7,9],[],[(.s 8,.i .i64)]⟩ .o .o))))) (.s .o (.s (.g [.fr (.s 10) 0] [] []) (.j ⟨[4,7,8,11],[],[(.c 7 0,.ro 3),(.c 11 14,.ro 91)]⟩ (.s .o (.k (.l ⟨[3,4,7,8,11],[],[(.c 7 0,.ro 3),(.s 10,.rb 3),(.c 11 14,.ro 91),(.s 12,.i .i64)]⟩ (.s .o (.j ⟨[3,4,7,8,11,12],[],[(.c 7 0,.ro 3),(.s 10,.rb 3),(.c 11 14,.ro 91)]⟩ (.k (.s .o (.s .o (.j ⟨[3,4,7,8,10,11,12,13],[],[(.s 14,.b)]⟩ (.s .o (.k (.l ⟨[3,4,7,8,10,11,12,13],[],[(.s 14,.b),(.s 15,.i .i64)]⟩ (.s .o (.j ⟨[3,4,7,8,10,11,12,13,15],[],[(.s 14,.b)]⟩ .o .o))))) .o)))) .o))))) (.s .o (.s (.g [] [] [.fo (.c 7 1) 0]) .o)))))))))) kr kr kr
def aKz(s1:Unit):Option Bool:=some true
def jM(a4:List Int)(s2:Int):Option (LO Int (JO Unit Bool)):=
 cond (decide (s2<((a4.length:Nat):Int)))
  (grd ((0:Int)<=s2/\s2<((a4.length:Nat):Int)) (cond (!decide ((a4.getD s2.toNat default)=(0:Int)))
   (some (.ret (.out false)))
   (some (.next (w64 (s2+(1:Int)))))))
  (some (.ret (.go ())))
def mW(a4:List Int):Option Bool:=
 x4 (x4 (iter (jM a4) (0:Int)) LO.val) λj1=>
  JO.run j1 aKz
def cGl:Sg tG:=⟨[.row 3],.one .b,mW⟩
theorem cFs:Sok 152 cGl:=sgx [] trivial (.s .o (.j ⟨[],[],[]⟩ (.s .o (.k (.l ⟨[5,6],[],[(.s 7,.i .i64)]⟩ .o))) .o)) kr kr kr
theorem aQd{a4:List Int}{R_:Bool}(hh:mW a4=some R_):Fn Tryz.prog 152 [bo (eI .i64) a4] (.bool R_):=kc (cFs a4 R_ hh)
def aJq(s1:Unit):Option Int:=some (-1:Int)
def hU(a:List DGuest)(s2:Int):Option (LO Int (JO Unit Int)):=
 cond (decide (s2<((a.length:Nat):Int)))
  (grd ((0:Int)<=s2/\s2<((a.length:Nat):Int)) (cond (!(a.getD s2.toNat default).Live)
   (some (.ret (.out s2)))
   (some (.next (w64 (s2+(1:Int)))))))
  (some (.ret (.go ())))
def mD(a:List DGuest):Option Int:=
 x4 (x4 (iter (hU a) (0:Int)) LO.val) λj1=>
  JO.run j1 aJq
def cFx:Sg tG:=⟨[.row 94],.one (.i .i64),mD⟩
theorem cHp:Sok 139 cFx:=sgx [] trivial (.s .o (.j ⟨[],[],[]⟩ (.s .o (.k (.l ⟨[5,6],[],[(.s 7,.i .i64)]⟩ .o))) .o)) kr kr kr
theorem aOh{a:List DGuest}{R_:Int}(hh:mD a=some R_):Fn Tryz.prog 139 [bo dI a] (.int .i64 R_):=kc (cHp a R_ hh)
theorem aRh:LW 42 ⟨11,[.tmp 2],.seq (.reg false (rg 42 0)) (.seq (.seq (.reg false (rg 42 1)) (.cond (.t 5) (.reg false (rg 42 2)) .skip)) (.seq (.reg false (rg 42 3)) .ret))⟩:=kr
def tL(s1:List Int):Option Dl20Rd:=some (Dl20Rd.mk s1 (0:Int))
def lN(b2:List Int):Option Dl20Rd:=
 x4 (cond (decide ((2000:Int)<((b2.length:Nat):Int)))
  (grd ((0:Int)<=(0:Int)/\(0:Int)<=(2000:Int)/\(2000:Int)<=((b2.length:Nat):Int)) (some (.go (o5 (x7 (2000:Int)-x7 (0:Int)) (qQK (x7 (0:Int)) b2)))))
  (some (.go b2))) λj1=>
  JO.run j1 tL
theorem aTe{b2:List Int}{R_:Dl20Rd}(hh:lN b2=some R_):Inl Tryz.prog 42 [bo (eI .u8) b2] [] 0 (pp 0) [(0,some ⟨128,[bo (eI .u8) R_.b,.int .i64 R_.p]⟩)] 1:=by let z3:=(0,bo (eI .u8) b2);let z4:=(5,bb (decide ((2000:Int)<((b2.length:Nat):Int))));let z1:=qQK (x7 (0:Int)) b2;let z2:=o5 (x7 (2000:Int)-x7 (0:Int)) z1;unfold lN at hh;refine Inl.start aRh [0] [] (E:=sp 11 [z3]) (H1:=[]) kr kr (sy [0] [] (sp 11 [z3]) [] 0 ?_);obtain⟨j1,hh,hk1⟩:=bind_some hh;refine Aw.join (S:=(List Int)) (λs1=>sp 11 [(0,bo (eI .u8) s1)]) (λs1=>[]) 0 (λs1=>tL s1=some R_) ?_ ?_;{intro s1 hh;unfold tL at hh;refine Aw.sreg [2] [0] ?_;let q1:Root:=⟨128,[bo (eI .u8) s1,ii 0]⟩;refine yt (sp 11 [(2,pp 0)]) [(0,some q1)] 1 (Aw.ret ?_);rw[cI hh];exact nX (r':=pp 0) kr (el [some 0] (jI (aNe dd rfl)) (hq q1 rz cN))};intro Q1 hN1 hR1 hE1;refine sy [0,5] [] (sp 11 [z3,z4]) [] 0 ?_;rcases aWq hh with⟨hb,hh⟩|⟨hb,hh⟩;{refine cF hb (Aw.skip ?_);obtain rfl:=cI hh;exact hN1 b2 _ _ _ hk1 (el [] (xV kr (ro bO aRz)) cN)};refine cT hb (Aw.oreg (yu 1 [(6,bo (eI .u8) b2)] [] 0 ?_));obtain⟨hg6,hh⟩:=bD hh;refine ys (.slc 1 (.t 6) none (some (.c (ii 2000)))) (some 7) (bNg (c:=(eI .u8)) (xs:=b2) (l:=(0:Int)) (h:=(2000:Int)) cG kr kr kr hg6 ?_);refine ye (sp 11 [(0,bo (eI .u8) z2),z4,(6,bo (eI .u8) b2),(7,bo (eI .u8) z2)]) [] 0 ?_;obtain rfl:=cI hh;exact hN1 z2 _ _ _ hk1 (el [] (xV kr (ro bO aRz)) cN)
def g42:So tG:=⟨[.row 5],128,lN⟩
theorem s42:Sop 42 g42:=λb2 R_ hh=>kc (aTe (b2:=b2) hh)
def aA(b3:Dl20Rd)(b7:Int):Option (Dl20Rd×Int):=
 cond (decide (b7<(1:Int)))
  (some ((Dl20Rd.mk b3.b (w64 (b3.p+(1:Int)))),(0:Int)))
  (cond (decide (((b3.b.length:Nat):Int)=(0:Int)))
   (some ((Dl20Rd.mk b3.b (w64 (b3.p+(1:Int)))),(0:Int)))
   (cond (decide ((w64 ((w64 (b3.p+(1:Int)))-(1:Int)))<((b3.b.length:Nat):Int)))
    (grd ((0:Int)<=(w64 ((w64 (b3.p+(1:Int)))-(1:Int)))/\(w64 ((w64 (b3.p+(1:Int)))-(1:Int)))<((b3.b.length:Nat):Int)) (grd (b7≠0) (some ((Dl20Rd.mk b3.b (w64 (b3.p+(1:Int)))),y6 (IntKind.wrap .i64 (b3.b.getD (x7 (w64 ((w64 (b3.p+(1:Int)))-(1:Int)))) default)) b7))))
    (grd (((b3.b.length:Nat):Int)≠0) (grd ((0:Int)<=(y6 (w64 ((w64 (b3.p+(1:Int)))-(1:Int))) ((b3.b.length:Nat):Int))/\(y6 (w64 ((w64 (b3.p+(1:Int)))-(1:Int))) ((b3.b.length:Nat):Int))<((b3.b.length:Nat):Int)) (grd (((b3.b.length:Nat):Int)≠0) (grd ((0:Int)<=(y6 (w64 ((w64 ((w64 ((w64 (b3.p+(1:Int)))-(1:Int)))*(7:Int)))+(3:Int))) ((b3.b.length:Nat):Int))/\(y6 (w64 ((w64 ((w64 ((w64 (b3.p+(1:Int)))-(1:Int)))*(7:Int)))+(3:Int))) ((b3.b.length:Nat):Int))<((b3.b.length:Nat):Int)) (grd (((b3.b.length:Nat):Int)≠0) (grd (b7≠0) (some ((Dl20Rd.mk b3.b (w64 (b3.p+(1:Int)))),y6 (bits .xor .i64 (w64 ((w64 ((w64 ((w64 ((IntKind.wrap .i64 (b3.b.getD (x7 (y6 (w64 ((w64 (b3.p+(1:Int)))-(1:Int))) ((b3.b.length:Nat):Int))) default))*(131:Int)))+(w64 ((IntKind.wrap .i64 (b3.b.getD (x7 (y6 (w64 ((w64 ((w64 ((w64 (b3.p+(1:Int)))-(1:Int)))*(7:Int)))+(3:Int))) ((b3.b.length:Nat):Int))) default))*(1117:Int)))))+(w64 ((w64 ((w64 (b3.p+(1:Int)))-(1:Int)))*(29:Int)))))+(w64 ((w64 (n8 (w64 ((w64 (b3.p+(1:Int)))-(1:Int))) ((b3.b.length:Nat):Int)))*(53:Int))))) (w64 (n8 (w64 ((w64 ((w64 ((w64 ((IntKind.wrap .i64 (b3.b.getD (x7 (y6 (w64 ((w64 (b3.p+(1:Int)))-(1:Int))) ((b3.b.length:Nat):Int))) default))*(131:Int)))+(w64 ((IntKind.wrap .i64 (b3.b.getD (x7 (y6 (w64 ((w64 ((w64 ((w64 (b3.p+(1:Int)))-(1:Int)))*(7:Int)))+(3:Int))) ((b3.b.length:Nat):Int))) default))*(1117:Int)))))+(w64 ((w64 ((w64 (b3.p+(1:Int)))-(1:Int)))*(29:Int)))))+(w64 ((w64 (n8 (w64 ((w64 (b3.p+(1:Int)))-(1:Int))) ((b3.b.length:Nat):Int)))*(53:Int))))) (64:Int)))) b7))))))))))
def g64:Sw tG:=⟨[.pt 128,.v (.i .i64)],.one (.i .i64),aA⟩
theorem s64:Sjk 64 g64:=sgy [] trivial .o kr kr kr
def bZ(b3:Dl20Rd)(b7:Int):Option (Dl20Rd×Bool):=
 cond (decide ((0:Int)<b7))
  (x4 (aA b3 b7) λv1=>
  some (v1.1,decide (v1.2=(w64 (b7-(1:Int))))))
  (some (b3,false))
def g96:Sw tG:=⟨[.pt 128,.v (.i .i64)],.one .b,bZ⟩
theorem s96:Sjk 96 g96:=sgy [(64,.w g64)] ⟨s64,trivial⟩ .o kr kr kr
def dD(b3:Dl20Rd):Option (Dl20Rd×Int):=
 x4 (aA b3 (16:Int)) λv1=>
 x4 (aA v1.1 (256:Int)) λv2=>
 some (v2.1,w64 ((w64 (v1.2*(256:Int)))+v2.2))
def bAh:Sw tG:=⟨[.pt 128],.one (.i .i64),dD⟩
theorem bMb:Sjk 136 bAh:=sgy [(64,.w g64)] ⟨s64,trivial⟩ .o kr kr kr
def aJu(s4:Int):Option Int:=some s4
def aJw(c9:DEntry)(s3:Int):Option Int:=
 x4 (cond c9.User
  (some (.go (w64 (s3+(4:Int)))))
  (some (.go s3))) λj4=>
  JO.run j4 aJu
def aJx(c9:DEntry)(s2:Int):Option Int:=
 x4 (cond c9.Write
  (some (.go (w64 (s2+(2:Int)))))
  (some (.go s2))) λj3=>
  JO.run j3 (aJw c9)
def dX(c9:DEntry):Option Int:=
 x4 (bU c9.Page (0:Int) (7:Int)) λv1=>
 cond (!v1)
  (some (-1:Int))
  (x4 (cond c9.There
   (some (.go (w64 ((w64 (c9.Page*(8:Int)))+(1:Int)))))
   (some (.go (w64 (c9.Page*(8:Int)))))) λj2=>
   JO.run j2 (aJx c9))
def bWg:Sg tG:=⟨[.st 181],.one (.i .i64),dX⟩
theorem cAv:Sok 204 bWg:=sgx [(51,.r g51)] ⟨s51,trivial⟩ (.s .o (.s .o (.s .o (.j ⟨[1],[],[(.s 3,.i .i64)]⟩ .o (.j ⟨[1],[],[(.s 3,.i .i64)]⟩ .o (.j ⟨[],[],[(.s 3,.i .i64)]⟩ .o .o)))))) kr kr kr
def aSa(s2:(List Int)×Int×(List Int)):Option (Dl20Rd×(List Int)):=some ((Dl20Rd.mk s2.1 s2.2.1),s2.2.2)
def aCm(b7:Int)(s1:(List Int)×Int×(List Int)):Option (Dl20Rd×(List Int)):=
 x4 (x4 (bZ (Dl20Rd.mk s1.1 s1.2.1) b7) λv3=>
  cond v3.2
   (x4 (aA v3.1 (2:Int)) λv4=>
   cond (decide (v4.2=(0:Int)))
    (grd ((0:Int)<=(0:Int)/\(0:Int)<=(63:Int)/\(63:Int)<=((s1.2.2.length:Nat):Int)) (some (.go (v4.1.b,v4.1.p,o5 (x7 (63:Int)-x7 (0:Int)) s1.2.2))))
    (x4 (aA v4.1 (64:Int)) λv5=>
    x4 (aA v5.1 (2:Int)) λv6=>
    grd ((0:Int)<=v5.2/\v5.2<((s1.2.2.length:Nat):Int)) (some (.go (v6.1.b,v6.1.p,s1.2.2.set v5.2.toNat (w64 ((4096:Int)-(w64 (v6.2*(4097:Int))))))))))
   (some (.go (v3.1.b,v3.1.p,s1.2.2)))) λj2=>
  JO.run j2 aSa
def aCl(s7:(List Int)×Int×(List Int)×Int)(s9:(List Int)×Int×Int):Option (LO ((List Int)×Int×(List Int)×Int) (JO ((List Int)×Int×(List Int)) (Dl20Rd×(List Int)))):=grd ((s7.2.2.1.length+x9 ([s9.2.2]:List Int))*8<=2^47/\s7.2.2.1.length+x9 ([s9.2.2]:List Int)<=2^47) (some (.next (s9.1,s9.2.1,s7.2.2.1++([s9.2.2]:List Int),w64 (s7.2.2.2+(1:Int)))))
def aDj(s7:(List Int)×Int×(List Int)×Int)(s8:(List Int)×Int×Int):Option (LO ((List Int)×Int×(List Int)×Int) (JO ((List Int)×Int×(List Int)) (Dl20Rd×(List Int)))):=
 x4 (cond (decide ((w64 (n8 s7.2.2.2 (8:Int)))=(1:Int)))
  (x4 (aA (Dl20Rd.mk s8.1 s8.2.1) (5:Int)) λv10=>
  x4 (aA v10.1 (4:Int)) λv11=>
  x4 (aA v11.1 (3:Int)) λv12=>
  x4 (aA v12.1 (8:Int)) λv13=>
  x4 (dX (DEntry.mk (decide ((0:Int)<v10.2)) (decide ((0:Int)<v11.2)) (decide ((0:Int)<v12.2)) v13.2)) λv14=>
  some (.go (v13.1.b,v13.1.p,v14)))
  (cond (decide ((w64 (n8 s7.2.2.2 (8:Int)))=(2:Int)))
   (x4 (aA (Dl20Rd.mk s8.1 s8.2.1) (5:Int)) λv15=>
   x4 (aA v15.1 (4:Int)) λv16=>
   x4 (aA v16.1 (3:Int)) λv17=>
   x4 (aA v17.1 (8:Int)) λv18=>
   x4 (dX (DEntry.mk (decide ((0:Int)<v15.2)) (decide ((0:Int)<v16.2)) (decide ((0:Int)<v17.2)) v18.2)) λv19=>
   some (.go (v18.1.b,v18.1.p,v19)))
   (some (.go (s8.1,s8.2.1,s8.2.2))))) λj9=>
  JO.run j9 (aCl s7)
def vI(s7:(List Int)×Int×(List Int)×Int):Option (LO ((List Int)×Int×(List Int)×Int) (JO ((List Int)×Int×(List Int)) (Dl20Rd×(List Int)))):=
 cond (decide (s7.2.2.2<(64:Int)))
  (x4 (x4 (aA (Dl20Rd.mk s7.1 s7.2.1) (2:Int)) λv20=>
   cond (decide (v20.2=(0:Int)))
    (x4 (dD v20.1) λv21=>
    some (.go (v21.1.b,v21.1.p,v21.2)))
    (some (.go (v20.1.b,v20.1.p,(0:Int))))) λj8=>
   JO.run j8 (aDj s7))
  (some (.ret (.go (s7.1,s7.2.1,s7.2.2.1))))
def pX(b3:Dl20Rd)(b7:Int):Option (Dl20Rd×(List Int)):=
 x4 (x4 (iter vI (b3.b,b3.p,([]:List Int),(0:Int))) LO.val) λj1=>
  JO.run j1 (aCm b7)
def bUx:Sw tG:=⟨[.pt 128,.v (.i .i64)],.one (.row 3),pX⟩
theorem cEk:Sjk 174 bUx:=sgy [(64,.w g64),(136,.w bAh),(204,.r bWg),(96,.w g96)] ⟨s64,bMb,cAv,s96,trivial⟩ (.s .o (.s .o (.j ⟨[0,1],[],[(.c 0 0,.rb 5),(.c 0 1,.i .i64),(.s 5,.ro 3)]⟩ (.s .o (.k (.l ⟨[0,1],[],[(.c 0 0,.rb 5),(.c 0 1,.i .i64),(.s 5,.ro 3),(.s 6,.i .i64)]⟩ (.s .o (.s (.k (.s .o (.j ⟨[0,1,5,6],[],[(.c 0 0,.rb 5),(.c 0 1,.i .i64),(.s 7,.i .i64)]⟩ .o (.j ⟨[0,1,5,6],[],[(.c 0 0,.rb 5),(.c 0 1,.i .i64),(.s 7,.i .i64)]⟩ .o .o)))) .o))))) (.j ⟨[],[0],[(.d 0 0,.rb 5),(.d 0 1,.i .i64),(.s 5,.ro 3)]⟩ .o .o)))) kr kr kr
def rV:Option Bool:=
 x4 (fS (5:Int)) λv1=>
 cond v1
  (x4 (fS (-1:Int)) λv2=>
  some (!v2))
  (some false)
def g12:Sg tG:=⟨[],.one .b,rV⟩
theorem s12:Sok 12 g12:=sgx [(55,.r g55)] ⟨s55,trivial⟩ .o kr kr kr
def rJ(a7:DIns):Option Bool:=
 x4 (bU a7.Op (0:Int) (15:Int)) λv1=>
 cond v1
  (x4 (bU a7.A (0:Int) (3:Int)) λv2=>
  cond v2
   (x4 (bU a7.N (0:Int) (63:Int)) λv3=>
   some v3)
   (some false))
  (some false)
def bVk:Sg tG:=⟨[.st 141],.one .b,rJ⟩
theorem cBc:Sok 159 bVk:=sgx [(51,.r g51)] ⟨s51,trivial⟩ .o kr kr kr
def aMc(v3:Dl20Rd×Int)(v4:Dl20Rd×Int)(v5:Dl20Rd×Int)(v6:Dl20Rd×Int)(v7:Dl20Rd×Int)(v8:Dl20Rd×Int)(v9:Dl20Rd×Int)(v10:Dl20Rd×Int)(v11:Dl20Rd×Int)(v12:Dl20Rd×Int)(v13:Dl20Rd×Int)(s15:(List Int)×Int×(List Int)×Int×Int):Option (Dl20Rd×DCore):=some ((Dl20Rd.mk s15.1 s15.2.1),DCore.mk s15.2.2.1 s15.2.2.2.1 s15.2.2.2.2 (w64 ((24:Int)+v3.2)) v4.2 (decide (v9.2=(0:Int))) v5.2 v6.2 (w64 (v7.2*v8.2)) (decide (v10.2=(0:Int))) (decide (v11.2=(0:Int))) (decide (v12.2=(0:Int))) (decide (v13.2=(0:Int))))
def yZ(b7:Int)(v1:Dl20Rd×Int)(v2:Dl20Rd×Int)(v3:Dl20Rd×Int)(v4:Dl20Rd×Int)(v5:Dl20Rd×Int)(v6:Dl20Rd×Int)(v7:Dl20Rd×Int)(v8:Dl20Rd×Int)(v9:Dl20Rd×Int)(v10:Dl20Rd×Int)(v11:Dl20Rd×Int)(v12:Dl20Rd×Int)(v13:Dl20Rd×Int)(s14:(List Int)×Int×(List Int)):Option (Dl20Rd×DCore):=
 x4 (x4 (bZ (Dl20Rd.mk s14.1 s14.2.1) b7) λv16=>
  cond v16.2
   (x4 (aA v16.1 (4:Int)) λv17=>
   cond (decide (v17.2=(0:Int)))
    (grd ((0:Int)<=(0:Int)/\(0:Int)<=(3:Int)/\(3:Int)<=((s14.2.2.length:Nat):Int)) (some (.go (v17.1.b,v17.1.p,o5 (x7 (3:Int)-x7 (0:Int)) s14.2.2,v1.2,x8 ([(-1:Int),(1:Int),(2:Int)]:List Int) v2.2.toNat default))))
    (cond (decide (v17.2=(1:Int)))
     (x4 (aA v17.1 (2:Int)) λv18=>
     some (.go (v18.1.b,v18.1.p,s14.2.2,w64 ((64:Int)-(w64 (v18.2*(65:Int)))),x8 ([(-1:Int),(1:Int),(2:Int)]:List Int) v2.2.toNat default)))
     (cond (decide (v17.2=(2:Int)))
      (x4 (aA v17.1 (2:Int)) λv19=>
      some (.go (v19.1.b,v19.1.p,s14.2.2,v1.2,w64 ((8:Int)-(w64 (v19.2*(10:Int)))))))
      (x4 (aA v17.1 (4:Int)) λv20=>
      grd ((0:Int)<=v20.2/\v20.2<((s14.2.2.length:Nat):Int)) (some (.go (v20.1.b,v20.1.p,s14.2.2.set v20.2.toNat (-1:Int),v1.2,x8 ([(-1:Int),(1:Int),(2:Int)]:List Int) v2.2.toNat default)))))))
   (some (.go (v16.1.b,v16.1.p,s14.2.2,v1.2,x8 ([(-1:Int),(1:Int),(2:Int)]:List Int) v2.2.toNat default)))) λj15=>
  JO.run j15 (aMc v3 v4 v5 v6 v7 v8 v9 v10 v11 v12 v13)
def rL(s21:(List Int)×Int×(List Int)×Int):Option (LO ((List Int)×Int×(List Int)×Int) (JO ((List Int)×Int×(List Int)) (Dl20Rd×DCore))):=
 cond (decide (s21.2.2.2<(4:Int)))
  (x4 (aA (Dl20Rd.mk s21.1 s21.2.1) (64:Int)) λv22=>
  x4 (aA v22.1 (16:Int)) λv23=>
  x4 (dD v23.1) λv24=>
  x4 (aA v24.1 (3:Int)) λv25=>
  grd ((0:Int)<=v25.2/\v25.2<((x9 ([v22.2,v23.2,v24.2]:List Int):Nat):Int)) (grd ((s21.2.2.1.length+x9 ([x8 ([v22.2,v23.2,v24.2]:List Int) v25.2.toNat default]:List Int))*8<=2^47/\s21.2.2.1.length+x9 ([x8 ([v22.2,v23.2,v24.2]:List Int) v25.2.toNat default]:List Int)<=2^47) (some (.next (v25.1.b,v25.1.p,s21.2.2.1++([x8 ([v22.2,v23.2,v24.2]:List Int) v25.2.toNat default]:List Int),w64 (s21.2.2.2+(1:Int)))))))
  (some (.ret (.go (s21.1,s21.2.1,s21.2.2.1))))
def oU(b3:Dl20Rd)(b7:Int):Option (Dl20Rd×DCore):=
 x4 (aA b3 (64:Int)) λv1=>
 x4 (aA v1.1 (3:Int)) λv2=>
 grd ((0:Int)<=v2.2/\v2.2<((x9 ([(-1:Int),(1:Int),(2:Int)]:List Int):Nat):Int)) (x4 (aA v2.1 (4:Int)) λv3=>
  x4 (aA v3.1 (64:Int)) λv4=>
  x4 (aA v4.1 (5:Int)) λv5=>
  x4 (aA v5.1 (64:Int)) λv6=>
  x4 (aA v6.1 (4:Int)) λv7=>
  x4 (aA v7.1 (6:Int)) λv8=>
  x4 (aA v8.1 (2:Int)) λv9=>
  x4 (aA v9.1 (6:Int)) λv10=>
  x4 (aA v10.1 (3:Int)) λv11=>
  x4 (aA v11.1 (2:Int)) λv12=>
  x4 (aA v12.1 (25:Int)) λv13=>
  x4 (x4 (iter rL (v13.1.b,v13.1.p,([]:List Int),(0:Int))) LO.val) λj14=>
   JO.run j14 (yZ b7 v1 v2 v3 v4 v5 v6 v7 v8 v9 v10 v11 v12 v13))
def bZp:Sw tG:=⟨[.pt 128,.v (.i .i64)],.one (.st 39),oU⟩
theorem cHe:Sjk 172 bZp:=sgy [(64,.w g64),(136,.w bAh),(96,.w g96)] ⟨s64,bMb,s96,trivial⟩ (.s .o (.s (.m [0]) (.s .o (.s .o (.s .o (.s .o (.s .o (.j ⟨[0,1,4,5],[],[(.c 0 0,.rb 5),(.c 0 1,.i .i64),(.c 5 0,.ro 3)]⟩ (.s .o (.k (.l ⟨[0,1,4,5],[],[(.c 0 0,.rb 5),(.c 0 1,.i .i64),(.c 5 0,.ro 3),(.s 6,.i .i64)]⟩ (.s .o (.s (.k (.m [0])) .o))))) (.j ⟨[4,5],[0],[(.d 0 0,.rb 5),(.d 0 1,.i .i64),(.c 5 0,.ro 3),(.c 5 1,.i .i64),(.c 5 2,.i .i64)]⟩ (.s .o (.c (.s .o (.k (.s .o (.c .o (.s .o (.c .o (.s .o (.c .o (.m [0]))))))))) .o)) .o))))))))) kr kr kr
def aQx(s4:Int×(List Int)×Int×Int×Int):Option (Dl20Rd×DIns):=some ((Dl20Rd.mk s4.2.1 s4.2.2.1),DIns.mk s4.1 s4.2.2.2.1 s4.2.2.2.2)
def uP(b3:Dl20Rd)(b7:Int):Option (Dl20Rd×DIns):=
 x4 (aA b3 (16:Int)) λv1=>
 x4 (aA v1.1 (4:Int)) λv2=>
 x4 (aA v2.1 (64:Int)) λv3=>
 x4 (x4 (bZ v3.1 b7) λv5=>
  cond v5.2
   (x4 (aA v5.1 (3:Int)) λv6=>
   cond (decide (v6.2=(0:Int)))
    (x4 (aA v6.1 (2:Int)) λv7=>
    some (.go ((w64 ((16:Int)-(w64 (v7.2*(17:Int))))),v7.1.b,v7.1.p,v2.2,v3.2)))
    (cond (decide (v6.2=(1:Int)))
     (some (.go (v1.2,v6.1.b,v6.1.p,(4:Int),v3.2)))
     (x4 (aA v6.1 (2:Int)) λv8=>
     some (.go (v1.2,v8.1.b,v8.1.p,v2.2,w64 ((64:Int)-(w64 (v8.2*(65:Int)))))))))
   (some (.go (v1.2,v5.1.b,v5.1.p,v2.2,v3.2)))) λj4=>
  JO.run j4 aQx
def cDh:Sw tG:=⟨[.pt 128,.v (.i .i64)],.one (.st 141),uP⟩
theorem cHh:Sjk 205 cDh:=sgy [(64,.w g64),(96,.w g96)] ⟨s64,s96,trivial⟩ (.s .o (.s .o (.j ⟨[4,5],[0],[(.c 5 0,.i .i64),(.d 0 0,.rb 5),(.d 0 1,.i .i64),(.c 5 1,.i .i64),(.c 5 2,.i .i64)]⟩ .o .o))) kr kr kr
def sE(a7:DIns):Option Int:=
 x4 (rJ a7) λv1=>
 cond (!v1)
  (some (-1:Int))
  (some (w64 ((w64 ((w64 (a7.Op*(256:Int)))+(w64 (a7.A*(64:Int)))))+a7.N)))
def cCh:Sg tG:=⟨[.st 141],.one (.i .i64),sE⟩
theorem cIj:Sok 206 cCh:=sgx [(159,.r bVk)] ⟨cBc,trivial⟩ .o kr kr kr
def aBa(s2:(List Int)×(List Int)×Int):Option (Dl20Rd×(List Int)):=some ((Dl20Rd.mk s2.2.1 s2.2.2),s2.1)
def aAu(s3:(List Int)×Int×(List Int)×Int)(s4:(List Int)×Int×(List Int)):Option (LO ((List Int)×Int×(List Int)×Int) (JO ((List Int)×(List Int)×Int) (Dl20Rd×(List Int)))):=some (.next (s4.1,s4.2.1,s4.2.2,w64 (s3.2.2.2+(1:Int))))
def zV(s3:(List Int)×Int×(List Int)×Int)(v11:Dl20Rd×DIns)(s13:(List Int)×Int×Int):Option (JO ((List Int)×Int×(List Int)) (LO ((List Int)×Int×(List Int)×Int) (JO ((List Int)×(List Int)×Int) (Dl20Rd×(List Int))))):=
 x4 (sE (DIns.mk s13.2.2 v11.2.A v11.2.N)) λv14=>
 grd ((0:Int)<=s3.2.2.2/\s3.2.2.2<((s3.2.2.1.length:Nat):Int)) (some (.go (s13.1,s13.2.1,s3.2.2.1.set s3.2.2.2.toNat v14)))
def yR(s3:(List Int)×Int×(List Int)×Int)(v11:Dl20Rd×DIns)(s12:(List Int)×Int×Int):Option (JO ((List Int)×Int×(List Int)) (LO ((List Int)×Int×(List Int)×Int) (JO ((List Int)×(List Int)×Int) (Dl20Rd×(List Int))))):=
 x4 (cond (decide (s12.2.2=(0:Int)))
  (x4 (aA (Dl20Rd.mk s12.1 s12.2.1) (4:Int)) λv15=>
  cond (decide ((0:Int)<v15.2))
   (some (.go (v15.1.b,v15.1.p,(1:Int))))
   (some (.go (v15.1.b,v15.1.p,s12.2.2))))
  (some (.go (s12.1,s12.2.1,s12.2.2)))) λj13=>
  JO.run j13 (zV s3 v11)
def aAy(s3:(List Int)×Int×(List Int)×Int)(s5:Bool):Option (JO ((List Int)×Int×(List Int)) (LO ((List Int)×Int×(List Int)×Int) (JO ((List Int)×(List Int)×Int) (Dl20Rd×(List Int))))):=
 cond s5
  (x4 (aA (Dl20Rd.mk s3.1 s3.2.1) (3:Int)) λv6=>
  cond (decide ((0:Int)<v6.2))
   (x4 (aA v6.1 (8:Int)) λv7=>
   x4 (aA v7.1 (4:Int)) λv8=>
   x4 (aA v8.1 (3:Int)) λv9=>
   x4 (dX (DEntry.mk (decide ((0:Int)<v7.2)) (decide ((0:Int)<v8.2)) (decide ((0:Int)<v9.2)) (y6 s3.2.2.2 (8:Int)))) λv10=>
   grd ((0:Int)<=s3.2.2.2/\s3.2.2.2<((s3.2.2.1.length:Nat):Int)) (some (.go (v9.1.b,v9.1.p,s3.2.2.1.set s3.2.2.2.toNat v10))))
   (some (.go (v6.1.b,v6.1.p,s3.2.2.1))))
  (x4 (uP (Dl20Rd.mk s3.1 s3.2.1) (0:Int)) λv11=>
  x4 (x4 (aA v11.1 (2:Int)) λv16=>
   cond (decide (v16.2=(0:Int)))
    (x4 (aA v16.1 (10:Int)) λv17=>
    grd ((0:Int)<=v17.2/\v17.2<((10:Nat):Int)) (some (.go (v17.1.b,v17.1.p,x8 ([(1:Int),(2:Int),(3:Int),(4:Int),(3:Int),(4:Int),(6:Int),(7:Int),(11:Int),(15:Int)]:List Int) v17.2.toNat default))))
    (some (.go (v16.1.b,v16.1.p,v11.2.Op)))) λj12=>
   JO.run j12 (yR s3 v11))
def tO(s3:(List Int)×Int×(List Int)×Int):Option (LO ((List Int)×Int×(List Int)×Int) (JO ((List Int)×(List Int)×Int) (Dl20Rd×(List Int)))):=
 cond (decide (s3.2.2.2<((s3.2.2.1.length:Nat):Int)))
  (x4 (x4 (cond (decide ((w64 (n8 s3.2.2.2 (8:Int)))=(1:Int)))
   (some (.go (decide ((w64 (n8 s3.2.2.2 (8:Int)))=(1:Int)))))
   (some (.go (decide ((w64 (n8 s3.2.2.2 (8:Int)))=(2:Int)))))) λj5=>
   JO.run j5 (aAy s3)) λj4=>
   JO.run j4 (aAu s3))
  (some (.ret (.go (s3.2.2.1,s3.1,s3.2.1))))
def tA(b3:Dl20Rd):Option (Dl20Rd×(List Int)):=
 x4 (pX b3 (0:Int)) λv1=>
 x4 (x4 (iter tO (v1.1.b,v1.1.p,v1.2,(0:Int))) LO.val) λj2=>
  JO.run j2 aBa
def cBk:Sw tG:=⟨[.pt 128],.one (.row 3),tA⟩
theorem cHj:Sjk 173 cBk:=sgy [(174,.w bUx),(64,.w g64),(204,.r bWg),(205,.w cDh),(206,.r cCh)] ⟨cEk,s64,cAv,cHh,cIj,trivial⟩ (.s .o (.s .o (.j ⟨[],[0],[(.s 3,.ro 3),(.d 0 0,.rb 5),(.d 0 1,.i .i64)]⟩ (.s .o (.k (.l ⟨[0],[],[(.c 0 0,.rb 5),(.c 0 1,.i .i64),(.s 3,.ro 3),(.s 4,.i .i64)]⟩ (.s .o (.j ⟨[0,4],[],[(.c 0 0,.rb 5),(.c 0 1,.i .i64),(.s 3,.ro 3)]⟩ (.k (.s .o (.k (.j ⟨[0,3,4],[],[(.s 41,.b)]⟩ .o (.c .o (.s .o (.j ⟨[0,3,4,5],[],[(.c 0 0,.rb 5),(.c 0 1,.i .i64),(.c 5 0,.i .i64)]⟩ .o (.j ⟨[0,3,4,5],[],[(.c 0 0,.rb 5),(.c 0 1,.i .i64),(.c 5 0,.i .i64)]⟩ .o .o)))))))) .o))))) .o))) kr kr kr
def aOj(s4:(List Int)×Int×(List Int))(s5:(List Int)×Int×Int×Int×Int×Bool×Int×Int×Int×Bool×Bool×Bool×Bool×(List Int)×Int×(List Int)×(List Int)):Option (Dl20Rd×DBare):=some ((Dl20Rd.mk s5.2.2.2.2.2.2.2.2.2.2.2.2.2.1 s5.2.2.2.2.2.2.2.2.2.2.2.2.2.2.1),DBare.mk (DCore.mk s5.1 s5.2.1 s5.2.2.1 s5.2.2.2.1 s5.2.2.2.2.1 s5.2.2.2.2.2.1 s5.2.2.2.2.2.2.1 s5.2.2.2.2.2.2.2.1 s5.2.2.2.2.2.2.2.2.1 s5.2.2.2.2.2.2.2.2.2.1 s5.2.2.2.2.2.2.2.2.2.2.1 s5.2.2.2.2.2.2.2.2.2.2.2.1 s5.2.2.2.2.2.2.2.2.2.2.2.2.1) s5.2.2.2.2.2.2.2.2.2.2.2.2.2.2.2.1 s5.2.2.2.2.2.2.2.2.2.2.2.2.2.2.2.2 s4.2.2)
def aAr(b7:Int)(v1:Dl20Rd×DCore)(v2:Dl20Rd×(List Int))(s3:(List Int)×Int×(List Int))(s4:(List Int)×Int×(List Int)):Option (Dl20Rd×DBare):=
 x4 (x4 (bZ (Dl20Rd.mk s4.1 s4.2.1) b7) λv6=>
  cond v6.2
   (x4 (aA v6.1 (3:Int)) λv7=>
   cond (decide (v7.2=(0:Int)))
    (x4 (oU v7.1 (1:Int)) λv8=>
    some (.go (v8.2.Regs,v8.2.Pc,v8.2.Root,v8.2.Vector,v8.2.Saved,v8.2.SavedUser,v8.2.Cause,v8.2.Bad,v8.2.Timer,v8.2.Waits,v8.2.User,v8.2.On,v8.2.Stopped,v8.1.b,v8.1.p,v2.2,s3.2.2)))
    (cond (decide (v7.2=(1:Int)))
     (x4 (pX v7.1 (1:Int)) λv9=>
     some (.go (v1.2.Regs,v1.2.Pc,v1.2.Root,v1.2.Vector,v1.2.Saved,v1.2.SavedUser,v1.2.Cause,v1.2.Bad,v1.2.Timer,v1.2.Waits,v1.2.User,v1.2.On,v1.2.Stopped,v9.1.b,v9.1.p,v9.2,s3.2.2)))
     (some (.go (v1.2.Regs,v1.2.Pc,v1.2.Root,v1.2.Vector,v1.2.Saved,v1.2.SavedUser,v1.2.Cause,v1.2.Bad,v1.2.Timer,v1.2.Waits,v1.2.User,v1.2.On,v1.2.Stopped,v7.1.b,v7.1.p,v2.2,j0 (x7 (31:Int)) (0:Int))))))
   (some (.go (v1.2.Regs,v1.2.Pc,v1.2.Root,v1.2.Vector,v1.2.Saved,v1.2.SavedUser,v1.2.Cause,v1.2.Bad,v1.2.Timer,v1.2.Waits,v1.2.User,v1.2.On,v1.2.Stopped,v6.1.b,v6.1.p,v2.2,s3.2.2)))) λj5=>
  JO.run j5 (aOj s4)
def zQ(s11:(List Int)×Int×(List Int)×Int):Option (LO ((List Int)×Int×(List Int)×Int) (JO ((List Int)×Int×(List Int)) (Dl20Rd×DBare))):=
 cond (decide ((0:Int)<s11.2.2.2))
  (x4 (dD (Dl20Rd.mk s11.1 s11.2.1)) λv12=>
  grd ((s11.2.2.1.length+x9 ([v12.2]:List Int))*8<=2^47/\s11.2.2.1.length+x9 ([v12.2]:List Int)<=2^47) (some (.next (v12.1.b,v12.1.p,s11.2.2.1++([v12.2]:List Int),w64 (s11.2.2.2-(1:Int))))))
  (some (.ret (.go (s11.1,s11.2.1,s11.2.2.1))))
def aAs(b7:Int)(v1:Dl20Rd×DCore)(v2:Dl20Rd×(List Int))(s3:(List Int)×Int×(List Int)):Option (Dl20Rd×DBare):=
 x4 (x4 (aA (Dl20Rd.mk s3.1 s3.2.1) (3:Int)) λv10=>
  x4 (iter zQ (v10.1.b,v10.1.p,([]:List Int),v10.2)) LO.val) λj4=>
  JO.run j4 (aAr b7 v1 v2 s3)
def nH(s14:(List Int)×Int×(List Int)×Int):Option (LO ((List Int)×Int×(List Int)×Int) (JO ((List Int)×Int×(List Int)) (Dl20Rd×DBare))):=
 cond (decide ((0:Int)<s14.2.2.2))
  (x4 (dD (Dl20Rd.mk s14.1 s14.2.1)) λv15=>
  grd ((s14.2.2.1.length+x9 ([v15.2]:List Int))*8<=2^47/\s14.2.2.1.length+x9 ([v15.2]:List Int)<=2^47) (some (.next (v15.1.b,v15.1.p,s14.2.2.1++([v15.2]:List Int),w64 (s14.2.2.2-(1:Int))))))
  (some (.ret (.go (s14.1,s14.2.1,s14.2.2.1))))
def sN(b3:Dl20Rd)(b7:Int):Option (Dl20Rd×DBare):=
 x4 (oU b3 (0:Int)) λv1=>
 x4 (tA v1.1) λv2=>
 x4 (x4 (aA v2.1 (4:Int)) λv13=>
  x4 (iter nH (v13.1.b,v13.1.p,([]:List Int),v13.2)) LO.val) λj3=>
  JO.run j3 (aAs b7 v1 v2)
def cCo:Sw tG:=⟨[.pt 128,.v (.i .i64)],.one (.st 41),sN⟩
theorem cHw:Sjk 137 cCo:=sgy [(172,.w bZp),(173,.w cBk),(64,.w g64),(136,.w bAh),(96,.w g96),(174,.w bUx)] ⟨cHe,cHj,s64,bMb,s96,cEk,trivial⟩ (.s .o (.s .o (.j ⟨[0,1,4,5],[],[(.c 0 0,.rb 5),(.c 0 1,.i .i64),(.c 5 14,.ro 3)]⟩ (.s .o (.k (.l ⟨[0,1,4,5],[],[(.c 0 0,.rb 5),(.c 0 1,.i .i64),(.c 5 14,.ro 3),(.s 6,.i .i64)]⟩ (.s .o (.s (.k (.m [0])) .o))))) (.j ⟨[0,1,4,5],[],[(.c 0 0,.rb 5),(.c 0 1,.i .i64),(.c 5 15,.ro 3)]⟩ (.s .o (.k (.l ⟨[0,1,4,5],[],[(.c 0 0,.rb 5),(.c 0 1,.i .i64),(.c 5 15,.ro 3),(.s 7,.i .i64)]⟩ (.s .o (.s (.k (.m [0])) .o))))) (.j ⟨[4,5],[0],[(.c 5 0,.ro 3),(.c 5 1,.i .i64),(.c 5 2,.i .i64),(.c 5 3,.i .i64),(.c 5 4,.i .i64),(.c 5 5,.b),(.c 5 6,.i .i64),(.c 5 7,.i .i64),(.c 5 8,.i .i64),(.c 5 9,.b),(.c 5 10,.b),(.c 5 11,.b),(.c 5 12,.b),(.d 0 0,.rb 5),(.d 0 1,.i .i64),(.c 5 13,.ro 3),(.c 5 14,.ro 3)]⟩ .o .o))))) kr kr kr
theorem aPv:LW 135 ⟨6,[.cell 2 true 2],.seq (.reg false (rg 135 0)) (.seq (.rega [rg 135 1,rg 135 2]) .ret)⟩:=kr
def sJ(c2:Int):Option DHost:=some (DHost.mk (j0 (x7 (160:Int)) (0:Int)) (j0 (x7 (3:Int)) (DGuest.mk false (DCore.mk ([]:List Int) (0:Int) (0:Int) (0:Int) (0:Int) false (0:Int) (0:Int) (0:Int) false false false false) ([]:List DSlot) ([]:List Int) ([]:List Int))))
theorem aVj{c2:Int}{R_:DHost}(hh:sJ c2=some R_):Fn Tryz.prog 135 [.int .i64 c2] (.agg [.own 3 1 R_.Words.length (fl (eI .i64) R_.Words),.own 94 17 R_.Guests.length (fl dO R_.Guests)]):=by let z1:=DCore.mk ([]:List Int) (0:Int) (0:Int) (0:Int) (0:Int) false (0:Int) (0:Int) (0:Int) false false false false;let z2:=DGuest.mk false z1 ([]:List DSlot) ([]:List Int) ([]:List Int);unfold sJ at hh;refine Fn.start aPv [] (E:=sp 6 []) kr (v:= .agg [sw 0 R_.Words,.sref 1 [] 0 R_.Guests.length 17]) (Hr:=[(1,some (rO94 R_.Guests)),(0,some (rI_3 R_.Words))]) (k:=2) kr (sy [2] [0] (sp 6 [(2,pp 0)]) [(0,some ⟨26,[.nil,.nil]⟩)] 1 (Aw.srega [2] [0,1,2] (bRa ?_ (bRa ?_ cCu))));{refine ys (.mk 3 1 8 [ii 0] (.c (ii 160))) (some 3) (aZn (c:=(eI .i64)) (d:=(0:Int)) (k:=(160:Int)) kr dd kr ?_);refine ys (.mk 94 17 176 zc0 (.c (ii 3))) (some 4) (bEn (z:=(bb false:: .nil::jO [.nil,.nil,.nil])) (k:=(3:Int)) kr dd ?_);let q1:Root:=⟨26,[.sref 1 [] 0 (x9 (j0 (x7 (160:Int)) (0:Int))) 1,.sref 2 [] 0 (x7 (3:Int)) 17]⟩;let q2:Root:=(rI_3 (j0 (x7 (160:Int)) (0:Int)));let q3:Root:=⟨94,aR (bb false:: .nil::jO [.nil,.nil,.nil]) (x7 (3:Int))⟩;refine yt (sp 6 [(2,pp 0)]) [(0,some q1),(1,some q2),(2,some q3)] 3 (Aw.ent (Ent.foldM (c:=dO) (k:=x7 (3:Int)) (d:=z2) (R:=2) (e:=94) (us2:=sp 6 [(2,pp 0)]) (H2:=[(0,some ⟨26,[.sref 1 [] 0 (x9 (j0 (x7 (160:Int)) (0:Int))) 1,.sref 3 [] 0 (x9 (j0 (x7 (3:Int)) z2)) 17]⟩),(1,some q2)]) (L:=[none,some none,none,none,none,none,none,none,none,none,none,none,none,none,some none,some none,some none]) (ws:=(bb false:: .own 3 1 0 []::jO [.own 91 3 0 [],.own 3 1 0 [],.own 3 1 0 []])) dd kr kr (fF (aEp (fF (fF (fF (fF (fF (fF (fF (fF (fF (fF (fF (fF (aEp (aEp (aEp bLl))))))))))))))))) rfl (bDh kr (aEq (u:=pp 0) kr (.same _) bKo)) (aHa (t:=q1) rfl kr rfl (aNc (.same _) (aNc (.sref _ _ _ _ eqn) bLw)) (aHa (t:=q2) rfl kr rfl xX bWk))) (Aw.ret ?_));rw[cI hh];let q4:Root:=(rO94 (j0 (x7 (3:Int)) z2));exact nX (r':= .agg [.sref 1 [] 0 (x9 (j0 (x7 (160:Int)) (0:Int))) 1,.sref 3 [] 0 (x9 (j0 (x7 (3:Int)) z2)) 17]) kr (Ent.list [some 1,some 3] rfl rfl (m9 _) (jI (oS rz)) (hn gX (hn bO cN)))};refine ys (.mk 94 17 176 zc0 (.c (ii 3))) (some 4) (bEn (z:=(bb false:: .nil::jO [.nil,.nil,.nil])) (k:=(3:Int)) kr dd ?_);refine ys (.mk 3 1 8 [ii 0] (.c (ii 160))) (some 3) (aZn (c:=(eI .i64)) (d:=(0:Int)) (k:=(160:Int)) kr dd kr ?_);let q5:Root:=⟨26,[.sref 2 [] 0 (x9 (j0 (x7 (160:Int)) (0:Int))) 1,.sref 1 [] 0 (x7 (3:Int)) 17]⟩;let q6:Root:=⟨94,aR (bb false:: .nil::jO [.nil,.nil,.nil]) (x7 (3:Int))⟩;let q7:Root:=(rI_3 (j0 (x7 (160:Int)) (0:Int)));refine yt (sp 6 [(2,pp 0)]) [(0,some q5),(1,some q6),(2,some q7)] 3 (Aw.ent (Ent.foldM (c:=dO) (k:=x7 (3:Int)) (d:=z2) (R:=1) (e:=94) (us2:=sp 6 [(2,pp 0)]) (H2:=[(0,some ⟨26,[.sref 2 [] 0 (x9 (j0 (x7 (160:Int)) (0:Int))) 1,.sref 3 [] 0 (x9 (j0 (x7 (3:Int)) z2)) 17]⟩),(2,some q7)]) (L:=[none,some none,none,none,none,none,none,none,none,none,none,none,none,none,some none,some none,some none]) (ws:=(bb false:: .own 3 1 0 []::jO [.own 91 3 0 [],.own 3 1 0 [],.own 3 1 0 []])) dd kr kr (fF (aEp (fF (fF (fF (fF (fF (fF (fF (fF (fF (fF (fF (fF (aEp (aEp (aEp bLl))))))))))))))))) rfl (bDh kr (aEq (u:=pp 0) kr (.same _) bKo)) (aHa (t:=q5) rfl kr rfl (aNc (.same _) (aNc (.sref _ _ _ _ eqn) bLw)) (aHa (t:=q7) rfl kr rfl xX bWk))) (Aw.ret ?_));rw[cI hh];let q8:Root:=(rO94 (j0 (x7 (3:Int)) z2));exact nX (r':= .agg [.sref 2 [] 0 (x9 (j0 (x7 (160:Int)) (0:Int))) 1,.sref 3 [] 0 (x9 (j0 (x7 (3:Int)) z2)) 17]) kr (Ent.list [some 2,some 3] rfl rfl (m9 _) (jI (oS rz)) (hn gX (hn bO cN)))
def cDu:Sg tG:=⟨[.i .i64],.one (.st 2026),sJ⟩
theorem cGy:Sok 135 cDu:=λc2 R_ hh=>kc (aVj (c2:=c2) hh)
def aOd(s5:(List Int)×(List Int)×Int×(List DGuest)):Option (Dl20Rd×DHost):=some ((Dl20Rd.mk s5.2.1 s5.2.2.1),DHost.mk s5.1 s5.2.2.2)
def aAt(b7:Int)(s3:(List Int)×Int×(List Int)×(List DGuest))(s4:(List Int)×Int×(List DGuest)):Option (Dl20Rd×DHost):=
 x4 (x4 (bZ (Dl20Rd.mk s4.1 s4.2.1) b7) λv6=>
  cond v6.2
   (x4 (aA v6.1 (4:Int)) λv7=>
   cond (decide (v7.2=(0:Int)))
    (x4 (aA v7.1 (9:Int)) λv8=>
    grd ((0:Int)<=v8.2/\v8.2<((s3.2.2.1.length:Nat):Int)) (some (.go ((s3.2.2.1.set v8.2.toNat (4096:Int)),v8.1.b,v8.1.p,s4.2.2))))
    (cond (decide (v7.2=(1:Int)))
     (grd ((0:Int)<=(0:Int)/\(0:Int)<=(2:Int)/\(2:Int)<=((s4.2.2.length:Nat):Int)) (some (.go (s3.2.2.1,v7.1.b,v7.1.p,o5 (x7 (2:Int)-x7 (0:Int)) s4.2.2))))
     (cond (decide (v7.2=(2:Int)))
      (grd ((0:Int)<=(2:Int)/\(2:Int)<((s4.2.2.length:Nat):Int)) (some (.go (s3.2.2.1,v7.1.b,v7.1.p,s4.2.2.set 2 (DGuest.mk false (DCore.mk ([]:List Int) (0:Int) (0:Int) (0:Int) (0:Int) false (0:Int) (0:Int) (0:Int) false false false false) ([]:List DSlot) ([(1:Int)]:List Int) ([]:List Int))))))
      (grd ((0:Int)<=(0:Int)/\(0:Int)<((s4.2.2.length:Nat):Int)) (some (.go (s3.2.2.1,v7.1.b,v7.1.p,s4.2.2.set 0 (DGuest.mk (s4.2.2.getD 0 default).Live (s4.2.2.getD 0 default).C ([DSlot.mk (3:Int) true false,DSlot.mk (3:Int) false false]:List DSlot) (s4.2.2.getD 0 default).In (s4.2.2.getD 0 default).Out))))))))
   (some (.go (s3.2.2.1,v6.1.b,v6.1.p,s4.2.2)))) λj5=>
  JO.run j5 aOd
def zX(s10:(List Int)×Int×(List DGuest)×Int)(s11:(List Int)×Int×(List DGuest)):Option (LO ((List Int)×Int×(List DGuest)×Int) (JO ((List Int)×Int×(List DGuest)) (Dl20Rd×DHost))):=some (.next (s11.1,s11.2.1,s11.2.2,w64 (s10.2.2.2-(1:Int))))
def rD(s10:(List Int)×Int×(List DGuest)×Int):Option (LO ((List Int)×Int×(List DGuest)×Int) (JO ((List Int)×Int×(List DGuest)) (Dl20Rd×DHost))):=
 cond (decide ((0:Int)<s10.2.2.2))
  (x4 (x4 (aA (Dl20Rd.mk s10.1 s10.2.1) (3:Int)) λv12=>
   x4 (aA v12.1 (3:Int)) λv13=>
   x4 (aA v13.1 (8:Int)) λv14=>
   grd ((0:Int)<=v12.2/\v12.2<((s10.2.2.1.length:Nat):Int)) (cond (s10.2.2.1.getD v12.2.toNat default).Live
    (grd ((0:Int)<=v13.2/\v13.2<((s10.2.2.1.length:Nat):Int)) (cond (s10.2.2.1.getD v13.2.toNat default).Live
     (grd ((0:Int)<=v12.2/\v12.2<((s10.2.2.1.length:Nat):Int)) (grd ((0:Int)<=v14.2/\v14.2<((x9 (s10.2.2.1.getD v12.2.toNat default).Pages:Nat):Int)) (cond (decide ((0:Int)<=(x8 (s10.2.2.1.getD v12.2.toNat default).Pages v14.2.toNat default).Frame))
      (grd ((0:Int)<=v12.2/\v12.2<((s10.2.2.1.length:Nat):Int)) (grd ((0:Int)<=v14.2/\v14.2<((x9 (s10.2.2.1.getD v12.2.toNat default).Pages:Nat):Int)) (grd ((0:Int)<=v13.2/\v13.2<((s10.2.2.1.length:Nat):Int)) (x4 (aA v14.1 (8:Int)) λv15=>
       grd ((0:Int)<=v12.2/\v12.2<((s10.2.2.1.length:Nat):Int)) (grd ((0:Int)<=v14.2/\v14.2<((x9 (x8 (s10.2.2.1.set v12.2.toNat (DGuest.mk (s10.2.2.1.getD v12.2.toNat default).Live (s10.2.2.1.getD v12.2.toNat default).C (qXU (s10.2.2.1.getD v12.2.toNat default).Pages v14.2.toNat (DSlot.mk (x8 (s10.2.2.1.getD v12.2.toNat default).Pages v14.2.toNat default).Frame false (x8 (s10.2.2.1.getD v12.2.toNat default).Pages v14.2.toNat default).Dirty)) (s10.2.2.1.getD v12.2.toNat default).In (s10.2.2.1.getD v12.2.toNat default).Out)) v12.2.toNat default).Pages:Nat):Int)) (x4 (aA v15.1 (2:Int)) λv16=>
        grd ((0:Int)<=v15.2/\v15.2<((x9 (x8 (s10.2.2.1.set v12.2.toNat (DGuest.mk (s10.2.2.1.getD v12.2.toNat default).Live (s10.2.2.1.getD v12.2.toNat default).C (qXU (s10.2.2.1.getD v12.2.toNat default).Pages v14.2.toNat (DSlot.mk (x8 (s10.2.2.1.getD v12.2.toNat default).Pages v14.2.toNat default).Frame false (x8 (s10.2.2.1.getD v12.2.toNat default).Pages v14.2.toNat default).Dirty)) (s10.2.2.1.getD v12.2.toNat default).In (s10.2.2.1.getD v12.2.toNat default).Out)) v13.2.toNat default).Pages:Nat):Int)) (some (.go (v16.1.b,v16.1.p,qXU (s10.2.2.1.set v12.2.toNat (DGuest.mk (s10.2.2.1.getD v12.2.toNat default).Live (s10.2.2.1.getD v12.2.toNat default).C (qXU (s10.2.2.1.getD v12.2.toNat default).Pages v14.2.toNat (DSlot.mk (x8 (s10.2.2.1.getD v12.2.toNat default).Pages v14.2.toNat default).Frame false (x8 (s10.2.2.1.getD v12.2.toNat default).Pages v14.2.toNat default).Dirty)) (s10.2.2.1.getD v12.2.toNat default).In (s10.2.2.1.getD v12.2.toNat default).Out)) v13.2.toNat (DGuest.mk (x8 (s10.2.2.1.set v12.2.toNat (DGuest.mk (s10.2.2.1.getD v12.2.toNat default).Live (s10.2.2.1.getD v12.2.toNat default).C (qXU (s10.2.2.1.getD v12.2.toNat default).Pages v14.2.toNat (DSlot.mk (x8 (s10.2.2.1.getD v12.2.toNat default).Pages v14.2.toNat default).Frame false (x8 (s10.2.2.1.getD v12.2.toNat default).Pages v14.2.toNat default).Dirty)) (s10.2.2.1.getD v12.2.toNat default).In (s10.2.2.1.getD v12.2.toNat default).Out)) v13.2.toNat default).Live (x8 (s10.2.2.1.set v12.2.toNat (DGuest.mk (s10.2.2.1.getD v12.2.toNat default).Live (s10.2.2.1.getD v12.2.toNat default).C (qXU (s10.2.2.1.getD v12.2.toNat default).Pages v14.2.toNat (DSlot.mk (x8 (s10.2.2.1.getD v12.2.toNat default).Pages v14.2.toNat default).Frame false (x8 (s10.2.2.1.getD v12.2.toNat default).Pages v14.2.toNat default).Dirty)) (s10.2.2.1.getD v12.2.toNat default).In (s10.2.2.1.getD v12.2.toNat default).Out)) v13.2.toNat default).C (qXU (x8 (s10.2.2.1.set v12.2.toNat (DGuest.mk (s10.2.2.1.getD v12.2.toNat default).Live (s10.2.2.1.getD v12.2.toNat default).C (qXU (s10.2.2.1.getD v12.2.toNat default).Pages v14.2.toNat (DSlot.mk (x8 (s10.2.2.1.getD v12.2.toNat default).Pages v14.2.toNat default).Frame false (x8 (s10.2.2.1.getD v12.2.toNat default).Pages v14.2.toNat default).Dirty)) (s10.2.2.1.getD v12.2.toNat default).In (s10.2.2.1.getD v12.2.toNat default).Out)) v13.2.toNat default).Pages v15.2.toNat (DSlot.mk (x8 (x8 (s10.2.2.1.set v12.2.toNat (DGuest.mk (s10.2.2.1.getD v12.2.toNat default).Live (s10.2.2.1.getD v12.2.toNat default).C (qXU (s10.2.2.1.getD v12.2.toNat default).Pages v14.2.toNat (DSlot.mk (x8 (s10.2.2.1.getD v12.2.toNat default).Pages v14.2.toNat default).Frame false (x8 (s10.2.2.1.getD v12.2.toNat default).Pages v14.2.toNat default).Dirty)) (s10.2.2.1.getD v12.2.toNat default).In (s10.2.2.1.getD v12.2.toNat default).Out)) v12.2.toNat default).Pages v14.2.toNat default).Frame false (decide (v16.2=(0:Int))))) (x8 (s10.2.2.1.set v12.2.toNat (DGuest.mk (s10.2.2.1.getD v12.2.toNat default).Live (s10.2.2.1.getD v12.2.toNat default).C (qXU (s10.2.2.1.getD v12.2.toNat default).Pages v14.2.toNat (DSlot.mk (x8 (s10.2.2.1.getD v12.2.toNat default).Pages v14.2.toNat default).Frame false (x8 (s10.2.2.1.getD v12.2.toNat default).Pages v14.2.toNat default).Dirty)) (s10.2.2.1.getD v12.2.toNat default).In (s10.2.2.1.getD v12.2.toNat default).Out)) v13.2.toNat default).In (x8 (s10.2.2.1.set v12.2.toNat (DGuest.mk (s10.2.2.1.getD v12.2.toNat default).Live (s10.2.2.1.getD v12.2.toNat default).C (qXU (s10.2.2.1.getD v12.2.toNat default).Pages v14.2.toNat (DSlot.mk (x8 (s10.2.2.1.getD v12.2.toNat default).Pages v14.2.toNat default).Frame false (x8 (s10.2.2.1.getD v12.2.toNat default).Pages v14.2.toNat default).Dirty)) (s10.2.2.1.getD v12.2.toNat default).In (s10.2.2.1.getD v12.2.toNat default).Out)) v13.2.toNat default).Out))))))))))
      (some (.go (v14.1.b,v14.1.p,s10.2.2.1))))))
     (some (.go (v14.1.b,v14.1.p,s10.2.2.1)))))
    (some (.go (v14.1.b,v14.1.p,s10.2.2.1))))) λj11=>
   JO.run j11 (zX s10))
  (some (.ret (.go (s10.1,s10.2.1,s10.2.2.1))))
def aAm(b7:Int)(s3:(List Int)×Int×(List Int)×(List DGuest)):Option (Dl20Rd×DHost):=
 x4 (x4 (aA (Dl20Rd.mk s3.1 s3.2.1) (4:Int)) λv9=>
  x4 (iter rD (v9.1.b,v9.1.p,s3.2.2.2,v9.2)) LO.val) λj4=>
  JO.run j4 (aAt b7 s3)
def zR(s18:(List Int)×Int×(List Int)×(List DGuest)×(List Int)×Int×Int×Int×Int×Bool×Int×Int×Int×Bool×Bool×Bool×Bool×(List Int)×(List Int)×(List Int)×Int)(s19:(List Int)×Int×(List Int)×(List DGuest)×(List Int)×Int×Int×Int×Int×Bool×Int×Int×Int×Bool×Bool×Bool×Bool×(List Int)×(List Int)×(List Int)):Option (LO ((List Int)×Int×(List Int)×(List DGuest)×(List Int)×Int×Int×Int×Int×Bool×Int×Int×Int×Bool×Bool×Bool×Bool×(List Int)×(List Int)×(List Int)×Int) (JO ((List Int)×Int×(List Int)×(List DGuest)) (Dl20Rd×DHost))):=some (.next (s19.1,s19.2.1,s19.2.2.1,s19.2.2.2.1,s19.2.2.2.2.1,s19.2.2.2.2.2.1,s19.2.2.2.2.2.2.1,s19.2.2.2.2.2.2.2.1,s19.2.2.2.2.2.2.2.2.1,s19.2.2.2.2.2.2.2.2.2.1,s19.2.2.2.2.2.2.2.2.2.2.1,s19.2.2.2.2.2.2.2.2.2.2.2.1,s19.2.2.2.2.2.2.2.2.2.2.2.2.1,s19.2.2.2.2.2.2.2.2.2.2.2.2.2.1,s19.2.2.2.2.2.2.2.2.2.2.2.2.2.2.1,s19.2.2.2.2.2.2.2.2.2.2.2.2.2.2.2.1,s19.2.2.2.2.2.2.2.2.2.2.2.2.2.2.2.2.1,s19.2.2.2.2.2.2.2.2.2.2.2.2.2.2.2.2.2.1,s19.2.2.2.2.2.2.2.2.2.2.2.2.2.2.2.2.2.2.1,s19.2.2.2.2.2.2.2.2.2.2.2.2.2.2.2.2.2.2.2,w64 (s18.2.2.2.2.2.2.2.2.2.2.2.2.2.2.2.2.2.2.2.2-(1:Int))))
def zA(s18:(List Int)×Int×(List Int)×(List DGuest)×(List Int)×Int×Int×Int×Int×Bool×Int×Int×Int×Bool×Bool×Bool×Bool×(List Int)×(List Int)×(List Int)×Int)(v20:Dl20Rd×DBare)(s21:(List Int)×Int×(List Int)):Option (JO ((List Int)×Int×(List Int)×(List DGuest)×(List Int)×Int×Int×Int×Int×Bool×Int×Int×Int×Bool×Bool×Bool×Bool×(List Int)×(List Int)×(List Int)) (LO ((List Int)×Int×(List Int)×(List DGuest)×(List Int)×Int×Int×Int×Int×Bool×Int×Int×Int×Bool×Bool×Bool×Bool×(List Int)×(List Int)×(List Int)×Int) (JO ((List Int)×Int×(List Int)×(List DGuest)) (Dl20Rd×DHost)))):=
 x4 (qR (DHost.mk s18.2.2.1 s18.2.2.2.1) (DBare.mk v20.2.C s21.2.2 v20.2.In v20.2.Out)) λv22=>
 cond v22.2.2
  (some (.go (s21.1,s21.2.1,v22.1.Words,v22.1.Guests,v20.2.C.Regs,v20.2.C.Pc,v20.2.C.Root,v20.2.C.Vector,v20.2.C.Saved,v20.2.C.SavedUser,v20.2.C.Cause,v20.2.C.Bad,v20.2.C.Timer,v20.2.C.Waits,v20.2.C.User,v20.2.C.On,v20.2.C.Stopped,s21.2.2,v20.2.In,v20.2.Out)))
  (some (.go (s21.1,s21.2.1,s18.2.2.1,s18.2.2.2.1,v20.2.C.Regs,v20.2.C.Pc,v20.2.C.Root,v20.2.C.Vector,v20.2.C.Saved,v20.2.C.SavedUser,v20.2.C.Cause,v20.2.C.Bad,v20.2.C.Timer,v20.2.C.Waits,v20.2.C.User,v20.2.C.On,v20.2.C.Stopped,s21.2.2,v20.2.In,v20.2.Out)))
def yT(s23:(List Int)×Int×(List Int)×Int)(s24:(List Int)×Int×(List Int)):Option (LO ((List Int)×Int×(List Int)×Int) (JO ((List Int)×Int×(List Int)) (JO ((List Int)×Int×(List Int)×(List DGuest)×(List Int)×Int×Int×Int×Int×Bool×Int×Int×Int×Bool×Bool×Bool×Bool×(List Int)×(List Int)×(List Int)) (LO ((List Int)×Int×(List Int)×(List DGuest)×(List Int)×Int×Int×Int×Int×Bool×Int×Int×Int×Bool×Bool×Bool×Bool×(List Int)×(List Int)×(List Int)×Int) (JO ((List Int)×Int×(List Int)×(List DGuest)) (Dl20Rd×DHost)))))):=some (.next (s24.1,s24.2.1,s24.2.2,w64 (s23.2.2.2+(1:Int))))
def yX(s18:(List Int)×Int×(List Int)×(List DGuest)×(List Int)×Int×Int×Int×Int×Bool×Int×Int×Int×Bool×Bool×Bool×Bool×(List Int)×(List Int)×(List Int)×Int)(s23:(List Int)×Int×(List Int)×Int)(s25:(List Int)×Int×(List Int)):Option (JO ((List Int)×Int×(List Int)) (LO ((List Int)×Int×(List Int)×Int) (JO ((List Int)×Int×(List Int)) (JO ((List Int)×Int×(List Int)×(List DGuest)×(List Int)×Int×Int×Int×Int×Bool×Int×Int×Int×Bool×Bool×Bool×Bool×(List Int)×(List Int)×(List Int)) (LO ((List Int)×Int×(List Int)×(List DGuest)×(List Int)×Int×Int×Int×Int×Bool×Int×Int×Int×Bool×Bool×Bool×Bool×(List Int)×(List Int)×(List Int)×Int) (JO ((List Int)×Int×(List Int)×(List DGuest)) (Dl20Rd×DHost))))))):=
 cond (decide ((0:Int)<((s18.2.2.2.2.2.2.2.2.2.2.2.2.2.2.2.2.2.1.length:Nat):Int)))
  (x4 (aA (Dl20Rd.mk s25.1 s25.2.1) (3:Int)) λv26=>
  cond (decide (v26.2=(0:Int)))
   (grd ((0:Int)<=(w64 (s23.2.2.2*(8:Int)))/\(w64 (s23.2.2.2*(8:Int)))<=(w64 ((w64 (s23.2.2.2+(1:Int)))*(8:Int)))/\(w64 ((w64 (s23.2.2.2+(1:Int)))*(8:Int)))<=((s25.2.2.length:Nat):Int)) (grd ((0:Int)<=(w64 (s23.2.2.2*(8:Int)))/\(w64 (s23.2.2.2*(8:Int)))<=((s18.2.2.2.2.2.2.2.2.2.2.2.2.2.2.2.2.2.1.length:Nat):Int)/\((s18.2.2.2.2.2.2.2.2.2.2.2.2.2.2.2.2.2.1.length:Nat):Int)<=((s18.2.2.2.2.2.2.2.2.2.2.2.2.2.2.2.2.2.1.length:Nat):Int)) (some (.go (v26.1.b,v26.1.p,over s25.2.2 (x7 (w64 (s23.2.2.2*(8:Int)))) (x7 (w64 ((w64 (s23.2.2.2+(1:Int)))*(8:Int)))-x7 (w64 (s23.2.2.2*(8:Int)))) (o5 (x7 ((s18.2.2.2.2.2.2.2.2.2.2.2.2.2.2.2.2.2.1.length:Nat):Int)-x7 (w64 (s23.2.2.2*(8:Int)))) (qQK (x7 (w64 (s23.2.2.2*(8:Int)))) s18.2.2.2.2.2.2.2.2.2.2.2.2.2.2.2.2.2.1)))))))
   (some (.go (v26.1.b,v26.1.p,s25.2.2))))
  (some (.go (s25.1,s25.2.1,s25.2.2)))
def rA(s18:(List Int)×Int×(List Int)×(List DGuest)×(List Int)×Int×Int×Int×Int×Bool×Int×Int×Int×Bool×Bool×Bool×Bool×(List Int)×(List Int)×(List Int)×Int)(s23:(List Int)×Int×(List Int)×Int):Option (LO ((List Int)×Int×(List Int)×Int) (JO ((List Int)×Int×(List Int)) (JO ((List Int)×Int×(List Int)×(List DGuest)×(List Int)×Int×Int×Int×Int×Bool×Int×Int×Int×Bool×Bool×Bool×Bool×(List Int)×(List Int)×(List Int)) (LO ((List Int)×Int×(List Int)×(List DGuest)×(List Int)×Int×Int×Int×Int×Bool×Int×Int×Int×Bool×Bool×Bool×Bool×(List Int)×(List Int)×(List Int)×Int) (JO ((List Int)×Int×(List Int)×(List DGuest)) (Dl20Rd×DHost)))))):=
 cond (decide (s23.2.2.2<(8:Int)))
  (x4 (x4 (cond (decide ((3:Int)<s23.2.2.2))
   (x4 (aA (Dl20Rd.mk s23.1 s23.2.1) (2:Int)) λv27=>
   cond (decide (v27.2=(0:Int)))
    (grd ((0:Int)<=(w64 (s23.2.2.2*(8:Int)))/\(w64 (s23.2.2.2*(8:Int)))<=((s23.2.2.1.length:Nat):Int)/\((s23.2.2.1.length:Nat):Int)<=((s23.2.2.1.length:Nat):Int)) (some (.go (v27.1.b,v27.1.p,over s23.2.2.1 (x7 (w64 (s23.2.2.2*(8:Int)))) (x7 ((s23.2.2.1.length:Nat):Int)-x7 (w64 (s23.2.2.2*(8:Int)))) (j0 (x7 (8:Int)) (0:Int))))))
    (some (.go (v27.1.b,v27.1.p,s23.2.2.1))))
   (some (.go (s23.1,s23.2.1,s23.2.2.1)))) λj25=>
   JO.run j25 (yX s18 s23)) λj24=>
   JO.run j24 (yT s23))
  (some (.ret (.go (s23.1,s23.2.1,s23.2.2.1))))
def rI(s18:(List Int)×Int×(List Int)×(List DGuest)×(List Int)×Int×Int×Int×Int×Bool×Int×Int×Int×Bool×Bool×Bool×Bool×(List Int)×(List Int)×(List Int)×Int):Option (LO ((List Int)×Int×(List Int)×(List DGuest)×(List Int)×Int×Int×Int×Int×Bool×Int×Int×Int×Bool×Bool×Bool×Bool×(List Int)×(List Int)×(List Int)×Int) (JO ((List Int)×Int×(List Int)×(List DGuest)) (Dl20Rd×DHost))):=
 cond (decide ((0:Int)<s18.2.2.2.2.2.2.2.2.2.2.2.2.2.2.2.2.2.2.2.2))
  (x4 (x4 (sN (Dl20Rd.mk s18.1 s18.2.1) (0:Int)) λv20=>
   x4 (x4 (iter (rA s18) (v20.1.b,v20.1.p,v20.2.Mem,(0:Int))) LO.val) λj21=>
    JO.run j21 (zA s18 v20)) λj19=>
   JO.run j19 (zR s18))
  (some (.ret (.go (s18.1,s18.2.1,s18.2.2.1,s18.2.2.2.1))))
def aBb(b7:Int)(v1:DHost)(s2:(List Int)×Int×(List Int)):Option (Dl20Rd×DHost):=
 x4 (x4 (aA (Dl20Rd.mk s2.1 s2.2.1) (3:Int)) λv17=>
  x4 (iter rI (v17.1.b,v17.1.p,s2.2.2,v1.Guests,([]:List Int),(0:Int),(0:Int),(0:Int),(0:Int),false,(0:Int),(0:Int),(0:Int),false,false,false,false,([]:List Int),([]:List Int),([]:List Int),w64 ((1:Int)+v17.2))) LO.val) λj3=>
  JO.run j3 (aAm b7)
def zJ(s28:(List Int)×Int×(List Int)×Int)(s29:(List Int)×Int×(List Int)):Option (LO ((List Int)×Int×(List Int)×Int) (JO ((List Int)×Int×(List Int)) (Dl20Rd×DHost))):=some (.next (s29.1,s29.2.1,s29.2.2,w64 (s28.2.2.2+(1:Int))))
def rG(s28:(List Int)×Int×(List Int)×Int):Option (LO ((List Int)×Int×(List Int)×Int) (JO ((List Int)×Int×(List Int)) (Dl20Rd×DHost))):=
 cond (decide (s28.2.2.2<((s28.2.2.1.length:Nat):Int)))
  (x4 (x4 (aA (Dl20Rd.mk s28.1 s28.2.1) (4:Int)) λv30=>
   cond (decide (v30.2=(0:Int)))
    (x4 (dD v30.1) λv31=>
    grd ((0:Int)<=s28.2.2.2/\s28.2.2.2<((s28.2.2.1.length:Nat):Int)) (some (.go (v31.1.b,v31.1.p,s28.2.2.1.set s28.2.2.2.toNat v31.2))))
    (some (.go (v30.1.b,v30.1.p,s28.2.2.1)))) λj29=>
   JO.run j29 (zJ s28))
  (some (.ret (.go (s28.1,s28.2.1,s28.2.2.1))))
def oJ(b3:Dl20Rd)(b7:Int):Option (Dl20Rd×DHost):=
 x4 (sJ (0:Int)) λv1=>
 x4 (x4 (iter rG (b3.b,b3.p,v1.Words,(0:Int))) LO.val) λj2=>
  JO.run j2 (aBb b7 v1)
def g74:Sw tG:=⟨[.pt 128,.v (.i .i64)],.one (.st 2026),oJ⟩
theorem s74:Sjk 74 g74:=sgy [(135,.r cDu),(64,.w g64),(136,.w bAh),(137,.w cCo),(138,.r bZz),(96,.w g96)] ⟨cGy,s64,bMb,cHw,cHa,s96,trivial⟩ (.s .o (.s .o (.j ⟨[0,1,4,5],[],[(.c 0 0,.rb 5),(.c 0 1,.i .i64),(.c 5 0,.ro 3)]⟩ (.s .o (.k (.l ⟨[0,1,4,5],[],[(.c 0 0,.rb 5),(.c 0 1,.i .i64),(.c 5 0,.ro 3),(.s 6,.i .i64)]⟩ (.s .o (.j ⟨[0,1,4,5,6],[],[(.c 0 0,.rb 5),(.c 0 1,.i .i64),(.c 5 0,.ro 3)]⟩ (.k (.s .o (.c (.m [0]) .o))) .o))))) (.s .o (.j ⟨[0,1,4,5],[],[(.c 0 0,.rb 5),(.c 0 1,.i .i64),(.c 5 0,.ro 3),(.c 5 1,.ro 1094)]⟩ (.s .o (.k (.l ⟨[0,1,4,5,7],[],[(.c 0 0,.rb 5),(.c 0 1,.i .i64),(.c 5 0,.ro 3),(.c 5 1,.ro 1094),(.c 7 0,.ro 3),(.c 7 1,.i .i64),(.c 7 2,.i .i64),(.c 7 3,.i .i64),(.c 7 4,.i .i64),(.c 7 5,.b),(.c 7 6,.i .i64),(.c 7 7,.i .i64),(.c 7 8,.i .i64),(.c 7 9,.b),(.c 7 10,.b),(.c 7 11,.b),(.c 7 12,.b),(.c 7 13,.ro 3),(.c 7 14,.ro 3),(.c 7 15,.ro 3),(.s 8,.i .i64)]⟩ (.s .o (.j ⟨[0,1,4,5,7,8],[],[(.c 0 0,.rb 5),(.c 0 1,.i .i64),(.c 5 0,.ro 3),(.c 5 1,.ro 1094),(.c 7 0,.ro 3),(.c 7 1,.i .i64),(.c 7 2,.i .i64),(.c 7 3,.i .i64),(.c 7 4,.i .i64),(.c 7 5,.b),(.c 7 6,.i .i64),(.c 7 7,.i .i64),(.c 7 8,.i .i64),(.c 7 9,.b),(.c 7 10,.b),(.c 7 11,.b),(.c 7 12,.b),(.c 7 13,.ro 3),(.c 7 14,.ro 3),(.c 7 15,.ro 3)]⟩ (.k (.s .o (.j ⟨[0,1,4,5,7,8,9],[],[(.c 0 0,.rb 5),(.c 0 1,.i .i64),(.c 9 13,.ro 3)]⟩ (.s .o (.k (.l ⟨[0,1,4,5,7,8,9],[],[(.c 0 0,.rb 5),(.c 0 1,.i .i64),(.c 9 13,.ro 3),(.s 10,.i .i64)]⟩ (.s .o (.j ⟨[0,1,4,5,7,8,9,10],[],[(.c 0 0,.rb 5),(.c 0 1,.i .i64),(.c 9 13,.ro 3)]⟩ (.k (.j ⟨[0,1,4,5,7,8,9,10],[],[(.c 0 0,.rb 5),(.c 0 1,.i .i64),(.c 9 13,.ro 3)]⟩ .o .o)) .o))))) .o))) .o))))) (.j ⟨[0,1,4,5],[],[(.c 0 0,.rb 5),(.c 0 1,.i .i64),(.c 5 1,.ro 1094)]⟩ (.s .o (.k (.l ⟨[0,1,4,5],[],[(.c 0 0,.rb 5),(.c 0 1,.i .i64),(.c 5 1,.ro 1094),(.s 14,.i .i64)]⟩ (.s .o (.j ⟨[0,1,4,5,14],[],[(.c 0 0,.rb 5),(.c 0 1,.i .i64),(.c 5 1,.ro 1094)]⟩ (.k (.s .o (.s .o (.s .o (.s .o (.c (.s .o (.m [0])) .o)))))) .o))))) (.j ⟨[4,5],[0],[(.c 5 0,.ro 3),(.d 0 0,.rb 5),(.d 0 1,.i .i64),(.c 5 1,.ro 1094)]⟩ (.s .o (.c (.s .o (.k (.s .o (.c (.m [0]) (.s .o (.c .o (.s .o (.c (.g [] [] [.fo (.c 5 1) 0]) (.g [] [] [.fo (.c 5 1) 0]))))))))) .o)) .o))))))) kr kr kr
def zF(s1:Unit):Option Bool:=some true
def gC(b4:List Int)(a2:List Int)(s2:Int):Option (LO Int (JO Unit Bool)):=
 cond (decide (s2<((b4.length:Nat):Int)))
  (grd ((0:Int)<=s2/\s2<((b4.length:Nat):Int)) (grd ((0:Int)<=s2/\s2<((a2.length:Nat):Int)) (cond (!decide ((b4.getD s2.toNat default)=(a2.getD s2.toNat default)))
   (some (.ret (.out false)))
   (some (.next (w64 (s2+(1:Int))))))))
  (some (.ret (.go ())))
def dM(b4:List Int)(a2:List Int):Option Bool:=
 cond (!decide (((b4.length:Nat):Int)=((a2.length:Nat):Int)))
  (some false)
  (x4 (x4 (iter (gC b4 a2) (0:Int)) LO.val) λj1=>
   JO.run j1 zF)
def g63:Sg tG:=⟨[.row 3,.row 3],.one .b,dM⟩
theorem s63:Sok 63 g63:=sgx [] trivial (.s .o (.s .o (.j ⟨[],[],[]⟩ (.s .o (.k (.l ⟨[0,1],[],[(.s 5,.i .i64)]⟩ .o))) .o))) kr kr kr
def mU(b4:DCore)(a2:DCore):Option Bool:=
 x4 (dM b4.Regs a2.Regs) λv1=>
 cond (!v1)
  (some false)
  (cond (!decide (b4.Pc=a2.Pc))
   (some false)
   (cond (!decide (b4.Root=a2.Root))
    (some false)
    (cond (!decide (b4.Vector=a2.Vector))
     (some false)
     (cond (!decide (b4.Saved=a2.Saved))
      (some false)
      (cond (!(b4.SavedUser==a2.SavedUser))
       (some false)
       (cond (decide (b4.Cause=a2.Cause))
        (cond (decide (b4.Bad=a2.Bad))
         (cond (decide (b4.Timer=a2.Timer))
          (cond (b4.Waits==a2.Waits)
           (cond (b4.User==a2.User)
            (cond (b4.On==a2.On)
             (some (b4.Stopped==a2.Stopped))
             (some false))
            (some false))
           (some false))
          (some false))
         (some false))
        (some false)))))))
def g62:Sg tG:=⟨[.st 39,.st 39],.one .b,mU⟩
theorem s62:Sok 62 g62:=sgx [(63,.r g63)] ⟨s63,trivial⟩ .o kr kr kr
def mZ(b4:DBare)(a2:DBare):Option Bool:=
 x4 (mU b4.C a2.C) λv1=>
 cond v1
  (x4 (dM b4.Mem a2.Mem) λv2=>
  cond v2
   (x4 (dM b4.In a2.In) λv3=>
   cond v3
    (x4 (dM b4.Out a2.Out) λv4=>
    some v4)
    (some false))
   (some false))
  (some false)
def g16:Sg tG:=⟨[.st 41,.st 41],.one .b,mZ⟩
theorem s16:Sok 16 g16:=sgx [(62,.r g62),(63,.r g63)] ⟨s62,s63,trivial⟩ .o kr kr kr
def aJo(s4:Unit):Option Bool:=some true
def mK(b4:DGuest)(a2:DGuest)(s5:Int):Option (LO Int (JO Unit Bool)):=
 cond (decide (s5<((b4.Pages.length:Nat):Int)))
  (grd ((0:Int)<=s5/\s5<((b4.Pages.length:Nat):Int)) (grd ((0:Int)<=s5/\s5<((a2.Pages.length:Nat):Int)) (cond (!(decide ((b4.Pages.getD s5.toNat default).Frame=(a2.Pages.getD s5.toNat default).Frame)&&(((b4.Pages.getD s5.toNat default).Write==(a2.Pages.getD s5.toNat default).Write)&&(((b4.Pages.getD s5.toNat default).Dirty==(a2.Pages.getD s5.toNat default).Dirty)&&true))))
   (some (.ret (.out false)))
   (some (.next (w64 (s5+(1:Int))))))))
  (some (.ret (.go ())))
def lX(b4:DGuest)(a2:DGuest):Option Bool:=
 cond (!(b4.Live==a2.Live))
  (some false)
  (x4 (mU b4.C a2.C) λv1=>
  cond (!v1)
   (some false)
   (x4 (dM b4.In a2.In) λv2=>
   cond (!v2)
    (some false)
    (x4 (dM b4.Out a2.Out) λv3=>
    cond (!v3)
     (some false)
     (cond (!decide (((b4.Pages.length:Nat):Int)=((a2.Pages.length:Nat):Int)))
      (some false)
      (x4 (x4 (iter (mK b4 a2) (0:Int)) LO.val) λj4=>
       JO.run j4 aJo)))))
def g70:Sg tG:=⟨[.st 94,.st 94],.one .b,lX⟩
theorem s70:Sok 70 g70:=sgx [(62,.r g62),(63,.r g63)] ⟨s62,s63,trivial⟩ (.s .o (.s .o (.j ⟨[],[],[]⟩ (.s .o (.k (.l ⟨[2,3],[],[(.s 5,.i .i64)]⟩ .o))) .o))) kr kr kr
def aKv(s2:Unit):Option Bool:=some true
def nC(b4:DHost)(a2:DHost)(s3:Int):Option (LO Int (JO Unit Bool)):=
 cond (decide (s3<((b4.Guests.length:Nat):Int)))
  (grd ((0:Int)<=s3/\s3<((b4.Guests.length:Nat):Int)) (grd ((0:Int)<=s3/\s3<((a2.Guests.length:Nat):Int)) (x4 (lX (DGuest.mk (b4.Guests.getD s3.toNat default).Live (DCore.mk ((b4.Guests.getD s3.toNat default).C).Regs ((b4.Guests.getD s3.toNat default).C).Pc ((b4.Guests.getD s3.toNat default).C).Root ((b4.Guests.getD s3.toNat default).C).Vector ((b4.Guests.getD s3.toNat default).C).Saved ((b4.Guests.getD s3.toNat default).C).SavedUser ((b4.Guests.getD s3.toNat default).C).Cause ((b4.Guests.getD s3.toNat default).C).Bad ((b4.Guests.getD s3.toNat default).C).Timer ((b4.Guests.getD s3.toNat default).C).Waits ((b4.Guests.getD s3.toNat default).C).User ((b4.Guests.getD s3.toNat default).C).On ((b4.Guests.getD s3.toNat default).C).Stopped) (b4.Guests.getD s3.toNat default).Pages (b4.Guests.getD s3.toNat default).In (b4.Guests.getD s3.toNat default).Out) (DGuest.mk (a2.Guests.getD s3.toNat default).Live (DCore.mk ((a2.Guests.getD s3.toNat default).C).Regs ((a2.Guests.getD s3.toNat default).C).Pc ((a2.Guests.getD s3.toNat default).C).Root ((a2.Guests.getD s3.toNat default).C).Vector ((a2.Guests.getD s3.toNat default).C).Saved ((a2.Guests.getD s3.toNat default).C).SavedUser ((a2.Guests.getD s3.toNat default).C).Cause ((a2.Guests.getD s3.toNat default).C).Bad ((a2.Guests.getD s3.toNat default).C).Timer ((a2.Guests.getD s3.toNat default).C).Waits ((a2.Guests.getD s3.toNat default).C).User ((a2.Guests.getD s3.toNat default).C).On ((a2.Guests.getD s3.toNat default).C).Stopped) (a2.Guests.getD s3.toNat default).Pages (a2.Guests.getD s3.toNat default).In (a2.Guests.getD s3.toNat default).Out)) λv4=>
   cond (!v4)
    (some (.ret (.out false)))
    (some (.next (w64 (s3+(1:Int))))))))
  (some (.ret (.go ())))
def nI(b4:DHost)(a2:DHost):Option Bool:=
 x4 (dM b4.Words a2.Words) λv1=>
 cond (!v1)
  (some false)
  (cond (!decide (((b4.Guests.length:Nat):Int)=((a2.Guests.length:Nat):Int)))
   (some false)
   (x4 (x4 (iter (nC b4 a2) (0:Int)) LO.val) λj2=>
    JO.run j2 aKv))
def g21:Sg tG:=⟨[.st 26,.st 26],.one .b,nI⟩
theorem s21:Sok 21 g21:=sgx [(63,.r g63),(70,.r g70)] ⟨s63,s70,trivial⟩ (.s .o (.s .o (.j ⟨[],[],[]⟩ (.s .o (.k (.l ⟨[2,3],[],[(.s 5,.i .i64)]⟩ .o))) .o))) kr kr kr
def aJs(s1:Unit):Option Bool:=some true
def qO(s2:Int)(s3:Unit):Option (LO Int (JO Unit Bool)):=some (.next (w64 (s2+(1:Int))))
def mL(b4:DHost)(a2:DHost)(d1:Int)(s2:Int):Option (LO Int (JO Unit Bool)):=
 cond (decide (s2<(3:Int)))
  (x4 (x4 (gS b4 s2) λv4=>
   x4 (gS a2 s2) λv5=>
   cond (!decide (s2=d1))
    (cond (!(v4.2==v5.2))
     (some (.out (.ret (.out false))))
     (x4 (mZ v4.1 v5.1) λv6=>
     cond (!v6)
      (some (.out (.ret (.out false))))
      (some (.go ()))))
    (some (.go ()))) λj3=>
   JO.run j3 (qO s2))
  (some (.ret (.go ())))
def mA(b4:DHost)(a2:DHost)(d1:Int):Option Bool:=
 x4 (x4 (iter (mL b4 a2 d1) (0:Int)) LO.val) λj1=>
  JO.run j1 aJs
def g17:Sg tG:=⟨[.st 26,.st 26,.i .i64],.one .b,mA⟩
theorem s17:Sok 17 g17:=sgx [(13,.r g13),(16,.r g16)] ⟨s13,s16,trivial⟩ (.s .o (.j ⟨[],[],[]⟩ (.s .o (.k (.l ⟨[2,3,4],[],[(.s 7,.i .i64)]⟩ (.s .o (.j ⟨[2,3,4,7],[],[]⟩ .o .o))))) .o)) kr kr kr
def aQi(v1:Dl20Rd×DHost)(s2:(List Int)×Int×(List DGuest)):Option (Dl20Rd×DHost):=some ((Dl20Rd.mk s2.1 s2.2.1),DHost.mk v1.2.Words s2.2.2)
def uG(b3:Dl20Rd):Option (Dl20Rd×DHost):=
 x4 (oJ b3 (25:Int)) λv1=>
 x4 (cond (decide (((v1.2.Guests.length:Nat):Int)=(3:Int)))
  (grd ((0:Int)<=(2:Int)/\(2:Int)<((v1.2.Guests.length:Nat):Int)) (cond (v1.2.Guests.getD 2 default).Live
   (x4 (aA v1.1 (5:Int)) λv3=>
   cond (decide ((0:Int)<v3.2))
    (grd ((0:Int)<=(2:Int)/\(2:Int)<((v1.2.Guests.length:Nat):Int)) (some (.go (v3.1.b,v3.1.p,v1.2.Guests.set 2 (DGuest.mk false (DCore.mk ([]:List Int) (0:Int) (0:Int) (0:Int) (0:Int) false (0:Int) (0:Int) (0:Int) false false false false) ([]:List DSlot) ([]:List Int) ([]:List Int))))))
    (some (.go (v3.1.b,v3.1.p,v1.2.Guests))))
   (some (.go (v1.1.b,v1.1.p,v1.2.Guests)))))
  (some (.go (v1.1.b,v1.1.p,v1.2.Guests)))) λj2=>
  JO.run j2 (aQi v1)
def g75:Sw tG:=⟨[.pt 128],.one (.st 2026),uG⟩
theorem s75:Sjk 75 g75:=sgy [(74,.w g74),(64,.w g64)] ⟨s74,s64,trivial⟩ (.s .o (.s .o (.j ⟨[2,3],[0],[(.d 0 0,.rb 5),(.d 0 1,.i .i64),(.c 3 1,.ro 1094)]⟩ (.s .o (.c (.g [] [] [.fo (.c 3 1) 0]) .o)) .o))) kr kr kr
def aEr(s2:(List Int)×Int×Int):Option (Dl20Rd×Int):=
 x4 (aA (Dl20Rd.mk s2.1 s2.2.1) (25:Int)) λv3=>
 some (v3.1,w64 (s2.2.2-(w64 (n8 v3.2 (24:Int)))))
def wD(b3:Dl20Rd)(a0:DHost):Option (Dl20Rd×Int):=
 x4 (aA b3 (3:Int)) λv1=>
 x4 (cond (decide (((a0.Guests.length:Nat):Int)=(3:Int)))
  (grd ((0:Int)<=v1.2/\v1.2<((a0.Guests.length:Nat):Int)) (cond (!(a0.Guests.getD v1.2.toNat default).Live)
   (x4 (aA v1.1 (6:Int)) λv4=>
   cond (decide ((0:Int)<v4.2))
    (some (.go (v4.1.b,v4.1.p,(0:Int))))
    (some (.go (v4.1.b,v4.1.p,v1.2))))
   (some (.go (v1.1.b,v1.1.p,v1.2)))))
  (some (.go (v1.1.b,v1.1.p,v1.2)))) λj2=>
  JO.run j2 aEr
def g76:Sw tG:=⟨[.pt 128,.v (.st 26)],.one (.i .i64),wD⟩
theorem s76:Sjk 76 g76:=sgy [(64,.w g64)] ⟨s64,trivial⟩ (.s .o (.s .o (.j ⟨[0],[],[(.c 0 0,.rb 5),(.c 0 1,.i .i64),(.s 5,.i .i64)]⟩ .o .o))) kr kr kr
def aKo(s2:List DSlot):Option (List DSlot):=some s2
def jA(v1:List DSlot)(s3:(List DSlot)×Int):Option (LO ((List DSlot)×Int) (JO (List DSlot) (List DSlot))):=
 cond (decide (s3.2<((v1.length:Nat):Int)))
  (grd ((0:Int)<=s3.2/\s3.2<((s3.1.length:Nat):Int)) (some (.next ((s3.1.set s3.2.toNat (DSlot.mk (s3.1.getD s3.2.toNat default).Frame (s3.1.getD s3.2.toNat default).Write false)),w64 (s3.2+(1:Int))))))
  (some (.ret (.go s3.1)))
def jZ(a5:List DSlot):Option (List DSlot):=
 x4 (jJ a5) λv1=>
 x4 (x4 (iter (jA v1) (v1,(0:Int))) LO.val) λj2=>
  JO.run j2 aKo
def g99:Sg tG:=⟨[.row 91],.one (.row 91),jZ⟩
theorem s99:Sok 99 g99:=sgx [(150,.r bTg)] ⟨cAl,trivial⟩ (.s .o (.s .o (.j ⟨[],[],[(.s 3,.ro 91)]⟩ (.s .o (.k (.l ⟨[8],[],[(.s 3,.ro 91),(.s 9,.i .i64)]⟩ .o))) .o))) kr kr kr
theorem aQu{a5:List DSlot}{R_:(List DSlot)}(hh:jZ a5=some R_):Fn Tryz.prog 99 [bo dP a5] (.own 91 3 R_.length (fl dP R_)):=kc (s99 a5 R_ hh)
def bV(a4:List Int)(c6:DSlot):Option (List Int):=
 cond (decide (c6.Frame=(-1:Int)))
  (some (j0 (x7 (8:Int)) (0:Int)))
  (x4 (mR a4 c6.Frame) λv1=>
  some v1)
def bKb:Sg tG:=⟨[.row 3,.st 91],.one (.rb 3),bV⟩
theorem bMx:Sok 100 bKb:=sgx [(151,.r bZi)] ⟨cCk,trivial⟩ .o kr kr kr
theorem aOi{a4:List Int}{c6:DSlot}{R_:(List Int)}(hh:bV a4 c6=some R_):Fn Tryz.prog 100 [bo (eI .i64) a4,.agg (dP c6)] (bo (eI .i64) R_):=kc (bMx a4 c6 R_ hh)
def pY(a0:DHost)(q:Int)(c3:Int):Option Int:=
 grd ((0:Int)<=q/\q<((a0.Guests.length:Nat):Int)) (grd ((0:Int)<=(w64 (n8 c3 (8:Int)))/\(w64 (n8 c3 (8:Int)))<((x9 (a0.Guests.getD q.toNat default).Pages:Nat):Int)) (cond (decide ((x8 (a0.Guests.getD q.toNat default).Pages (x7 (w64 (n8 c3 (8:Int)))) default).Frame<(0:Int)))
  (some (0:Int))
  (grd ((0:Int)<=(w64 ((w64 ((x8 (a0.Guests.getD q.toNat default).Pages (x7 (w64 (n8 c3 (8:Int)))) default).Frame*(8:Int)))+(y6 c3 (8:Int))))/\(w64 ((w64 ((x8 (a0.Guests.getD q.toNat default).Pages (x7 (w64 (n8 c3 (8:Int)))) default).Frame*(8:Int)))+(y6 c3 (8:Int))))<((a0.Words.length:Nat):Int)) (some (a0.Words.getD (x7 (w64 ((w64 ((x8 (a0.Guests.getD q.toNat default).Pages (x7 (w64 (n8 c3 (8:Int)))) default).Frame*(8:Int)))+(y6 c3 (8:Int))))) default)))))
def bSp:Sg tG:=⟨[.st 26,.i .i64,.i .i64],.one (.i .i64),pY⟩
theorem cAb:Sok 113 bSp:=sgx [] trivial .o kr kr kr
def pI(c5:Int):Option DEntry:=
 x4 (fO c5) λv1=>
 cond (!v1)
  (some (DEntry.mk false false false (0:Int)))
  (some (DEntry.mk (decide ((y6 c5 (2:Int))=(1:Int))) (decide ((y6 (w64 (n8 c5 (2:Int))) (2:Int))=(1:Int))) (decide ((y6 (w64 (n8 c5 (4:Int))) (2:Int))=(1:Int))) (y6 (w64 (n8 c5 (8:Int))) (8:Int))))
def cDv:Sg tG:=⟨[.i .i64],.one (.st 181),pI⟩
theorem cGr:Sok 157 cDv:=sgx [(158,.r aWb)] ⟨bBr,trivial⟩ .o kr kr kr
def aLw(s2:List DShade):Option (List DShade):=some s2
def rU(a0:DHost)(q:Int)(s3:(List DShade)×Int)(s4:Bool×Bool×Bool×Int):Option (LO ((List DShade)×Int) (JO (List DShade) (List DShade))):=grd ((0:Int)<=q/\q<((a0.Guests.length:Nat):Int)) (grd ((0:Int)<=s4.2.2.2/\s4.2.2.2<((x9 (a0.Guests.getD q.toNat default).Pages:Nat):Int)) (grd ((s3.1.length+x9 ([DShade.mk s4.1 s4.2.1 s4.2.2.1 s4.2.2.2 (x8 (a0.Guests.getD q.toNat default).Pages s4.2.2.2.toNat default).Frame (x8 (a0.Guests.getD q.toNat default).Pages s4.2.2.2.toNat default).Write]:List DShade))*32<=2^47/\s3.1.length+x9 ([DShade.mk s4.1 s4.2.1 s4.2.2.1 s4.2.2.2 (x8 (a0.Guests.getD q.toNat default).Pages s4.2.2.2.toNat default).Frame (x8 (a0.Guests.getD q.toNat default).Pages s4.2.2.2.toNat default).Write]:List DShade)<=2^47) (some (.next ((s3.1++([DShade.mk s4.1 s4.2.1 s4.2.2.1 s4.2.2.2 (x8 (a0.Guests.getD q.toNat default).Pages s4.2.2.2.toNat default).Frame (x8 (a0.Guests.getD q.toNat default).Pages s4.2.2.2.toNat default).Write]:List DShade)),w64 (s3.2+(1:Int)))))))
def nK(a0:DHost)(q:Int)(s3:(List DShade)×Int):Option (LO ((List DShade)×Int) (JO (List DShade) (List DShade))):=
 cond (decide (s3.2<(8:Int)))
  (x4 (grd ((0:Int)<=q/\q<((a0.Guests.length:Nat):Int)) (cond (decide ((0:Int)<=((a0.Guests.getD q.toNat default).C).Root))
   (x4 (pY a0 q (w64 ((w64 (((a0.Guests.getD q.toNat default).C).Root*(8:Int)))+s3.2))) λv5=>
   x4 (pI v5) λv6=>
   some (.go (v6.There,v6.Write,v6.User,v6.Page)))
   (some (.go (true,true,true,s3.2))))) λj4=>
   JO.run j4 (rU a0 q s3))
  (some (.ret (.go s3.1)))
def jY(a0:DHost)(q:Int):Option (List DShade):=
 x4 (dG a0 q) λv1=>
 cond (!v1)
  (some ([]:List DShade))
  (x4 (x4 (iter (nK a0 q) (([]:List DShade),(0:Int))) LO.val) λj2=>
   JO.run j2 aLw)
def bSx:Sg tG:=⟨[.st 26,.i .i64],.one (.row 147),jY⟩
theorem cCn:Sok 106 bSx:=sgx [(102,.r aIx),(113,.r bSp),(157,.r cDv)] ⟨aLb,cAb,cGr,trivial⟩ (.s .o (.s .o (.s .o (.j ⟨[],[],[(.s 5,.ro 147)]⟩ (.s .o (.k (.l ⟨[1,2],[],[(.s 5,.ro 147),(.s 6,.i .i64)]⟩ (.s .o (.s (.k (.s .o (.j ⟨[1,2,5,6,7],[],[(.c 7 0,.b),(.c 7 1,.b),(.c 7 2,.b),(.c 7 3,.i .i64)]⟩ .o .o))) .o))))) .o)))) kr kr kr
def mH(c5:Int):Option DEntry:=
 x4 (fS c5) λv1=>
 cond (!v1)
  (some (DEntry.mk false false false (0:Int)))
  (some (DEntry.mk (decide ((y6 (w64 (n8 c5 (1:Int))) (2:Int))=(1:Int))) (decide ((y6 (w64 (n8 c5 (2:Int))) (2:Int))=(1:Int))) (decide ((y6 (w64 (n8 c5 (4:Int))) (2:Int))=(1:Int))) (y6 (w64 (n8 c5 (8:Int))) (8:Int))))
def bSb:Sg tG:=⟨[.i .i64],.one (.st 181),mH⟩
theorem cAp:Sok 164 bSb:=sgx [(55,.r g55)] ⟨s55,trivial⟩ .o kr kr kr
def sL(a0:DHost)(q:Int)(b8:Int):Option DEntry:=
 grd ((0:Int)<=q/\q<((a0.Guests.length:Nat):Int)) (cond (decide (((a0.Guests.getD q.toNat default).C).Root=(-1:Int)))
  (some (DEntry.mk true true true b8))
  (grd ((0:Int)<=((a0.Guests.getD q.toNat default).C).Root/\((a0.Guests.getD q.toNat default).C).Root<((x9 (a0.Guests.getD q.toNat default).Pages:Nat):Int)) (x4 (bV a0.Words (DSlot.mk (x8 (a0.Guests.getD q.toNat default).Pages (x7 ((a0.Guests.getD q.toNat default).C).Root) default).Frame (x8 (a0.Guests.getD q.toNat default).Pages (x7 ((a0.Guests.getD q.toNat default).C).Root) default).Write (x8 (a0.Guests.getD q.toNat default).Pages (x7 ((a0.Guests.getD q.toNat default).C).Root) default).Dirty)) λv1=>
   grd ((0:Int)<=b8/\b8<((v1.length:Nat):Int)) (x4 (mH (v1.getD b8.toNat default)) λv2=>
    some v2))))
def cDp:Sg tG:=⟨[.st 26,.i .i64,.i .i64],.one (.st 181),sL⟩
theorem cGd:Sok 227 cDp:=sgx [(100,.r bKb),(164,.r bSb)] ⟨bMx,cAp,trivial⟩ .o kr kr kr
def tB(a0:DHost)(q:Int)(b8:Int):Option DShade:=
 x4 (sL a0 q b8) λv1=>
 grd ((0:Int)<=q/\q<((a0.Guests.length:Nat):Int)) (grd ((0:Int)<=v1.Page/\v1.Page<((x9 (a0.Guests.getD q.toNat default).Pages:Nat):Int)) (some (DShade.mk v1.There v1.Write v1.User v1.Page (x8 (a0.Guests.getD q.toNat default).Pages v1.Page.toNat default).Frame (x8 (a0.Guests.getD q.toNat default).Pages v1.Page.toNat default).Write)))
def cDi:Sg tG:=⟨[.st 26,.i .i64,.i .i64],.one (.st 147),tB⟩
theorem cGk:Sok 225 cDi:=sgx [(227,.r cDp)] ⟨cGd,trivial⟩ .o kr kr kr
def bI(a0:DHost):Option DHost:=
 x4 (cM a0.Words) λv1=>
 x4 (fL a0.Guests) λv2=>
 some (DHost.mk v1 v2)
def aQn:Sg tG:=⟨[.st 26],.one (.st 2026),bI⟩
theorem aRv:Sok 131 aQn:=sgx [(117,.r aWl),(169,.r bUb)] ⟨aWx,cAe,trivial⟩ .o kr kr kr
theorem zE{a0:DHost}{R_:DHost}(hh:bI a0=some R_):Fn Tryz.prog 131 [.agg (dE a0)] (.agg [.own 3 1 R_.Words.length (fl (eI .i64) R_.Words),.own 94 17 R_.Guests.length (fl dO R_.Guests)]):=kc (aRv a0 R_ hh)
theorem aRb:LW 192 ⟨44,[.cell 8 true 2],.seq (.reg false (rg 192 0)) (.seq (.reg false (rg 192 1)) (.seq (.reg false (rg 192 2)) (.seq (.regd (rg 192 3) (rg 192 4)) (.seq (.regt (rg 192 5) (rg 192 6)) (.seq (.reg false (rg 192 7)) .ret)))))⟩:=kr
def iO(a0:DHost)(q:Int)(f:Int)(b0:Int):Option DHost:=
 x4 (bI a0) λv1=>
 grd ((0:Int)<=q/\q<((a0.Guests.length:Nat):Int)) (grd ((0:Int)<=f/\f<((x9 (a0.Guests.getD q.toNat default).Pages:Nat):Int)) (x4 (gL v1.Words b0) λv2=>
  grd (v2.1.length=v1.Words.length) (grd (v2.2.1+v2.2.2<=v2.1.length) (x4 (bV a0.Words (DSlot.mk (x8 (a0.Guests.getD q.toNat default).Pages f.toNat default).Frame (x8 (a0.Guests.getD q.toNat default).Pages f.toNat default).Write (x8 (a0.Guests.getD q.toNat default).Pages f.toNat default).Dirty)) λv3=>
   grd ((0:Int)<=q/\q<((v1.Guests.length:Nat):Int)) (grd ((0:Int)<=f/\f<((x9 (v1.Guests.getD q.toNat default).Pages:Nat):Int)) (some (DHost.mk (over v2.1 v2.2.1 v2.2.2 v3) (v1.Guests.set q.toNat (DGuest.mk (v1.Guests.getD q.toNat default).Live (DCore.mk ((v1.Guests.getD q.toNat default).C).Regs ((v1.Guests.getD q.toNat default).C).Pc ((v1.Guests.getD q.toNat default).C).Root ((v1.Guests.getD q.toNat default).C).Vector ((v1.Guests.getD q.toNat default).C).Saved ((v1.Guests.getD q.toNat default).C).SavedUser ((v1.Guests.getD q.toNat default).C).Cause ((v1.Guests.getD q.toNat default).C).Bad ((v1.Guests.getD q.toNat default).C).Timer ((v1.Guests.getD q.toNat default).C).Waits ((v1.Guests.getD q.toNat default).C).User ((v1.Guests.getD q.toNat default).C).On ((v1.Guests.getD q.toNat default).C).Stopped) (qXU (v1.Guests.getD q.toNat default).Pages f.toNat (DSlot.mk b0 true (x8 (a0.Guests.getD q.toNat default).Pages f.toNat default).Dirty)) (v1.Guests.getD q.toNat default).In (v1.Guests.getD q.toNat default).Out)))))))))
theorem aVg{a0:DHost}{q:Int}{f:Int}{b0:Int}{R_:DHost}(hh:iO a0 q f b0=some R_):Fn Tryz.prog 192 [.agg (dE a0),.int .i64 q,.int .i64 f,.int .i64 b0] (.agg [.own 3 1 R_.Words.length (fl (eI .i64) R_.Words),.own 94 17 R_.Guests.length (fl dO R_.Guests)]):=by let z7:EH:=(0,some (rB26 a0));let z8:=(1,ii q);let z9:EH:=(1,some ⟨26,[.nil,.nil]⟩);let z10:=(10,pp 5);let z11:=(2,ii f);let z12:=(3,ii b0);let z13:EV:=(34,.ptr 3 [] (0+q.toNat*17));let z14:EV:=(35,.ptr 3 [] (0+q.toNat*17+14));let z15:=(8,pp 1);let z16:=(9,pp 4);let z1:=a0.Guests.getD q.toNat default;let z3:=x8 z1.Pages f.toNat default;let z4:=DSlot.mk b0 true z3.Dirty;unfold iO at hh;refine Fn.start aRb [0,1,2,3] (E:=sp 44 [(0,.agg (dE a0)),z8,z11,z12]) kr (v:= .agg [sw 0 R_.Words,.sref 1 [] 0 R_.Guests.length 17]) (Hr:=[(1,some (rO94 R_.Guests)),(0,some (rI_3 R_.Words))]) (k:=2) kr (sy [1,2,3,4,8] [0,1] (sp 44 [z8,z11,z12,(4,pp 0),z15]) [z7,z9] 2 (Aw.sreg [1,2,3,4,8,9] [0,1,2,3,4] (yu 1 [(11,.agg (dE a0))] [z7,z9] 2 ?_)));obtain⟨v1,hv1,hh⟩:=bind_some hh;let z17:EV:=(32,.sref 3 [] 0 v1.Guests.length 17);let z2:=v1.Guests.getD q.toNat default;let z5:=qXU z2.Pages f.toNat z4;let z6:=DGuest.mk z2.Live z2.C z5 z2.In z2.Out;let q1:Root:=(rO94 v1.Guests);let z18:=(3,some q1);let q2:Root:=(rI_3 v1.Words);let z19:=(2,some q2);refine ys (.call 131 [.t 11]) (some 12) (gZ (r:= .agg [.own 3 1 v1.Words.length (fl (eI .i64) v1.Words),.own 94 17 v1.Guests.length (fl dO v1.Guests)]) (v:= .agg [sw 2 v1.Words,.sref 3 [] 0 v1.Guests.length 17]) (Hr:=[z18,z19]) (n':=4) (zE hv1) (mJ (vs:=[.agg (dE a0)]) kr (fE (aE (mX (qL _))) hO)) nrr nrr kr ?_);let q3:Root:=⟨26,[sw 2 v1.Words,.sref 3 [] 0 v1.Guests.length 17]⟩;let z20:=(4,some q3);refine yt (sp 44 [z8,z11,z12,(4,pp 0),z15,z16]) [z7,z9,z19,z18,z20] 5 (Aw.sreg [1,2,3,4,8,9,10] [0,1,2,3,4,5] (yu 3 [(13,.ptr 0 [] 1),(14,bo dI a0.Guests),(15,ii q)] [z7,z9,z19,z18,z20] 5 ?_));obtain⟨hg3,hh⟩:=bD hh;refine ys (.iadr 17 (.t 14) (.t 15)) (some 16) (aNi (kd:= .i64) (c:=dI) (xs:=a0.Guests) aHh dd kr kr hg3 ?_);refine yu 1 [(16,.bptr (fl dI a0.Guests) (x7 q*17)),(17,.bptr (fl dI a0.Guests) (x7 q*17+14))] [z7,z9,z19,z18,z20] 5 (ys (.load false 1 (.t 17)) (some 18) (bBt (c:=dI) (xs:=a0.Guests) (o:=x7 q*17+14) (i:=q.toNat) (off:=14) (v:=bo dP z1.Pages) aHh kr ltn ltn dd kr ?_));refine yu 1 [(18,bo dP z1.Pages),(19,ii f)] [z7,z9,z19,z18,z20] 5 ?_;obtain⟨hg4,hh⟩:=bD hh;refine ys (.iadr 3 (.t 18) (.t 19)) (some 20) (aNi (kd:= .i64) (c:=dP) (xs:=z1.Pages) rT dd kr kr hg4 ?_);refine ys (.load true 3 (.t 20)) (some 21) (aYt (c:=dP) (xs:=z1.Pages) (o:=x7 f*3) (i:=f.toNat) (off:=0) (v:= .agg [ii z3.Frame,bb z3.Write,bb z3.Dirty]) rT kr ltn ltn dd kr ?_);let q4:Root:=⟨91,[ii z3.Frame,bb z3.Write,bb z3.Dirty]⟩;let z21:=(5,some q4);refine yt (sp 44 [z8,z11,z12,(4,pp 0),z15,z16,z10]) [z7,z9,z19,z18,z20,z21] 6 (Aw.sregd [1,2,3,8,9,10] [1,2,3,4,5] [2] kr (dj 3 (sp 44 [z8,z11,z12,(4,pp 0),z15,z16,z10,(22,pp 4),(23,sw 2 v1.Words),(24,ii b0)]) [z7,z9,z19,z18,z20,z21] 6 ?_));obtain⟨v2,hv2,hh⟩:=bind_some hh;let z22:EH:=(2,some (rI_3 v2.1));obtain⟨hg7,hh⟩:=bD hh;obtain⟨hg8,hh⟩:=bD hh;refine ds (.call 151 [.t 23,.t 24]) (some 25) (yM rfl (cf (.sref 2 [] (0+v2.2.1*1) v2.2.2 1) [z22] 6 [2] (vC hv2) [sw 2 v1.Words,ii b0] rz (hn bO cN) wH (hn bO cN) ⟨⟨⟨by decide,aLa rfl rfl⟩,Hld.un ?_⟩⟩));refine dt (sp 44 [z8,z11,z12,(4,pp 0),z15,z16,z10,(22,pp 4),(23,sw 2 v1.Words),(24,ii b0),(25,.sref 2 [] (0+v2.2.1*1) v2.2.2 1),(26,pp 0),(27,bo (eI .i64) a0.Words),(28,.agg [ii z3.Frame,bb z3.Write,bb z3.Dirty])]) [z22,(2,none),z7,z9,z19,z18,z20,z21] 6 ?_;obtain⟨v3,hv3,hh⟩:=bind_some hh;refine ys (.call 100 [.t 27,.t 28]) (some 29) (aIk (r:=bo (eI .i64) v3) (v:=bo (eI .i64) v3) (Hr:=[]) (n':=6) (aOi hv3) (mJ (vs:=[bo (eI .i64) a0.Words,.agg [ii z3.Frame,bb z3.Write,bb z3.Dirty]]) kr (fE (aE (rW (bL dB))) (cz1 hO))) nrr kr ?_);let q5:Root:=(rI_3 (over v2.1 v2.2.1 v2.2.2 v3));let z23:=(2,some q5);refine ys (.cpy 1 (.t 25) (.t 29)) (some 30) (aLe (c:=(eI .i64)) (xs:=v2.1) (ys:=v3) (e:=3) (r:=2) (π:=[]) (o:=0+v2.2.1*1) (k:=v2.2.2) (i:=v2.2.1) (H':=[z23,z22,(2,none),z7,z9,z19,z18,z20,z21]) cG (rpv kr (aUk (c:=(eI .i64)) (xs:=v3) cG)) kr kr ltn ltn kr ?_);refine yt (sp 44 [z8,z11,z12,z15,z16,z10]) [z9,z23,z18,z20,z21] 6 (Aw.sregt [8,9] [1,2,3,4] ?_);obtain⟨hg12,hh⟩:=bD hh;refine qc (cs:=[(0:Int)<=q/\q<((v1.Guests.length:Nat):Int)]) (E':=(sp 44 [z8,z11,z12,z15,z16,z10,(31,.ptr 4 [] 1),z17,(33,ii q),z13,z14])) (pre:=(o5 5 (rg 192 5))) (L':=(qQK 5 (rg 192 5))) kr (λK=>by kernel_rfl) (.cons hg12 .nil) (qs (.load false 1 (.t 35)) (some 36) (cIb rfl (aWs (c:=dO) (xs:=v1.Guests) (e:=94) (r:=3) (π:=[]) (o:=0+q.toNat*17+14) (i:=q.toNat) (off:=14) (v:= .sref 3 [0+q.toNat*17+14+0] 0 (x9 z2.Pages) 3) pQ kr kr ltn ltn dd kr ?_)));obtain⟨hg11,hh⟩:=bD hh;refine qtt (cs:=[(0:Int)<=f/\f<((x9 z2.Pages:Nat):Int)]) (E':=(sp 44 [z8,z11,z12,z15,z16,z10,(31,.ptr 4 [] 1),z17,(33,ii q),z13,z14,(36,.sref 3 [0+q.toNat*17+14+0] 0 (x9 z2.Pages) 3),(37,ii f),(38,ii b0),(39,.ptr 5 [] 2),(40,bb z3.Dirty),(41,.agg [ii b0,bb true,bb z3.Dirty]),(42,.ptr 3 [0+q.toNat*17+14+0] (0+f.toNat*3))])) (λK=>by kernel_rfl) (.cons hg11 .nil) ?_;let q6:Root:=(rO94 (v1.Guests.set q.toNat z6));refine ys (.store 3 (.t 42) (.t 41)) none (bSk (c:=dP) (xs:=z2.Pages) (e:=91) (r:=3) (π:=[0+q.toNat*17+14+0]) (o:=0+f.toNat*3) (i:=f.toNat) (off:=0) (vs:=[ii b0,bb true,bb z3.Dirty]) (y:=z4) (H':=[(3,some q6),z9,z23,z18,z20,z21]) rT kr kr kr (aFm (e:=94) (e':=91) (sz':=3) (m':=(x9 z2.Pages)) (cs':=(fl dP z2.Pages)) (c:=dO) (xs:=v1.Guests) (i:=q.toNat) (off:=14) pQ kr ltn ltn dd rfl kr) ltn ltn dd kr (bPe (e:=94) (e':=91) (sz':=3) (m':=(x9 z2.Pages)) (cs':=(fl dP z2.Pages)) (ds:=(fl dP z5)) (c:=dO) (xs:=v1.Guests) (i:=q.toNat) (off:=14) (y:=z6) (m2:=z5.length) pQ kr ltn ltn dd rfl kr eqn kr rfl kr) ?_);refine yt (sp 44 [z15,z16]) [z9,z23,(3,some q6),z20] 6 (sy [8] [1,2,3] (sp 44 [z15]) [(1,some q3),z23,(3,some q6)] 6 (Aw.ret ?_));rw[cI hh];exact nX (r':= .agg [sw 2 v1.Words,.sref 3 [] 0 v1.Guests.length 17]) kr (Ent.list [some 2,some 3] rfl rfl (m9 _) (jI (oS rz)) (hn gX (hn bO cN)))
def bTs:Sg tG:=⟨[.st 26,.i .i64,.i .i64,.i .i64],.one (.st 2026),iO⟩
theorem cBo:Sok 192 bTs:=λa0 q f b0 R_ hh=>kc (aVg (a0:=a0) (q:=q) (f:=f) (b0:=b0) hh)
def jG(a0:DHost)(q:Int)(f:Int):Option (DHost×Bool):=
 x4 (nS a0.Guests) λv1=>
 cond (decide (((v1.length:Nat):Int)=(0:Int)))
  (some ((DHost.mk ([]:List Int) ([]:List DGuest)),false))
  (grd ((0:Int)<=(0:Int)/\(0:Int)<((v1.length:Nat):Int)) (x4 (iO a0 q f (v1.getD 0 default)) λv2=>
   some (v2,true)))
def bSc:Sg tG:=⟨[.st 26,.i .i64,.i .i64],.two (.st 2026) .b,jG⟩
theorem cAn:Sok 191 bSc:=sgx [(216,.r bZh),(192,.r bTs)] ⟨cIc,cBo,trivial⟩ .o kr kr kr
def jT(a0:DHost)(q:Int)(f:Int):Option (DHost×Bool):=
 x4 (cJ a0 q) λv1=>
 cond (!v1)
  (some ((DHost.mk ([]:List Int) ([]:List DGuest)),false))
  (x4 (fR f) λv2=>
  cond (!v2)
   (some ((DHost.mk ([]:List Int) ([]:List DGuest)),false))
   (grd ((0:Int)<=q/\q<((a0.Guests.length:Nat):Int)) (grd ((0:Int)<=f/\f<((x9 (a0.Guests.getD q.toNat default).Pages:Nat):Int)) (cond (!decide ((x8 (a0.Guests.getD q.toNat default).Pages f.toNat default).Frame=(-1:Int)))
    (x4 (bI a0) λv3=>
    some (v3,true))
    (x4 (jG a0 q f) λv4=>
    some (v4.1,v4.2))))))
def cAk:Sg tG:=⟨[.st 26,.i .i64,.i .i64],.two (.st 2026) .b,jT⟩
theorem cDo:Sok 154 cAk:=sgx [(56,.r g56),(46,.r g46),(131,.r aQn),(191,.r bSc)] ⟨s56,s46,aRv,cAn,trivial⟩ .o kr kr kr
theorem aQt{a0:DHost}{q:Int}{f:Int}{R_:DHost×Bool}(hh:jT a0 q f=some R_):Fn Tryz.prog 154 [.agg (dE a0),.int .i64 q,.int .i64 f] (.tup [.agg [.own 3 1 R_.1.Words.length (fl (eI .i64) R_.1.Words),.own 94 17 R_.1.Guests.length (fl dO R_.1.Guests)],.bool R_.2]):=kc (cDo a0 q f R_ hh)
def yP(q:Int)(f:Int)(v3:DHost)(v4:List Int)(s5:List Int):Option (DHost×Bool):=grd ((0:Int)<=q/\q<((v3.Guests.length:Nat):Int)) (grd ((0:Int)<=(0:Int)/\(0:Int)<((v4.length:Nat):Int)) (grd ((0:Int)<=f/\f<((x9 (v3.Guests.getD q.toNat default).Pages:Nat):Int)) (some ((DHost.mk s5 (v3.Guests.set q.toNat (DGuest.mk (v3.Guests.getD q.toNat default).Live (DCore.mk ((v3.Guests.getD q.toNat default).C).Regs ((v3.Guests.getD q.toNat default).C).Pc ((v3.Guests.getD q.toNat default).C).Root ((v3.Guests.getD q.toNat default).C).Vector ((v3.Guests.getD q.toNat default).C).Saved ((v3.Guests.getD q.toNat default).C).SavedUser ((v3.Guests.getD q.toNat default).C).Cause ((v3.Guests.getD q.toNat default).C).Bad ((v3.Guests.getD q.toNat default).C).Timer ((v3.Guests.getD q.toNat default).C).Waits ((v3.Guests.getD q.toNat default).C).User ((v3.Guests.getD q.toNat default).C).On ((v3.Guests.getD q.toNat default).C).Stopped) (qXU (v3.Guests.getD q.toNat default).Pages f.toNat (DSlot.mk (v4.getD 0 default) true false)) (v3.Guests.getD q.toNat default).In (v3.Guests.getD q.toNat default).Out))),true))))
def jH(v4:List Int)(s6:(List Int)×Int):Option (LO ((List Int)×Int) (JO (List Int) (DHost×Bool))):=
 cond (decide (s6.2<(8:Int)))
  (grd ((0:Int)<=(0:Int)/\(0:Int)<((v4.length:Nat):Int)) (grd ((0:Int)<=(w64 ((w64 ((v4.getD 0 default)*(8:Int)))+s6.2))/\(w64 ((w64 ((v4.getD 0 default)*(8:Int)))+s6.2))<((s6.1.length:Nat):Int)) (some (.next ((s6.1.set (x7 (w64 ((w64 ((v4.getD 0 default)*(8:Int)))+s6.2))) (0:Int)),w64 (s6.2+(1:Int)))))))
  (some (.ret (.go s6.1)))
def gK(a0:DHost)(q:Int)(f:Int):Option (DHost×Bool):=
 x4 (dG a0 q) λv1=>
 cond (!v1)
  (some ((DHost.mk ([]:List Int) ([]:List DGuest)),false))
  (x4 (bU f (0:Int) (7:Int)) λv2=>
  cond (!v2)
   (some ((DHost.mk ([]:List Int) ([]:List DGuest)),false))
   (x4 (dA a0) λv3=>
   grd ((0:Int)<=q/\q<((a0.Guests.length:Nat):Int)) (grd ((0:Int)<=f/\f<((x9 (a0.Guests.getD q.toNat default).Pages:Nat):Int)) (cond (decide ((0:Int)<=(x8 (a0.Guests.getD q.toNat default).Pages f.toNat default).Frame))
    (some (v3,true))
    (x4 (jQ a0) λv4=>
    cond (decide (((v4.length:Nat):Int)=(0:Int)))
     (some ((DHost.mk ([]:List Int) ([]:List DGuest)),false))
     (x4 (x4 (iter (jH v4) (v3.Words,(0:Int))) LO.val) λj5=>
      JO.run j5 (yP q f v3 v4)))))))
def g53:Sg tG:=⟨[.st 26,.i .i64,.i .i64],.two (.st 2026) .b,gK⟩
theorem s53:Sok 53 g53:=sgx [(102,.r aIx),(51,.r g51),(103,.r aMe),(114,.r bKc)] ⟨aLb,s51,aSg,bUt,trivial⟩ (.s .o (.s .o (.s .o (.s .o (.s .o (.s .o (.j ⟨[1,2,6,8,9],[],[(.c 8 0,.ro 3)]⟩ (.s .o (.k (.l ⟨[1,2,6,8,9],[],[(.c 8 0,.ro 3),(.s 10,.i .i64)]⟩ .o))) .o))))))) kr kr kr
def jX(a0:DHost)(q:Int)(f:Int):Option (DHost×Bool):=
 x4 (cJ a0 q) λv1=>
 cond (!v1)
  (some ((DHost.mk ([]:List Int) ([]:List DGuest)),false))
  (x4 (fR f) λv2=>
  cond (!v2)
   (some ((DHost.mk ([]:List Int) ([]:List DGuest)),false))
   (grd ((0:Int)<=q/\q<((a0.Guests.length:Nat):Int)) (grd ((0:Int)<=f/\f<((x9 (a0.Guests.getD q.toNat default).Pages:Nat):Int)) (cond (decide ((x8 (a0.Guests.getD q.toNat default).Pages f.toNat default).Frame=(-1:Int)))
    (some ((DHost.mk ([]:List Int) ([]:List DGuest)),false))
    (x4 (fZ a0.Guests) λv3=>
    grd ((0:Int)<=(x8 (a0.Guests.getD q.toNat default).Pages f.toNat default).Frame/\(x8 (a0.Guests.getD q.toNat default).Pages f.toNat default).Frame<((v3.length:Nat):Int)) (cond (decide ((v3.getD (x7 (x8 (a0.Guests.getD q.toNat default).Pages f.toNat default).Frame) default)=(1:Int)))
     (x4 (iO a0 q f (x8 (a0.Guests.getD q.toNat default).Pages f.toNat default).Frame) λv4=>
     some (v4,true))
     (x4 (jG a0 q f) λv5=>
     some (v5.1,v5.2))))))))
def cDf:Sg tG:=⟨[.st 26,.i .i64,.i .i64],.two (.st 2026) .b,jX⟩
theorem cDs:Sok 155 cDf:=sgx [(56,.r g56),(46,.r g46),(134,.r bMl),(192,.r bTs),(191,.r bSc)] ⟨s56,s46,bSe,cBo,cAn,trivial⟩ .o kr kr kr
theorem aQv{a0:DHost}{q:Int}{f:Int}{R_:DHost×Bool}(hh:jX a0 q f=some R_):Fn Tryz.prog 155 [.agg (dE a0),.int .i64 q,.int .i64 f] (.tup [.agg [.own 3 1 R_.1.Words.length (fl (eI .i64) R_.1.Words),.own 94 17 R_.1.Guests.length (fl dO R_.1.Guests)],.bool R_.2]):=kc (cDs a0 q f R_ hh)
def nD(a0:DHost)(q:Int)(f:Int)(v3:DHost)(s4:(List Int)×Int):Option (DHost×Bool):=grd ((0:Int)<=q/\q<((v3.Guests.length:Nat):Int)) (grd ((0:Int)<=f/\f<((x9 (v3.Guests.getD q.toNat default).Pages:Nat):Int)) (some ((DHost.mk s4.1 (v3.Guests.set q.toNat (DGuest.mk (v3.Guests.getD q.toNat default).Live (DCore.mk ((v3.Guests.getD q.toNat default).C).Regs ((v3.Guests.getD q.toNat default).C).Pc ((v3.Guests.getD q.toNat default).C).Root ((v3.Guests.getD q.toNat default).C).Vector ((v3.Guests.getD q.toNat default).C).Saved ((v3.Guests.getD q.toNat default).C).SavedUser ((v3.Guests.getD q.toNat default).C).Cause ((v3.Guests.getD q.toNat default).C).Bad ((v3.Guests.getD q.toNat default).C).Timer ((v3.Guests.getD q.toNat default).C).Waits ((v3.Guests.getD q.toNat default).C).User ((v3.Guests.getD q.toNat default).C).On ((v3.Guests.getD q.toNat default).C).Stopped) (qXU (v3.Guests.getD q.toNat default).Pages f.toNat (DSlot.mk s4.2 true (x8 (a0.Guests.getD q.toNat default).Pages f.toNat default).Dirty)) (v3.Guests.getD q.toNat default).In (v3.Guests.getD q.toNat default).Out))),true)))
def gM(a0:DHost)(q:Int)(f:Int):Option (DHost×Bool):=
 x4 (dG a0 q) λv1=>
 cond (!v1)
  (some ((DHost.mk ([]:List Int) ([]:List DGuest)),false))
  (x4 (bU f (0:Int) (7:Int)) λv2=>
  cond (!v2)
   (some ((DHost.mk ([]:List Int) ([]:List DGuest)),false))
   (grd ((0:Int)<=q/\q<((a0.Guests.length:Nat):Int)) (grd ((0:Int)<=f/\f<((x9 (a0.Guests.getD q.toNat default).Pages:Nat):Int)) (cond (decide ((x8 (a0.Guests.getD q.toNat default).Pages f.toNat default).Frame<(0:Int)))
    (some ((DHost.mk ([]:List Int) ([]:List DGuest)),false))
    (x4 (dA a0) λv3=>
    grd ((0:Int)<=q/\q<((a0.Guests.length:Nat):Int)) (grd ((0:Int)<=f/\f<((x9 (a0.Guests.getD q.toNat default).Pages:Nat):Int)) (x4 (cond (!(x8 (a0.Guests.getD q.toNat default).Pages f.toNat default).Write)
     (x4 (mO a0) λv5=>
     grd ((0:Int)<=(x8 (a0.Guests.getD q.toNat default).Pages f.toNat default).Frame/\(x8 (a0.Guests.getD q.toNat default).Pages f.toNat default).Frame<((v5.length:Nat):Int)) (cond (decide ((1:Int)<(v5.getD (x7 (x8 (a0.Guests.getD q.toNat default).Pages f.toNat default).Frame) default)))
      (x4 (jQ a0) λv6=>
      cond (decide (((v6.length:Nat):Int)=(0:Int)))
       (some (.out ((DHost.mk ([]:List Int) ([]:List DGuest)),false)))
       (grd ((0:Int)<=(0:Int)/\(0:Int)<((v6.length:Nat):Int)) (grd ((0:Int)<=(0:Int)/\(0:Int)<((v6.length:Nat):Int)) (grd ((0:Int)<=(w64 ((v6.getD 0 default)*(8:Int)))/\(w64 ((v6.getD 0 default)*(8:Int)))<=(w64 ((w64 ((v6.getD 0 default)+(1:Int)))*(8:Int)))/\(w64 ((w64 ((v6.getD 0 default)+(1:Int)))*(8:Int)))<=((v3.Words.length:Nat):Int)) (grd ((0:Int)<=(w64 ((x8 (a0.Guests.getD q.toNat default).Pages f.toNat default).Frame*(8:Int)))/\(w64 ((x8 (a0.Guests.getD q.toNat default).Pages f.toNat default).Frame*(8:Int)))<=((a0.Words.length:Nat):Int)/\((a0.Words.length:Nat):Int)<=((a0.Words.length:Nat):Int)) (grd ((0:Int)<=(0:Int)/\(0:Int)<((v6.length:Nat):Int)) (some (.go ((over v3.Words (x7 (w64 ((v6.getD 0 default)*(8:Int)))) (x7 (w64 ((w64 ((v6.getD 0 default)+(1:Int)))*(8:Int)))-x7 (w64 ((v6.getD 0 default)*(8:Int)))) (o5 (x7 ((a0.Words.length:Nat):Int)-x7 (w64 ((x8 (a0.Guests.getD q.toNat default).Pages f.toNat default).Frame*(8:Int)))) (qQK (x7 (w64 ((x8 (a0.Guests.getD q.toNat default).Pages f.toNat default).Frame*(8:Int)))) a0.Words))),v6.getD 0 default)))))))))
      (some (.go (v3.Words,(x8 (a0.Guests.getD q.toNat default).Pages f.toNat default).Frame)))))
     (some (.go (v3.Words,(x8 (a0.Guests.getD q.toNat default).Pages f.toNat default).Frame)))) λj4=>
     JO.run j4 (nD a0 q f v3))))))))
def g54:Sg tG:=⟨[.st 26,.i .i64,.i .i64],.two (.st 2026) .b,gM⟩
theorem s54:Sok 54 g54:=sgx [(102,.r aIx),(51,.r g51),(103,.r aMe),(115,.r bVc),(114,.r bKc)] ⟨aLb,s51,aSg,cAd,bUt,trivial⟩ (.s .o (.s .o (.s .o (.s .o (.j ⟨[1,2,6,8,9],[],[(.c 8 0,.ro 3),(.c 9 0,.i .i64)]⟩ .o .o))))) kr kr kr
def iI(c9:DEntry)(c0:Bool)(b1:Bool):Option Bool:=
 cond c9.There
  (cond c9.Write
   (cond c9.User
    (some true)
    (some (!c0)))
   (cond (!b1)
    (cond c9.User
     (some true)
     (some (!c0)))
    (some false)))
  (some false)
def bRu:Sg tG:=⟨[.st 181,.b,.b],.one .b,iI⟩
theorem cBm:Sok 165 bRu:=sgx [] trivial .o kr kr kr
def qK(b6:List Int)(c1:Int)(a6:Int)(c0:Bool)(b1:Bool):Option Int:=
 x4 (rE b6) λv1=>
 cond (!v1)
  (some (-1:Int))
  (x4 (mQ c1) λv2=>
  cond (!v2)
   (some (-1:Int))
   (x4 (cL a6) λv3=>
   cond (!v3)
    (some (-1:Int))
    (cond (decide (c1=(-1:Int)))
     (some a6)
     (grd ((0:Int)<=(w64 ((w64 (c1*(8:Int)))+(w64 (n8 a6 (8:Int)))))/\(w64 ((w64 (c1*(8:Int)))+(w64 (n8 a6 (8:Int)))))<((b6.length:Nat):Int)) (x4 (mH (b6.getD (x7 (w64 ((w64 (c1*(8:Int)))+(w64 (n8 a6 (8:Int)))))) default)) λv4=>
      x4 (iI v4 c0 b1) λv5=>
      cond (!v5)
       (some (-1:Int))
       (some (w64 ((w64 (v4.Page*(8:Int)))+(y6 a6 (8:Int))))))))))
def bLh:Sg tG:=⟨[.row 3,.i .i64,.i .i64,.b,.b],.one (.i .i64),qK⟩
theorem bWc:Sok 125 bLh:=sgx [(120,.r bSa),(162,.r bUi),(161,.r bUl),(164,.r bSb),(165,.r bRu)] ⟨bZr,bZt,cDg,cAp,cBm,trivial⟩ .o kr kr kr
def wX(a7:DIns):Option Bool:=
 cond (decide ((0:Int)<=a7.Op))
  (cond (decide ((0:Int)<=a7.A))
   (cond (decide ((0:Int)<=a7.N))
    (cond (decide (a7.Op<=(15:Int)))
     (cond (decide (a7.A<(4:Int)))
      (some (decide (a7.N<(64:Int))))
      (some false))
     (some false))
    (cond (decide (a7.Op<=(15:Int)))
     (cond (decide (a7.A<(4:Int)))
      (some false)
      (some false))
     (some false)))
   (cond (decide ((0:Int)<=a7.N))
    (cond (decide (a7.Op<=(15:Int)))
     (some false)
     (some false))
    (cond (decide (a7.Op<=(15:Int)))
     (some false)
     (some false))))
  (cond (decide ((0:Int)<=a7.A))
   (cond (decide ((0:Int)<=a7.N))
    (some false)
    (some false))
   (cond (decide ((0:Int)<=a7.N))
    (some false)
    (some false)))
def cAt:Sg tG:=⟨[.st 141],.one .b,wX⟩
theorem cIn:Sok 218 cAt:=sgx [] trivial .o kr kr kr
def aJv(s2:Bool):Option Bool:=
 cond s2
  (some true)
  (some false)
def mC(a7:DIns):Option Bool:=
 x4 (wX a7) λv1=>
 cond (!v1)
  (some false)
  (x4 (cond (decide (a7.Op=(0:Int)))
   (some (.go (decide (a7.Op=(0:Int)))))
   (cond (decide (a7.Op=(8:Int)))
    (some (.go (decide (a7.Op=(8:Int)))))
    (cond (decide (a7.Op=(9:Int)))
     (some (.go (decide (a7.Op=(9:Int)))))
     (cond (decide (a7.Op=(10:Int)))
      (some (.go (decide (a7.Op=(10:Int)))))
      (cond (decide (a7.Op=(11:Int)))
       (some (.go (decide (a7.Op=(11:Int)))))
       (cond (decide (a7.Op=(12:Int)))
        (some (.go (decide (a7.Op=(12:Int)))))
        (cond (decide (a7.Op=(13:Int)))
         (some (.go (decide (a7.Op=(13:Int)))))
         (some (.go (decide (a7.Op=(14:Int)))))))))))) λj2=>
   JO.run j2 aJv)
def bUd:Sg tG:=⟨[.st 141],.one .b,mC⟩
theorem cDl:Sok 198 bUd:=sgx [(218,.r cAt)] ⟨cIn,trivial⟩ (.s .o (.s .o (.s (.s .o (.k (.j ⟨[],[],[(.s 8,.b)]⟩ .o .o))) .o))) kr kr kr
def lT(c5:Int):Option DIns:=
 x4 (fS c5) λv1=>
 cond (!v1)
  (some (DIns.mk (0:Int) (0:Int) (0:Int)))
  (some (DIns.mk (w64 (n8 c5 (256:Int))) (y6 (w64 (n8 c5 (64:Int))) (4:Int)) (y6 c5 (64:Int))))
def bLy:Sg tG:=⟨[.i .i64],.one (.st 141),lT⟩
theorem bVj:Sok 128 bLy:=sgx [(55,.r g55)] ⟨s55,trivial⟩ .o kr kr kr
def cS(a7:DIns):Option Bool:=
 x4 (rJ a7) λv1=>
 cond v1
  (cond (decide (a7.Op=(0:Int)))
   (some true)
   (x4 (bU a7.Op (8:Int) (14:Int)) λv2=>
   some v2))
  (some false)
def bLo:Sg tG:=⟨[.st 141],.one .b,cS⟩
theorem bVh:Sok 110 bLo:=sgx [(159,.r bVk),(51,.r g51)] ⟨cBc,s51,trivial⟩ .o kr kr kr
def oD(c5:Int):Option DIns:=
 x4 (fO c5) λv1=>
 cond (!v1)
  (some (DIns.mk (0:Int) (0:Int) (0:Int)))
  (some (DIns.mk (w64 (n8 c5 (256:Int))) (y6 (w64 (n8 c5 (64:Int))) (4:Int)) (y6 c5 (64:Int))))
def bVg:Sg tG:=⟨[.i .i64],.one (.st 141),oD⟩
theorem cCq:Sok 109 bVg:=sgx [(158,.r aWb)] ⟨bBr,trivial⟩ .o kr kr kr
def aDk(a1:DCore)(s1:Bool):Option DCore:=some (DCore.mk a1.Regs a1.Pc a1.Root a1.Vector a1.Saved a1.SavedUser a1.Cause a1.Bad (w64 (a1.Timer-(1:Int))) s1 a1.User a1.On a1.Stopped)
def hG(a1:DCore):Option DCore:=
 cond (decide (a1.Timer=(0:Int)))
  (some a1)
  (x4 (cond (decide ((w64 (a1.Timer-(1:Int)))=(0:Int)))
   (some (.go true))
   (some (.go a1.Waits))) λj1=>
   JO.run j1 (aDk a1))
def bKs:Sg tG:=⟨[.st 39],.one (.sb 39),hG⟩
theorem bUy:Sok 122 bKs:=sgx [] trivial (.s .o (.s .o (.s .o (.j ⟨[1,2],[],[(.c 1 9,.b)]⟩ .o .o)))) kr kr kr
def eY(a1:DCore):Option Bool:=
 cond a1.Waits
  (some a1.On)
  (some false)
def bLr:Sg tG:=⟨[.st 39],.one .b,eY⟩
theorem bTl:Sok 123 bLr:=sgx [] trivial .o kr kr kr
def kG(a1:DCore)(d4:Int)(d2:Int)(d6:Int):Option DCore:=some (DCore.mk a1.Regs a1.Vector a1.Root a1.Vector d4 a1.User d2 d6 a1.Timer a1.Waits false false a1.Stopped)
def bLu:Sw tG:=⟨[.os 39,.v (.i .i64),.v (.i .i64),.v (.i .i64)],.one (.st 39),kG⟩
theorem bTd:Sjk 108 bLu:=sgy [] trivial .o kr kr kr
def zO(a1:DCore)(s1:Bool×Int)(s2:Unit):Option (DCore×Bool):=some ((DCore.mk a1.Regs a1.Pc a1.Root a1.Vector a1.Saved a1.SavedUser a1.Cause a1.Bad s1.2 s1.1 a1.User a1.On a1.Stopped),false)
def yU(a1:DCore)(s1:Bool×Int):Option (DCore×Bool):=
 x4 (cond s1.1
  (cond a1.On
   (x4 (kG (DCore.mk a1.Regs a1.Pc a1.Root a1.Vector a1.Saved a1.SavedUser a1.Cause a1.Bad s1.2 false a1.User a1.On a1.Stopped) a1.Pc (4:Int) (0:Int)) λv3=>
   some (.out (v3,true)))
   (some (.go ())))
  (some (.go ()))) λj2=>
  JO.run j2 (zO a1 s1)
def jU(a1:DCore):Option (DCore×Bool):=
 x4 (cond (decide ((0:Int)<a1.Timer))
  (cond (decide ((w64 (a1.Timer-(1:Int)))=(0:Int)))
   (some (.go (true,w64 (a1.Timer-(1:Int)))))
   (some (.go (a1.Waits,w64 (a1.Timer-(1:Int))))))
  (some (.go (a1.Waits,a1.Timer)))) λj1=>
  JO.run j1 (yU a1)
def bVp:Sw tG:=⟨[.os 39],.two (.st 39) .b,jU⟩
theorem cCv:Sjk 105 bVp:=sgy [(108,.w bLu)] ⟨bTd,trivial⟩ (.s .o (.j ⟨[1,2],[],[(.c 1 9,.b),(.c 1 8,.i .i64)]⟩ .o (.j ⟨[1,2],[],[]⟩ .o .o))) kr kr kr
def cU(a1:DCore)(a7:DIns):Option Int:=grd ((0:Int)<=(y6 a7.N (4:Int))/\(y6 a7.N (4:Int))<((a1.Regs.length:Nat):Int)) (some (y6 (a1.Regs.getD (x7 (y6 a7.N (4:Int))) default) (64:Int)))
def aWk:Sg tG:=⟨[.st 39,.st 141],.one (.i .i64),cU⟩
theorem bDv:Sok 194 aWk:=sgx [] trivial .o kr kr kr
def pF(c6:DShade)(a6:Int)(s2:Unit):Option (Int×Int):=some ((w64 ((w64 (c6.Frame*(8:Int)))+(y6 a6 (8:Int)))),(0:Int))
def nW(c6:DShade)(a6:Int)(c0:Bool)(b1:Bool):Option (Int×Int):=
 x4 (iI (DEntry.mk c6.There c6.Write c6.User c6.Page) c0 b1) λv1=>
 cond (!v1)
  (some ((-1:Int),(1:Int)))
  (cond (decide (c6.Frame=(-1:Int)))
   (some ((-1:Int),(2:Int)))
   (x4 (cond b1
    (cond (!c6.Ready)
     (some (.out ((-1:Int),(3:Int))))
     (some (.go ())))
    (some (.go ()))) λj2=>
    JO.run j2 (pF c6 a6)))
def cBe:Sg tG:=⟨[.st 147,.i .i64,.b,.b],.two (.i .i64) (.i .i64),nW⟩
theorem cGm:Sok 212 cBe:=sgx [(165,.r bRu)] ⟨cBm,trivial⟩ (.s .o (.s .o (.s .o (.s .o (.j ⟨[1,4],[],[]⟩ .o .o))))) kr kr kr
def aAo(a9:List DShade)(a6:Int)(s1:Unit):Option (Int×Int):=some ((w64 ((w64 ((a9.getD (x7 (w64 (n8 a6 (8:Int)))) default).Frame*(8:Int)))+(y6 a6 (8:Int)))),(0:Int))
def cZ(a9:List DShade)(a6:Int)(c0:Bool)(b1:Bool):Option (Int×Int):=
 grd ((0:Int)<=(w64 (n8 a6 (8:Int)))/\(w64 (n8 a6 (8:Int)))<((a9.length:Nat):Int)) (x4 (cond (!(a9.getD (x7 (w64 (n8 a6 (8:Int)))) default).There)
  (some (.out ((-1:Int),(1:Int))))
  (cond b1
   (cond (!(a9.getD (x7 (w64 (n8 a6 (8:Int)))) default).Write)
    (some (.out ((-1:Int),(1:Int))))
    (cond c0
     (cond (!(a9.getD (x7 (w64 (n8 a6 (8:Int)))) default).User)
      (some (.out ((-1:Int),(1:Int))))
      (cond (decide ((a9.getD (x7 (w64 (n8 a6 (8:Int)))) default).Frame<(0:Int)))
       (some (.out ((-1:Int),(2:Int))))
       (cond b1
        (cond (!(a9.getD (x7 (w64 (n8 a6 (8:Int)))) default).Ready)
         (some (.out ((-1:Int),(3:Int))))
         (some (.go ())))
        (some (.go ())))))
     (cond (decide ((a9.getD (x7 (w64 (n8 a6 (8:Int)))) default).Frame<(0:Int)))
      (some (.out ((-1:Int),(2:Int))))
      (cond b1
       (cond (!(a9.getD (x7 (w64 (n8 a6 (8:Int)))) default).Ready)
        (some (.out ((-1:Int),(3:Int))))
        (some (.go ())))
       (some (.go ()))))))
   (cond c0
    (cond (!(a9.getD (x7 (w64 (n8 a6 (8:Int)))) default).User)
     (some (.out ((-1:Int),(1:Int))))
     (cond (decide ((a9.getD (x7 (w64 (n8 a6 (8:Int)))) default).Frame<(0:Int)))
      (some (.out ((-1:Int),(2:Int))))
      (cond b1
       (cond (!(a9.getD (x7 (w64 (n8 a6 (8:Int)))) default).Ready)
        (some (.out ((-1:Int),(3:Int))))
        (some (.go ())))
       (some (.go ())))))
    (cond (decide ((a9.getD (x7 (w64 (n8 a6 (8:Int)))) default).Frame<(0:Int)))
     (some (.out ((-1:Int),(2:Int))))
     (cond b1
      (cond (!(a9.getD (x7 (w64 (n8 a6 (8:Int)))) default).Ready)
       (some (.out ((-1:Int),(3:Int))))
       (some (.go ())))
      (some (.go ()))))))) λj1=>
  JO.run j1 (aAo a9 a6))
def bUe:Sg tG:=⟨[.row 147,.i .i64,.b,.b],.two (.i .i64) (.i .i64),cZ⟩
theorem cEe:Sok 107 bUe:=sgx [] trivial (.s .o (.s .o (.j ⟨[1,10],[],[]⟩ .o .o))) kr kr kr
def gY(a0:DHost)(q:Int)(a6:Int):Option DShade:=
 x4 (tB a0 q (w64 (n8 a6 (8:Int)))) λv1=>
 some v1
def bKh:Sg tG:=⟨[.st 26,.i .i64,.i .i64],.one (.st 147),gY⟩
theorem bRs:Sok 213 bKh:=sgx [(225,.r cDi)] ⟨cGk,trivial⟩ .o kr kr kr
def dR(a0:DHost)(q:Int)(a6:Int)(b1:Bool):Option (Int×Int):=
 x4 (gY a0 q a6) λv1=>
 grd ((0:Int)<=q/\q<((a0.Guests.length:Nat):Int)) (x4 (nW v1 a6 ((a0.Guests.getD q.toNat default).C).User b1) λv2=>
  some (v2.1,v2.2))
def aWm:Sg tG:=⟨[.st 26,.i .i64,.i .i64,.b],.two (.i .i64) (.i .i64),dR⟩
theorem bAg:Sok 188 aWm:=sgx [(213,.r bKh),(212,.r cBe)] ⟨bRs,cGm,trivial⟩ .o kr kr kr
def jB(a0:DHost)(q:Int)(a6:Int)(c7:Int):Option DExit:=
 x4 (gY a0 q a6) λv1=>
 cond (decide (c7=(2:Int)))
  (some (DExit.mk (2:Int) v1.Page (DIns.mk (0:Int) (0:Int) (0:Int))))
  (cond (decide (c7=(3:Int)))
   (some (DExit.mk (3:Int) v1.Page (DIns.mk (0:Int) (0:Int) (0:Int))))
   (some (DExit.mk (0:Int) (0:Int) (DIns.mk (0:Int) (0:Int) (0:Int)))))
def bVd:Sg tG:=⟨[.st 26,.i .i64,.i .i64,.i .i64],.one (.st 178),jB⟩
theorem cAu:Sok 210 bVd:=sgx [(213,.r bKh)] ⟨bRs,trivial⟩ .o kr kr kr
def tN(a0:DHost)(q:Int)(a7:DIns)(s2:Unit):Option DExit:=
 x4 (cU (DCore.mk ((a0.Guests.getD q.toNat default).C).Regs ((a0.Guests.getD q.toNat default).C).Pc ((a0.Guests.getD q.toNat default).C).Root ((a0.Guests.getD q.toNat default).C).Vector ((a0.Guests.getD q.toNat default).C).Saved ((a0.Guests.getD q.toNat default).C).SavedUser ((a0.Guests.getD q.toNat default).C).Cause ((a0.Guests.getD q.toNat default).C).Bad ((a0.Guests.getD q.toNat default).C).Timer ((a0.Guests.getD q.toNat default).C).Waits ((a0.Guests.getD q.toNat default).C).User ((a0.Guests.getD q.toNat default).C).On ((a0.Guests.getD q.toNat default).C).Stopped) a7) λv3=>
 x4 (dR a0 q v3 (decide (a7.Op=(4:Int)))) λv4=>
 x4 (jB a0 q v3 v4.2) λv5=>
 some v5
def tJ(a0:DHost)(q:Int)(a7:DIns)(s1:Unit):Option DExit:=
 x4 (cond (!decide (a7.Op=(3:Int)))
  (cond (!decide (a7.Op=(4:Int)))
   (some (.out (DExit.mk (0:Int) (0:Int) (DIns.mk (0:Int) (0:Int) (0:Int)))))
   (some (.go ())))
  (some (.go ()))) λj2=>
  JO.run j2 (tN a0 q a7)
def sD(a0:DHost)(q:Int)(a7:DIns):Option DExit:=
 grd ((0:Int)<=q/\q<((a0.Guests.length:Nat):Int)) (x4 (x4 (mC a7) λv6=>
  cond v6
   (cond (!((a0.Guests.getD q.toNat default).C).User)
    (some (.out (DExit.mk (1:Int) (0:Int) a7)))
    (some (.go ())))
   (some (.go ()))) λj1=>
  JO.run j1 (tJ a0 q a7))
def cBb:Sg tG:=⟨[.st 26,.i .i64,.st 141],.one (.st 178),sD⟩
theorem cFy:Sok 211 cBb:=sgx [(198,.r bUd),(194,.r aWk),(188,.r aWm),(210,.r bVd)] ⟨cDl,bDv,bAg,cAu,trivial⟩ (.s .o (.s .o (.j ⟨[1,3,5,6,7],[],[]⟩ .o (.j ⟨[1,3,5,6,7],[],[]⟩ .o .o)))) kr kr kr
def qG(a0:DHost)(q:Int):Option DExit:=
 grd ((0:Int)<=q/\q<((a0.Guests.length:Nat):Int)) (cond ((a0.Guests.getD q.toNat default).C).Stopped
  (some (DExit.mk (0:Int) (0:Int) (DIns.mk (0:Int) (0:Int) (0:Int))))
  (x4 (hG (DCore.mk ((a0.Guests.getD q.toNat default).C).Regs ((a0.Guests.getD q.toNat default).C).Pc ((a0.Guests.getD q.toNat default).C).Root ((a0.Guests.getD q.toNat default).C).Vector ((a0.Guests.getD q.toNat default).C).Saved ((a0.Guests.getD q.toNat default).C).SavedUser ((a0.Guests.getD q.toNat default).C).Cause ((a0.Guests.getD q.toNat default).C).Bad ((a0.Guests.getD q.toNat default).C).Timer ((a0.Guests.getD q.toNat default).C).Waits ((a0.Guests.getD q.toNat default).C).User ((a0.Guests.getD q.toNat default).C).On ((a0.Guests.getD q.toNat default).C).Stopped)) λv1=>
  x4 (eY v1) λv2=>
  cond v2
   (some (DExit.mk (0:Int) (0:Int) (DIns.mk (0:Int) (0:Int) (0:Int))))
   (x4 (dR a0 q ((a0.Guests.getD q.toNat default).C).Pc false) λv3=>
   cond (!decide (v3.2=(0:Int)))
    (x4 (jB a0 q ((a0.Guests.getD q.toNat default).C).Pc v3.2) λv4=>
    some v4)
    (grd ((0:Int)<=v3.1/\v3.1<((a0.Words.length:Nat):Int)) (x4 (lT (a0.Words.getD v3.1.toNat default)) λv5=>
     x4 (sD a0 q v5) λv6=>
     some v6)))))
def cBa:Sg tG:=⟨[.st 26,.i .i64],.one (.st 178),qG⟩
theorem cIa:Sok 185 cBa:=sgx [(122,.r bKs),(123,.r bLr),(188,.r aWm),(210,.r bVd),(128,.r bLy),(211,.r cBb)] ⟨bUy,bTl,bAg,cAu,bVj,cFy,trivial⟩ .o kr kr kr
def aCy(a9:List DShade)(a6:Int)(s1:Int):Option DExit:=some (DExit.mk s1 (a9.getD (x7 (w64 (n8 a6 (8:Int)))) default).Page (DIns.mk (0:Int) (0:Int) (0:Int)))
def fN(a9:List DShade)(a6:Int)(c7:Int):Option DExit:=
 grd ((0:Int)<=(w64 (n8 a6 (8:Int)))/\(w64 (n8 a6 (8:Int)))<((a9.length:Nat):Int)) (x4 (cond (decide (c7=(2:Int)))
  (some (.go (2:Int)))
  (cond (decide (c7=(3:Int)))
   (some (.go (3:Int)))
   (some (.out (DExit.mk (0:Int) (0:Int) (DIns.mk (0:Int) (0:Int) (0:Int))))))) λj1=>
  JO.run j1 (aCy a9 a6))
def cEg:Sg tG:=⟨[.row 147,.i .i64,.i .i64],.one (.st 178),fN⟩
theorem cIm:Sok 193 cEg:=sgx [] trivial (.s .o (.s .o (.j ⟨[6,7],[],[(.c 7 0,.i .i64)]⟩ .o .o))) kr kr kr
def aJt(s8:Unit):Option DExit:=some (DExit.mk (0:Int) (0:Int) (DIns.mk (0:Int) (0:Int) (0:Int)))
def lY(a0:DHost)(q:Int):Option DExit:=
 x4 (dG a0 q) λv1=>
 cond (!v1)
  (some (DExit.mk (0:Int) (0:Int) (DIns.mk (0:Int) (0:Int) (0:Int))))
  (grd ((0:Int)<=q/\q<((a0.Guests.length:Nat):Int)) (cond ((a0.Guests.getD q.toNat default).C).Stopped
   (some (DExit.mk (0:Int) (0:Int) (DIns.mk (0:Int) (0:Int) (0:Int))))
   (grd ((0:Int)<=q/\q<((a0.Guests.length:Nat):Int)) (x4 (kK (DCore.mk ((a0.Guests.getD q.toNat default).C).Regs ((a0.Guests.getD q.toNat default).C).Pc ((a0.Guests.getD q.toNat default).C).Root ((a0.Guests.getD q.toNat default).C).Vector ((a0.Guests.getD q.toNat default).C).Saved ((a0.Guests.getD q.toNat default).C).SavedUser ((a0.Guests.getD q.toNat default).C).Cause ((a0.Guests.getD q.toNat default).C).Bad ((a0.Guests.getD q.toNat default).C).Timer ((a0.Guests.getD q.toNat default).C).Waits ((a0.Guests.getD q.toNat default).C).User ((a0.Guests.getD q.toNat default).C).On ((a0.Guests.getD q.toNat default).C).Stopped)) λv2=>
    x4 (jU v2) λv3=>
    cond v3.2
     (some (DExit.mk (0:Int) (0:Int) (DIns.mk (0:Int) (0:Int) (0:Int))))
     (x4 (jY a0 q) λv4=>
     x4 (cZ v4 v3.1.Pc v3.1.User false) λv5=>
     cond (!decide (v5.2=(0:Int)))
      (x4 (fN v4 v3.1.Pc v5.2) λv6=>
      some v6)
      (grd ((0:Int)<=v5.1/\v5.1<((a0.Words.length:Nat):Int)) (x4 (oD (a0.Words.getD v5.1.toNat default)) λv7=>
       x4 (x4 (cS v7) λv9=>
        cond v9
         (cond (!v3.1.User)
          (some (.out (DExit.mk (1:Int) (0:Int) v7)))
          (cond (decide (v7.Op=(3:Int)))
           (grd ((0:Int)<=(y6 v7.N (4:Int))/\(y6 v7.N (4:Int))<((v3.1.Regs.length:Nat):Int)) (x4 (cZ v4 (y6 (v3.1.Regs.getD (x7 (y6 v7.N (4:Int))) default) (64:Int)) v3.1.User (decide (v7.Op=(4:Int)))) λv10=>
            x4 (fN v4 (y6 (v3.1.Regs.getD (x7 (y6 v7.N (4:Int))) default) (64:Int)) v10.2) λv11=>
            some (.out v11)))
           (cond (decide (v7.Op=(4:Int)))
            (grd ((0:Int)<=(y6 v7.N (4:Int))/\(y6 v7.N (4:Int))<((v3.1.Regs.length:Nat):Int)) (x4 (cZ v4 (y6 (v3.1.Regs.getD (x7 (y6 v7.N (4:Int))) default) (64:Int)) v3.1.User (decide (v7.Op=(4:Int)))) λv12=>
             x4 (fN v4 (y6 (v3.1.Regs.getD (x7 (y6 v7.N (4:Int))) default) (64:Int)) v12.2) λv13=>
             some (.out v13)))
            (some (.go ())))))
         (cond (decide (v7.Op=(3:Int)))
          (grd ((0:Int)<=(y6 v7.N (4:Int))/\(y6 v7.N (4:Int))<((v3.1.Regs.length:Nat):Int)) (x4 (cZ v4 (y6 (v3.1.Regs.getD (x7 (y6 v7.N (4:Int))) default) (64:Int)) v3.1.User (decide (v7.Op=(4:Int)))) λv14=>
           x4 (fN v4 (y6 (v3.1.Regs.getD (x7 (y6 v7.N (4:Int))) default) (64:Int)) v14.2) λv15=>
           some (.out v15)))
          (cond (decide (v7.Op=(4:Int)))
           (grd ((0:Int)<=(y6 v7.N (4:Int))/\(y6 v7.N (4:Int))<((v3.1.Regs.length:Nat):Int)) (x4 (cZ v4 (y6 (v3.1.Regs.getD (x7 (y6 v7.N (4:Int))) default) (64:Int)) v3.1.User (decide (v7.Op=(4:Int)))) λv16=>
            x4 (fN v4 (y6 (v3.1.Regs.getD (x7 (y6 v7.N (4:Int))) default) (64:Int)) v16.2) λv17=>
            some (.out v17)))
           (some (.go ()))))) λj8=>
        JO.run j8 aJt)))))))
def cEh:Sg tG:=⟨[.st 26,.i .i64],.one (.st 178),lY⟩
theorem cGu:Sok 156 cEh:=sgx [(102,.r aIx),(132,.r bLn),(105,.w bVp),(106,.r bSx),(107,.r bUe),(193,.r cEg),(109,.r bVg),(110,.r bLo)] ⟨aLb,bVl,cCv,cCn,cEe,cIm,cCq,bVh,trivial⟩ (.s .o (.s .o (.s .o (.s .o (.s .o (.s .o (.s .o (.s .o (.j ⟨[4],[],[]⟩ .o .o))))))))) kr kr kr
def lZ(d7:Int):Option Int:=some (y6 (w64 (d7+(1:Int))) (64:Int))
def bTv:Sg tG:=⟨[.i .i64],.one (.i .i64),lZ⟩
theorem cDq:Sok 217 bTv:=sgx [] trivial .o kr kr kr
def eQ(a2:DBare):Option DBare:=
 x4 (lZ a2.C.Pc) λv1=>
 some (DBare.mk (DCore.mk a2.C.Regs v1 a2.C.Root a2.C.Vector a2.C.Saved a2.C.SavedUser a2.C.Cause a2.C.Bad a2.C.Timer a2.C.Waits a2.C.User a2.C.On a2.C.Stopped) a2.Mem a2.In a2.Out)
def aVv:Sg tG:=⟨[.st 41],.one (.sb 41),eQ⟩
theorem bBz:Sok 197 aVv:=sgx [(217,.r bTv)] ⟨cDq,trivial⟩ .o kr kr kr
def aEn(a1:DCore):Option DCore:=some (DCore.mk a1.Regs a1.Saved a1.Root a1.Vector a1.Saved a1.SavedUser a1.Cause a1.Bad a1.Timer a1.Waits a1.SavedUser true a1.Stopped)
def cEi:Sg tG:=⟨[.st 39],.one (.sb 39),aEn⟩
theorem cIi:Sok 221 cEi:=sgx [] trivial .o kr kr kr
def qZ(c4:Int):Option Int:=
 x4 (fR (y6 c4 (16:Int))) λv1=>
 cond (!v1)
  (some (-1:Int))
  (some (y6 c4 (16:Int)))
def cEj:Sg tG:=⟨[.i .i64],.one (.i .i64),qZ⟩
theorem cGx:Sok 222 cEj:=sgx [(46,.r g46)] ⟨s46,trivial⟩ .o kr kr kr
def sC(b5:List Int)(c4:Int):Option (List Int):=
 cond (decide ((30:Int)<=((b5.length:Nat):Int)))
  (some b5)
  (x4 (cM b5) λv1=>
  grd ((v1.length+x9 ([c4]:List Int))*8<=2^47/\v1.length+x9 ([c4]:List Int)<=2^47) (some (v1++([c4]:List Int))))
def bZu:Sg tG:=⟨[.row 3,.i .i64],.one (.rb 3),sC⟩
theorem cGs:Sok 223 bZu:=sgx [(117,.r aWl)] ⟨aWx,trivial⟩ .o kr kr kr
def lO(a8:List Int)(c3:Int)(c5:Int):Option (List Int):=
 x4 (cM a8) λv1=>
 grd ((0:Int)<=c3/\c3<((v1.length:Nat):Int)) (some (v1.set c3.toNat c5))
def bJs:Sg tG:=⟨[.row 3,.i .i64,.i .i64],.one (.row 3),lO⟩
theorem bWf:Sok 196 bJs:=sgx [(117,.r aWl)] ⟨aWx,trivial⟩ .o kr kr kr
def sH(a2:DBare)(d0:Int):Option Int:=
 cond (decide (d0=(1:Int)))
  (some a2.C.Cause)
  (cond (decide (d0=(2:Int)))
   (some a2.C.Bad)
   (cond (decide (d0=(3:Int)))
    (some a2.C.Saved)
    (cond (decide (((a2.In.length:Nat):Int)=(0:Int)))
     (some (0:Int))
     (grd ((0:Int)<=(0:Int)/\(0:Int)<((a2.In.length:Nat):Int)) (some (a2.In.getD (x7 (0:Int)) default))))))
def cBh:Sg tG:=⟨[.st 41,.i .i64],.one (.i .i64),sH⟩
theorem cHb:Sok 226 cBh:=sgx [] trivial .o kr kr kr
def aSd(a2:DBare)(v2:List Int)(s3:List Int):Option DBare:=some (DBare.mk (DCore.mk v2 a2.C.Pc a2.C.Root a2.C.Vector a2.C.Saved a2.C.SavedUser a2.C.Cause a2.C.Bad a2.C.Timer a2.C.Waits a2.C.User a2.C.On a2.C.Stopped) a2.Mem s3 a2.Out)
def uR(a2:DBare)(a7:DIns):Option DBare:=
 x4 (sH a2 (y6 a7.N (4:Int))) λv1=>
 x4 (lO a2.C.Regs a7.A v1) λv2=>
 x4 (cond (decide ((y6 a7.N (4:Int))=(0:Int)))
  (cond (decide ((0:Int)<((a2.In.length:Nat):Int)))
   (grd ((0:Int)<=(1:Int)/\(1:Int)<=((a2.In.length:Nat):Int)/\((a2.In.length:Nat):Int)<=((a2.In.length:Nat):Int)) (some (.go (o5 (x7 ((a2.In.length:Nat):Int)-x7 (1:Int)) (qQK (x7 (1:Int)) a2.In)))))
   (some (.go a2.In)))
  (some (.go a2.In))) λj3=>
  JO.run j3 (aSd a2 v2)
def cAj:Sg tG:=⟨[.st 41,.st 141],.one (.sb 41),uR⟩
theorem cHv:Sok 224 cAj:=sgx [(226,.r cBh),(196,.r bJs)] ⟨cHb,bWf,trivial⟩ (.s .o (.s .o (.s .o (.j ⟨[2,4],[],[(.c 2 14,.rb 3)]⟩ .o .o)))) kr kr kr
def hZ(s1:Int×Int×Int×Bool×(List Int)×(List Int)×Int×Int×Bool×Int×Int×Bool×Bool×Bool×(List Int)×(List Int)):Option DBare:=
 x4 (eQ (DBare.mk (DCore.mk s1.2.2.2.2.2.1 s1.2.2.2.2.2.2.1 s1.1 s1.2.1 s1.2.2.2.2.2.2.2.1 s1.2.2.2.2.2.2.2.2.1 s1.2.2.2.2.2.2.2.2.2.1 s1.2.2.2.2.2.2.2.2.2.2.1 s1.2.2.1 s1.2.2.2.2.2.2.2.2.2.2.2.1 s1.2.2.2.2.2.2.2.2.2.2.2.2.1 s1.2.2.2.1 s1.2.2.2.2.2.2.2.2.2.2.2.2.2.1) s1.2.2.2.2.2.2.2.2.2.2.2.2.2.2.1 s1.2.2.2.2.2.2.2.2.2.2.2.2.2.2.2 s1.2.2.2.2.1)) λv2=>
 some v2
def pN(a2:DBare)(a7:DIns):Option DBare:=
 grd ((0:Int)<=a7.A/\a7.A<((a2.C.Regs.length:Nat):Int)) (x4 (cond (decide (a7.Op=(0:Int)))
  (some (.out (DBare.mk (DCore.mk a2.C.Regs a2.C.Pc a2.C.Root a2.C.Vector a2.C.Saved a2.C.SavedUser a2.C.Cause a2.C.Bad a2.C.Timer a2.C.Waits a2.C.User a2.C.On true) a2.Mem a2.In a2.Out)))
  (cond (decide (a7.Op=(11:Int)))
   (x4 (aEn a2.C) λv3=>
   some (.out (DBare.mk v3 a2.Mem a2.In a2.Out)))
   (cond (decide (a7.Op=(8:Int)))
    (x4 (qZ (a2.C.Regs.getD a7.A.toNat default)) λv4=>
    some (.go (v4,a2.C.Vector,a2.C.Timer,a2.C.On,a2.Out,a2.C.Regs,a2.C.Pc,a2.C.Saved,a2.C.SavedUser,a2.C.Cause,a2.C.Bad,a2.C.Waits,a2.C.User,a2.C.Stopped,a2.Mem,a2.In)))
    (cond (decide (a7.Op=(9:Int)))
     (some (.go (a2.C.Root,y6 (a2.C.Regs.getD a7.A.toNat default) (64:Int),a2.C.Timer,a2.C.On,a2.Out,a2.C.Regs,a2.C.Pc,a2.C.Saved,a2.C.SavedUser,a2.C.Cause,a2.C.Bad,a2.C.Waits,a2.C.User,a2.C.Stopped,a2.Mem,a2.In)))
     (cond (decide (a7.Op=(10:Int)))
      (some (.go (a2.C.Root,a2.C.Vector,a2.C.Regs.getD a7.A.toNat default,a2.C.On,a2.Out,a2.C.Regs,a2.C.Pc,a2.C.Saved,a2.C.SavedUser,a2.C.Cause,a2.C.Bad,a2.C.Waits,a2.C.User,a2.C.Stopped,a2.Mem,a2.In)))
      (cond (decide (a7.Op=(12:Int)))
       (some (.go (a2.C.Root,a2.C.Vector,a2.C.Timer,decide ((y6 a7.N (2:Int))=(1:Int)),a2.Out,a2.C.Regs,a2.C.Pc,a2.C.Saved,a2.C.SavedUser,a2.C.Cause,a2.C.Bad,a2.C.Waits,a2.C.User,a2.C.Stopped,a2.Mem,a2.In)))
       (cond (decide (a7.Op=(13:Int)))
        (x4 (sC a2.Out (a2.C.Regs.getD a7.A.toNat default)) λv5=>
        some (.go (a2.C.Root,a2.C.Vector,a2.C.Timer,a2.C.On,v5,a2.C.Regs,a2.C.Pc,a2.C.Saved,a2.C.SavedUser,a2.C.Cause,a2.C.Bad,a2.C.Waits,a2.C.User,a2.C.Stopped,a2.Mem,a2.In)))
        (cond (decide (a7.Op=(14:Int)))
         (x4 (uR a2 a7) λv6=>
         some (.go (v6.C.Root,v6.C.Vector,v6.C.Timer,v6.C.On,v6.Out,v6.C.Regs,v6.C.Pc,v6.C.Saved,v6.C.SavedUser,v6.C.Cause,v6.C.Bad,v6.C.Waits,v6.C.User,v6.C.Stopped,v6.Mem,v6.In)))
         (some (.go (a2.C.Root,a2.C.Vector,a2.C.Timer,a2.C.On,a2.Out,a2.C.Regs,a2.C.Pc,a2.C.Saved,a2.C.SavedUser,a2.C.Cause,a2.C.Bad,a2.C.Waits,a2.C.User,a2.C.Stopped,a2.Mem,a2.In))))))))))) λj1=>
  JO.run j1 hZ)
def bZk:Sg tG:=⟨[.st 41,.st 141],.one (.sb 41),pN⟩
theorem cHi:Sok 200 bZk:=sgx [(221,.r cEi),(222,.r cEj),(223,.r bZu),(224,.r cAj),(197,.r aVv)] ⟨cIi,cGx,cGs,cHv,bBz,trivial⟩ (.s .o (.s .o (.j ⟨[2,4],[],[(.c 2 2,.i .i64),(.c 2 3,.i .i64),(.c 2 8,.i .i64),(.c 2 11,.b),(.c 2 15,.rb 3),(.c 2 0,.rb 3),(.c 2 1,.i .i64),(.c 2 4,.i .i64),(.c 2 5,.b),(.c 2 6,.i .i64),(.c 2 7,.i .i64),(.c 2 9,.b),(.c 2 10,.b),(.c 2 12,.b),(.c 2 13,.rb 3),(.c 2 14,.rb 3)]⟩ .o .o))) kr kr kr
def zG(a1:DCore)(s1:Int×Int×Int×Bool×Bool×Int×(List Int)×(List Int)×(List Int)):Option (DCore×(List Int)×(List Int)):=some ((DCore.mk s1.2.2.2.2.2.2.2.2 s1.2.2.2.2.2.1 s1.1 s1.2.1 a1.Saved a1.SavedUser a1.Cause a1.Bad s1.2.2.1 a1.Waits s1.2.2.2.1 s1.2.2.2.2.1 a1.Stopped),s1.2.2.2.2.2.2.2.1,s1.2.2.2.2.2.2.1)
def zB(a1:DCore)(b5:List Int)(a7:DIns)(s2:(List Int)×Int):Option (JO (Int×Int×Int×Bool×Bool×Int×(List Int)×(List Int)×(List Int)) (DCore×(List Int)×(List Int))):=grd ((0:Int)<=a7.A/\a7.A<((a1.Regs.length:Nat):Int)) (some (.go (a1.Root,a1.Vector,a1.Timer,a1.User,a1.On,y6 (w64 (a1.Pc+(1:Int))) (64:Int),b5,s2.1,a1.Regs.set a7.A.toNat s2.2)))
def nA(a1:DCore)(b9:List Int)(b5:List Int)(a7:DIns):Option (DCore×(List Int)×(List Int)):=
 x4 (cond (decide (a7.Op=(0:Int)))
  (some (.out ((DCore.mk a1.Regs a1.Pc a1.Root a1.Vector a1.Saved a1.SavedUser a1.Cause a1.Bad a1.Timer a1.Waits a1.User a1.On true),b9,b5)))
  (cond (decide (a7.Op=(8:Int)))
   (grd ((0:Int)<=a7.A/\a7.A<((a1.Regs.length:Nat):Int)) (cond (decide ((y6 (a1.Regs.getD a7.A.toNat default) (16:Int))<(8:Int)))
    (grd ((0:Int)<=a7.A/\a7.A<((a1.Regs.length:Nat):Int)) (some (.go ((y6 (a1.Regs.getD a7.A.toNat default) (16:Int)),a1.Vector,a1.Timer,a1.User,a1.On,y6 (w64 (a1.Pc+(1:Int))) (64:Int),b5,b9,a1.Regs))))
    (some (.go ((-1:Int),a1.Vector,a1.Timer,a1.User,a1.On,y6 (w64 (a1.Pc+(1:Int))) (64:Int),b5,b9,a1.Regs)))))
   (cond (decide (a7.Op=(9:Int)))
    (grd ((0:Int)<=a7.A/\a7.A<((a1.Regs.length:Nat):Int)) (some (.go (a1.Root,y6 (a1.Regs.getD a7.A.toNat default) (64:Int),a1.Timer,a1.User,a1.On,y6 (w64 (a1.Pc+(1:Int))) (64:Int),b5,b9,a1.Regs))))
    (cond (decide (a7.Op=(10:Int)))
     (grd ((0:Int)<=a7.A/\a7.A<((a1.Regs.length:Nat):Int)) (some (.go (a1.Root,a1.Vector,a1.Regs.getD a7.A.toNat default,a1.User,a1.On,y6 (w64 (a1.Pc+(1:Int))) (64:Int),b5,b9,a1.Regs))))
     (cond (decide (a7.Op=(11:Int)))
      (some (.go (a1.Root,a1.Vector,a1.Timer,a1.SavedUser,true,a1.Saved,b5,b9,a1.Regs)))
      (cond (decide (a7.Op=(12:Int)))
       (some (.go (a1.Root,a1.Vector,a1.Timer,a1.User,decide ((y6 a7.N (2:Int))=(1:Int)),y6 (w64 (a1.Pc+(1:Int))) (64:Int),b5,b9,a1.Regs)))
       (cond (decide (a7.Op=(13:Int)))
        (cond (decide (((b5.length:Nat):Int)<(30:Int)))
         (grd ((0:Int)<=a7.A/\a7.A<((a1.Regs.length:Nat):Int)) (grd ((b5.length+x9 ([a1.Regs.getD a7.A.toNat default]:List Int))*8<=2^47/\b5.length+x9 ([a1.Regs.getD a7.A.toNat default]:List Int)<=2^47) (some (.go (a1.Root,a1.Vector,a1.Timer,a1.User,a1.On,y6 (w64 (a1.Pc+(1:Int))) (64:Int),b5++([a1.Regs.getD a7.A.toNat default]:List Int),b9,a1.Regs)))))
         (some (.go (a1.Root,a1.Vector,a1.Timer,a1.User,a1.On,y6 (w64 (a1.Pc+(1:Int))) (64:Int),b5,b9,a1.Regs))))
        (cond (decide (a7.Op=(14:Int)))
         (grd ((0:Int)<=(y6 a7.N (4:Int))/\(y6 a7.N (4:Int))<((4:Nat):Int)) (x4 (cond (decide ((y6 a7.N (4:Int))=(0:Int)))
          (cond (decide ((0:Int)<((b9.length:Nat):Int)))
           (grd ((0:Int)<=(0:Int)/\(0:Int)<((b9.length:Nat):Int)) (grd ((0:Int)<=(1:Int)/\(1:Int)<=((b9.length:Nat):Int)/\((b9.length:Nat):Int)<=((b9.length:Nat):Int)) (some (.go ((o5 (x7 ((b9.length:Nat):Int)-x7 (1:Int)) (qQK 1 b9)),b9.getD 0 default)))))
           (some (.go (b9,x8 ([(0:Int),a1.Cause,a1.Bad,a1.Saved]:List Int) (x7 (y6 a7.N (4:Int))) default))))
          (some (.go (b9,x8 ([(0:Int),a1.Cause,a1.Bad,a1.Saved]:List Int) (x7 (y6 a7.N (4:Int))) default)))) λj2=>
          JO.run j2 (zB a1 b5 a7)))
         (some (.go (a1.Root,a1.Vector,a1.Timer,a1.User,a1.On,y6 (w64 (a1.Pc+(1:Int))) (64:Int),b5,b9,a1.Regs))))))))))) λj1=>
  JO.run j1 (zG a1)
def cDc:Sw tG:=⟨[.os 39,.ow 3,.ow 3,.v (.st 141)],.three (.st 39) (.row 3) (.row 3),nA⟩
theorem cGf:Sjk 160 cDc:=sgy [] trivial (.s .o (.s .o (.j ⟨[4,8],[],[(.c 4 2,.i .i64),(.c 4 3,.i .i64),(.c 4 8,.i .i64),(.c 4 10,.b),(.c 4 11,.b),(.s 11,.i .i64),(.s 2,.ro 3),(.s 1,.ro 3),(.c 4 0,.ro 3)]⟩ (.s .o (.k (.s .o (.c .o (.s .o (.c .o (.s .o (.c .o (.s .o (.c .o (.s .o (.c .o (.s .o (.c .o (.s .o (.c .o (.s .o (.c (.s .o (.j ⟨[2,4,7,8,11],[],[(.s 1,.ro 3),(.s 12,.i .i64)]⟩ (.s .o (.c (.s .o (.g [] [] [.ct 1])) .o)) .o)) .o)))))))))))))))))) .o))) kr kr kr
def bG(a0:DHost)(q:Int)(a2:DBare):Option DHost:=
 x4 (bI a0) λv1=>
 x4 (cX a2) λv2=>
 grd ((0:Int)<=q/\q<((v1.Guests.length:Nat):Int)) (grd ((0:Int)<=q/\q<((v1.Guests.length:Nat):Int)) (grd ((0:Int)<=q/\q<((v1.Guests.length:Nat):Int)) (some (DHost.mk v1.Words (let z0:=v1.Guests.set q.toNat (DGuest.mk (v1.Guests.getD q.toNat default).Live v2.C (v1.Guests.getD q.toNat default).Pages (v1.Guests.getD q.toNat default).In (v1.Guests.getD q.toNat default).Out);let z1:=z0.set q.toNat (DGuest.mk (z0.getD q.toNat default).Live (DCore.mk ((z0.getD q.toNat default).C).Regs ((z0.getD q.toNat default).C).Pc ((z0.getD q.toNat default).C).Root ((z0.getD q.toNat default).C).Vector ((z0.getD q.toNat default).C).Saved ((z0.getD q.toNat default).C).SavedUser ((z0.getD q.toNat default).C).Cause ((z0.getD q.toNat default).C).Bad ((z0.getD q.toNat default).C).Timer ((z0.getD q.toNat default).C).Waits ((z0.getD q.toNat default).C).User ((z0.getD q.toNat default).C).On ((z0.getD q.toNat default).C).Stopped) (z0.getD q.toNat default).Pages v2.In (z0.getD q.toNat default).Out);z1.set q.toNat (DGuest.mk (z1.getD q.toNat default).Live (DCore.mk ((z1.getD q.toNat default).C).Regs ((z1.getD q.toNat default).C).Pc ((z1.getD q.toNat default).C).Root ((z1.getD q.toNat default).C).Vector ((z1.getD q.toNat default).C).Saved ((z1.getD q.toNat default).C).SavedUser ((z1.getD q.toNat default).C).Cause ((z1.getD q.toNat default).C).Bad ((z1.getD q.toNat default).C).Timer ((z1.getD q.toNat default).C).Waits ((z1.getD q.toNat default).C).User ((z1.getD q.toNat default).C).On ((z1.getD q.toNat default).C).Stopped) (z1.getD q.toNat default).Pages (z1.getD q.toNat default).In v2.Out))))))
def g67:Sg tG:=⟨[.st 26,.i .i64,.st 41],.one (.st 2026),bG⟩
theorem s67:Sok 67 g67:=sgx [(131,.r aQn),(57,.r g57)] ⟨aRv,s57,trivial⟩ (.s .o (.s .o (.s .o (.s (.g [] [] [.fo (.c 7 1) 0]) (.s (.g [] [] [.fo (.c 7 1) 0]) (.s (.g [] [] [.fo (.c 7 1) 0]) .o)))))) kr kr kr
theorem aJr{a0:DHost}{q:Int}{a2:DBare}{R_:DHost}(hh:bG a0 q a2=some R_):Fn Tryz.prog 67 [.agg (dE a0),.int .i64 q,.agg (tI a2)] (.agg [.own 3 1 R_.Words.length (fl (eI .i64) R_.Words),.own 94 17 R_.Guests.length (fl dO R_.Guests)]):=kc (s67 a0 q a2 R_ hh)
def fU(a0:DHost)(q:Int):Option DBare:=grd ((0:Int)<=q/\q<((a0.Guests.length:Nat):Int)) (some (DBare.mk (DCore.mk ((a0.Guests.getD q.toNat default).C).Regs ((a0.Guests.getD q.toNat default).C).Pc ((a0.Guests.getD q.toNat default).C).Root ((a0.Guests.getD q.toNat default).C).Vector ((a0.Guests.getD q.toNat default).C).Saved ((a0.Guests.getD q.toNat default).C).SavedUser ((a0.Guests.getD q.toNat default).C).Cause ((a0.Guests.getD q.toNat default).C).Bad ((a0.Guests.getD q.toNat default).C).Timer ((a0.Guests.getD q.toNat default).C).Waits ((a0.Guests.getD q.toNat default).C).User ((a0.Guests.getD q.toNat default).C).On ((a0.Guests.getD q.toNat default).C).Stopped) ([]:List Int) (a0.Guests.getD q.toNat default).In (a0.Guests.getD q.toNat default).Out))
def g68:Sg tG:=⟨[.st 26,.i .i64],.one (.sb 41),fU⟩
theorem s68:Sok 68 g68:=sgx [] trivial .o kr kr kr
theorem aOe{a0:DHost}{q:Int}{R_:DBare}(hh:fU a0 q=some R_):Fn Tryz.prog 68 [.agg (dE a0),.int .i64 q] (.agg [bo (eI .i64) R_.C.Regs,.int .i64 R_.C.Pc,.int .i64 R_.C.Root,.int .i64 R_.C.Vector,.int .i64 R_.C.Saved,.bool R_.C.SavedUser,.int .i64 R_.C.Cause,.int .i64 R_.C.Bad,.int .i64 R_.C.Timer,.bool R_.C.Waits,.bool R_.C.User,.bool R_.C.On,.bool R_.C.Stopped,bo (eI .i64) R_.Mem,bo (eI .i64) R_.In,bo (eI .i64) R_.Out]):=kc (s68 a0 q R_ hh)
def gD(a0:DHost)(q:Int)(a7:DIns):Option (DHost×Bool):=
 x4 (dG a0 q) λv1=>
 cond (!v1)
  (some ((DHost.mk ([]:List Int) ([]:List DGuest)),false))
  (x4 (cS a7) λv2=>
  cond (!v2)
   (some ((DHost.mk ([]:List Int) ([]:List DGuest)),false))
   (x4 (dA a0) λv3=>
   grd ((0:Int)<=q/\q<((v3.Guests.length:Nat):Int)) (x4 (nA (DCore.mk ((v3.Guests.getD q.toNat default).C).Regs ((v3.Guests.getD q.toNat default).C).Pc ((v3.Guests.getD q.toNat default).C).Root ((v3.Guests.getD q.toNat default).C).Vector ((v3.Guests.getD q.toNat default).C).Saved ((v3.Guests.getD q.toNat default).C).SavedUser ((v3.Guests.getD q.toNat default).C).Cause ((v3.Guests.getD q.toNat default).C).Bad ((v3.Guests.getD q.toNat default).C).Timer ((v3.Guests.getD q.toNat default).C).Waits ((v3.Guests.getD q.toNat default).C).User ((v3.Guests.getD q.toNat default).C).On ((v3.Guests.getD q.toNat default).C).Stopped) (v3.Guests.getD q.toNat default).In (v3.Guests.getD q.toNat default).Out a7) λv4=>
    grd ((0:Int)<=q/\q<((v3.Guests.length:Nat):Int)) (grd (q.toNat=q.toNat) (grd (q.toNat=q.toNat) (grd (q.toNat=q.toNat) (grd (q.toNat=q.toNat) (some ((DHost.mk v3.Words (v3.Guests.set q.toNat (DGuest.mk (v3.Guests.getD q.toNat default).Live v4.1 (v3.Guests.getD q.toNat default).Pages v4.2.1 v4.2.2))),true)))))))))
def cEb:Sg tG:=⟨[.st 26,.i .i64,.st 141],.two (.st 2026) .b,gD⟩
theorem cFw:Sok 111 cEb:=sgx [(102,.r aIx),(110,.r bLo),(103,.r aMe),(160,.w cDc)] ⟨aLb,bVh,aSg,cGf,trivial⟩ (.s .o (.s .o (.s .o (.s .o (.s (.g [.uf (.c 9 1) 0 1,.uf (.c 9 15) 0 15,.uf (.c 9 16) 0 16] [] []) (.s (.g [.uf (.c 9 14) 0 14] [] [.fo (.c 8 1) 0]) .o)))))) kr kr kr
end
end Go.Proofs.YtcgggihjcelmhaaGreat
