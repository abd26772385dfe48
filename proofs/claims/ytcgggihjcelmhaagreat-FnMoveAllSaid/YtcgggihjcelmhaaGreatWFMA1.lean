/- Plain functions of the program, and that it hands back what they say. Made by program. -/
import Derived.Test.YtcgggihjcelmhaaGreatWTD
import Derived.Test.YtcgggihjcelmhaaGreatProg
import Derived.Test.YtcgggihjcelmhaaGreatWHE1
namespace Go.Proofs.YtcgggihjcelmhaaGreat
open Option renaming bind → x4
open Int renaming toNat → x7, tmod → y6, tdiv → n8
open List renaming getD → x8, length → x9, replicate → j0, set → qXU
open Nat renaming zero_le → m9
noncomputable section
open Go.RowKit
set_option maxRecDepth 100000
set_option linter.all false
set_option maxHeartbeats 0
def oL(a5:DCore)(b1:Int)(b5:Int)(b2:Int):Option DCore:=some (DCore.mk a5.Regs a5.Vector a5.Root a5.Vector b2 a5.User b1 b5 a5.Timer a5.Waits false false a5.Stopped)
def bAi:Sg tG:=⟨[.st 39,.i .i64,.i .i64,.i .i64],.one (.sb 39),oL⟩
theorem bKe:Sok 163 bAi:=sgx [] trivial .o kr kr kr
def fI(q:DBare)(a6:Int)(b6:Int):Option DBare:=
 x4 (lO q.C.Regs a6 b6) λv1=>
 x4 (eQ (DBare.mk (DCore.mk v1 q.C.Pc q.C.Root q.C.Vector q.C.Saved q.C.SavedUser q.C.Cause q.C.Bad q.C.Timer q.C.Waits q.C.User q.C.On q.C.Stopped) q.Mem q.In q.Out)) λv2=>
 some v2
def bMc:Sg tG:=⟨[.st 41,.i .i64,.i .i64],.one (.sb 41),fI⟩
theorem bSf:Sok 195 bMc:=sgx [(196,.r bJs),(197,.r aVv)] ⟨bWf,bBz,trivial⟩ (.s .o (.s .o (.s (.g [.fr (.c 3 0) 0] [] []) .o))) kr kr kr
def aSi(q:DBare)(z:DIns)(s1:Unit):Option DBare:=some (DBare.mk (DCore.mk q.C.Regs z.N q.C.Root q.C.Vector q.C.Saved q.C.SavedUser q.C.Cause q.C.Bad q.C.Timer q.C.Waits q.C.User q.C.On q.C.Stopped) q.Mem q.In q.Out)
def uN(q:DBare)(z:DIns):Option DBare:=
 x4 (cond (decide (z.Op=(6:Int)))
  (grd ((0:Int)<=z.A/\z.A<((q.C.Regs.length:Nat):Int)) (cond (decide ((q.C.Regs.getD z.A.toNat default)=(0:Int)))
   (x4 (eQ q) λv2=>
   some (.out v2))
   (some (.go ()))))
  (some (.go ()))) λj1=>
  JO.run j1 (aSi q z)
def cCx:Sg tG:=⟨[.st 41,.st 141],.one (.sb 41),uN⟩
theorem cIo:Sok 219 cCx:=sgx [(197,.r aVv)] ⟨bBz,trivial⟩ (.s .o (.j ⟨[2,3,4],[],[]⟩ .o .o)) kr kr kr
def sQ(a8:List Int)(z:DIns):Option Int:=
 grd ((0:Int)<=(y6 z.N (4:Int))/\(y6 z.N (4:Int))<((a8.length:Nat):Int)) (cond (decide (z.Op=(2:Int)))
  (grd ((0:Int)<=z.A/\z.A<((a8.length:Nat):Int)) (some (y6 (w64 ((a8.getD z.A.toNat default)+(a8.getD (x7 (y6 z.N (4:Int))) default))) (4096:Int))))
  (cond (decide (z.Op=(15:Int)))
   (grd ((0:Int)<=z.A/\z.A<((a8.length:Nat):Int)) (some (y6 (w64 ((w64 ((a8.getD z.A.toNat default)-(a8.getD (x7 (y6 z.N (4:Int))) default)))+(4096:Int))) (4096:Int))))
   (some z.N)))
def cDa:Sg tG:=⟨[.row 3,.st 141],.one (.i .i64),sQ⟩
theorem cGj:Sok 220 cDa:=sgx [] trivial .o kr kr kr
def aAz(q:DBare)(z:DIns)(s3:Bool):Option DBare:=
 cond s3
  (x4 (uN q z) λv4=>
  some v4)
  (x4 (sQ q.C.Regs z) λv5=>
  x4 (fI q z.A v5) λv6=>
  some v6)
def sV(q:DBare)(z:DIns):Option DBare:=
 cond (decide (z.Op=(7:Int)))
  (x4 (lZ q.C.Pc) λv1=>
  x4 (oL q.C (1:Int) (0:Int) v1) λv2=>
  some (DBare.mk v2 q.Mem q.In q.Out))
  (x4 (cond (decide (z.Op=(5:Int)))
   (some (.go (decide (z.Op=(5:Int)))))
   (some (.go (decide (z.Op=(6:Int)))))) λj3=>
   JO.run j3 (aAz q z))
def cEm:Sg tG:=⟨[.st 41,.st 141],.one (.sb 41),sV⟩
theorem cIe:Sok 199 cEm:=sgx [(217,.r bTv),(163,.r bAi),(219,.r cCx),(220,.r cDa),(195,.r bMc)] ⟨cDq,bKe,cIo,cGj,bSf,trivial⟩ (.s .o (.s (.s .o (.k (.s .o (.c .o (.j ⟨[2,3,4],[],[(.s 18,.b)]⟩ .o .o))))) .o)) kr kr kr
def lV(q:DBare)(z:DIns):Option DBare:=
 x4 (mC z) λv1=>
 cond (!v1)
  (x4 (sV q z) λv2=>
  some v2)
  (cond q.C.User
   (x4 (oL q.C (3:Int) (0:Int) q.C.Pc) λv3=>
   some (DBare.mk v3 q.Mem q.In q.Out))
   (x4 (pN q z) λv4=>
   some v4))
def bWe:Sg tG:=⟨[.st 41,.st 141],.one (.sb 41),lV⟩
theorem cBj:Sok 168 bWe:=sgx [(198,.r bUd),(199,.r cEm),(163,.r bAi),(200,.r bZk)] ⟨cDl,cIe,bKe,cHi,trivial⟩ .o kr kr kr
def aBc(a5:DCore)(s1:(List Int)×Int):Option DCore:=some (DCore.mk s1.1 s1.2 a5.Root a5.Vector a5.Saved a5.SavedUser a5.Cause a5.Bad a5.Timer a5.Waits a5.User a5.On a5.Stopped)
def lQ(a5:DCore)(z:DIns):Option DCore:=
 x4 (cond (decide (z.Op=(1:Int)))
  (grd ((0:Int)<=z.A/\z.A<((a5.Regs.length:Nat):Int)) (some (.go ((a5.Regs.set z.A.toNat z.N),y6 (w64 (a5.Pc+(1:Int))) (64:Int)))))
  (cond (decide (z.Op=(2:Int)))
   (grd ((0:Int)<=z.A/\z.A<((a5.Regs.length:Nat):Int)) (grd ((0:Int)<=(y6 z.N (4:Int))/\(y6 z.N (4:Int))<((a5.Regs.length:Nat):Int)) (grd ((0:Int)<=z.A/\z.A<((a5.Regs.length:Nat):Int)) (some (.go ((a5.Regs.set z.A.toNat (y6 (w64 ((a5.Regs.getD z.A.toNat default)+(a5.Regs.getD (x7 (y6 z.N (4:Int))) default))) (4096:Int))),y6 (w64 (a5.Pc+(1:Int))) (64:Int)))))))
   (cond (decide (z.Op=(15:Int)))
    (grd ((0:Int)<=z.A/\z.A<((a5.Regs.length:Nat):Int)) (grd ((0:Int)<=(y6 z.N (4:Int))/\(y6 z.N (4:Int))<((a5.Regs.length:Nat):Int)) (grd ((0:Int)<=z.A/\z.A<((a5.Regs.length:Nat):Int)) (some (.go ((a5.Regs.set z.A.toNat (y6 (w64 ((w64 ((a5.Regs.getD z.A.toNat default)+(4096:Int)))-(a5.Regs.getD (x7 (y6 z.N (4:Int))) default))) (4096:Int))),y6 (w64 (a5.Pc+(1:Int))) (64:Int)))))))
    (cond (decide (z.Op=(5:Int)))
     (some (.go (a5.Regs,z.N)))
     (cond (decide (z.Op=(6:Int)))
      (grd ((0:Int)<=z.A/\z.A<((a5.Regs.length:Nat):Int)) (cond (!decide ((a5.Regs.getD z.A.toNat default)=(0:Int)))
       (some (.go (a5.Regs,z.N)))
       (some (.go (a5.Regs,y6 (w64 (a5.Pc+(1:Int))) (64:Int))))))
      (cond (decide (z.Op=(7:Int)))
       (x4 (kG a5 (y6 (w64 (a5.Pc+(1:Int))) (64:Int)) (1:Int) (0:Int)) λv2=>
       some (.out v2))
       (some (.go (a5.Regs,y6 (w64 (a5.Pc+(1:Int))) (64:Int)))))))))) λj1=>
  JO.run j1 (aBc a5)
def cBd:Sw tG:=⟨[.os 39,.v (.st 141)],.one (.st 39),lQ⟩
theorem cGo:Sjk 112 cBd:=sgy [(108,.w bLu)] ⟨bTd,trivial⟩ (.s .o (.s .o (.j ⟨[2,4],[],[(.c 2 0,.ro 3),(.s 5,.i .i64)]⟩ .o .o))) kr kr kr
def nM(a5:DCore):Option DCore:=
 x4 (oL (DCore.mk a5.Regs a5.Pc a5.Root a5.Vector a5.Saved a5.SavedUser a5.Cause a5.Bad a5.Timer false a5.User a5.On a5.Stopped) (4:Int) (0:Int) a5.Pc) λv1=>
 some v1
def bTj:Sg tG:=⟨[.st 39],.one (.sb 39),nM⟩
theorem cCb:Sok 124 bTj:=sgx [(163,.r bAi)] ⟨bKe,trivial⟩ .o kr kr kr
def gG(q:DBare)(b3:Int):Option DBare:=
 x4 (oL q.C (2:Int) b3 q.C.Pc) λv1=>
 some (DBare.mk v1 q.Mem q.In q.Out)
def aRl:Sg tG:=⟨[.st 41,.i .i64],.one (.sb 41),gG⟩
theorem aXm:Sok 126 aRl:=sgx [(163,.r bAi)] ⟨bKe,trivial⟩ .o kr kr kr
def uQ(q:DBare)(z:DIns):Option DBare:=
 x4 (cU q.C z) λv1=>
 x4 (qK q.Mem q.C.Root v1 q.C.User false) λv2=>
 cond (decide (v2=(-1:Int)))
  (x4 (gG q v1) λv3=>
  some v3)
  (grd ((0:Int)<=v2/\v2<((q.Mem.length:Nat):Int)) (x4 (fI q z.A (q.Mem.getD v2.toNat default)) λv4=>
   some v4))
def cCl:Sg tG:=⟨[.st 41,.st 141],.one (.sb 41),uQ⟩
theorem cGq:Sok 166 cCl:=sgx [(194,.r aWk),(125,.r bLh),(126,.r aRl),(195,.r bMc)] ⟨bDv,bWc,aXm,bSf,trivial⟩ .o kr kr kr
def uE(q:DBare)(z:DIns):Option DBare:=
 x4 (cU q.C z) λv1=>
 x4 (qK q.Mem q.C.Root v1 q.C.User true) λv2=>
 cond (decide (v2=(-1:Int)))
  (x4 (gG q v1) λv3=>
  some v3)
  (grd ((0:Int)<=z.A/\z.A<((q.C.Regs.length:Nat):Int)) (x4 (lO q.Mem v2 (q.C.Regs.getD z.A.toNat default)) λv4=>
   x4 (eQ (DBare.mk q.C v4 q.In q.Out)) λv5=>
   some v5))
def cBt:Sg tG:=⟨[.st 41,.st 141],.one (.sb 41),uE⟩
theorem cGn:Sok 167 cBt:=sgx [(194,.r aWk),(125,.r bLh),(126,.r aRl),(196,.r bJs),(197,.r aVv)] ⟨bDv,bWc,aXm,bWf,bBz,trivial⟩ (.s .o (.s .o (.s .o (.s .o (.s .o (.s (.g [.fr (.c 2 13) 0] [] []) .o)))))) kr kr kr
def wO(q:DBare)(z:DIns):Option DBare:=
 cond (decide (z.Op=(3:Int)))
  (x4 (uQ q z) λv1=>
  some v1)
  (cond (decide (z.Op=(4:Int)))
   (x4 (uE q z) λv2=>
   some v2)
   (x4 (lV q z) λv3=>
   some v3))
def cBx:Sg tG:=⟨[.st 41,.st 141],.one (.sb 41),wO⟩
theorem cHk:Sok 127 cBx:=sgx [(166,.r cCl),(167,.r cBt),(168,.r bWe)] ⟨cGq,cGn,cBj,trivial⟩ .o kr kr kr
def lM(q:DBare):Option DBare:=
 cond q.C.Stopped
  (some q)
  (x4 (hG q.C) λv1=>
  x4 (eY v1) λv2=>
  cond v2
   (x4 (nM v1) λv3=>
   some (DBare.mk v3 q.Mem q.In q.Out))
   (x4 (qK q.Mem v1.Root v1.Pc v1.User false) λv4=>
   cond (decide (v4=(-1:Int)))
    (x4 (gG (DBare.mk v1 q.Mem q.In q.Out) v1.Pc) λv5=>
    some v5)
    (grd ((0:Int)<=v4/\v4<((q.Mem.length:Nat):Int)) (x4 (lT (q.Mem.getD v4.toNat default)) λv6=>
     x4 (wO (DBare.mk (DCore.mk v1.Regs v1.Pc v1.Root v1.Vector v1.Saved v1.SavedUser v1.Cause v1.Bad v1.Timer v1.Waits v1.User v1.On v1.Stopped) q.Mem q.In q.Out) v6) λv7=>
     some v7))))
def g60:Sg tG:=⟨[.st 41],.one (.sb 41),lM⟩
theorem s60:Sok 60 g60:=sgx [(122,.r bKs),(123,.r bLr),(124,.r bTj),(125,.r bLh),(126,.r aRl),(128,.r bLy),(127,.r cBx)] ⟨bUy,bTl,cCb,bWc,aXm,bVj,cHk,trivial⟩ .o kr kr kr
def fA(b4:DExit):Option Bool:=
 cond (decide (b4.Why=(2:Int)))
  (some true)
  (some (decide (b4.Why=(3:Int))))
def cAh:Sg tG:=⟨[.st 178],.one .b,fA⟩
theorem cHx:Sok 186 cAh:=sgx [] trivial .o kr kr kr
def jR(a4:DHost)(a:Int)(b4:DExit):Option (DHost×Bool):=
 cond (decide (b4.Why=(2:Int)))
  (x4 (jT a4 a b4.Page) λv1=>
  some (v1.1,v1.2))
  (x4 (jX a4 a b4.Page) λv2=>
  some (v2.1,v2.2))
def cCy:Sg tG:=⟨[.st 26,.i .i64,.st 178],.two (.st 2026) .b,jR⟩
theorem cFr:Sok 187 cCy:=sgx [(154,.r cAk),(155,.r cDf)] ⟨cDo,cDs,trivial⟩ .o kr kr kr
def aNx(s2:(List Int)×(List DGuest)):Option (DHost×Bool):=some ((DHost.mk s2.1 s2.2),true)
def cW(a:Int)(s3:(List Int)×(List DGuest)×Int×Int×Int×Int×Int×Int):Option (LO ((List Int)×(List DGuest)×Int×Int×Int×Int×Int×Int) (JO ((List Int)×(List DGuest)) (DHost×Bool))):=
 cond (decide (s3.2.2.2.2.2.2.2<(8:Int)))
  (x4 (fA (DExit.mk s3.2.2.1 s3.2.2.2.1 (DIns.mk s3.2.2.2.2.1 s3.2.2.2.2.2.1 s3.2.2.2.2.2.2.1))) λv4=>
  cond v4
   (x4 (jR (DHost.mk s3.1 s3.2.1) a (DExit.mk s3.2.2.1 s3.2.2.2.1 (DIns.mk s3.2.2.2.2.1 s3.2.2.2.2.2.1 s3.2.2.2.2.2.2.1))) λv5=>
   cond (!v5.2)
    (some (.ret (.out ((DHost.mk ([]:List Int) ([]:List DGuest)),false))))
    (x4 (qG v5.1 a) λv6=>
    some (.next (v5.1.Words,v5.1.Guests,v6.Why,v6.Page,v6.What.Op,v6.What.A,v6.What.N,w64 (s3.2.2.2.2.2.2.2+(1:Int))))))
   (some (.ret (.go (s3.1,s3.2.1)))))
  (some (.ret (.go (s3.1,s3.2.1))))
def rZ(a4:DHost)(a:Int):Option (DHost×Bool):=
 x4 (qG a4 a) λv1=>
 x4 (x4 (iter (cW a) (a4.Words,a4.Guests,v1.Why,v1.Page,v1.What.Op,v1.What.A,v1.What.N,(0:Int))) LO.val) λj2=>
  JO.run j2 aNx
def cAo:Sg tG:=⟨[.st 26,.i .i64],.two (.sb 26) .b,rZ⟩
theorem cGz:Sok 148 cAo:=sgx [(185,.r cBa),(186,.r cAh),(187,.r cCy)] ⟨cIa,cHx,cFr,trivial⟩ (.s .o (.s .o (.j ⟨[2,4],[],[(.c 2 0,.rb 3),(.c 2 1,.rb 94)]⟩ (.s .o (.k (.l ⟨[1,2,4,6],[],[(.c 2 0,.rb 3),(.c 2 1,.rb 94),(.c 6 0,.i .i64),(.c 6 1,.i .i64),(.c 6 2,.i .i64),(.c 6 3,.i .i64),(.c 6 4,.i .i64),(.s 7,.i .i64)]⟩ (.s .o (.s (.k (.s .o (.s .o (.s .o (.g [.fr (.c 2 0) 0,.fr (.c 2 1) 0] [] []))))) .o))))) .o))) kr kr kr
def sK(a4:DHost)(a:Int)(q:DBare)(z:DIns):Option DHost:=
 x4 (cU q.C z) λv1=>
 x4 (dR a4 a v1 false) λv2=>
 cond (!decide (v2.2=(0:Int)))
  (x4 (gG q v1) λv3=>
  x4 (bG a4 a v3) λv4=>
  some v4)
  (grd ((0:Int)<=v2.1/\v2.1<((a4.Words.length:Nat):Int)) (x4 (fI q z.A (a4.Words.getD v2.1.toNat default)) λv5=>
   x4 (bG a4 a v5) λv6=>
   some v6))
def cBv:Sg tG:=⟨[.st 26,.i .i64,.st 41,.st 141],.one (.st 2026),sK⟩
theorem cHm:Sok 214 cBv:=sgx [(194,.r aWk),(188,.r aWm),(126,.r aRl),(67,.r g67),(195,.r bMc)] ⟨bDv,bAg,aXm,s67,bSf,trivial⟩ .o kr kr kr
def qY(a4:DHost)(a:Int)(q:DBare)(z:DIns):Option DHost:=
 x4 (cU q.C z) λv1=>
 x4 (dR a4 a v1 true) λv2=>
 cond (!decide (v2.2=(0:Int)))
  (x4 (gG q v1) λv3=>
  x4 (bG a4 a v3) λv4=>
  some v4)
  (x4 (eQ q) λv5=>
  x4 (bG a4 a v5) λv6=>
  grd ((0:Int)<=z.A/\z.A<((q.C.Regs.length:Nat):Int)) (grd ((0:Int)<=v2.1/\v2.1<((v6.Words.length:Nat):Int)) (grd ((0:Int)<=a/\a<((v6.Guests.length:Nat):Int)) (x4 (gY a4 a v1) λv7=>
   grd ((0:Int)<=v7.Page/\v7.Page<((x9 (v6.Guests.getD a.toNat default).Pages:Nat):Int)) (some (DHost.mk (v6.Words.set v2.1.toNat (q.C.Regs.getD z.A.toNat default)) (v6.Guests.set a.toNat (DGuest.mk (v6.Guests.getD a.toNat default).Live (DCore.mk ((v6.Guests.getD a.toNat default).C).Regs ((v6.Guests.getD a.toNat default).C).Pc ((v6.Guests.getD a.toNat default).C).Root ((v6.Guests.getD a.toNat default).C).Vector ((v6.Guests.getD a.toNat default).C).Saved ((v6.Guests.getD a.toNat default).C).SavedUser ((v6.Guests.getD a.toNat default).C).Cause ((v6.Guests.getD a.toNat default).C).Bad ((v6.Guests.getD a.toNat default).C).Timer ((v6.Guests.getD a.toNat default).C).Waits ((v6.Guests.getD a.toNat default).C).User ((v6.Guests.getD a.toNat default).C).On ((v6.Guests.getD a.toNat default).C).Stopped) (qXU (v6.Guests.getD a.toNat default).Pages v7.Page.toNat (DSlot.mk (x8 (v6.Guests.getD a.toNat default).Pages v7.Page.toNat default).Frame (x8 (v6.Guests.getD a.toNat default).Pages v7.Page.toNat default).Write true)) (v6.Guests.getD a.toNat default).In (v6.Guests.getD a.toNat default).Out))))))))
def cAc:Sg tG:=⟨[.st 26,.i .i64,.st 41,.st 141],.one (.st 2026),qY⟩
theorem cGv:Sok 215 cAc:=sgx [(194,.r aWk),(188,.r aWm),(126,.r aRl),(67,.r g67),(197,.r aVv),(213,.r bKh)] ⟨bDv,bAg,aXm,s67,bBz,bRs,trivial⟩ .o kr kr kr
def qC(a4:DHost)(a:Int)(q:DBare)(z:DIns):Option DHost:=
 cond (decide (z.Op=(3:Int)))
  (x4 (sK a4 a q z) λv1=>
  some v1)
  (cond (decide (z.Op=(4:Int)))
   (x4 (qY a4 a q z) λv2=>
   some v2)
   (x4 (lV q z) λv3=>
   x4 (bG a4 a v3) λv4=>
   some v4))
def cBn:Sg tG:=⟨[.st 26,.i .i64,.st 41,.st 141],.one (.st 2026),qC⟩
theorem cIl:Sok 189 cBn:=sgx [(214,.r cBv),(215,.r cAc),(168,.r bWe),(67,.r g67)] ⟨cHm,cGv,cBj,s67,trivial⟩ .o kr kr kr
def aBq(a4:DHost)(a:Int):Option DHost:=
 x4 (fU a4 a) λv1=>
 cond v1.C.Stopped
  (x4 (bI a4) λv2=>
  some v2)
  (x4 (hG v1.C) λv3=>
  x4 (eY v3) λv4=>
  cond v4
   (x4 (nM v3) λv5=>
   x4 (bG a4 a (DBare.mk v5 v1.Mem v1.In v1.Out)) λv6=>
   some v6)
   (x4 (dR a4 a v3.Pc false) λv7=>
   cond (!decide (v7.2=(0:Int)))
    (x4 (gG (DBare.mk v3 v1.Mem v1.In v1.Out) v3.Pc) λv8=>
    x4 (bG a4 a v8) λv9=>
    some v9)
    (grd ((0:Int)<=v7.1/\v7.1<((a4.Words.length:Nat):Int)) (x4 (lT (a4.Words.getD v7.1.toNat default)) λv10=>
     x4 (qC a4 a (DBare.mk (DCore.mk v3.Regs v3.Pc v3.Root v3.Vector v3.Saved v3.SavedUser v3.Cause v3.Bad v3.Timer v3.Waits v3.User v3.On v3.Stopped) v1.Mem v1.In v1.Out) v10) λv11=>
     some v11))))
def cDt:Sg tG:=⟨[.st 26,.i .i64],.one (.st 2026),aBq⟩
theorem cHy:Sok 149 cDt:=sgx [(68,.r g68),(131,.r aQn),(122,.r bKs),(123,.r bLr),(124,.r bTj),(67,.r g67),(188,.r aWm),(126,.r aRl),(128,.r bLy),(189,.r cBn)] ⟨s68,aRv,bUy,bTl,cCb,s67,bAg,aXm,bVj,cIl,trivial⟩ .o kr kr kr
def qS(a4:DHost)(a:Int):Option (DHost×Bool):=
 x4 (cJ a4 a) λv1=>
 cond (!v1)
  (some ((DHost.mk ([]:List Int) ([]:List DGuest)),false))
  (x4 (rZ a4 a) λv2=>
  cond (!v2.2)
   (x4 (bI a4) λv3=>
   some (v3,false))
   (x4 (aBq v2.1 a) λv4=>
   some (v4,true)))
def g98:Sg tG:=⟨[.st 26,.i .i64],.two (.st 2026) .b,qS⟩
theorem s98:Sok 98 g98:=sgx [(56,.r g56),(148,.r cAo),(131,.r aQn),(149,.r cDt)] ⟨s56,cGz,aRv,cHy,trivial⟩ .o kr kr kr
def nZ(s1:(List Int)×(List DGuest)):Option (DHost×Bool):=some ((DHost.mk s1.1 s1.2),true)
def kR(s2:(List Int)×(List DGuest)×Int)(s4:(List Int)×(List DGuest)×Bool):Option (LO ((List Int)×(List DGuest)×Int) (JO ((List Int)×(List DGuest)) (DHost×Bool))):=
 cond (!s4.2.2)
  (some (.ret (.out ((DHost.mk s4.1 s4.2.1),false))))
  (some (.next (s4.1,s4.2.1,w64 (s2.2.2+(1:Int)))))
def eA(a:Int)(s2:(List Int)×(List DGuest)×Int):Option (LO ((List Int)×(List DGuest)×Int) (JO ((List Int)×(List DGuest)) (DHost×Bool))):=
 cond (decide (s2.2.2<(4:Int)))
  (x4 (lY (DHost.mk s2.1 s2.2.1) a) λv3=>
  x4 (cond (decide (v3.Why=(2:Int)))
   (x4 (gK (DHost.mk s2.1 s2.2.1) a v3.Page) λv5=>
   some (.go (v5.1.Words,v5.1.Guests,v5.2)))
   (cond (decide (v3.Why=(3:Int)))
    (x4 (gM (DHost.mk s2.1 s2.2.1) a v3.Page) λv6=>
    some (.go (v6.1.Words,v6.1.Guests,v6.2)))
    (some (.out (.ret (.out ((DHost.mk s2.1 s2.2.1),true))))))) λj4=>
   JO.run j4 (kR s2))
  (some (.ret (.go (s2.1,s2.2.1))))
def lK(a4:DHost)(a:Int):Option (DHost×Bool):=
 x4 (x4 (iter (eA a) (a4.Words,a4.Guests,(0:Int))) LO.val) λj1=>
  JO.run j1 nZ
def cEn:Sw tG:=⟨[.os 2026,.v (.i .i64)],.two (.st 2026) .b,lK⟩
theorem cHt:Sjk 104 cEn:=sgy [(156,.r cEh),(53,.r g53),(54,.r g54)] ⟨cGu,s53,s54,trivial⟩ (.s .o (.j ⟨[2,4],[],[(.c 2 0,.ro 3),(.c 2 1,.ro 1094)]⟩ (.s .o (.k (.l ⟨[1,2,4],[],[(.c 2 0,.ro 3),(.c 2 1,.ro 1094),(.s 6,.i .i64)]⟩ (.s .o (.s (.k (.s .o (.s .o (.j ⟨[1,2,4,6],[],[(.c 2 0,.ro 3),(.c 2 1,.ro 1094),(.s 8,.b)]⟩ .o .o)))) .o))))) .o)) kr kr kr
def qM(a:Int)(v3:DHost×Bool)(v5:DCore×Bool)(v6:List DShade)(v9:DIns)(s10:Unit):Option (DHost×Bool):=
 grd ((0:Int)<=(y6 v9.N (4:Int))/\(y6 v9.N (4:Int))<((v5.1.Regs.length:Nat):Int)) (let z0:=v3.1.Guests.set a.toNat (DGuest.mk (v3.1.Guests.getD a.toNat default).Live v5.1 (v3.1.Guests.getD a.toNat default).Pages (v3.1.Guests.getD a.toNat default).In (v3.1.Guests.getD a.toNat default).Out);x4 (cZ v6 (y6 (x8 ((z0.getD a.toNat default).C).Regs (x7 (y6 v9.N (4:Int))) default) (64:Int)) v5.1.User (decide (v9.Op=(4:Int)))) λv11=>
  cond (decide (v11.1<(0:Int)))
   (x4 (kG (DCore.mk ((z0.getD a.toNat default).C).Regs v5.1.Pc v5.1.Root v5.1.Vector v5.1.Saved v5.1.SavedUser v5.1.Cause v5.1.Bad v5.1.Timer v5.1.Waits v5.1.User v5.1.On v5.1.Stopped) v5.1.Pc (2:Int) (y6 (x8 ((z0.getD a.toNat default).C).Regs (x7 (y6 v9.N (4:Int))) default) (64:Int))) λv12=>
   grd ((0:Int)<=a/\a<((v3.1.Guests.length:Nat):Int)) (grd (a.toNat=a.toNat) (some ((DHost.mk v3.1.Words (z0.set a.toNat (DGuest.mk (z0.getD a.toNat default).Live v12 (z0.getD a.toNat default).Pages (z0.getD a.toNat default).In (z0.getD a.toNat default).Out))),true))))
   (cond (decide (v9.Op=(3:Int)))
    (grd ((0:Int)<=v11.1/\v11.1<((v3.1.Words.length:Nat):Int)) (grd ((0:Int)<=v9.A/\v9.A<((v5.1.Regs.length:Nat):Int)) (grd ((0:Int)<=a/\a<((v3.1.Guests.length:Nat):Int)) (grd (a.toNat=a.toNat) (some ((DHost.mk v3.1.Words (let z1:=qXU ((z0.getD a.toNat default).C).Regs v9.A.toNat (v3.1.Words.getD v11.1.toNat default);let z2:=z0.set a.toNat (DGuest.mk (z0.getD a.toNat default).Live (DCore.mk z1 ((z0.getD a.toNat default).C).Pc ((z0.getD a.toNat default).C).Root ((z0.getD a.toNat default).C).Vector ((z0.getD a.toNat default).C).Saved ((z0.getD a.toNat default).C).SavedUser ((z0.getD a.toNat default).C).Cause ((z0.getD a.toNat default).C).Bad ((z0.getD a.toNat default).C).Timer ((z0.getD a.toNat default).C).Waits ((z0.getD a.toNat default).C).User ((z0.getD a.toNat default).C).On ((z0.getD a.toNat default).C).Stopped) (z0.getD a.toNat default).Pages (z0.getD a.toNat default).In (z0.getD a.toNat default).Out);z2.set a.toNat (DGuest.mk (z2.getD a.toNat default).Live (DCore.mk ((z2.getD a.toNat default).C).Regs (y6 (w64 (v5.1.Pc+(1:Int))) (64:Int)) v5.1.Root v5.1.Vector v5.1.Saved v5.1.SavedUser v5.1.Cause v5.1.Bad v5.1.Timer v5.1.Waits v5.1.User v5.1.On v5.1.Stopped) (z2.getD a.toNat default).Pages (z2.getD a.toNat default).In (z2.getD a.toNat default).Out))),true))))))
    (grd ((0:Int)<=v9.A/\v9.A<((v5.1.Regs.length:Nat):Int)) (grd ((0:Int)<=v11.1/\v11.1<((v3.1.Words.length:Nat):Int)) (grd ((0:Int)<=a/\a<((v3.1.Guests.length:Nat):Int)) (grd ((0:Int)<=(w64 (n8 (y6 (x8 ((z0.getD a.toNat default).C).Regs (x7 (y6 v9.N (4:Int))) default) (64:Int)) (8:Int)))/\(w64 (n8 (y6 (x8 ((z0.getD a.toNat default).C).Regs (x7 (y6 v9.N (4:Int))) default) (64:Int)) (8:Int)))<((v6.length:Nat):Int)) (grd ((0:Int)<=(v6.getD (x7 (w64 (n8 (y6 (x8 ((z0.getD a.toNat default).C).Regs (x7 (y6 v9.N (4:Int))) default) (64:Int)) (8:Int)))) default).Page/\(v6.getD (x7 (w64 (n8 (y6 (x8 ((z0.getD a.toNat default).C).Regs (x7 (y6 v9.N (4:Int))) default) (64:Int)) (8:Int)))) default).Page<((x9 (z0.getD a.toNat default).Pages:Nat):Int)) (grd ((0:Int)<=a/\a<((v3.1.Guests.length:Nat):Int)) (grd (a.toNat=a.toNat) (some ((DHost.mk (v3.1.Words.set v11.1.toNat (x8 ((z0.getD a.toNat default).C).Regs v9.A.toNat default)) (let z3:=qXU (z0.getD a.toNat default).Pages (x7 (v6.getD (x7 (w64 (n8 (y6 (x8 ((z0.getD a.toNat default).C).Regs (x7 (y6 v9.N (4:Int))) default) (64:Int)) (8:Int)))) default).Page) (DSlot.mk (x8 (z0.getD a.toNat default).Pages (x7 (v6.getD (x7 (w64 (n8 (y6 (x8 ((z0.getD a.toNat default).C).Regs (x7 (y6 v9.N (4:Int))) default) (64:Int)) (8:Int)))) default).Page) default).Frame (x8 (z0.getD a.toNat default).Pages (x7 (v6.getD (x7 (w64 (n8 (y6 (x8 ((z0.getD a.toNat default).C).Regs (x7 (y6 v9.N (4:Int))) default) (64:Int)) (8:Int)))) default).Page) default).Write true);let z4:=z0.set a.toNat (DGuest.mk (z0.getD a.toNat default).Live (DCore.mk ((z0.getD a.toNat default).C).Regs ((z0.getD a.toNat default).C).Pc ((z0.getD a.toNat default).C).Root ((z0.getD a.toNat default).C).Vector ((z0.getD a.toNat default).C).Saved ((z0.getD a.toNat default).C).SavedUser ((z0.getD a.toNat default).C).Cause ((z0.getD a.toNat default).C).Bad ((z0.getD a.toNat default).C).Timer ((z0.getD a.toNat default).C).Waits ((z0.getD a.toNat default).C).User ((z0.getD a.toNat default).C).On ((z0.getD a.toNat default).C).Stopped) z3 (z0.getD a.toNat default).In (z0.getD a.toNat default).Out);z4.set a.toNat (DGuest.mk (z4.getD a.toNat default).Live (DCore.mk ((z4.getD a.toNat default).C).Regs (y6 (w64 (v5.1.Pc+(1:Int))) (64:Int)) v5.1.Root v5.1.Vector v5.1.Saved v5.1.SavedUser v5.1.Cause v5.1.Bad v5.1.Timer v5.1.Waits v5.1.User v5.1.On v5.1.Stopped) (z4.getD a.toNat default).Pages (z4.getD a.toNat default).In (z4.getD a.toNat default).Out))),true)))))))))))
def qW(a4:DHost)(a:Int):Option (DHost×Bool):=
 x4 (dG a4 a) λv1=>
 cond (!v1)
  (some ((DHost.mk ([]:List Int) ([]:List DGuest)),false))
  (x4 (dA a4) λv2=>
  x4 (lK v2 a) λv3=>
  cond (!v3.2)
   (x4 (dA a4) λv4=>
   some (v4,false))
   (grd ((0:Int)<=a/\a<((v3.1.Guests.length:Nat):Int)) (cond ((v3.1.Guests.getD a.toNat default).C).Stopped
    (some (v3.1,true))
    (x4 (jU (DCore.mk ((v3.1.Guests.getD a.toNat default).C).Regs ((v3.1.Guests.getD a.toNat default).C).Pc ((v3.1.Guests.getD a.toNat default).C).Root ((v3.1.Guests.getD a.toNat default).C).Vector ((v3.1.Guests.getD a.toNat default).C).Saved ((v3.1.Guests.getD a.toNat default).C).SavedUser ((v3.1.Guests.getD a.toNat default).C).Cause ((v3.1.Guests.getD a.toNat default).C).Bad ((v3.1.Guests.getD a.toNat default).C).Timer ((v3.1.Guests.getD a.toNat default).C).Waits ((v3.1.Guests.getD a.toNat default).C).User ((v3.1.Guests.getD a.toNat default).C).On ((v3.1.Guests.getD a.toNat default).C).Stopped)) λv5=>
    grd ((0:Int)<=a/\a<((v3.1.Guests.length:Nat):Int)) (grd (a.toNat=a.toNat) (let z0:=v3.1.Guests.set a.toNat (DGuest.mk (v3.1.Guests.getD a.toNat default).Live v5.1 (v3.1.Guests.getD a.toNat default).Pages (v3.1.Guests.getD a.toNat default).In (v3.1.Guests.getD a.toNat default).Out);cond v5.2
     (some ((DHost.mk v3.1.Words z0),true))
     (x4 (jY (DHost.mk v3.1.Words z0) a) λv6=>
     x4 (cZ v6 v5.1.Pc v5.1.User false) λv7=>
     cond (decide (v7.1<(0:Int)))
      (x4 (kG (DCore.mk ((z0.getD a.toNat default).C).Regs v5.1.Pc v5.1.Root v5.1.Vector v5.1.Saved v5.1.SavedUser v5.1.Cause v5.1.Bad v5.1.Timer v5.1.Waits v5.1.User v5.1.On v5.1.Stopped) v5.1.Pc (2:Int) v5.1.Pc) λv8=>
      grd ((0:Int)<=a/\a<((v3.1.Guests.length:Nat):Int)) (grd (a.toNat=a.toNat) (some ((DHost.mk v3.1.Words (z0.set a.toNat (DGuest.mk (z0.getD a.toNat default).Live v8 (z0.getD a.toNat default).Pages (z0.getD a.toNat default).In (z0.getD a.toNat default).Out))),true))))
      (grd ((0:Int)<=v7.1/\v7.1<((v3.1.Words.length:Nat):Int)) (x4 (oD (v3.1.Words.getD v7.1.toNat default)) λv9=>
       x4 (x4 (cS v9) λv13=>
        cond v13
         (cond v5.1.User
          (x4 (kG (DCore.mk ((z0.getD a.toNat default).C).Regs v5.1.Pc v5.1.Root v5.1.Vector v5.1.Saved v5.1.SavedUser v5.1.Cause v5.1.Bad v5.1.Timer v5.1.Waits v5.1.User v5.1.On v5.1.Stopped) v5.1.Pc (3:Int) (0:Int)) λv14=>
          grd ((0:Int)<=a/\a<((v3.1.Guests.length:Nat):Int)) (grd (a.toNat=a.toNat) (some (.out ((DHost.mk v3.1.Words (z0.set a.toNat (DGuest.mk (z0.getD a.toNat default).Live v14 (z0.getD a.toNat default).Pages (z0.getD a.toNat default).In (z0.getD a.toNat default).Out))),true)))))
          (x4 (cS v9) λv15=>
          cond v15
           (x4 (gD (DHost.mk v3.1.Words z0) a v9) λv16=>
           some (.out (v16.1,v16.2)))
           (cond (!decide (v9.Op=(3:Int)))
            (cond (!decide (v9.Op=(4:Int)))
             (x4 (lQ (DCore.mk ((z0.getD a.toNat default).C).Regs v5.1.Pc v5.1.Root v5.1.Vector v5.1.Saved v5.1.SavedUser v5.1.Cause v5.1.Bad v5.1.Timer v5.1.Waits v5.1.User v5.1.On v5.1.Stopped) v9) λv17=>
             grd ((0:Int)<=a/\a<((v3.1.Guests.length:Nat):Int)) (grd (a.toNat=a.toNat) (some (.out ((DHost.mk v3.1.Words (z0.set a.toNat (DGuest.mk (z0.getD a.toNat default).Live v17 (z0.getD a.toNat default).Pages (z0.getD a.toNat default).In (z0.getD a.toNat default).Out))),true)))))
             (some (.go ())))
            (some (.go ())))))
         (x4 (cS v9) λv18=>
         cond v18
          (x4 (gD (DHost.mk v3.1.Words z0) a v9) λv19=>
          some (.out (v19.1,v19.2)))
          (cond (!decide (v9.Op=(3:Int)))
           (cond (!decide (v9.Op=(4:Int)))
            (x4 (lQ (DCore.mk ((z0.getD a.toNat default).C).Regs v5.1.Pc v5.1.Root v5.1.Vector v5.1.Saved v5.1.SavedUser v5.1.Cause v5.1.Bad v5.1.Timer v5.1.Waits v5.1.User v5.1.On v5.1.Stopped) v9) λv20=>
            grd ((0:Int)<=a/\a<((v3.1.Guests.length:Nat):Int)) (grd (a.toNat=a.toNat) (some (.out ((DHost.mk v3.1.Words (z0.set a.toNat (DGuest.mk (z0.getD a.toNat default).Live v20 (z0.getD a.toNat default).Pages (z0.getD a.toNat default).In (z0.getD a.toNat default).Out))),true)))))
            (some (.go ())))
           (some (.go ()))))) λj10=>
        JO.run j10 (qM a v3 v5 v6 v9))))))))))
def g50:Sg tG:=⟨[.st 26,.i .i64],.two (.st 2026) .b,qW⟩
theorem s50:Sok 50 g50:=sgx [(102,.r aIx),(103,.r aMe),(104,.w cEn),(105,.w bVp),(106,.r bSx),(107,.r bUe),(108,.w bLu),(109,.r bVg),(110,.r bLo),(111,.r cEb),(112,.w cBd)] ⟨aLb,aSg,cHt,cCv,cCn,cEe,bTd,cCq,bVh,cFw,cGo,trivial⟩ (.s .o (.s .o (.s .o (.s .o (.s .o (.s .o (.s (.g [.uf (.c 8 1) 0 1] [] []) (.s (.g [] [] [.fo (.c 6 1) 0]) (.s .o (.s .o (.s .o (.s (.s .o (.c (.s (.g [.uf (.c 9 0) 0 1] [13] [.fo (.c 6 1) 0]) .o) .o)) (.s .o (.j ⟨[1,4,6,9,11,14],[],[]⟩ (.k (.s .o (.c (.s (.g [.uf (.c 9 0) 0 1] [14] [.fo (.c 6 1) 0]) .o) (.s .o (.c .o (.s .o (.c (.s (.g [.uf (.c 9 0) 0 1] [14] [.fo (.c 6 1) 0]) .o) .o))))))) (.s .o (.s .o (.s (.s .o (.c (.s (.g [.uf (.c 9 0) 0 1] [14] [.fo (.c 6 1) 0]) .o) .o)) (.s .o (.s .o (.s (.g [.uf (.c 9 0) 0 1] [] [.fo (.c 6 1) 0]) .o)))))))))))))))))))) kr kr kr
def aUn(q:DBare):Option DBare:=
 x4 (pU q) λv1=>
 cond (!v1)
  (some (DBare.mk (DCore.mk ([]:List Int) (0:Int) (0:Int) (0:Int) (0:Int) false (0:Int) (0:Int) (0:Int) false false false false) ([]:List Int) ([]:List Int) ([]:List Int)))
  (x4 (lM q) λv2=>
  x4 (cX v2) λv3=>
  some v3)
def g14:Sg tG:=⟨[.st 41],.one (.st 41),aUn⟩
theorem s14:Sok 14 g14:=sgx [(59,.r g59),(60,.r g60),(57,.r g57)] ⟨s59,s60,s57,trivial⟩ .o kr kr kr
def aNy(s2:(List Int)×Int×Int×Int×Int×Bool×Int×Int×Int×Bool×Bool×Bool×Bool×(List Int)×(List Int)×(List Int)):Option DBare:=
 x4 (cX (DBare.mk (DCore.mk s2.1 s2.2.1 s2.2.2.1 s2.2.2.2.1 s2.2.2.2.2.1 s2.2.2.2.2.2.1 s2.2.2.2.2.2.2.1 s2.2.2.2.2.2.2.2.1 s2.2.2.2.2.2.2.2.2.1 s2.2.2.2.2.2.2.2.2.2.1 s2.2.2.2.2.2.2.2.2.2.2.1 s2.2.2.2.2.2.2.2.2.2.2.2.1 s2.2.2.2.2.2.2.2.2.2.2.2.2.1) s2.2.2.2.2.2.2.2.2.2.2.2.2.2.1 s2.2.2.2.2.2.2.2.2.2.2.2.2.2.2.1 s2.2.2.2.2.2.2.2.2.2.2.2.2.2.2.2)) λv3=>
 some v3
def aAx(a9:Int)(s4:(List Int)×Int×Int×Int×Int×Bool×Int×Int×Int×Bool×Bool×Bool×Bool×(List Int)×(List Int)×(List Int)×Int):Option (LO ((List Int)×Int×Int×Int×Int×Bool×Int×Int×Int×Bool×Bool×Bool×Bool×(List Int)×(List Int)×(List Int)×Int) (JO ((List Int)×Int×Int×Int×Int×Bool×Int×Int×Int×Bool×Bool×Bool×Bool×(List Int)×(List Int)×(List Int)) DBare)):=
 cond (decide (s4.2.2.2.2.2.2.2.2.2.2.2.2.2.2.2.2<a9))
  (x4 (lM (DBare.mk (DCore.mk s4.1 s4.2.1 s4.2.2.1 s4.2.2.2.1 s4.2.2.2.2.1 s4.2.2.2.2.2.1 s4.2.2.2.2.2.2.1 s4.2.2.2.2.2.2.2.1 s4.2.2.2.2.2.2.2.2.1 s4.2.2.2.2.2.2.2.2.2.1 s4.2.2.2.2.2.2.2.2.2.2.1 s4.2.2.2.2.2.2.2.2.2.2.2.1 s4.2.2.2.2.2.2.2.2.2.2.2.2.1) s4.2.2.2.2.2.2.2.2.2.2.2.2.2.1 s4.2.2.2.2.2.2.2.2.2.2.2.2.2.2.1 s4.2.2.2.2.2.2.2.2.2.2.2.2.2.2.2.1)) λv5=>
  some (.next (v5.C.Regs,v5.C.Pc,v5.C.Root,v5.C.Vector,v5.C.Saved,v5.C.SavedUser,v5.C.Cause,v5.C.Bad,v5.C.Timer,v5.C.Waits,v5.C.User,v5.C.On,v5.C.Stopped,v5.Mem,v5.In,v5.Out,w64 (s4.2.2.2.2.2.2.2.2.2.2.2.2.2.2.2.2+(1:Int)))))
  (some (.ret (.go (s4.1,s4.2.1,s4.2.2.1,s4.2.2.2.1,s4.2.2.2.2.1,s4.2.2.2.2.2.1,s4.2.2.2.2.2.2.1,s4.2.2.2.2.2.2.2.1,s4.2.2.2.2.2.2.2.2.1,s4.2.2.2.2.2.2.2.2.2.1,s4.2.2.2.2.2.2.2.2.2.2.1,s4.2.2.2.2.2.2.2.2.2.2.2.1,s4.2.2.2.2.2.2.2.2.2.2.2.2.1,s4.2.2.2.2.2.2.2.2.2.2.2.2.2.1,s4.2.2.2.2.2.2.2.2.2.2.2.2.2.2.1,s4.2.2.2.2.2.2.2.2.2.2.2.2.2.2.2.1))))
def sF(q:DBare)(a9:Int):Option DBare:=
 x4 (pU q) λv1=>
 cond (!v1)
  (some (DBare.mk (DCore.mk ([]:List Int) (0:Int) (0:Int) (0:Int) (0:Int) false (0:Int) (0:Int) (0:Int) false false false false) ([]:List Int) ([]:List Int) ([]:List Int)))
  (cond (decide (a9<(0:Int)))
   (some (DBare.mk (DCore.mk ([]:List Int) (0:Int) (0:Int) (0:Int) (0:Int) false (0:Int) (0:Int) (0:Int) false false false false) ([]:List Int) ([]:List Int) ([]:List Int)))
   (cond (decide ((300:Int)<a9))
    (some (DBare.mk (DCore.mk ([]:List Int) (0:Int) (0:Int) (0:Int) (0:Int) false (0:Int) (0:Int) (0:Int) false false false false) ([]:List Int) ([]:List Int) ([]:List Int)))
    (x4 (x4 (iter (aAx a9) (q.C.Regs,q.C.Pc,q.C.Root,q.C.Vector,q.C.Saved,q.C.SavedUser,q.C.Cause,q.C.Bad,q.C.Timer,q.C.Waits,q.C.User,q.C.On,q.C.Stopped,q.Mem,q.In,q.Out,(0:Int))) LO.val) λj2=>
     JO.run j2 aNy)))
def g26:Sg tG:=⟨[.st 41,.i .i64],.one (.st 41),sF⟩
theorem s26:Sok 26 g26:=sgx [(59,.r g59),(60,.r g60),(57,.r g57)] ⟨s59,s60,s57,trivial⟩ (.s .o (.s .o (.j ⟨[2,4],[],[(.c 2 0,.rb 3),(.c 2 1,.i .i64),(.c 2 2,.i .i64),(.c 2 3,.i .i64),(.c 2 4,.i .i64),(.c 2 5,.b),(.c 2 6,.i .i64),(.c 2 7,.i .i64),(.c 2 8,.i .i64),(.c 2 9,.b),(.c 2 10,.b),(.c 2 11,.b),(.c 2 12,.b),(.c 2 13,.rb 3),(.c 2 14,.rb 3),(.c 2 15,.rb 3)]⟩ (.s .o (.k (.l ⟨[1,2,4],[],[(.c 2 0,.rb 3),(.c 2 1,.i .i64),(.c 2 2,.i .i64),(.c 2 3,.i .i64),(.c 2 4,.i .i64),(.c 2 5,.b),(.c 2 6,.i .i64),(.c 2 7,.i .i64),(.c 2 8,.i .i64),(.c 2 9,.b),(.c 2 10,.b),(.c 2 11,.b),(.c 2 12,.b),(.c 2 13,.rb 3),(.c 2 14,.rb 3),(.c 2 15,.rb 3),(.s 5,.i .i64)]⟩ .o))) .o))) kr kr kr
def aJn(s1:Unit):Option Bool:=some true
def mI(a6:List Int)(q:List Int)(s2:Int):Option (LO Int (JO Unit Bool)):=
 cond (decide (s2<((a6.length:Nat):Int)))
  (grd ((0:Int)<=s2/\s2<((a6.length:Nat):Int)) (grd ((0:Int)<=s2/\s2<((q.length:Nat):Int)) (cond (!decide ((a6.getD s2.toNat default)=(q.getD s2.toNat default)))
   (some (.ret (.out false)))
   (some (.next (w64 (s2+(1:Int))))))))
  (some (.ret (.go ())))
def pH(a6:List Int)(q:List Int):Option Bool:=
 x4 (x4 (iter (mI a6 q) (0:Int)) LO.val) λj1=>
  JO.run j1 aJn
def cBw:Sg tG:=⟨[.row 3,.row 3],.one .b,pH⟩
theorem cIq:Sok 129 cBw:=sgx [] trivial (.s .o (.j ⟨[],[],[]⟩ (.s .o (.k (.l ⟨[1,7,8],[],[(.s 9,.i .i64)]⟩ .o))) .o)) kr kr kr
def aOc(s1:List Int):Option (List Int):=some s1
def kQ(a4:DHost)(a:Int)(f:Int)(s2:(List Int)×Int):Option (LO ((List Int)×Int) (JO (List Int) (List Int))):=
 cond (decide (s2.2<(8:Int)))
  (x4 (pY a4 a (w64 ((w64 (f*(8:Int)))+s2.2))) λv3=>
  grd ((s2.1.length+x9 ([v3]:List Int))*8<=2^47/\s2.1.length+x9 ([v3]:List Int)<=2^47) (some (.next ((s2.1++([v3]:List Int)),w64 (s2.2+(1:Int))))))
  (some (.ret (.go s2.1)))
def lP(a4:DHost)(a:Int)(f:Int):Option (List Int):=
 x4 (x4 (iter (kQ a4 a f) (([]:List Int),(0:Int))) LO.val) λj1=>
  JO.run j1 aOc
def g52:Sg tG:=⟨[.st 26,.i .i64,.i .i64],.one (.row 3),lP⟩
theorem s52:Sok 52 g52:=sgx [(113,.r bSp)] ⟨cAb,trivial⟩ (.s .o (.s .o (.j ⟨[],[],[(.s 7,.ro 3)]⟩ (.s .o (.k (.l ⟨[1,2,3],[],[(.s 7,.ro 3),(.s 8,.i .i64)]⟩ .o))) .o))) kr kr kr
def uK(d:DMove)(f:Int):Option Bool:=
 grd ((0:Int)<=d.G/\d.G<((d.From.Guests.length:Nat):Int)) (grd ((0:Int)<=f/\f<((x9 (d.From.Guests.getD d.G.toNat default).Pages:Nat):Int)) (grd ((0:Int)<=d.N/\d.N<((d.To.Guests.length:Nat):Int)) (grd ((0:Int)<=f/\f<((x9 (d.To.Guests.getD d.N.toNat default).Pages:Nat):Int)) (x4 (bV d.From.Words (DSlot.mk (x8 (d.From.Guests.getD d.G.toNat default).Pages f.toNat default).Frame (x8 (d.From.Guests.getD d.G.toNat default).Pages f.toNat default).Write (x8 (d.From.Guests.getD d.G.toNat default).Pages f.toNat default).Dirty)) λv1=>
  x4 (bV d.To.Words (DSlot.mk (x8 (d.To.Guests.getD d.N.toNat default).Pages f.toNat default).Frame (x8 (d.To.Guests.getD d.N.toNat default).Pages f.toNat default).Write (x8 (d.To.Guests.getD d.N.toNat default).Pages f.toNat default).Dirty)) λv2=>
  x4 (pH v1 v2) λv3=>
  some v3))))
def g61:Sg tG:=⟨[.st 29,.i .i64],.one .b,uK⟩
theorem s61:Sok 61 g61:=sgx [(100,.r bKb),(129,.r cBw)] ⟨bMx,cIq,trivial⟩ .o kr kr kr
def aSe(s3:Unit):Option Bool:=some true
def uT(s4:Int)(s5:Unit):Option (LO Int (JO Unit Bool)):=some (.next (w64 (s4+(1:Int))))
def pS(d:DMove)(s4:Int):Option (LO Int (JO Unit Bool)):=
 cond (decide (s4<((x9 (d.From.Guests.getD d.G.toNat default).Pages:Nat):Int)))
  (x4 (grd ((0:Int)<=s4/\s4<((x9 (d.From.Guests.getD d.G.toNat default).Pages:Nat):Int)) (cond (x8 (d.From.Guests.getD d.G.toNat default).Pages s4.toNat default).Dirty
   (some (.out (.ret (.out false))))
   (grd ((0:Int)<=s4/\s4<((d.Left.length:Nat):Int)) (cond (!(d.Left.getD s4.toNat default))
    (x4 (uK d s4) λv6=>
    cond (!v6)
     (some (.out (.ret (.out false))))
     (some (.go ())))
    (some (.go ())))))) λj5=>
   JO.run j5 (uT s4))
  (some (.ret (.go ())))
def qD(d:DMove):Option Bool:=
 x4 (cJ d.From d.G) λv1=>
 cond (!v1)
  (some false)
  (x4 (cJ d.To d.N) λv2=>
  cond (!v2)
   (some false)
   (cond (!decide (((d.Left.length:Nat):Int)=(8:Int)))
    (some false)
    (x4 (grd ((0:Int)<=d.G/\d.G<((d.From.Guests.length:Nat):Int)) (x4 (iter (pS d) (0:Int)) LO.val)) λj3=>
     JO.run j3 aSe)))
def g15:Sg tG:=⟨[.st 29],.one .b,qD⟩
theorem s15:Sok 15 g15:=sgx [(56,.r g56),(61,.r g61)] ⟨s56,s61,trivial⟩ (.s .o (.s .o (.j ⟨[],[],[]⟩ (.s .o (.k (.l ⟨[1,32,33],[],[(.s 34,.i .i64)]⟩ (.s .o (.s .o (.j ⟨[1,32,33,34],[],[]⟩ .o .o)))))) .o))) kr kr kr
def aQh(s3:Unit):Option Bool:=some true
def aCj(s4:Int)(s5:Unit):Option (LO Int (JO Unit Bool)):=some (.next (w64 (s4+(1:Int))))
def iK(d:DMove)(s4:Int)(v6:List Int)(v7:List Int)(s8:Int):Option (LO Int (JO Unit (LO Int (JO Unit Bool)))):=
 cond (decide (s8<(8:Int)))
  (grd ((0:Int)<=s4/\s4<((d.Left.length:Nat):Int)) (cond (!(d.Left.getD s4.toNat default))
   (grd ((0:Int)<=s8/\s8<((v6.length:Nat):Int)) (grd ((0:Int)<=s8/\s8<((v7.length:Nat):Int)) (cond (!decide ((v6.getD s8.toNat default)=(v7.getD s8.toNat default)))
    (some (.ret (.out (.ret (.out false)))))
    (some (.next (w64 (s8+(1:Int))))))))
   (some (.ret (.go ())))))
  (some (.ret (.go ())))
def pL(d:DMove)(s4:Int):Option (LO Int (JO Unit Bool)):=
 cond (decide (s4<(8:Int)))
  (x4 (grd ((0:Int)<=d.G/\d.G<((d.From.Guests.length:Nat):Int)) (grd ((0:Int)<=s4/\s4<((x9 (d.From.Guests.getD d.G.toNat default).Pages:Nat):Int)) (cond (x8 (d.From.Guests.getD d.G.toNat default).Pages s4.toNat default).Dirty
   (some (.out (.ret (.out false))))
   (x4 (lP d.From d.G s4) λv6=>
   x4 (lP d.To d.N s4) λv7=>
   x4 (iter (iK d s4 v6 v7) (0:Int)) LO.val)))) λj5=>
   JO.run j5 (aCj s4))
  (some (.ret (.go ())))
def qE(d:DMove):Option Bool:=
 x4 (dG d.From d.G) λv1=>
 cond (!v1)
  (some false)
  (x4 (dG d.To d.N) λv2=>
  cond (!v2)
   (some false)
   (cond (!decide (((d.Left.length:Nat):Int)=(8:Int)))
    (some false)
    (x4 (x4 (iter (pL d) (0:Int)) LO.val) λj3=>
     JO.run j3 aQh)))
def g48:Sg tG:=⟨[.st 29],.one .b,qE⟩
theorem s48:Sok 48 g48:=sgx [(102,.r aIx),(52,.r g52)] ⟨aLb,s52,trivial⟩ (.s .o (.s .o (.j ⟨[],[],[]⟩ (.s .o (.k (.l ⟨[1],[],[(.s 3,.i .i64)]⟩ (.s .o (.j ⟨[1,3],[],[]⟩ (.k (.s .o (.s .o (.s .o (.k (.l ⟨[1,3,4,5],[],[(.s 6,.i .i64)]⟩ .o)))))) .o))))) .o))) kr kr kr
def kZ(d:DMove):Option DMove:=
 grd ((0:Int)<=((d.Left.length:Nat):Int)/\((d.Left.length:Nat):Int)*1<=2^47/\((d.Left.length:Nat):Int)<=2^47) (x4 (bI d.From) λv1=>
  x4 (bI d.To) λv2=>
  some (DMove.mk v1 v2 d.G d.N (over (j0 (x7 ((d.Left.length:Nat):Int)) false) 0 (x9 (j0 (x7 ((d.Left.length:Nat):Int)) false)) d.Left)))
def g97:Sg tG:=⟨[.st 29],.one (.st 2029),kZ⟩
theorem s97:Sok 97 g97:=sgx [(131,.r aQn)] ⟨aRv,trivial⟩ .o kr kr kr
def iH(d:DMove):Option DMove:=
 x4 (dA d.From) λv1=>
 x4 (dA d.To) λv2=>
 grd (d.Left.length*1<=2^47/\d.Left.length<=2^47) (some (DMove.mk v1 v2 d.G d.N d.Left))
def g49:Sg tG:=⟨[.st 29],.one (.st 2029),iH⟩
theorem s49:Sok 49 g49:=sgx [(103,.r aMe)] ⟨aSg,trivial⟩ .o kr kr kr
def xW(s1:List DSlot):Option (List DSlot):=some s1
def dK(s2:(List DSlot)×Int):Option (LO ((List DSlot)×Int) (JO (List DSlot) (List DSlot))):=
 cond (decide (s2.2<((x9 (j0 (x7 (8:Int)) (DSlot.mk (0:Int) false false)):Nat):Int)))
  (grd ((0:Int)<=s2.2/\s2.2<((s2.1.length:Nat):Int)) (some (.next ((s2.1.set s2.2.toNat (DSlot.mk (-1:Int) false false)),w64 (s2.2+(1:Int))))))
  (some (.ret (.go s2.1)))
def eH:Option (List DSlot):=
 x4 (x4 (iter dK ((j0 (x7 (8:Int)) (DSlot.mk (0:Int) false false)),(0:Int))) LO.val) λj1=>
  JO.run j1 xW
def cHo:Sg tG:=⟨[],.one (.row 91),eH⟩
theorem cFv:Sok 140 cHo:=sgx [] trivial (.s .o (.s .o (.j ⟨[],[],[(.s 1,.ro 91)]⟩ (.s .o (.k (.l ⟨[5],[],[(.s 1,.ro 91),(.s 6,.i .i64)]⟩ .o))) .o))) kr kr kr
theorem aAi{R_:(List DSlot)}(hh:eH=some R_):Fn Tryz.prog 140 [] (.own 91 3 R_.length (fl dP R_)):=kc (cFv  R_ hh)
def aOg(s1:List Bool):Option (List Bool):=some s1
def kY(s2:(List Bool)×Int):Option (LO ((List Bool)×Int) (JO (List Bool) (List Bool))):=
 cond (decide (s2.2<((x9 (j0 (x7 (8:Int)) false):Nat):Int)))
  (grd ((0:Int)<=s2.2/\s2.2<((s2.1.length:Nat):Int)) (some (.next ((s2.1.set s2.2.toNat true),w64 (s2.2+(1:Int))))))
  (some (.ret (.go s2.1)))
def oV:Option (List Bool):=
 x4 (x4 (iter kY ((j0 (x7 (8:Int)) false),(0:Int))) LO.val) λj1=>
  JO.run j1 aOg
def cFt:Sg tG:=⟨[],.one (.row 4),oV⟩
theorem cGe:Sok 141 cFt:=sgx [] trivial (.s .o (.s .o (.j ⟨[],[],[(.s 1,.ro 4)]⟩ (.s .o (.k (.l ⟨[5],[],[(.s 1,.ro 4),(.s 6,.i .i64)]⟩ .o))) .o))) kr kr kr
theorem aTi{R_:(List Bool)}(hh:oV=some R_):Fn Tryz.prog 141 [] (.own 4 1 R_.length (fl eB R_)):=kc (cGe  R_ hh)
theorem aKp:LW 77 ⟨61,[.cell 6 true 7,.tmp 7],.seq (.reg false (rg 77 0)) (.seq (.seq (.reg false (rg 77 1)) (.cond (.t 19) (.seq (.reg false (rg 77 2)) .ret) .skip)) (.seq (.reg false (rg 77 3)) (.seq (.seq (.reg false (rg 77 4)) (.cond (.t 25) (.seq (.reg false (rg 77 5)) .ret) .skip)) (.seq (.reg false (rg 77 6)) (.seq (.regd (rg 77 7) (rg 77 8)) (.seq (.regd (rg 77 9) (rg 77 10)) (.seq (.regd (rg 77 11) (rg 77 12)) .ret)))))))⟩:=kr
def iJ(h:DHost)(a1:DHost)(a:Int):Option (DMove×Bool):=
 x4 (cJ h a) λv1=>
 cond (!v1)
  (some ((DMove.mk (DHost.mk ([]:List Int) ([]:List DGuest)) (DHost.mk ([]:List Int) ([]:List DGuest)) (0:Int) (0:Int) ([]:List Bool)),false))
  (x4 (mP a1) λv2=>
  cond (!v2)
   (some ((DMove.mk (DHost.mk ([]:List Int) ([]:List DGuest)) (DHost.mk ([]:List Int) ([]:List DGuest)) (0:Int) (0:Int) ([]:List Bool)),false))
   (x4 (mD a1.Guests) λv3=>
   cond (decide (v3=(-1:Int)))
    (some ((DMove.mk (DHost.mk ([]:List Int) ([]:List DGuest)) (DHost.mk ([]:List Int) ([]:List DGuest)) (0:Int) (0:Int) ([]:List Bool)),false))
    (x4 (bI h) λv4=>
    grd ((0:Int)<=a/\a<((h.Guests.length:Nat):Int)) (x4 (jZ (h.Guests.getD a.toNat default).Pages) λv5=>
     grd ((0:Int)<=a/\a<((v4.Guests.length:Nat):Int)) (x4 eH  λv6=>
      x4 (iL a1.Guests v3 (DGuest.mk true (DCore.mk ([]:List Int) (0:Int) (0:Int) (0:Int) (0:Int) false (0:Int) (0:Int) (0:Int) false false false false) v6 ([]:List Int) ([]:List Int))) λv7=>
      x4 (fU h a) λv8=>
      x4 (bG (DHost.mk a1.Words v7) v3 v8) λv9=>
      x4 oV  λv10=>
      some ((DMove.mk (DHost.mk v4.Words (v4.Guests.set a.toNat (DGuest.mk (v4.Guests.getD a.toNat default).Live (DCore.mk ((v4.Guests.getD a.toNat default).C).Regs ((v4.Guests.getD a.toNat default).C).Pc ((v4.Guests.getD a.toNat default).C).Root ((v4.Guests.getD a.toNat default).C).Vector ((v4.Guests.getD a.toNat default).C).Saved ((v4.Guests.getD a.toNat default).C).SavedUser ((v4.Guests.getD a.toNat default).C).Cause ((v4.Guests.getD a.toNat default).C).Bad ((v4.Guests.getD a.toNat default).C).Timer ((v4.Guests.getD a.toNat default).C).Waits ((v4.Guests.getD a.toNat default).C).User ((v4.Guests.getD a.toNat default).C).On ((v4.Guests.getD a.toNat default).C).Stopped) v5 (v4.Guests.getD a.toNat default).In (v4.Guests.getD a.toNat default).Out))) v9 a v3 v10),true))))))
theorem aOk{h:DHost}{a1:DHost}{a:Int}{R_:DMove×Bool}(hh:iJ h a1 a=some R_):Fn Tryz.prog 77 [.agg (dE h),.agg (dE a1),.int .i64 a] (.tup [.agg [.own 3 1 R_.1.From.Words.length (fl (eI .i64) R_.1.From.Words),.own 94 17 R_.1.From.Guests.length (fl dO R_.1.From.Guests),.own 3 1 R_.1.To.Words.length (fl (eI .i64) R_.1.To.Words),.own 94 17 R_.1.To.Guests.length (fl dO R_.1.To.Guests),.int .i64 R_.1.G,.int .i64 R_.1.N,.own 4 1 R_.1.Left.length (fl eB R_.1.Left)],.bool R_.2]):=by let z4:EH:=(0,some (rB26 h));let z5:EH:=(1,some (rB26 a1));let z6:=(10,pp 13);let z7:=(2,ii a);let z8:EV:=(29,.ptr 5 [] 1);let z9:=(3,pp 0);let z10:=(31,ii a);let z11:EV:=(32,.ptr 0 [] 1);let z12:=(33,bo dI h.Guests);let z13:=(34,ii a);let z14:EV:=(35,.bptr (fl dI h.Guests) (x7 a*17));let z15:EV:=(36,.bptr (fl dI h.Guests) (x7 a*17+14));let z16:=(4,pp 1);let z17:=(42,bo (eI .i64) a1.Words);let z18:=(44,bo dI a1.Guests);let z19:EV:=(53,.agg (dE h));let z20:=(6,pp 2);let z21:=(9,pp 5);let z1:=h.Guests.getD a.toNat default;unfold iJ at hh;refine Fn.start aKp [0,1,2] (E:=sp 61 [(0,.agg (dE h)),(1,.agg (dE a1)),z7]) kr (v:= .tup [.agg [sw 0 R_.1.From.Words,.sref 1 [] 0 R_.1.From.Guests.length 17,sw 2 R_.1.To.Words,.sref 3 [] 0 R_.1.To.Guests.length 17,ii R_.1.G,ii R_.1.N,sw 4 R_.1.Left],bb R_.2]) (Hr:=[(4,some (rT_4 R_.1.Left)),(3,some (rO94 R_.1.To.Guests)),(2,some (rI_3 R_.1.To.Words)),(1,some (rO94 R_.1.From.Guests)),(0,some (rI_3 R_.1.From.Words))]) (k:=5) kr (Aw.sreg [2,3,4,6] [0,1,2] ?_);let q1:Root:=⟨29,[.nil,.nil,.nil,.nil,ii 0,ii 0,.nil]⟩;let z22:=(2,some q1);refine yt (sp 61 [z7,z9,z16,z20]) [z4,z5,z22] 3 (Aw.seq (Aw.sreg [2,3,4,6,19] [0,1,2] (yj 2  (sp 61 [z7,z9,z16,z20,(11,.agg (dE h)),(12,ii a)]) [z4,z5,z22] 3 ?_)));obtain⟨v1,hv1,hh⟩:=bind_some hh;refine ys (.call 56 [.t 11,.t 12]) (some 13) (gZ (r:=bb v1) (v:=bb v1) (Hr:=[]) (n':=3) (aDg hv1) (mJ (vs:=[.agg (dE h),ii a]) kr (fE (aE (mX (qL _))) (cz1 hO))) rfl rfl kr ?_);refine yu 2 [(13,bb v1),(14,bb (!v1)),(15,bb (!v1))] [z4,z5,z22] 3 ?_;rcases oW hh with⟨hb,hh⟩|⟨hb,hh⟩;{refine yb 14 hb (yb 15 hb (yt (sp 61 [z7,z9,z16,z20,(19,bb true)]) [z4,z5,z22] 3 (cT rfl (sy [6,7] [2] (sp 61 [z20,(7,bb false)]) [z22] 3 (Aw.ret (aDs ?_))))));rw[cI hh];exact nX (r':= .tup [.agg [.nil,.nil,.nil,.nil,ii 0,ii 0,.nil],bb false]) kr (Ent.list [none,none,none,none,none] rfl rfl (m9 _) (jI (fX rz)) (iW dd rfl rfl (iW dd rfl rfl (iW dd rfl rfl (iW dd rfl rfl (iW dd rfl rfl cN))))))};refine yb 14 hb (yb 15 hb (yu 1 [(14,bb false),(15,bb false),(16,.agg (dE a1))] [z4,z5,z22] 3 ?_));obtain⟨v2,hv2,hh⟩:=bind_some hh;refine yg (.call 22 [.t 16]) (some 17) 15 false (gZ (r:=bb v2) (v:=bb v2) (Hr:=[]) (n':=3) (aXj hv2) (mJ (vs:=[.agg (dE a1)]) kr (fE (aE (mX (qL _))) hO)) rfl rfl kr ?_);refine yt (sp 61 [z7,z9,z16,z20,(19,bb (!v2))]) [z4,z5,z22] 3 ?_;rcases oW hh with⟨hb,hh⟩|⟨hb,hh⟩;{refine cT hb (sy [6,7] [2] (sp 61 [z20,(7,bb false)]) [z22] 3 (Aw.ret (aDs ?_)));rw[cI hh];exact nX (r':= .tup [.agg [.nil,.nil,.nil,.nil,ii 0,ii 0,.nil],bb false]) kr (Ent.list [none,none,none,none,none] rfl rfl (m9 _) (jI (fX rz)) (iW dd rfl rfl (iW dd rfl rfl (iW dd rfl rfl (iW dd rfl rfl (iW dd rfl rfl cN))))))};refine cF hb (Aw.xskip (λ_ _ _ hq=>aDe hq) (Aw.sreg [2,3,4,6,8] [0,1,2] (yj 2  (sp 61 [z7,z9,z16,z20,(19,bb (!v2)),(21,.ptr 1 [] 1),(22,bo dI a1.Guests)]) [z4,z5,z22] 3 ?_)));obtain⟨v3,hv3,hh⟩:=bind_some hh;let z23:=(25,bb (decide (v3=(-1:Int))));let z24:=(8,ii v3);refine ys (.call 139 [.t 22]) (some 23) (gZ (r:=ii v3) (v:=ii v3) (Hr:=[]) (n':=3) (aOh hv3) (mJ (vs:=[bo dI a1.Guests]) kr (fE (aE (rW (bL aGi))) hO)) rfl rfl kr ?_);refine yt (sp 61 [z7,z9,z16,z20,z24]) [z4,z5,z22] 3 (Aw.seq (sy [2,3,4,6,8,25] [0,1,2] (sp 61 [z7,z9,z16,z20,z24,z23]) [z4,z5,z22] 3 ?_));rcases oW hh with⟨hb,hh⟩|⟨hb,hh⟩;{refine cT hb (sy [6,7] [2] (sp 61 [z20,(7,bb false)]) [z22] 3 (Aw.ret (aDs ?_)));rw[cI hh];exact nX (r':= .tup [.agg [.nil,.nil,.nil,.nil,ii 0,ii 0,.nil],bb false]) kr (Ent.list [none,none,none,none,none] rfl rfl (m9 _) (jI (fX rz)) (iW dd rfl rfl (iW dd rfl rfl (iW dd rfl rfl (iW dd rfl rfl (iW dd rfl rfl cN))))))};refine cF hb (Aw.xskip (λ_ _ _ hq=>aDe hq) (Aw.sreg [2,3,4,6,8,9] [0,1,2,3,4,5] (yj 1  (sp 61 [z7,z9,z16,z20,z24,z23,(27,.agg (dE h))]) [z4,z5,z22] 3 ?_)));obtain⟨v4,hv4,hh⟩:=bind_some hh;let z25:EV:=(30,.sref 4 [] 0 v4.Guests.length 17);let z26:EV:=(50,.agg [sw 3 v4.Words,.sref 7 [] 0 v4.Guests.length 17]);let z2:=v4.Guests.getD a.toNat default;let q2:Root:=(rO94 v4.Guests);let z27:=(4,some q2);let q3:Root:=(rI_3 v4.Words);let z28:=(3,some q3);refine ys (.call 131 [.t 27]) (some 28) (gZ (r:= .agg [.own 3 1 v4.Words.length (fl (eI .i64) v4.Words),.own 94 17 v4.Guests.length (fl dO v4.Guests)]) (v:= .agg [sw 3 v4.Words,.sref 4 [] 0 v4.Guests.length 17]) (Hr:=[z27,z28]) (n':=5) (zE hv4) (mJ (vs:=[.agg (dE h)]) kr (fE (aE (mX (qL _))) hO)) nrr nrr kr ?_);let q4:Root:=⟨26,[sw 3 v4.Words,.sref 4 [] 0 v4.Guests.length 17]⟩;let z29:=(5,some q4);refine yt (sp 61 [z7,z9,z16,z20,z24,z21]) [z4,z5,z22,z28,z27,z29] 6 (Aw.sregd [2,3,4,6,8,9] [0,1,2,3,4,5,6] [] kr (dj 6 (sp 61 [z7,z9,z16,z20,z24,z21,z8,z25,z10,z11,z12,z13]) [z4,z5,z22,z28,z27,z29] 6 ?_));obtain⟨hg3,hh⟩:=bD hh;refine ds (.iadr 17 (.t 33) (.t 34)) (some 35) (aZi rfl kr (aNi (kd:= .i64) (c:=dI) (xs:=h.Guests) aHh dd kr kr hg3 ?_));refine dj 1 (sp 61 [z7,z9,z16,z20,z24,z21,z8,z25,z10,z11,z12,z13,z14,z15]) [z4,z5,z22,z28,z27,z29] 6 (ds (.load false 1 (.t 36)) (some 37) (aZi rfl kr (bBt (c:=dI) (xs:=h.Guests) (o:=x7 a*17+14) (i:=a.toNat) (off:=14) (v:=bo dP z1.Pages) aHh kr ltn ltn dd kr ?_)));obtain⟨v5,hv5,hh⟩:=bind_some hh;let z30:EV:=(38,.sref 6 [] 0 v5.length 3);let z31:EH:=(6,some (rC91 v5));let z3:=DGuest.mk z2.Live z2.C v5 z2.In z2.Out;refine ds (.call 99 [.t 37]) (some 38) (yM rfl (gZ (r:= .own 91 3 v5.length (fl dP v5)) (v:= .sref 6 [] 0 v5.length 3) (Hr:=[z31]) (n':=7) (aQu hv5) (mJ (vs:=[bo dP z1.Pages]) kr (fE (aE (rW (bL aFu))) hO)) nrr nrr kr ⟨⟨⟨by decide,uU (n:=6) (n0:=6) (r:= .own 91 3 v5.length (fl dP v5)) (v:= .sref 6 [] 0 v5.length 3) (Hr:=[z31]) (n':=7) kr dd⟩,Hld.un ?_⟩⟩));refine dt (sp 61 [z7,z9,z16,z20,z24,z21,z8,z25,z10,z11,z12,z13,z14,z15,(37,bo dP z1.Pages),z30]) [z31,z4,z5,z22,z28,z27,z29] 7 ?_;obtain⟨hg4,hh⟩:=bD hh;refine yjc 2 [(0:Int)<=a/\a<((v4.Guests.length:Nat):Int)] (sp 61 [z7,z9,z16,z20,z24,z21,z8,z25,z10,z11,z12,z13,z14,z15,(37,bo dP z1.Pages),z30,(39,.ptr 4 [] (0+a.toNat*17)),(40,.ptr 4 [] (0+a.toNat*17+14))]) [z31,z4,z5,z22,z28,z27,z29] 7 (.cons hg4 .nil) (ys (.store 1 (.t 40) (.t 38)) none (bOw (c:=dO) (xs:=v4.Guests) (e:=94) (r:=4) (o:=0+a.toNat*17+14) (i:=a.toNat) (off:=14) (vs:=[.sref 6 [] 0 v5.length 3]) pQ kr kr kr kr ltn ltn dd ?_));refine yt (sp 61 [z7,z9,z16,z20,z24,z21]) [z4,z5,z22,z28,(4,some ⟨94,aT (fl dO v4.Guests) (0+a.toNat*17+14) [.sref 6 [] 0 v5.length 3]⟩),z29,z31] 7 ?_;let q5:Root:=⟨26,[sw 3 v4.Words,.sref 7 [] 0 v4.Guests.length 17]⟩;let z32:=(5,some q5);refine Aw.ent (Ent.foldP (c:=dO) (xs:=v4.Guests) (i:=a.toNat) (off:=14) (o:=0+a.toNat*17+14) (y:=z3) (R:=4) (e:=94) (us2:=sp 61 [z7,z9,z16,z20,z24,z21]) (H2:=[z4,z5,z22,z28,z32]) (L:=[some (some 6)]) (ws:=[.own 91 3 v5.length (fl dP v5)]) pQ kr ltn ltn (Nat.le_of_ble_eq_true rfl) kr (cFk kr eqn bLl) (by rfl) (by rfl) (bDh kr (aEq (u:=ii a) kr (.same _) (aEq (u:=pp 0) kr (.same _) (aEq (u:=pp 1) kr (.same _) (aEq (u:=pp 2) kr (.same _) (aEq (u:=ii v3) kr (.same _) (aEq (u:=pp 5) kr (.same _) bKo))))))) (aHa (t:=(rB26 h)) rfl kr rfl xX (aHa (t:=(rB26 a1)) rfl kr rfl xX (aHa (t:=q1) rfl kr rfl xX (aHa (t:=q3) rfl kr rfl xX (aHa (t:=q4) rfl kr rfl (aNc (.same _) (aNc (.sref _ _ _ _ eqn) bLw)) bWk)))))) (Aw.sregd [2,3,6,8,9,10] [0,2,3,5,7,12,13] [8,9,10,11] kr ?_);let q6:Root:=(rO94 (v4.Guests.set a.toNat z3));let z33:=(7,some q6);refine dj 5 (sp 61 [z7,z9,z16,z20,z24,z21,(41,pp 1),z17,(43,.ptr 1 [] 1),z18,(45,ii v3)]) [z33,z4,z5,z22,z28,z32] 8 ?_;obtain⟨v6,hv6,hh⟩:=bind_some hh;let z34:EV:=(46,.sref 8 [] 0 v6.length 3);let z35:EV:=(47,.agg (bb true:: .nil::jO [.sref 8 [] 0 v6.length 3,.nil,.nil]));let z36:EH:=(8,some (rC91 v6));refine ds (.call 140 []) (some 46) (yM rfl (gZ (r:= .own 91 3 v6.length (fl dP v6)) (v:= .sref 8 [] 0 v6.length 3) (Hr:=[z36]) (n':=9) (aAi hv6) (mJ (vs:=[]) kr hO) nrr nrr kr ⟨⟨⟨by decide,uU (n:=8) (n0:=8) (r:= .own 91 3 v6.length (fl dP v6)) (v:= .sref 8 [] 0 v6.length 3) (Hr:=[z36]) (n':=9) kr dd⟩,Hld.un ?_⟩⟩));refine dj 1 (sp 61 [z7,z9,z16,z20,z24,z21,(41,pp 1),z17,(43,.ptr 1 [] 1),z18,(45,ii v3),z34,z35]) [z36,z33,z4,z5,z22,z28,z32] 9 ?_;obtain⟨v7,hv7,hh⟩:=bind_some hh;let z37:EH:=(12,some (rO94 v7));let z38:EV:=(51,.agg [bo (eI .i64) a1.Words,.sref 12 [] 0 v7.length 17]);refine ds (.call 130 [.t 44,.t 45,.t 47]) (some 48) (yM rfl (bDo (args:=[bo dI a1.Guests,ii v3,.agg (bb true:: .nil::jO [.sref 8 [] 0 v6.length 3,.nil,.nil])]) (args2:=[bo dI a1.Guests,ii v3,.agg (bb true:: .sref 9 [] 0 0 1::jO [.sref 8 [] 0 v6.length 3,.sref 10 [] 0 0 1,.sref 11 [] 0 0 1])]) kr (Ent.trans (Ent.nils (n:=11) (e:=3) (xs2:=[bo dI a1.Guests,ii v3,.agg (bb true:: .sref 9 [] 0 0 1::jO [.sref 8 [] 0 v6.length 3,.sref 10 [] 0 0 1,.sref 11 [] 0 0 1])]) (aH (.same _) (aH (.same _) (aH (.agg _ _ (aH (.same _) (aH (.same _) (aH (.same _) (aH (.same _) (aH (.same _) (aH (.same _) (aH (.same _) (aH (.same _) (aH (.same _) (aH (.same _) (aH (.same _) (aH (.same _) (aH (.same _) (aH (.same _) (aH (.same _) (aH (.same _) (aH (.nil _) wR)))))))))))))))))) wR)))) (Ent.trans (Ent.nils (n:=10) (e:=3) (xs2:=[bo dI a1.Guests,ii v3,.agg (bb true:: .sref 9 [] 0 0 1::jO [.sref 8 [] 0 v6.length 3,.sref 10 [] 0 0 1,.nil])]) (aH (.same _) (aH (.same _) (aH (.agg _ _ (aH (.same _) (aH (.same _) (aH (.same _) (aH (.same _) (aH (.same _) (aH (.same _) (aH (.same _) (aH (.same _) (aH (.same _) (aH (.same _) (aH (.same _) (aH (.same _) (aH (.same _) (aH (.same _) (aH (.same _) (aH (.nil _) (aH (.same _) wR)))))))))))))))))) wR)))) (Ent.nils (n:=9) (e:=3) (xs2:=[bo dI a1.Guests,ii v3,.agg (bb true:: .sref 9 [] 0 0 1::jO [.sref 8 [] 0 v6.length 3,.nil,.nil])]) (aH (.same _) (aH (.same _) (aH (.agg _ _ (aH (.same _) (aH (.nil _) (aH (.same _) (aH (.same _) (aH (.same _) (aH (.same _) (aH (.same _) (aH (.same _) (aH (.same _) (aH (.same _) (aH (.same _) (aH (.same _) (aH (.same _) (aH (.same _) (aH (.same _) (aH (.same _) (aH (.same _) wR)))))))))))))))))) wR)))))) (Inl.frameB (v':= .sref 12 [] 0 v7.length 17) (Hp':=[z37]) (n':=13) [9,8,10,11] (aAn hv7) rfl rfl rfl rz rfl (hq ⟨3,[]⟩ (aL rfl) (hq ⟨3,[]⟩ (aL rfl) (hn oF (hq ⟨3,[]⟩ (aL rfl) cN)))) wH rfl (hn gX cN) rfl) ⟨⟨⟨by decide,bYu (A:=[z37,(9,none),(8,none),(10,none),(11,none),(11,some ⟨3,[]⟩),(10,some ⟨3,[]⟩),(9,some ⟨3,[]⟩)]) kr kr⟩,Hld.un ?_⟩⟩));refine dt (sp 61 [z7,z9,z16,z20,z24,z21,z6,(41,pp 1),z17,(43,.ptr 1 [] 1),z18,(45,ii v3),z34,z35,(48,.sref 12 [] 0 v7.length 17),(49,.agg [bo (eI .i64) a1.Words,.sref 12 [] 0 v7.length 17])]) [(13,some ⟨26,[.nil,.nil]⟩),z37,(9,none),(8,none),(10,none),(11,none),(11,some ⟨3,[]⟩),(10,some ⟨3,[]⟩),(9,some ⟨3,[]⟩),z36,z33,z4,z5,z22,z28,z32] 14 ?_;let q7:Root:=⟨26,[bo (eI .i64) a1.Words,.sref 12 [] 0 v7.length 17]⟩;let z39:=(13,some q7);refine yt (sp 61 [z7,z9,z20,z24,z21,z6]) [z4,z22,z28,z32,z33,z37,z39] 14 (Aw.sregd [6,7] [2,3,7,14,15,16] [] kr (dj 5 (sp 61 [z7,z9,z20,z24,z21,z6,z26,z38,(52,ii v3),z19,(54,ii a)]) [z4,z22,z28,z32,z33,z37,z39] 14 ?_));obtain⟨v8,hv8,hh⟩:=bind_some hh;refine ds (.call 68 [.t 53,.t 54]) (some 55) (yM rfl (aIk (r:= .agg (tI v8)) (v:= .agg (tI v8)) (Hr:=[]) (n':=14) (aOe hv8) (mJ (vs:=[.agg (dE h),ii a]) kr (fE (aE (mX (qL _))) (cz1 hO))) nrr kr ⟨⟨⟨by decide,uU (n:=14) (n0:=14) (r:= .agg (tI v8)) (v:= .agg (tI v8)) (Hr:=[]) (n':=14) kr dd⟩,Hld.un ?_⟩⟩));obtain⟨v9,hv9,hh⟩:=bind_some hh;let z40:EV:=(56,.agg [sw 14 v9.Words,.sref 15 [] 0 v9.Guests.length 17]);let q8:Root:=(rO94 v9.Guests);let z41:=(15,some q8);let q9:Root:=(rI_3 v9.Words);let z42:=(14,some q9);refine ds (.call 67 [.t 51,.t 52,.t 55]) (some 56) (yM rfl (gZ (r:= .agg [.own 3 1 v9.Words.length (fl (eI .i64) v9.Words),.own 94 17 v9.Guests.length (fl dO v9.Guests)]) (v:= .agg [sw 14 v9.Words,.sref 15 [] 0 v9.Guests.length 17]) (Hr:=[z41,z42]) (n':=16) (aJr hv9) (mJ (vs:=[.agg [bo (eI .i64) a1.Words,.sref 12 [] 0 v7.length 17],ii v3,.agg (tI v8)]) kr (fE (bGi (aJ (aE (rW (bL dB))) (aJ (aXn (B:=dI) (xs:=v7) (e:=94) aVz pQ eqn kr) yY))) (cz1 (fE (aE (mX (aVt _))) hO)))) nrr nrr kr ⟨⟨⟨by decide,uU (n:=14) (n0:=14) (r:= .agg [.own 3 1 v9.Words.length (fl (eI .i64) v9.Words),.own 94 17 v9.Guests.length (fl dO v9.Guests)]) (v:= .agg [sw 14 v9.Words,.sref 15 [] 0 v9.Guests.length 17]) (Hr:=[z41,z42]) (n':=16) kr dd⟩,Hld.un ?_⟩⟩));refine dj 2 (sp 61 [z7,z9,z20,z24,z21,z6,z26,z38,(52,ii v3),z19,(54,ii a),(55,.agg (tI v8)),z40,(57,ii a),(58,ii v3)]) [z41,z42,z4,z22,z28,z32,z33,z37,z39] 16 ?_;obtain⟨v10,hv10,hh⟩:=bind_some hh;let z43:EH:=(16,some (rT_4 v10));refine ds (.call 141 []) (some 59) (yM rfl (gZ (r:= .own 4 1 v10.length (fl eB v10)) (v:=sw 16 v10) (Hr:=[z43]) (n':=17) (aTi hv10) (mJ (vs:=[]) kr hO) nrr nrr kr ⟨⟨⟨by decide,uU (n:=16) (n0:=16) (r:= .own 4 1 v10.length (fl eB v10)) (v:=sw 16 v10) (Hr:=[z43]) (n':=17) kr dd⟩,Hld.un ?_⟩⟩));refine dt (sp 61 [z7,z9,z20,z24,z21,z6,z26,z38,(52,ii v3),z19,(54,ii a),(55,.agg (tI v8)),z40,(57,ii a),(58,ii v3),(59,sw 16 v10)]) [z43,z41,z42,z4,z22,z28,z32,z33,z37,z39] 17 (yt (sp 61 [z20,(7,bb true)]) [(2,some ⟨29,[sw 3 v4.Words,.sref 7 [] 0 v4.Guests.length 17,sw 14 v9.Words,.sref 15 [] 0 v9.Guests.length 17,ii a,ii v3,sw 16 v10]⟩),z28,z33,z42,z41,z43] 17 (Aw.ret ?_));rw[cI hh];exact nX (r':= .tup [.agg [sw 3 v4.Words,.sref 7 [] 0 v4.Guests.length 17,sw 14 v9.Words,.sref 15 [] 0 v9.Guests.length 17,ii a,ii v3,sw 16 v10],bb true]) kr (Ent.list [some 3,some 7,some 14,some 15,some 16] rfl rfl (m9 _) (jI (fX rz)) (hn aEc (hn gX (hn bO (hn gX (hn bO cN))))))
def g77:Sg tG:=⟨[.st 26,.st 26,.i .i64],.two (.st 2029) .b,iJ⟩
theorem s77:Sok 77 g77:=λh a1 a R_ hh=>kc (aOk (h:=h) (a1:=a1) (a:=a) hh)
def xH(a:Int)(s3:Int)(v4:DHost)(v5:DHost)(v6:DGuest)(s7:(List DGuest)×(List Bool)×(List DSlot)):Option (DMove×Bool):=grd ((0:Int)<=s3/\s3<((v5.Guests.length:Nat):Int)) (some ((DMove.mk (DHost.mk v4.Words s7.1) (DHost.mk v5.Words (v5.Guests.set s3.toNat (DGuest.mk v6.Live v6.C s7.2.2 v6.In v6.Out))) a s3 s7.2.1),true))
def iC(a:Int)(s8:(List DGuest)×(List Bool)×(List DSlot)×Int):Option (LO ((List DGuest)×(List Bool)×(List DSlot)×Int) (JO ((List DGuest)×(List Bool)×(List DSlot)) (DMove×Bool))):=
 cond (decide (s8.2.2.2<(8:Int)))
  (grd ((0:Int)<=a/\a<((s8.1.length:Nat):Int)) (grd ((0:Int)<=s8.2.2.2/\s8.2.2.2<((x9 (s8.1.getD a.toNat default).Pages:Nat):Int)) (grd ((0:Int)<=s8.2.2.2/\s8.2.2.2<((s8.2.2.1.length:Nat):Int)) (grd ((s8.2.1.length+x9 ([true]:List Bool))*1<=2^47/\s8.2.1.length+x9 ([true]:List Bool)<=2^47) (some (.next ((s8.1.set a.toNat (DGuest.mk (s8.1.getD a.toNat default).Live (DCore.mk ((s8.1.getD a.toNat default).C).Regs ((s8.1.getD a.toNat default).C).Pc ((s8.1.getD a.toNat default).C).Root ((s8.1.getD a.toNat default).C).Vector ((s8.1.getD a.toNat default).C).Saved ((s8.1.getD a.toNat default).C).SavedUser ((s8.1.getD a.toNat default).C).Cause ((s8.1.getD a.toNat default).C).Bad ((s8.1.getD a.toNat default).C).Timer ((s8.1.getD a.toNat default).C).Waits ((s8.1.getD a.toNat default).C).User ((s8.1.getD a.toNat default).C).On ((s8.1.getD a.toNat default).C).Stopped) (qXU (s8.1.getD a.toNat default).Pages s8.2.2.2.toNat (DSlot.mk (x8 (s8.1.getD a.toNat default).Pages s8.2.2.2.toNat default).Frame (x8 (s8.1.getD a.toNat default).Pages s8.2.2.2.toNat default).Write false)) (s8.1.getD a.toNat default).In (s8.1.getD a.toNat default).Out)),s8.2.1++([true]:List Bool),s8.2.2.1.set s8.2.2.2.toNat (DSlot.mk (-1:Int) false false),w64 (s8.2.2.2+(1:Int)))))))))
  (some (.ret (.go (s8.1,s8.2.1,s8.2.2.1))))
def xG(h:DHost)(a1:DHost)(a:Int)(s3:Int):Option (DMove×Bool):=
 cond (decide (s3<(0:Int)))
  (some ((DMove.mk (DHost.mk ([]:List Int) ([]:List DGuest)) (DHost.mk ([]:List Int) ([]:List DGuest)) (0:Int) (0:Int) ([]:List Bool)),false))
  (x4 (dA h) λv4=>
  x4 (dA a1) λv5=>
  grd ((0:Int)<=a/\a<((h.Guests.length:Nat):Int)) (x4 (eR (DGuest.mk (h.Guests.getD a.toNat default).Live (DCore.mk ((h.Guests.getD a.toNat default).C).Regs ((h.Guests.getD a.toNat default).C).Pc ((h.Guests.getD a.toNat default).C).Root ((h.Guests.getD a.toNat default).C).Vector ((h.Guests.getD a.toNat default).C).Saved ((h.Guests.getD a.toNat default).C).SavedUser ((h.Guests.getD a.toNat default).C).Cause ((h.Guests.getD a.toNat default).C).Bad ((h.Guests.getD a.toNat default).C).Timer ((h.Guests.getD a.toNat default).C).Waits ((h.Guests.getD a.toNat default).C).User ((h.Guests.getD a.toNat default).C).On ((h.Guests.getD a.toNat default).C).Stopped) (h.Guests.getD a.toNat default).Pages (h.Guests.getD a.toNat default).In (h.Guests.getD a.toNat default).Out)) λv6=>
   x4 (x4 (iter (iC a) (v4.Guests,([]:List Bool),v6.Pages,(0:Int))) LO.val) λj7=>
    JO.run j7 (xH a s3 v4 v5 v6)))
def wV(s9:Int×Int)(s10:Int):Option (LO (Int×Int) (JO Int (DMove×Bool))):=some (.next (s10,w64 (s9.2-(1:Int))))
def fH(a1:DHost)(s9:Int×Int):Option (LO (Int×Int) (JO Int (DMove×Bool))):=
 cond (decide ((0:Int)<=s9.2))
  (x4 (grd ((0:Int)<=s9.2/\s9.2<((a1.Guests.length:Nat):Int)) (cond (!(a1.Guests.getD s9.2.toNat default).Live)
   (some (.go s9.2))
   (some (.go s9.1)))) λj10=>
   JO.run j10 (wV s9))
  (some (.ret (.go s9.1)))
def pM(h:DHost)(a1:DHost)(a:Int):Option (DMove×Bool):=
 x4 (dG h a) λv1=>
 cond (!v1)
  (some ((DMove.mk (DHost.mk ([]:List Int) ([]:List DGuest)) (DHost.mk ([]:List Int) ([]:List DGuest)) (0:Int) (0:Int) ([]:List Bool)),false))
  (x4 (kC a1) λv2=>
  cond (!v2)
   (some ((DMove.mk (DHost.mk ([]:List Int) ([]:List DGuest)) (DHost.mk ([]:List Int) ([]:List DGuest)) (0:Int) (0:Int) ([]:List Bool)),false))
   (x4 (x4 (iter (fH a1) ((-1:Int),(2:Int))) LO.val) λj3=>
    JO.run j3 (xG h a1 a)))
def g79:Sg tG:=⟨[.st 26,.st 26,.i .i64],.two (.st 2029) .b,pM⟩
theorem s79:Sok 79 g79:=sgx [(102,.r aIx),(142,.r bBe),(103,.r aMe),(69,.r g69)] ⟨aLb,bNb,aSg,s69,trivial⟩ (.s .o (.s .o (.s .o (.j ⟨[2,3,4,6],[],[(.s 8,.i .i64)]⟩ (.s .o (.k (.l ⟨[2,3,4,6],[],[(.s 8,.i .i64),(.s 9,.i .i64)]⟩ (.s .o (.j ⟨[2,3,4,6,9],[],[(.s 8,.i .i64)]⟩ .o .o))))) (.s .o (.s .o (.s .o (.j ⟨[6,8,10,11],[],[(.c 10 1,.ro 1094),(.c 10 6,.ro 4),(.c 11 14,.ro 91)]⟩ (.s .o (.k (.l ⟨[2,6,8,10,11],[],[(.c 10 1,.ro 1094),(.c 10 6,.ro 4),(.c 11 14,.ro 91),(.s 12,.i .i64)]⟩ .o))) (.s (.g [] [] [.fo (.c 10 3) 0]) .o))))))))) kr kr kr
def aOa(s1:List DAct):Option (List DAct):=some s1
def tQ(s2:(List DAct)×Int)(s3:List DAct):Option (LO ((List DAct)×Int) (JO (List DAct) (List DAct))):=some (.next (s3,w64 (s2.2+(1:Int))))
def kN(b0:List Bool)(s2:(List DAct)×Int):Option (LO ((List DAct)×Int) (JO (List DAct) (List DAct))):=
 cond (decide (s2.2<((b0.length:Nat):Int)))
  (x4 (grd ((0:Int)<=s2.2/\s2.2<((b0.length:Nat):Int)) (cond (b0.getD s2.2.toNat default)
   (grd ((s2.1.length+x9 ([DAct.mk (2:Int) s2.2]:List DAct))*16<=2^47/\s2.1.length+x9 ([DAct.mk (2:Int) s2.2]:List DAct)<=2^47) (some (.go (s2.1++([DAct.mk (2:Int) s2.2]:List DAct)))))
   (some (.go s2.1)))) λj3=>
   JO.run j3 (tQ s2))
  (some (.ret (.go s2.1)))
def oM(b0:List Bool):Option (List DAct):=
 x4 (x4 (iter (kN b0) (([]:List DAct),(0:Int))) LO.val) λj1=>
  JO.run j1 aOa
def g65:Sg tG:=⟨[.row 4],.one (.row 31),oM⟩
theorem s65:Sok 65 g65:=sgx [] trivial (.s .o (.s .o (.j ⟨[],[],[(.s 3,.ro 31)]⟩ (.s .o (.k (.l ⟨[7,8],[],[(.s 3,.ro 31),(.s 9,.i .i64)]⟩ (.s .o (.s .o (.j ⟨[7,8,9],[],[(.s 3,.ro 31)]⟩ .o .o)))))) .o))) kr kr kr
def oH(d:DMove):Option (DHost×DHost×Bool):=
 x4 (qD d) λv1=>
 cond (!v1)
  (some ((DHost.mk ([]:List Int) ([]:List DGuest)),DHost.mk ([]:List Int) ([]:List DGuest),false))
  (x4 (oM d.Left) λv2=>
  cond (decide ((0:Int)<((v2.length:Nat):Int)))
   (some ((DHost.mk ([]:List Int) ([]:List DGuest)),DHost.mk ([]:List Int) ([]:List DGuest),false))
   (x4 (jP d.From d.G) λv3=>
   x4 (fU d.From d.G) λv4=>
   x4 (bG d.To d.N v4) λv5=>
   some (v3.1,v5,true)))
def g19:Sg tG:=⟨[.st 29],.three (.st 2026) (.st 2026) .b,oH⟩
theorem s19:Sok 19 g19:=sgx [(15,.r g15),(65,.r g65),(66,.r g66),(68,.r g68),(67,.r g67)] ⟨s15,s65,s66,s68,s67,trivial⟩ .o kr kr kr
def aAp(d:DMove)(s2:Unit):Option (DHost×DHost×Bool):=
 x4 (iH d) λv3=>
 grd ((0:Int)<=d.G/\d.G<((d.From.Guests.length:Nat):Int)) (x4 (eR (DGuest.mk (d.From.Guests.getD d.G.toNat default).Live (DCore.mk ((d.From.Guests.getD d.G.toNat default).C).Regs ((d.From.Guests.getD d.G.toNat default).C).Pc ((d.From.Guests.getD d.G.toNat default).C).Root ((d.From.Guests.getD d.G.toNat default).C).Vector ((d.From.Guests.getD d.G.toNat default).C).Saved ((d.From.Guests.getD d.G.toNat default).C).SavedUser ((d.From.Guests.getD d.G.toNat default).C).Cause ((d.From.Guests.getD d.G.toNat default).C).Bad ((d.From.Guests.getD d.G.toNat default).C).Timer ((d.From.Guests.getD d.G.toNat default).C).Waits ((d.From.Guests.getD d.G.toNat default).C).User ((d.From.Guests.getD d.G.toNat default).C).On ((d.From.Guests.getD d.G.toNat default).C).Stopped) (d.From.Guests.getD d.G.toNat default).Pages (d.From.Guests.getD d.G.toNat default).In (d.From.Guests.getD d.G.toNat default).Out)) λv4=>
  grd ((0:Int)<=d.N/\d.N<((d.To.Guests.length:Nat):Int)) (grd ((x9 ([]:List DSlot)+x9 (d.To.Guests.getD d.N.toNat default).Pages)*16<=2^47/\x9 ([]:List DSlot)+x9 (d.To.Guests.getD d.N.toNat default).Pages<=2^47) (grd ((0:Int)<=d.N/\d.N<((v3.To.Guests.length:Nat):Int)) (grd ((0:Int)<=d.G/\d.G<((v3.From.Guests.length:Nat):Int)) (some ((DHost.mk v3.From.Words (v3.From.Guests.set d.G.toNat (DGuest.mk false (DCore.mk ([]:List Int) (0:Int) (0:Int) (0:Int) (0:Int) false (0:Int) (0:Int) (0:Int) false false false false) ([]:List DSlot) ([]:List Int) ([]:List Int)))),DHost.mk v3.To.Words (v3.To.Guests.set d.N.toNat (DGuest.mk v4.Live v4.C (([]:List DSlot)++(d.To.Guests.getD d.N.toNat default).Pages) v4.In v4.Out)),true))))))
def oC(d:DMove)(s5:Int):Option (LO Int (JO Unit (DHost×DHost×Bool))):=
 cond (decide (s5<(8:Int)))
  (grd ((0:Int)<=s5/\s5<((d.Left.length:Nat):Int)) (cond (d.Left.getD s5.toNat default)
   (some (.ret (.out ((DHost.mk ([]:List Int) ([]:List DGuest)),DHost.mk ([]:List Int) ([]:List DGuest),false))))
   (some (.next (w64 (s5+(1:Int)))))))
  (some (.ret (.go ())))
def oO(d:DMove):Option (DHost×DHost×Bool):=
 x4 (qE d) λv1=>
 cond (!v1)
  (some ((DHost.mk ([]:List Int) ([]:List DGuest)),DHost.mk ([]:List Int) ([]:List DGuest),false))
  (x4 (x4 (iter (oC d) (0:Int)) LO.val) λj2=>
   JO.run j2 (aAp d))
def g20:Sg tG:=⟨[.st 29],.three (.st 2026) (.st 2026) .b,oO⟩
theorem s20:Sok 20 g20:=sgx [(48,.r g48),(49,.r g49),(69,.r g69)] ⟨s48,s49,s69,trivial⟩ (.s .o (.s .o (.j ⟨[1,2,3],[],[]⟩ (.s .o (.k (.l ⟨[1,2,3],[],[(.s 5,.i .i64)]⟩ .o))) (.s .o (.s .o (.s .o (.s (.g [] [] [.fo (.c 6 3) 0]) (.s (.g [] [] [.fo (.c 6 1) 0]) (.s (.m [1]) .o))))))))) kr kr kr
def aOf(s1:Unit):Option Bool:=some true
def kM(a0:List Int)(s2:Int):Option (LO Int (JO Unit Bool)):=
 cond (decide (s2<((a0.length:Nat):Int)))
  (grd ((0:Int)<=s2/\s2<((a0.length:Nat):Int)) (x4 (fR (a0.getD s2.toNat default)) λv3=>
   cond (!v3)
    (some (.ret (.out false)))
    (some (.next (w64 (s2+(1:Int)))))))
  (some (.ret (.go ())))
def sU(a0:List Int):Option Bool:=
 x4 (x4 (iter (kM a0) (0:Int)) LO.val) λj1=>
  JO.run j1 aOf
def cEd:Sg tG:=⟨[.row 3],.one .b,sU⟩
theorem cGc:Sok 190 cEd:=sgx [(46,.r g46)] ⟨s46,trivial⟩ (.s .o (.j ⟨[],[],[]⟩ (.s .o (.k (.l ⟨[5,6],[],[(.s 7,.i .i64)]⟩ .o))) .o)) kr kr kr
def aKk(v3:DHost)(s4:List DGuest):Option (DHost×Bool):=some ((DHost.mk v3.Words s4),true)
def jL(a:Int)(a0:List Int)(s5:(List DGuest)×Int):Option (LO ((List DGuest)×Int) (JO (List DGuest) (DHost×Bool))):=
 cond (decide (s5.2<((a0.length:Nat):Int)))
  (grd ((0:Int)<=s5.2/\s5.2<((a0.length:Nat):Int)) (grd ((0:Int)<=a/\a<((s5.1.length:Nat):Int)) (grd ((0:Int)<=(a0.getD s5.2.toNat default)/\(a0.getD s5.2.toNat default)<((x9 (s5.1.getD a.toNat default).Pages:Nat):Int)) (some (.next ((s5.1.set a.toNat (DGuest.mk (s5.1.getD a.toNat default).Live (DCore.mk ((s5.1.getD a.toNat default).C).Regs ((s5.1.getD a.toNat default).C).Pc ((s5.1.getD a.toNat default).C).Root ((s5.1.getD a.toNat default).C).Vector ((s5.1.getD a.toNat default).C).Saved ((s5.1.getD a.toNat default).C).SavedUser ((s5.1.getD a.toNat default).C).Cause ((s5.1.getD a.toNat default).C).Bad ((s5.1.getD a.toNat default).C).Timer ((s5.1.getD a.toNat default).C).Waits ((s5.1.getD a.toNat default).C).User ((s5.1.getD a.toNat default).C).On ((s5.1.getD a.toNat default).C).Stopped) (qXU (s5.1.getD a.toNat default).Pages (x7 (a0.getD s5.2.toNat default)) (DSlot.mk (-1:Int) false false)) (s5.1.getD a.toNat default).In (s5.1.getD a.toNat default).Out)),w64 (s5.2+(1:Int))))))))
  (some (.ret (.go s5.1)))
def mY(a4:DHost)(a:Int)(a0:List Int):Option (DHost×Bool):=
 x4 (cJ a4 a) λv1=>
 cond (!v1)
  (some ((DHost.mk ([]:List Int) ([]:List DGuest)),false))
  (x4 (sU a0) λv2=>
  cond (!v2)
   (some ((DHost.mk ([]:List Int) ([]:List DGuest)),false))
   (x4 (bI a4) λv3=>
   x4 (x4 (iter (jL a a0) (v3.Guests,(0:Int))) LO.val) λj4=>
    JO.run j4 (aKk v3)))
def cHq:Sg tG:=⟨[.st 26,.i .i64,.row 3],.two (.st 2026) .b,mY⟩
theorem cHd:Sok 153 cHq:=sgx [(56,.r g56),(190,.r cEd),(131,.r aQn)] ⟨s56,cGc,aRv,trivial⟩ (.s .o (.s .o (.s .o (.j ⟨[6,8],[],[(.c 8 1,.ro 1094)]⟩ (.s .o (.k (.l ⟨[1,6,8,23,24],[],[(.c 8 1,.ro 1094),(.s 25,.i .i64)]⟩ .o))) .o)))) kr kr kr
theorem aRq{a4:DHost}{a:Int}{a0:List Int}{R_:DHost×Bool}(hh:mY a4 a a0=some R_):Fn Tryz.prog 153 [.agg (dE a4),.int .i64 a,bo (eI .i64) a0] (.tup [.agg [.own 3 1 R_.1.Words.length (fl (eI .i64) R_.1.Words),.own 94 17 R_.1.Guests.length (fl dO R_.1.Guests)],.bool R_.2]):=kc (cHd a4 a a0 R_ hh)
def vX(d:DMove)(v1:DMove)(v2:DHost×Bool)(s3:List Bool):Option (DMove×Bool):=
 grd ((0:Int)<=d.G/\d.G<((v2.1.Guests.length:Nat):Int)) (x4 (jZ (v2.1.Guests.getD d.G.toNat default).Pages) λv4=>
  grd ((0:Int)<=d.G/\d.G<((v2.1.Guests.length:Nat):Int)) (some ((DMove.mk (DHost.mk v2.1.Words (v2.1.Guests.set d.G.toNat (DGuest.mk (v2.1.Guests.getD d.G.toNat default).Live (DCore.mk ((v2.1.Guests.getD d.G.toNat default).C).Regs ((v2.1.Guests.getD d.G.toNat default).C).Pc ((v2.1.Guests.getD d.G.toNat default).C).Root ((v2.1.Guests.getD d.G.toNat default).C).Vector ((v2.1.Guests.getD d.G.toNat default).C).Saved ((v2.1.Guests.getD d.G.toNat default).C).SavedUser ((v2.1.Guests.getD d.G.toNat default).C).Cause ((v2.1.Guests.getD d.G.toNat default).C).Bad ((v2.1.Guests.getD d.G.toNat default).C).Timer ((v2.1.Guests.getD d.G.toNat default).C).Waits ((v2.1.Guests.getD d.G.toNat default).C).User ((v2.1.Guests.getD d.G.toNat default).C).On ((v2.1.Guests.getD d.G.toNat default).C).Stopped) v4 (v2.1.Guests.getD d.G.toNat default).In (v2.1.Guests.getD d.G.toNat default).Out))) v1.To v1.G v1.N s3),true)))
def oK(s5:(List Bool)×Int)(s6:List Bool):Option (LO ((List Bool)×Int) (JO (List Bool) (DMove×Bool))):=some (.next (s6,w64 (s5.2+(1:Int))))
def fY(d:DMove)(v2:DHost×Bool)(s5:(List Bool)×Int):Option (LO ((List Bool)×Int) (JO (List Bool) (DMove×Bool))):=
 cond (decide (s5.2<((x9 (v2.1.Guests.getD d.G.toNat default).Pages:Nat):Int)))
  (x4 (grd ((0:Int)<=s5.2/\s5.2<((x9 (v2.1.Guests.getD d.G.toNat default).Pages:Nat):Int)) (grd ((0:Int)<=s5.2/\s5.2<((s5.1.length:Nat):Int)) (cond (s5.1.getD s5.2.toNat default)
   (grd ((0:Int)<=s5.2/\s5.2<((s5.1.length:Nat):Int)) (some (.go (s5.1.set s5.2.toNat true))))
   (grd ((0:Int)<=s5.2/\s5.2<((s5.1.length:Nat):Int)) (some (.go (s5.1.set s5.2.toNat (x8 (v2.1.Guests.getD d.G.toNat default).Pages s5.2.toNat default).Dirty))))))) λj6=>
   JO.run j6 (oK s5))
  (some (.ret (.go s5.1)))
def nG(d:DMove):Option (DMove×Bool):=
 x4 (kZ d) λv1=>
 x4 (qS d.From d.G) λv2=>
 cond (!v2.2)
  (some (v1,false))
  (x4 (grd ((0:Int)<=d.G/\d.G<((v2.1.Guests.length:Nat):Int)) (x4 (iter (fY d v2) (v1.Left,(0:Int))) LO.val)) λj3=>
   JO.run j3 (vX d v1 v2))
def g45:Sg tG:=⟨[.st 29],.two (.st 2029) .b,nG⟩
theorem s45:Sok 45 g45:=sgx [(97,.r g97),(98,.r g98),(99,.r g99)] ⟨s97,s98,s99,trivial⟩ (.s .o (.s .o (.s .o (.s .o (.j ⟨[1,2,4,5],[],[(.c 4 6,.ro 4)]⟩ (.s .o (.k (.l ⟨[1,2,4,5,28,29],[],[(.c 4 6,.ro 4),(.s 30,.i .i64)]⟩ (.s .o (.s .o (.j ⟨[1,2,4,5,28,29,30],[],[(.c 4 6,.ro 4)]⟩ .o .o)))))) (.s (.g [] [] [.fo (.c 5 1) 0]) .o)))))) kr kr kr
theorem aKj:LW 101 ⟨58,[.cell 8 true 2,.tmp 9],.seq (.reg false (rg 101 0)) (.seq (.seq (.reg false (rg 101 1)) (.cond (.t 14) (.seq (.reg false (rg 101 2)) .ret) .skip)) (.seq (.reg false (rg 101 3)) (.seq (.seq (.reg false (rg 101 4)) (.cond (.t 30) (.seq (.reg false (rg 101 5)) .ret) .skip)) (.seq (.reg false (rg 101 6)) (.seq (.seq (.reg false (rg 101 7)) (.cond (.t 40) (.seq (.reg false (rg 101 8)) .ret) .skip)) (.seq (.regd (rg 101 9) (rg 101 10)) (.seq (.reg false (rg 101 11)) .ret)))))))⟩:=kr
def iS(a4:DHost)(a:Int)(f:Int)(a3:List Int):Option (DHost×Bool):=
 x4 (mW a3) λv1=>
 cond v1
  (x4 (mY a4 a ([f]:List Int)) λv2=>
  some (v2.1,v2.2))
  (x4 (jT a4 a f) λv3=>
  cond (!v3.2)
   (some ((DHost.mk ([]:List Int) ([]:List DGuest)),false))
   (x4 (jX v3.1 a f) λv4=>
   cond (!v4.2)
    (some ((DHost.mk ([]:List Int) ([]:List DGuest)),false))
    (grd ((0:Int)<=a/\a<((v4.1.Guests.length:Nat):Int)) (grd ((0:Int)<=f/\f<((x9 (v4.1.Guests.getD a.toNat default).Pages:Nat):Int)) (x4 (gL v4.1.Words (x8 (v4.1.Guests.getD a.toNat default).Pages f.toNat default).Frame) λv5=>
     grd (v5.1.length=v4.1.Words.length) (grd (v5.2.1+v5.2.2<=v5.1.length) (some ((DHost.mk (over v5.1 v5.2.1 v5.2.2 a3) v4.1.Guests),true))))))))
theorem aOb{a4:DHost}{a:Int}{f:Int}{a3:List Int}{R_:DHost×Bool}(hh:iS a4 a f a3=some R_):Fn Tryz.prog 101 [.agg (dE a4),.int .i64 a,.int .i64 f,bo (eI .i64) a3] (.tup [.agg [.own 3 1 R_.1.Words.length (fl (eI .i64) R_.1.Words),.own 94 17 R_.1.Guests.length (fl dO R_.1.Guests)],.bool R_.2]):=by let z3:EH:=(0,some (rB26 a4));let z4:=(1,ii a);let z5:EH:=(1,some ⟨26,[.nil,.nil]⟩);let z6:=(12,pp 7);let z7:=(2,ii f);let z8:=(3,bo (eI .i64) a3);let z9:EV:=(47,.ptr 6 [] (0+a.toNat*17));let z10:EV:=(48,.ptr 6 [] (0+a.toNat*17+14));let z11:EV:=(51,.ptr 6 [0+a.toNat*17+14+0] (0+f.toNat*3));let z12:EV:=(52,.ptr 6 [0+a.toNat*17+14+0] (0+f.toNat*3+0));let z13:=(8,pp 1);unfold iS at hh;refine Fn.start aKj [0,1,2,3] (E:=sp 58 [(0,.agg (dE a4)),z4,z7,z8]) kr (v:= .tup [.agg [sw 0 R_.1.Words,.sref 1 [] 0 R_.1.Guests.length 17],bb R_.2]) (Hr:=[(1,some (rO94 R_.1.Guests)),(0,some (rI_3 R_.1.Words))]) (k:=2) kr (sy [1,2,3,4,8] [0,1] (sp 58 [z4,z7,z8,(4,pp 0),z13]) [z3,z5] 2 (Aw.seq (Aw.sreg [1,2,3,4,8,14] [0,1] (yj 1  (sp 58 [z4,z7,z8,(4,pp 0),z13,(13,bo (eI .i64) a3)]) [z3,z5] 2 ?_))));obtain⟨v1,hv1,hh⟩:=bind_some hh;refine ys (.call 152 [.t 13]) (some 14) (oc (aQd hv1) ?_);refine yt (sp 58 [z4,z7,z8,(4,pp 0),z13,(14,bb v1)]) [z3,z5] 2 ?_;rcases oW hh with⟨hb,hh⟩|⟨hb,hh⟩;{refine cT hb (Aw.sreg [8,9] [1,3,4] (yu 4 [(15,.agg (dE a4)),(16,ii a),(17,ii f),(18,.sref 2 [] 0 1 1)] [(2,some ⟨3,[ii f]⟩),z3,z5] 3 ?_));obtain⟨v2,hv2,hh⟩:=bind_some hh;let q1:Root:=(rO94 v2.1.Guests);let q2:Root:=(rI_3 v2.1.Words);refine ys (.call 153 [.t 15,.t 16,.t 18]) (some 19) (gZ (r:= .tup [.agg [.own 3 1 v2.1.Words.length (fl (eI .i64) v2.1.Words),.own 94 17 v2.1.Guests.length (fl dO v2.1.Guests)],bb v2.2]) (v:= .tup [.agg [sw 3 v2.1.Words,.sref 4 [] 0 v2.1.Guests.length 17],bb v2.2]) (Hr:=[(4,some q1),(3,some q2)]) (n':=5) (aRq hv2) (mJ (vs:=[.agg (dE a4),ii a,.sref 2 [] 0 1 1]) kr (fE (aE (mX (qL _))) (cz1 (fE (eT (c:=(eI .i64)) (xs:=([f]:List Int)) (e:=3) eqn cG dN dB kr) hO)))) nrr nrr kr ?_);refine yt (sp 58 [z13,(9,bb v2.2)]) [(1,some ⟨26,[sw 3 v2.1.Words,.sref 4 [] 0 v2.1.Guests.length 17]⟩),(3,some q2),(4,some q1)] 5 (Aw.ret (aDs ?_));rw[cI hh];exact nX (r':= .tup [.agg [sw 3 v2.1.Words,.sref 4 [] 0 v2.1.Guests.length 17],bb v2.2]) kr (Ent.list [some 3,some 4] rfl rfl (m9 _) (jI (fX rz)) (hn gX (hn bO cN)))};refine cF hb (Aw.xskip (λ_ _ _ hq=>aDe hq) (Aw.sreg [1,2,3,8,10,11] [1,2,3,4] (yj 3  (sp 58 [z4,z7,z8,(4,pp 0),z13,(14,bb v1),(23,.agg (dE a4)),(24,ii a),(25,ii f)]) [z3,z5] 2 ?_)));obtain⟨v3,hv3,hh⟩:=bind_some hh;let q3:Root:=(rO94 v3.1.Guests);let q4:Root:=(rI_3 v3.1.Words);refine ys (.call 154 [.t 23,.t 24,.t 25]) (some 26) (gZ (r:= .tup [.agg [.own 3 1 v3.1.Words.length (fl (eI .i64) v3.1.Words),.own 94 17 v3.1.Guests.length (fl dO v3.1.Guests)],bb v3.2]) (v:= .tup [.agg [sw 2 v3.1.Words,.sref 3 [] 0 v3.1.Guests.length 17],bb v3.2]) (Hr:=[(3,some q3),(2,some q4)]) (n':=4) (aQt hv3) (mJ (vs:=[.agg (dE a4),ii a,ii f]) kr (fE (aE (mX (qL _))) (cz1 (cz1 hO)))) nrr nrr kr ?_);let q5:Root:=⟨26,[sw 2 v3.1.Words,.sref 3 [] 0 v3.1.Guests.length 17]⟩;refine yt (sp 58 [z4,z7,z8,z13,(10,pp 4),(11,bb v3.2)]) [z5,(2,some q4),(3,some q3),(4,some q5)] 5 (Aw.seq (sy [1,2,3,8,10,30] [1,2,3,4] (sp 58 [z4,z7,z8,z13,(10,pp 4),(30,bb (!v3.2))]) [z5,(2,some q4),(3,some q3),(4,some q5)] 5 ?_));rcases oW hh with⟨hb,hh⟩|⟨hb,hh⟩;{refine cT hb (sy [8,9] [1] (sp 58 [z13,(9,bb false)]) [z5] 5 (Aw.ret (aDs ?_)));rw[cI hh];exact nX (r':= .tup [.agg [.nil,.nil],bb false]) kr (Ent.list [none,none] rfl rfl (m9 _) (jI (fX rz)) (iW dd rfl rfl (iW dd rfl rfl cN)))};refine cF hb (Aw.xskip (λ_ _ _ hq=>aDe hq) (Aw.sreg [1,2,3,8,11,12] [1,5,6,7] (yj 3  (sp 58 [z4,z7,z8,z13,(10,pp 4),(30,bb (!v3.2)),(33,.agg [sw 2 v3.1.Words,.sref 3 [] 0 v3.1.Guests.length 17]),(34,ii a),(35,ii f)]) [z5,(2,some q4),(3,some q3),(4,some q5)] 5 ?_)));obtain⟨v4,hv4,hh⟩:=bind_some hh;let z14:=(40,bb (!v4.2));let z15:=(43,sw 5 v4.1.Words);let z16:EV:=(45,.sref 6 [] 0 v4.1.Guests.length 17);let z1:=v4.1.Guests.getD a.toNat default;let z17:EV:=(49,.sref 6 [0+a.toNat*17+14+0] 0 (x9 z1.Pages) 3);let z2:=x8 z1.Pages f.toNat default;let q6:Root:=(rO94 v4.1.Guests);let z18:=(6,some q6);let q7:Root:=(rI_3 v4.1.Words);let z19:=(5,some q7);refine ys (.call 155 [.t 33,.t 34,.t 35]) (some 36) (gZ (r:= .tup [.agg [.own 3 1 v4.1.Words.length (fl (eI .i64) v4.1.Words),.own 94 17 v4.1.Guests.length (fl dO v4.1.Guests)],bb v4.2]) (v:= .tup [.agg [sw 5 v4.1.Words,.sref 6 [] 0 v4.1.Guests.length 17],bb v4.2]) (Hr:=[z18,z19]) (n':=7) (aQv hv4) (mJ (vs:=[.agg [sw 2 v3.1.Words,.sref 3 [] 0 v3.1.Guests.length 17],ii a,ii f]) kr (fE (bGi (aJ (eT (c:=(eI .i64)) (xs:=v3.1.Words) (e:=3) eqn cG dN dB kr) (aJ (aXn (B:=dI) (xs:=v3.1.Guests) (e:=94) aVz pQ eqn kr) yY))) (cz1 (cz1 hO)))) nrr nrr kr ?_);let q8:Root:=⟨26,[sw 5 v4.1.Words,.sref 6 [] 0 v4.1.Guests.length 17]⟩;let z20:=(7,some q8);refine yt (sp 58 [z4,z7,z8,z13,(11,bb v4.2),z6]) [z5,z19,z18,z20] 8 (Aw.seq (sy [1,2,3,8,12,40] [1,5,6,7] (sp 58 [z4,z7,z8,z13,z6,z14]) [z5,z19,z18,z20] 8 ?_));rcases oW hh with⟨hb,hh⟩|⟨hb,hh⟩;{refine cT hb (sy [8,9] [1] (sp 58 [z13,(9,bb false)]) [z5] 8 (Aw.ret (aDs ?_)));rw[cI hh];exact nX (r':= .tup [.agg [.nil,.nil],bb false]) kr (Ent.list [none,none] rfl rfl (m9 _) (jI (fX rz)) (iW dd rfl rfl (iW dd rfl rfl cN)))};refine cF hb (Aw.xskip (λ_ _ _ hq=>aDe hq) (Aw.sregd [8,12] [1,5,6,7] [5] kr ?_));obtain⟨hg8,hh⟩:=bD hh;refine dc (cs:=[(0:Int)<=a/\a<((v4.1.Guests.length:Nat):Int)]) (E':=(sp 58 [z4,z7,z8,z13,z6,z14,(42,pp 7),z15,(44,.ptr 7 [] 1),z16,(46,ii a),z9,z10])) (H':=[z5,z19,z18,z20]) (n':=8) (fs':=none) (pre:=(List.take 7 (rg 101 9))) (L':=(List.drop 7 (rg 101 9))) kr (λK=>by kernel_rfl) (.cons hg8 .nil) (ds (.load false 1 (.t 48)) (some 49) (aZi rfl kr (aWs (c:=dO) (xs:=v4.1.Guests) (e:=94) (r:=6) (π:=[]) (o:=0+a.toNat*17+14) (i:=a.toNat) (off:=14) (v:= .sref 6 [0+a.toNat*17+14+0] 0 (x9 z1.Pages) 3) pQ kr kr ltn ltn dd kr ?_)));obtain⟨hg7,hh⟩:=bD hh;refine dc (cs:=[(0:Int)<=f/\f<((x9 z1.Pages:Nat):Int)]) (E':=(sp 58 [z4,z7,z8,z13,z6,z14,(42,pp 7),z15,(44,.ptr 7 [] 1),z16,(46,ii a),z9,z10,z17,(50,ii f),z11,z12])) (H':=[z5,z19,z18,z20]) (n':=8) (fs':=none) (pre:=(List.take 3 (List.drop 8 (rg 101 9)))) (L':=(List.drop 11 (rg 101 9))) kr (λK=>by kernel_rfl) (.cons hg7 .nil) (ds (.load false 1 (.t 52)) (some 53) (aZi rfl kr (aWs (c:=dP) (xs:=z1.Pages) (e:=91) (r:=6) (π:=[0+a.toNat*17+14+0]) (o:=0+f.toNat*3+0) (i:=f.toNat) (off:=0) (v:=ii z2.Frame) rT kr (aFm (e:=94) (e':=91) (sz':=3) (m':=(x9 z1.Pages)) (cs':=(fl dP z1.Pages)) (c:=dO) (xs:=v4.1.Guests) (i:=a.toNat) (off:=14) pQ kr ltn ltn dd rfl kr) ltn ltn dd kr ?_)));obtain⟨v5,hv5,hh⟩:=bind_some hh;let z21:EH:=(5,some (rI_3 v5.1));obtain⟨hg5,hh⟩:=bD hh;obtain⟨hg6,hh⟩:=bD hh;refine ds (.call 151 [.t 43,.t 53]) (some 54) (yM rfl (cf (.sref 5 [] (0+v5.2.1*1) v5.2.2 1) [z21] 8 [5] (vC hv5) [sw 5 v4.1.Words,ii z2.Frame] rz (hn bO cN) wH (hn bO cN) ⟨⟨⟨by decide,aLa rfl rfl⟩,Hld.un ?_⟩⟩));refine dt (sp 58 [z4,z7,z8,z13,z6,z14,(42,pp 7),z15,(44,.ptr 7 [] 1),z16,(46,ii a),z9,z10,z17,(50,ii f),z11,z12,(53,ii z2.Frame),(54,.sref 5 [] (0+v5.2.1*1) v5.2.2 1),(55,bo (eI .i64) a3)]) [z21,(5,none),z5,z19,z18,z20] 8 ?_;let q9:Root:=(rI_3 (over v5.1 v5.2.1 v5.2.2 a3));refine ys (.cpy 1 (.t 54) (.t 55)) (some 56) (aLe (c:=(eI .i64)) (xs:=v5.1) (ys:=a3) (e:=3) (r:=5) (π:=[]) (o:=0+v5.2.1*1) (k:=v5.2.2) (i:=v5.2.1) (H':=[(5,some q9),z21,(5,none),z5,z19,z18,z20]) cG (rpv kr (aUk (c:=(eI .i64)) (xs:=a3) cG)) kr kr ltn ltn kr ?_);refine yt (sp 58 [z13,z6]) [z5,(5,some q9),z18,z20] 8 (sy [8,9] [1,5,6] (sp 58 [z13,(9,bb true)]) [(1,some q8),(5,some q9),z18] 8 (Aw.ret ?_));rw[cI hh];exact nX (r':= .tup [.agg [sw 5 v4.1.Words,.sref 6 [] 0 v4.1.Guests.length 17],bb true]) kr (Ent.list [some 5,some 6] rfl rfl (m9 _) (jI (fX rz)) (hn gX (hn bO cN)))
def cAm:Sg tG:=⟨[.st 26,.i .i64,.i .i64,.row 3],.two (.st 2026) .b,iS⟩
theorem cHr:Sok 101 cAm:=λa4 a f a3 R_ hh=>kc (aOb (a4:=a4) (a:=a) (f:=f) (a3:=a3) hh)
def qV(d:DMove)(f:Int):Option (DMove×Bool):=
 x4 (kZ d) λv1=>
 grd ((0:Int)<=d.G/\d.G<((d.From.Guests.length:Nat):Int)) (grd ((0:Int)<=f/\f<((x9 (d.From.Guests.getD d.G.toNat default).Pages:Nat):Int)) (x4 (bV d.From.Words (DSlot.mk (x8 (d.From.Guests.getD d.G.toNat default).Pages f.toNat default).Frame (x8 (d.From.Guests.getD d.G.toNat default).Pages f.toNat default).Write (x8 (d.From.Guests.getD d.G.toNat default).Pages f.toNat default).Dirty)) λv2=>
  x4 (iS d.To d.N f v2) λv3=>
  cond (!v3.2)
   (some (v1,false))
   (grd ((0:Int)<=f/\f<((v1.Left.length:Nat):Int)) (some ((DMove.mk v1.From v3.1 v1.G v1.N (v1.Left.set f.toNat false)),true)))))
def g47:Sg tG:=⟨[.st 29,.i .i64],.two (.st 2029) .b,qV⟩
theorem s47:Sok 47 g47:=sgx [(97,.r g97),(100,.r bKb),(101,.r cAm)] ⟨s97,bMx,cHr,trivial⟩ .o kr kr kr
def aRe(s2:Unit):Option (DMove×Bool):=some ((DMove.mk (DHost.mk ([]:List Int) ([]:List DGuest)) (DHost.mk ([]:List Int) ([]:List DGuest)) (0:Int) (0:Int) ([]:List Bool)),false)
def qA(d:DMove)(a6:DAct):Option (DMove×Bool):=
 x4 (qD d) λv1=>
 cond (!v1)
  (some ((DMove.mk (DHost.mk ([]:List Int) ([]:List DGuest)) (DHost.mk ([]:List Int) ([]:List DGuest)) (0:Int) (0:Int) ([]:List Bool)),false))
  (x4 (cond (decide (a6.Kind=(1:Int)))
   (x4 (nG d) λv3=>
   some (.out (v3.1,v3.2)))
   (cond (decide (a6.Kind=(2:Int)))
    (x4 (fR a6.Page) λv4=>
    cond v4
     (x4 (qV d a6.Page) λv5=>
     some (.out (v5.1,v5.2)))
     (some (.go ())))
    (some (.go ())))) λj2=>
   JO.run j2 aRe)
def g9:Sg tG:=⟨[.st 29,.st 31],.two (.st 2029) .b,qA⟩
theorem s9:Sok 9 g9:=sgx [(15,.r g15),(45,.r g45),(46,.r g46),(47,.r g47)] ⟨s15,s45,s46,s47,trivial⟩ (.s .o (.s .o (.j ⟨[4],[],[]⟩ .o .o))) kr kr kr
def uS(d:DMove)(a6:DAct)(v2:DMove)(v5:List Int)(s8:(List Int)×(List DGuest)×Bool):Option (DMove×Bool):=
 cond (!s8.2.2)
  (x4 (iH d) λv9=>
  some (v9,false))
  (grd ((0:Int)<=d.N/\d.N<((s8.2.1.length:Nat):Int)) (grd ((0:Int)<=a6.Page/\a6.Page<((x9 (s8.2.1.getD d.N.toNat default).Pages:Nat):Int)) (grd ((0:Int)<=(w64 ((x8 (s8.2.1.getD d.N.toNat default).Pages a6.Page.toNat default).Frame*(8:Int)))/\(w64 ((x8 (s8.2.1.getD d.N.toNat default).Pages a6.Page.toNat default).Frame*(8:Int)))<=((s8.1.length:Nat):Int)/\((s8.1.length:Nat):Int)<=((s8.1.length:Nat):Int)) (some ((DMove.mk v2.From (DHost.mk (over s8.1 (x7 (w64 ((x8 (s8.2.1.getD d.N.toNat default).Pages a6.Page.toNat default).Frame*(8:Int)))) (x7 ((s8.1.length:Nat):Int)-x7 (w64 ((x8 (s8.2.1.getD d.N.toNat default).Pages a6.Page.toNat default).Frame*(8:Int)))) v5) s8.2.1) v2.G v2.N (v2.Left.set a6.Page.toNat false)),true)))))
def aDq(d:DMove)(a6:DAct)(v2:DMove)(v5:List Int)(s6:Bool):Option (DMove×Bool):=
 grd ((0:Int)<=a6.Page/\a6.Page<((v2.Left.length:Nat):Int)) (cond s6
  (grd ((0:Int)<=d.N/\d.N<((v2.To.Guests.length:Nat):Int)) (grd ((0:Int)<=a6.Page/\a6.Page<((x9 (v2.To.Guests.getD d.N.toNat default).Pages:Nat):Int)) (some ((DMove.mk v2.From (DHost.mk v2.To.Words (v2.To.Guests.set d.N.toNat (DGuest.mk (v2.To.Guests.getD d.N.toNat default).Live (DCore.mk ((v2.To.Guests.getD d.N.toNat default).C).Regs ((v2.To.Guests.getD d.N.toNat default).C).Pc ((v2.To.Guests.getD d.N.toNat default).C).Root ((v2.To.Guests.getD d.N.toNat default).C).Vector ((v2.To.Guests.getD d.N.toNat default).C).Saved ((v2.To.Guests.getD d.N.toNat default).C).SavedUser ((v2.To.Guests.getD d.N.toNat default).C).Cause ((v2.To.Guests.getD d.N.toNat default).C).Bad ((v2.To.Guests.getD d.N.toNat default).C).Timer ((v2.To.Guests.getD d.N.toNat default).C).Waits ((v2.To.Guests.getD d.N.toNat default).C).User ((v2.To.Guests.getD d.N.toNat default).C).On ((v2.To.Guests.getD d.N.toNat default).C).Stopped) (qXU (v2.To.Guests.getD d.N.toNat default).Pages a6.Page.toNat (DSlot.mk (-1:Int) false false)) (v2.To.Guests.getD d.N.toNat default).In (v2.To.Guests.getD d.N.toNat default).Out))) v2.G v2.N (v2.Left.set a6.Page.toNat false)),true))))
  (x4 (gK v2.To d.N a6.Page) λv7=>
  x4 (cond v7.2
   (x4 (gM v7.1 d.N a6.Page) λv10=>
   some (.go (v10.1.Words,v10.1.Guests,v10.2)))
   (some (.go (v7.1.Words,v7.1.Guests,v7.2)))) λj8=>
   JO.run j8 (uS d a6 v2 v5)))
def tY(s11:Bool×Int)(s12:Bool):Option (LO (Bool×Int) (JO Bool (DMove×Bool))):=some (.next (s12,w64 (s11.2+(1:Int))))
def kL(v5:List Int)(s11:Bool×Int):Option (LO (Bool×Int) (JO Bool (DMove×Bool))):=
 cond (decide (s11.2<(8:Int)))
  (x4 (cond s11.1
   (grd ((0:Int)<=s11.2/\s11.2<((v5.length:Nat):Int)) (some (.go (decide ((v5.getD s11.2.toNat default)=(0:Int))))))
   (some (.go false))) λj12=>
   JO.run j12 (tY s11))
  (some (.ret (.go s11.1)))
def aCu(d:DMove)(a6:DAct)(v2:DMove)(s3:Unit):Option (DMove×Bool):=
 cond (!decide (a6.Kind=(2:Int)))
  (some ((DMove.mk (DHost.mk ([]:List Int) ([]:List DGuest)) (DHost.mk ([]:List Int) ([]:List DGuest)) (0:Int) (0:Int) ([]:List Bool)),false))
  (x4 (bU a6.Page (0:Int) (7:Int)) λv4=>
  cond (!v4)
   (some ((DMove.mk (DHost.mk ([]:List Int) ([]:List DGuest)) (DHost.mk ([]:List Int) ([]:List DGuest)) (0:Int) (0:Int) ([]:List Bool)),false))
   (x4 (lP d.From d.G a6.Page) λv5=>
   x4 (x4 (iter (kL v5) (true,(0:Int))) LO.val) λj6=>
    JO.run j6 (aDq d a6 v2 v5)))
def aAv(v2:DMove)(v13:DHost×Bool)(s15:(List Bool)×(List DGuest)):Option (JO Unit (DMove×Bool)):=some (.out ((DMove.mk (DHost.mk v13.1.Words s15.2) v2.To v2.G v2.N s15.1),true))
def tP(s16:(List Bool)×(List DGuest)×Int)(s17:(List Bool)×(List DGuest)):Option (LO ((List Bool)×(List DGuest)×Int) (JO ((List Bool)×(List DGuest)) (JO Unit (DMove×Bool)))):=some (.next (s17.1,s17.2,w64 (s16.2.2+(1:Int))))
def kU(d:DMove)(s16:(List Bool)×(List DGuest)×Int):Option (LO ((List Bool)×(List DGuest)×Int) (JO ((List Bool)×(List DGuest)) (JO Unit (DMove×Bool)))):=
 cond (decide (s16.2.2<(8:Int)))
  (x4 (grd ((0:Int)<=d.G/\d.G<((s16.2.1.length:Nat):Int)) (grd ((0:Int)<=s16.2.2/\s16.2.2<((x9 (s16.2.1.getD d.G.toNat default).Pages:Nat):Int)) (cond (x8 (s16.2.1.getD d.G.toNat default).Pages s16.2.2.toNat default).Dirty
   (grd ((0:Int)<=d.G/\d.G<((s16.2.1.length:Nat):Int)) (grd ((0:Int)<=s16.2.2/\s16.2.2<((x9 (s16.2.1.getD d.G.toNat default).Pages:Nat):Int)) (grd ((0:Int)<=s16.2.2/\s16.2.2<((s16.1.length:Nat):Int)) (some (.go ((s16.1.set s16.2.2.toNat true),s16.2.1.set d.G.toNat (DGuest.mk (s16.2.1.getD d.G.toNat default).Live (DCore.mk ((s16.2.1.getD d.G.toNat default).C).Regs ((s16.2.1.getD d.G.toNat default).C).Pc ((s16.2.1.getD d.G.toNat default).C).Root ((s16.2.1.getD d.G.toNat default).C).Vector ((s16.2.1.getD d.G.toNat default).C).Saved ((s16.2.1.getD d.G.toNat default).C).SavedUser ((s16.2.1.getD d.G.toNat default).C).Cause ((s16.2.1.getD d.G.toNat default).C).Bad ((s16.2.1.getD d.G.toNat default).C).Timer ((s16.2.1.getD d.G.toNat default).C).Waits ((s16.2.1.getD d.G.toNat default).C).User ((s16.2.1.getD d.G.toNat default).C).On ((s16.2.1.getD d.G.toNat default).C).Stopped) (qXU (s16.2.1.getD d.G.toNat default).Pages s16.2.2.toNat (DSlot.mk (x8 (s16.2.1.getD d.G.toNat default).Pages s16.2.2.toNat default).Frame (x8 (s16.2.1.getD d.G.toNat default).Pages s16.2.2.toNat default).Write false)) (s16.2.1.getD d.G.toNat default).In (s16.2.1.getD d.G.toNat default).Out)))))))
   (some (.go (s16.1,s16.2.1)))))) λj17=>
   JO.run j17 (tP s16))
  (some (.ret (.go (s16.1,s16.2.1))))
def kB(d:DMove)(a6:DAct):Option (DMove×Bool):=
 x4 (qE d) λv1=>
 cond (!v1)
  (some ((DMove.mk (DHost.mk ([]:List Int) ([]:List DGuest)) (DHost.mk ([]:List Int) ([]:List DGuest)) (0:Int) (0:Int) ([]:List Bool)),false))
  (x4 (iH d) λv2=>
  x4 (cond (decide (a6.Kind=(1:Int)))
   (x4 (qW v2.From d.G) λv13=>
   cond (!v13.2)
    (x4 (iH d) λv14=>
    some (.out (v14,false)))
    (x4 (x4 (iter (kU d) (v2.Left,v13.1.Guests,(0:Int))) LO.val) λj15=>
     JO.run j15 (aAv v2 v13)))
   (some (.go ()))) λj3=>
   JO.run j3 (aCu d a6 v2))
def g10:Sg tG:=⟨[.st 29,.st 31],.two (.st 2029) .b,kB⟩
theorem s10:Sok 10 g10:=sgx [(48,.r g48),(49,.r g49),(50,.r g50),(51,.r g51),(52,.r g52),(53,.r g53),(54,.r g54)] ⟨s48,s49,s50,s51,s52,s53,s54,trivial⟩ (.s .o (.s .o (.s .o (.j ⟨[2,3,4,6],[],[]⟩ (.s .o (.c (.s .o (.s .o (.j ⟨[4,6,7],[],[(.c 6 6,.ro 4),(.c 7 1,.ro 1094)]⟩ (.s .o (.k (.l ⟨[2,4,6,7],[],[(.c 6 6,.ro 4),(.c 7 1,.ro 1094),(.s 9,.i .i64)]⟩ (.s .o (.j ⟨[2,4,6,7,9],[],[(.c 6 6,.ro 4),(.c 7 1,.ro 1094)]⟩ .o .o))))) .o))) .o)) (.s .o (.s .o (.s .o (.j ⟨[2,3,4,6,10],[],[(.s 11,.b)]⟩ (.s .o (.k (.l ⟨[2,3,4,6,10],[],[(.s 11,.b),(.s 12,.i .i64)]⟩ (.s .o (.j ⟨[2,3,4,6,10,12],[],[(.s 11,.b)]⟩ .o .o))))) (.s .o (.s .o (.s .o (.j ⟨[2,3,4,6,10,13],[],[(.c 13 0,.ro 3),(.c 13 1,.ro 1094),(.s 14,.b)]⟩ .o .o)))))))))))) kr kr kr
def uI(b7:Dl20Rd)(b8:Int):Option (Dl20Rd×DAct):=
 x4 (bZ b7 b8) λv1=>
 cond v1.2
  (x4 (aA v1.1 (4:Int)) λv2=>
  x4 (aA v2.1 (10:Int)) λv3=>
  some (v3.1,DAct.mk v2.2 (w64 (v3.2-(1:Int)))))
  (x4 (aA v1.1 (3:Int)) λv4=>
  cond (decide (v4.2=(0:Int)))
   (x4 (aA v4.1 (8:Int)) λv5=>
   some (v5.1,DAct.mk (2:Int) v5.2))
   (some (v4.1,DAct.mk (1:Int) (0:Int))))
def g44:Sw tG:=⟨[.pt 128,.v (.i .i64)],.one (.st 31),uI⟩
theorem s44:Sjk 44 g44:=sgy [(96,.w g96),(64,.w g64)] ⟨s96,s64,trivial⟩ .o kr kr kr
def aKs(s1:(List Int)×(List DGuest)×(List Int)×(List DGuest)×Int×Int×(List Bool)×Int):Option (DMove×Int):=some ((DMove.mk (DHost.mk s1.1 s1.2.1) (DHost.mk s1.2.2.1 s1.2.2.2.1) s1.2.2.2.2.1 s1.2.2.2.2.2.1 s1.2.2.2.2.2.2.1),s1.2.2.2.2.2.2.2)
def nN(s2:(List Int)×(List DGuest)×(List Int)×(List DGuest)×Int×Int×(List Bool)×Int×Int)(s3:(List Int)×(List DGuest)×(List Int)×(List DGuest)×Int×Int×(List Bool)×Int):Option (LO ((List Int)×(List DGuest)×(List Int)×(List DGuest)×Int×Int×(List Bool)×Int×Int) (JO ((List Int)×(List DGuest)×(List Int)×(List DGuest)×Int×Int×(List Bool)×Int) (DMove×Int))):=some (.next (s3.1,s3.2.1,s3.2.2.1,s3.2.2.2.1,s3.2.2.2.2.1,s3.2.2.2.2.2.1,s3.2.2.2.2.2.2.1,s3.2.2.2.2.2.2.2,w64 (s2.2.2.2.2.2.2.2.2+(1:Int))))
def jC(a2:List DAct)(s2:(List Int)×(List DGuest)×(List Int)×(List DGuest)×Int×Int×(List Bool)×Int×Int):Option (LO ((List Int)×(List DGuest)×(List Int)×(List DGuest)×Int×Int×(List Bool)×Int×Int) (JO ((List Int)×(List DGuest)×(List Int)×(List DGuest)×Int×Int×(List Bool)×Int) (DMove×Int))):=
 cond (decide (s2.2.2.2.2.2.2.2.2<((a2.length:Nat):Int)))
  (x4 (grd ((0:Int)<=s2.2.2.2.2.2.2.2.2/\s2.2.2.2.2.2.2.2.2<((a2.length:Nat):Int)) (x4 (qA (DMove.mk (DHost.mk s2.1 s2.2.1) (DHost.mk s2.2.2.1 s2.2.2.2.1) s2.2.2.2.2.1 s2.2.2.2.2.2.1 s2.2.2.2.2.2.2.1) (DAct.mk (a2.getD s2.2.2.2.2.2.2.2.2.toNat default).Kind (a2.getD s2.2.2.2.2.2.2.2.2.toNat default).Page)) λv4=>
   cond (!v4.2)
    (some (.go (s2.1,s2.2.1,s2.2.2.1,s2.2.2.2.1,s2.2.2.2.2.1,s2.2.2.2.2.2.1,s2.2.2.2.2.2.2.1,s2.2.2.2.2.2.2.2.1)))
    (cond (decide ((a2.getD s2.2.2.2.2.2.2.2.2.toNat default).Kind=(1:Int)))
     (some (.go (v4.1.From.Words,v4.1.From.Guests,v4.1.To.Words,v4.1.To.Guests,v4.1.G,v4.1.N,v4.1.Left,w64 (s2.2.2.2.2.2.2.2.1+(1:Int)))))
     (some (.go (v4.1.From.Words,v4.1.From.Guests,v4.1.To.Words,v4.1.To.Guests,v4.1.G,v4.1.N,v4.1.Left,s2.2.2.2.2.2.2.2.1)))))) λj3=>
   JO.run j3 (nN s2))
  (some (.ret (.go (s2.1,s2.2.1,s2.2.2.1,s2.2.2.2.1,s2.2.2.2.2.1,s2.2.2.2.2.2.1,s2.2.2.2.2.2.2.1,s2.2.2.2.2.2.2.2.1))))
def jV(d:DMove)(a2:List DAct):Option (DMove×Int):=
 x4 (x4 (iter (jC a2) (d.From.Words,d.From.Guests,d.To.Words,d.To.Guests,d.G,d.N,d.Left,(0:Int),(0:Int))) LO.val) λj1=>
  JO.run j1 aKs
def g78:Sg tG:=⟨[.st 29,.row 31],.two (.sb 29) (.i .i64),jV⟩
theorem s78:Sok 78 g78:=sgx [(9,.r g9)] ⟨s9,trivial⟩ (.s .o (.s .o (.j ⟨[2,4],[],[(.c 2 0,.rb 3),(.c 2 1,.rb 94),(.c 2 2,.rb 3),(.c 2 3,.rb 94),(.c 2 4,.i .i64),(.c 2 5,.i .i64),(.c 2 6,.rb 4),(.s 6,.i .i64)]⟩ (.s .o (.k (.l ⟨[2,4,11,12],[],[(.c 2 0,.rb 3),(.c 2 1,.rb 94),(.c 2 2,.rb 3),(.c 2 3,.rb 94),(.c 2 4,.i .i64),(.c 2 5,.i .i64),(.c 2 6,.rb 4),(.s 6,.i .i64),(.s 13,.i .i64)]⟩ (.s .o (.s .o (.j ⟨[2,4,11,12,13],[],[(.c 2 0,.rb 3),(.c 2 1,.rb 94),(.c 2 2,.rb 3),(.c 2 3,.rb 94),(.c 2 4,.i .i64),(.c 2 5,.i .i64),(.c 2 6,.rb 4),(.s 6,.i .i64)]⟩ (.k (.s .o (.s .o (.s (.s (.g [.fr (.c 9 0) 0,.fr (.c 9 1) 0,.fr (.c 9 2) 0,.fr (.c 9 3) 0,.fr (.c 9 6) 0] [] []) .o) .o)))) .o)))))) .o))) kr kr kr
def sO(h:DHost)(a1:DHost)(a:Int)(a2:List DAct):Option (DHost×DHost×Int×Int×Bool):=
 x4 (iJ h a1 a) λv1=>
 cond (!v1.2)
  (some ((DHost.mk ([]:List Int) ([]:List DGuest)),DHost.mk ([]:List Int) ([]:List DGuest),(-1:Int),(0:Int),false))
  (cond (decide ((100:Int)<((a2.length:Nat):Int)))
   (some ((DHost.mk ([]:List Int) ([]:List DGuest)),DHost.mk ([]:List Int) ([]:List DGuest),(-1:Int),(0:Int),false))
   (x4 (jV v1.1 a2) λv2=>
   x4 (oM v2.1.Left) λv3=>
   x4 (jV v2.1 v3) λv4=>
   x4 (oH v4.1) λv5=>
   cond (!v5.2.2)
    (some ((DHost.mk ([]:List Int) ([]:List DGuest)),DHost.mk ([]:List Int) ([]:List DGuest),(-1:Int),(0:Int),false))
    (some (v5.1,v5.2.1,v4.1.N,v2.2,true))))
def g24:Sg tG:=⟨[.st 26,.st 26,.i .i64,.row 31],.tup (.st 2026) (.st 2026) [.i .i64,.i .i64,.b],sO⟩
theorem s24:Sok 24 g24:=sgx [(77,.r g77),(78,.r g78),(65,.r g65),(19,.r g19)] ⟨s77,s78,s65,s19,trivial⟩ (.s .o (.s .o (.s .o (.s (.g [.fr (.c 13 0) 0,.fr (.c 13 1) 0,.fr (.c 13 2) 0,.fr (.c 13 3) 0,.fr (.c 13 6) 0] [] []) (.s (.m [10]) (.s .o (.s .o (.s (.m [2,3]) .o)))))))) kr kr kr
def aAl(s2:(List Int)×(List DGuest)×(List Int)×(List DGuest)×Int×Int×(List Bool)×Int)(s3:(List Int)×(List DGuest)×(List Int)×(List DGuest)×Int×Int×(List Bool)):Option (DHost×DHost×Int×Int×Bool):=
 x4 (oO (DMove.mk (DHost.mk s3.1 s3.2.1) (DHost.mk s3.2.2.1 s3.2.2.2.1) s3.2.2.2.2.1 s3.2.2.2.2.2.1 s3.2.2.2.2.2.2)) λv4=>
 cond (!v4.2.2)
  (some ((DHost.mk ([]:List Int) ([]:List DGuest)),DHost.mk ([]:List Int) ([]:List DGuest),(-1:Int),(0:Int),false))
  (some (v4.1,v4.2.1,s3.2.2.2.2.2.1,s2.2.2.2.2.2.2.2,true))
def tM(s5:(List Int)×(List DGuest)×(List Int)×(List DGuest)×Int×Int×(List Bool)×Int)(s6:(List Int)×(List DGuest)×(List Int)×(List DGuest)×Int×Int×(List Bool)):Option (LO ((List Int)×(List DGuest)×(List Int)×(List DGuest)×Int×Int×(List Bool)×Int) (JO ((List Int)×(List DGuest)×(List Int)×(List DGuest)×Int×Int×(List Bool)) (DHost×DHost×Int×Int×Bool))):=some (.next (s6.1,s6.2.1,s6.2.2.1,s6.2.2.2.1,s6.2.2.2.2.1,s6.2.2.2.2.2.1,s6.2.2.2.2.2.2,w64 (s5.2.2.2.2.2.2.2+(1:Int))))
def kW(s5:(List Int)×(List DGuest)×(List Int)×(List DGuest)×Int×Int×(List Bool)×Int):Option (LO ((List Int)×(List DGuest)×(List Int)×(List DGuest)×Int×Int×(List Bool)×Int) (JO ((List Int)×(List DGuest)×(List Int)×(List DGuest)×Int×Int×(List Bool)) (DHost×DHost×Int×Int×Bool))):=
 cond (decide (s5.2.2.2.2.2.2.2<(8:Int)))
  (x4 (grd ((0:Int)<=s5.2.2.2.2.2.2.2/\s5.2.2.2.2.2.2.2<((s5.2.2.2.2.2.2.1.length:Nat):Int)) (cond (s5.2.2.2.2.2.2.1.getD s5.2.2.2.2.2.2.2.toNat default)
   (x4 (kB (DMove.mk (DHost.mk s5.1 s5.2.1) (DHost.mk s5.2.2.1 s5.2.2.2.1) s5.2.2.2.2.1 s5.2.2.2.2.2.1 s5.2.2.2.2.2.2.1) (DAct.mk (2:Int) s5.2.2.2.2.2.2.2)) λv7=>
   cond (!v7.2)
    (some (.out (.ret (.out ((DHost.mk ([]:List Int) ([]:List DGuest)),DHost.mk ([]:List Int) ([]:List DGuest),(-1:Int),(0:Int),false)))))
    (some (.go (v7.1.From.Words,v7.1.From.Guests,v7.1.To.Words,v7.1.To.Guests,v7.1.G,v7.1.N,v7.1.Left))))
   (some (.go (s5.1,s5.2.1,s5.2.2.1,s5.2.2.2.1,s5.2.2.2.2.1,s5.2.2.2.2.2.1,s5.2.2.2.2.2.2.1))))) λj6=>
   JO.run j6 (tM s5))
  (some (.ret (.go (s5.1,s5.2.1,s5.2.2.1,s5.2.2.2.1,s5.2.2.2.2.1,s5.2.2.2.2.2.1,s5.2.2.2.2.2.2.1))))
def tF(s2:(List Int)×(List DGuest)×(List Int)×(List DGuest)×Int×Int×(List Bool)×Int):Option (DHost×DHost×Int×Int×Bool):=
 x4 (x4 (iter kW (s2.1,s2.2.1,s2.2.2.1,s2.2.2.2.1,s2.2.2.2.2.1,s2.2.2.2.2.2.1,s2.2.2.2.2.2.2.1,(0:Int))) LO.val) λj3=>
  JO.run j3 (aAl s2)
def oA(s8:(List Int)×(List DGuest)×(List Int)×(List DGuest)×Int×Int×(List Bool)×Int×Int)(s9:(List Int)×(List DGuest)×(List Int)×(List DGuest)×Int×Int×(List Bool)×Int):Option (LO ((List Int)×(List DGuest)×(List Int)×(List DGuest)×Int×Int×(List Bool)×Int×Int) (JO ((List Int)×(List DGuest)×(List Int)×(List DGuest)×Int×Int×(List Bool)×Int) (DHost×DHost×Int×Int×Bool))):=some (.next (s9.1,s9.2.1,s9.2.2.1,s9.2.2.2.1,s9.2.2.2.2.1,s9.2.2.2.2.2.1,s9.2.2.2.2.2.2.1,s9.2.2.2.2.2.2.2,w64 (s8.2.2.2.2.2.2.2.2+(1:Int))))
def kT(a2:List DAct)(s8:(List Int)×(List DGuest)×(List Int)×(List DGuest)×Int×Int×(List Bool)×Int×Int):Option (LO ((List Int)×(List DGuest)×(List Int)×(List DGuest)×Int×Int×(List Bool)×Int×Int) (JO ((List Int)×(List DGuest)×(List Int)×(List DGuest)×Int×Int×(List Bool)×Int) (DHost×DHost×Int×Int×Bool))):=
 cond (decide (s8.2.2.2.2.2.2.2.2<((a2.length:Nat):Int)))
  (x4 (grd ((0:Int)<=s8.2.2.2.2.2.2.2.2/\s8.2.2.2.2.2.2.2.2<((a2.length:Nat):Int)) (x4 (kB (DMove.mk (DHost.mk s8.1 s8.2.1) (DHost.mk s8.2.2.1 s8.2.2.2.1) s8.2.2.2.2.1 s8.2.2.2.2.2.1 s8.2.2.2.2.2.2.1) (DAct.mk (a2.getD s8.2.2.2.2.2.2.2.2.toNat default).Kind (a2.getD s8.2.2.2.2.2.2.2.2.toNat default).Page)) λv10=>
   cond v10.2
    (grd ((0:Int)<=s8.2.2.2.2.2.2.2.2/\s8.2.2.2.2.2.2.2.2<((a2.length:Nat):Int)) (cond (decide ((a2.getD s8.2.2.2.2.2.2.2.2.toNat default).Kind=(1:Int)))
     (some (.go (v10.1.From.Words,v10.1.From.Guests,v10.1.To.Words,v10.1.To.Guests,v10.1.G,v10.1.N,v10.1.Left,w64 (s8.2.2.2.2.2.2.2.1+(1:Int)))))
     (some (.go (v10.1.From.Words,v10.1.From.Guests,v10.1.To.Words,v10.1.To.Guests,v10.1.G,v10.1.N,v10.1.Left,s8.2.2.2.2.2.2.2.1)))))
    (some (.go (s8.1,s8.2.1,s8.2.2.1,s8.2.2.2.1,s8.2.2.2.2.1,s8.2.2.2.2.2.1,s8.2.2.2.2.2.2.1,s8.2.2.2.2.2.2.2.1))))) λj9=>
   JO.run j9 (oA s8))
  (some (.ret (.go (s8.1,s8.2.1,s8.2.2.1,s8.2.2.2.1,s8.2.2.2.2.1,s8.2.2.2.2.2.1,s8.2.2.2.2.2.2.1,s8.2.2.2.2.2.2.2.1))))
def sT(h:DHost)(a1:DHost)(a:Int)(a2:List DAct):Option (DHost×DHost×Int×Int×Bool):=
 x4 (pM h a1 a) λv1=>
 cond (!v1.2)
  (some ((DHost.mk ([]:List Int) ([]:List DGuest)),DHost.mk ([]:List Int) ([]:List DGuest),(-1:Int),(0:Int),false))
  (cond (decide ((100:Int)<((a2.length:Nat):Int)))
   (some ((DHost.mk ([]:List Int) ([]:List DGuest)),DHost.mk ([]:List Int) ([]:List DGuest),(-1:Int),(0:Int),false))
   (x4 (x4 (iter (kT a2) (v1.1.From.Words,v1.1.From.Guests,v1.1.To.Words,v1.1.To.Guests,v1.1.G,v1.1.N,v1.1.Left,(0:Int),(0:Int))) LO.val) λj2=>
    JO.run j2 tF))
def g25:Sg tG:=⟨[.st 26,.st 26,.i .i64,.row 31],.tup (.st 2026) (.st 2026) [.i .i64,.i .i64,.b],sT⟩
theorem s25:Sok 25 g25:=sgx [(79,.r g79),(10,.r g10),(20,.r g20)] ⟨s79,s10,s20,trivial⟩ (.s .o (.s .o (.s (.s (.g [.fr (.c 13 0) 0,.fr (.c 13 1) 0,.fr (.c 13 2) 0,.fr (.c 13 3) 0,.fr (.c 13 6) 0] [] []) .o) (.s .o (.j ⟨[8,9,13],[],[(.c 13 0,.rb 3),(.c 13 1,.rb 94),(.c 13 2,.rb 3),(.c 13 3,.rb 94),(.c 13 4,.i .i64),(.c 13 5,.i .i64),(.c 13 6,.rb 4),(.s 15,.i .i64)]⟩ (.s .o (.k (.l ⟨[3,8,9,13],[],[(.c 13 0,.rb 3),(.c 13 1,.rb 94),(.c 13 2,.rb 3),(.c 13 3,.rb 94),(.c 13 4,.i .i64),(.c 13 5,.i .i64),(.c 13 6,.rb 4),(.s 15,.i .i64),(.s 16,.i .i64)]⟩ (.s .o (.j ⟨[3,8,9,13,16],[],[(.c 13 0,.rb 3),(.c 13 1,.rb 94),(.c 13 2,.rb 3),(.c 13 3,.rb 94),(.c 13 4,.i .i64),(.c 13 5,.i .i64),(.c 13 6,.rb 4),(.s 15,.i .i64)]⟩ (.k (.s .o (.s (.g [.fr (.c 17 0) 0,.fr (.c 17 1) 0,.fr (.c 17 2) 0,.fr (.c 17 3) 0,.fr (.c 17 6) 0] [] []) .o))) .o))))) (.j ⟨[8,9,13,15],[],[(.c 13 0,.rb 3),(.c 13 1,.rb 94),(.c 13 2,.rb 3),(.c 13 3,.rb 94),(.c 13 4,.i .i64),(.c 13 5,.i .i64),(.c 13 6,.rb 4)]⟩ (.s .o (.k (.l ⟨[8,9,13,15],[],[(.c 13 0,.rb 3),(.c 13 1,.rb 94),(.c 13 2,.rb 3),(.c 13 3,.rb 94),(.c 13 4,.i .i64),(.c 13 5,.i .i64),(.c 13 6,.rb 4),(.s 19,.i .i64)]⟩ (.s .o (.j ⟨[8,9,13,15,19],[],[(.c 13 0,.rb 3),(.c 13 1,.rb 94),(.c 13 2,.rb 3),(.c 13 3,.rb 94),(.c 13 4,.i .i64),(.c 13 5,.i .i64),(.c 13 6,.rb 4)]⟩ (.k (.s .o (.c (.s .o (.s (.s (.g [.fr (.c 20 0) 0,.fr (.c 20 1) 0,.fr (.c 20 2) 0,.fr (.c 20 3) 0,.fr (.c 20 6) 0] [] []) .o) .o)) .o))) .o))))) (.s .o (.s .o (.s (.m [2,3]) .o))))))))) kr kr kr
def vZ(v2:Dl20Rd×DHost)(v3:Dl20Rd×DHost)(s4:(List Int)×Int×(List DAct)):Option (DHost×DHost×Int×(List DAct)):=
 x4 (wD (Dl20Rd.mk s4.1 s4.2.1) v2.2) λv5=>
 some (v2.2,v3.2,v5.2,s4.2.2)
def oR(s7:(List Int)×Int×(List DAct)×Int):Option (LO ((List Int)×Int×(List DAct)×Int) (JO ((List Int)×Int×(List DAct)) (DHost×DHost×Int×(List DAct)))):=
 cond (decide ((0:Int)<s7.2.2.2))
  (x4 (uI (Dl20Rd.mk s7.1 s7.2.1) (15:Int)) λv8=>
  grd ((s7.2.2.1.length+x9 ([v8.2]:List DAct))*16<=2^47/\s7.2.2.1.length+x9 ([v8.2]:List DAct)<=2^47) (some (.next (v8.1.b,v8.1.p,s7.2.2.1++([v8.2]:List DAct),w64 (s7.2.2.2-(1:Int))))))
  (some (.ret (.go (s7.1,s7.2.1,s7.2.2.1))))
def nF(a7:List Int):Option (DHost×DHost×Int×(List DAct)):=
 x4 (lN a7) λv1=>
 x4 (oJ v1 (20:Int)) λv2=>
 x4 (uG v2.1) λv3=>
 x4 (x4 (aA v3.1 (24:Int)) λv6=>
  x4 (iter oR (v6.1.b,v6.1.p,([]:List DAct),v6.2)) LO.val) λj4=>
  JO.run j4 (vZ v2 v3)
def g23:Sg tG:=⟨[.row 5],.tup (.sb 26) (.sb 26) [.i .i64,.rb 31],nF⟩
theorem s23:Sok 23 g23:=sgx [(42,.o g42),(74,.w g74),(75,.w g75),(64,.w g64),(44,.w g44),(76,.w g76)] ⟨s42,s74,s75,s64,s44,s76,trivial⟩ (.s .o (.s .o (.s .o (.s .o (.s .o (.j ⟨[2,3,6,7,8],[],[(.c 6 0,.rb 5),(.c 6 1,.i .i64),(.s 9,.ro 31)]⟩ (.s .o (.k (.l ⟨[2,3,6,7,8],[],[(.c 6 0,.rb 5),(.c 6 1,.i .i64),(.s 9,.ro 31),(.s 10,.i .i64)]⟩ .o))) (.s (.g [.fr (.c 7 0) 0,.fr (.c 7 1) 0] [0,1,2] []) .o))))))) kr kr kr
def mG(a7:List Int):Option Bool:=
 cond (decide ((1048576:Int)<((a7.length:Nat):Int)))
  (some true)
  (x4 (nF a7) λv1=>
  x4 (sO v1.1 v1.2.1 v1.2.2.1 v1.2.2.2) λv2=>
  x4 (sT v1.1 v1.2.1 v1.2.2.1 v1.2.2.2) λv3=>
  cond (!(v2.2.2.2.2==v3.2.2.2.2))
   (some false)
   (cond (!decide (v2.2.2.1=v3.2.2.1))
    (some false)
    (cond (!decide (v2.2.2.2.1=v3.2.2.2.1))
     (some false)
     (x4 (nI v2.1 v3.1) λv4=>
     cond (!v4)
      (some false)
      (x4 (nI v2.2.1 v3.2.1) λv5=>
      cond (!v5)
       (some false)
       (cond (!v2.2.2.2.2)
        (cond (decide (v2.2.2.1=(-1:Int)))
         (x4 rV  λv6=>
         some v6)
         (some false))
        (x4 (gS v1.1 v1.2.2.1) λv7=>
        x4 (gS v2.2.1 v2.2.2.1) λv8=>
        cond v8.2
         (x4 (sF v7.1 v2.2.2.2.1) λv9=>
         x4 (mZ v8.1 v9) λv10=>
         cond v10
          (x4 (mA v1.1 v2.1 v1.2.2.1) λv11=>
          cond v11
           (x4 (mA v1.2.1 v2.2.1 v2.2.2.1) λv12=>
           some v12)
           (some false))
          (some false))
         (some false))))))))
def g5:Sg tG:=⟨[.row 5],.one .b,mG⟩
theorem s5:Sok 5 g5:=sgx [(23,.r g23),(24,.r g24),(25,.r g25),(21,.r g21),(12,.r g12),(13,.r g13),(26,.r g26),(16,.r g16),(17,.r g17)] ⟨s23,s24,s25,s21,s12,s13,s26,s16,s17,trivial⟩ .o kr kr kr
theorem aNv{a7:List Int}{R_:Bool}(hh:mG a7=some R_):Fn Tryz.prog 5 [bo (eI .u8) a7] (.bool R_):=kc (s5 a7 R_ hh)
end
end Go.Proofs.YtcgggihjcelmhaaGreat
