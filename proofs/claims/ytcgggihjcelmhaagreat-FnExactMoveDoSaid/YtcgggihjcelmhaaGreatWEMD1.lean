/- Plain functions of the program, and that it hands back what they say. Made by program. -/
import Derived.Test.YtcgggihjcelmhaaGreatWTD
import Derived.Test.YtcgggihjcelmhaaGreatProg
import Derived.Test.YtcgggihjcelmhaaGreatWHE1
namespace Go.Proofs.YtcgggihjcelmhaaGreat
open Go.RowKit
set_option maxRecDepth 100000
set_option linter.all false
set_option maxHeartbeats 0
noncomputable def oM (x_c:DCore)(x_cause:Int)(x_bad:Int)(x_saved:Int):Option DCore:=some (DCore.mk x_c.Regs x_c.Vector x_c.Root x_c.Vector x_saved x_c.User x_cause x_bad x_c.Timer x_c.Waits false false x_c.Stopped)
noncomputable def bAs:Sg tG:=⟨[.st 39,.i .i64,.i .i64,.i .i64],.one (.sb 39),oM⟩
theorem bJu:Sok 163 bAs:=sgx [] trivial .o kr kr kr
noncomputable def fE (x_b:DBare)(x_a:Int)(x_w:Int):Option DBare:=
 Option.bind (lG x_b.C.Regs x_a x_w) λv1=>
 Option.bind (fK (DBare.mk (DCore.mk v1 x_b.C.Pc x_b.C.Root x_b.C.Vector x_b.C.Saved x_b.C.SavedUser x_b.C.Cause x_b.C.Bad x_b.C.Timer x_b.C.Waits x_b.C.User x_b.C.On x_b.C.Stopped) x_b.Mem x_b.In x_b.Out)) λv2=>
 some v2
noncomputable def bHr:Sg tG:=⟨[.st 41,.i .i64,.i .i64],.one (.sb 41),fE⟩
theorem bRw:Sok 195 bHr:=sgx [(196,.r bIt),(197,.r aUw)] ⟨bRx,aYr,trivial⟩ (.s .o (.s .o (.s (.g [.fr (.c 3 0) 0] [] []) .o))) kr kr kr
noncomputable def aPi (x_b:DBare)(x_i:DIns)(s1:Unit):Option DBare:=some (DBare.mk (DCore.mk x_b.C.Regs x_i.N x_b.C.Root x_b.C.Vector x_b.C.Saved x_b.C.SavedUser x_b.C.Cause x_b.C.Bad x_b.C.Timer x_b.C.Waits x_b.C.User x_b.C.On x_b.C.Stopped) x_b.Mem x_b.In x_b.Out)
noncomputable def uB (x_b:DBare)(x_i:DIns):Option DBare:=
 Option.bind (cond (decide (x_i.Op=(6:Int)))
  (grd ((0:Int)<=x_i.A/\x_i.A<((x_b.C.Regs.length:Nat):Int)) (cond (decide ((x_b.C.Regs.getD x_i.A.toNat default)=(0:Int)))
   (Option.bind (fK x_b) λv2=>
   some (.out v2))
   (some (.go ()))))
  (some (.go ()))) λj1=>
  JO.run j1 (aPi x_b x_i)
noncomputable def bZc:Sg tG:=⟨[.st 41,.st 141],.one (.sb 41),uB⟩
theorem cCi:Sok 219 bZc:=sgx [(197,.r aUw)] ⟨aYr,trivial⟩ (.s .o (.j ⟨[2,3,4],[],[]⟩ .o .o)) kr kr kr
noncomputable def sT (x_regs:List Int)(x_i:DIns):Option Int:=
 grd ((0:Int)<=(Int.tmod x_i.N (4:Int))/\(Int.tmod x_i.N (4:Int))<((x_regs.length:Nat):Int)) (cond (decide (x_i.Op=(2:Int)))
  (grd ((0:Int)<=x_i.A/\x_i.A<((x_regs.length:Nat):Int)) (some (Int.tmod (w64 ((x_regs.getD x_i.A.toNat default)+(x_regs.getD (Int.toNat (Int.tmod x_i.N (4:Int))) default))) (4096:Int))))
  (cond (decide (x_i.Op=(15:Int)))
   (grd ((0:Int)<=x_i.A/\x_i.A<((x_regs.length:Nat):Int)) (some (Int.tmod (w64 ((w64 ((x_regs.getD x_i.A.toNat default)-(x_regs.getD (Int.toNat (Int.tmod x_i.N (4:Int))) default)))+(4096:Int))) (4096:Int))))
   (some x_i.N)))
noncomputable def bZb:Sg tG:=⟨[.row 3,.st 141],.one (.i .i64),sT⟩
theorem cDt:Sok 220 bZb:=sgx [] trivial .o kr kr kr
noncomputable def yZ (x_b:DBare)(x_i:DIns)(s3:Bool):Option DBare:=
 cond s3
  (Option.bind (uB x_b x_i) λv4=>
  some v4)
  (Option.bind (sT x_b.C.Regs x_i) λv5=>
  Option.bind (fE x_b x_i.A v5) λv6=>
  some v6)
noncomputable def sU (x_b:DBare)(x_i:DIns):Option DBare:=
 cond (decide (x_i.Op=(7:Int)))
  (Option.bind (mA x_b.C.Pc) λv1=>
  Option.bind (oM x_b.C (1:Int) (0:Int) v1) λv2=>
  some (DBare.mk v2 x_b.Mem x_b.In x_b.Out))
  (Option.bind (cond (decide (x_i.Op=(5:Int)))
   (some (.go (decide (x_i.Op=(5:Int)))))
   (some (.go (decide (x_i.Op=(6:Int)))))) λj3=>
   JO.run j3 (yZ x_b x_i))
noncomputable def bWx:Sg tG:=⟨[.st 41,.st 141],.one (.sb 41),sU⟩
theorem cBq:Sok 199 bWx:=sgx [(217,.r bPs),(163,.r bAs),(219,.r bZc),(220,.r bZb),(195,.r bHr)] ⟨bWv,bJu,cCi,cDt,bRw,trivial⟩ (.s .o (.s (.s .o (.k (.s .o (.c .o (.j ⟨[2,3,4],[],[(.s 18,.b)]⟩ .o .o))))) .o)) kr kr kr
noncomputable def lX (x_b:DBare)(x_i:DIns):Option DBare:=
 Option.bind (lR x_i) λv1=>
 cond (!v1)
  (Option.bind (sU x_b x_i) λv2=>
  some v2)
  (cond x_b.C.User
   (Option.bind (oM x_b.C (3:Int) (0:Int) x_b.C.Pc) λv3=>
   some (DBare.mk v3 x_b.Mem x_b.In x_b.Out))
   (Option.bind (pI x_b x_i) λv4=>
   some v4))
noncomputable def bOm:Sg tG:=⟨[.st 41,.st 141],.one (.sb 41),lX⟩
theorem bWs:Sok 168 bOm:=sgx [(198,.r bPv),(199,.r bWx),(163,.r bAs),(200,.r bVj)] ⟨bYk,cBq,bJu,cBz,trivial⟩ .o kr kr kr
noncomputable def zA (x_c:DCore)(s1:(List Int)×Int):Option DCore:=some (DCore.mk s1.1 s1.2 x_c.Root x_c.Vector x_c.Saved x_c.SavedUser x_c.Cause x_c.Bad x_c.Timer x_c.Waits x_c.User x_c.On x_c.Stopped)
noncomputable def lM (x_c:DCore)(x_i:DIns):Option DCore:=
 Option.bind (cond (decide (x_i.Op=(1:Int)))
  (grd ((0:Int)<=x_i.A/\x_i.A<((x_c.Regs.length:Nat):Int)) (some (.go ((x_c.Regs.set x_i.A.toNat x_i.N),Int.tmod (w64 (x_c.Pc+(1:Int))) (64:Int)))))
  (cond (decide (x_i.Op=(2:Int)))
   (grd ((0:Int)<=x_i.A/\x_i.A<((x_c.Regs.length:Nat):Int)) (grd ((0:Int)<=(Int.tmod x_i.N (4:Int))/\(Int.tmod x_i.N (4:Int))<((x_c.Regs.length:Nat):Int)) (grd ((0:Int)<=x_i.A/\x_i.A<((x_c.Regs.length:Nat):Int)) (some (.go ((x_c.Regs.set x_i.A.toNat (Int.tmod (w64 ((x_c.Regs.getD x_i.A.toNat default)+(x_c.Regs.getD (Int.toNat (Int.tmod x_i.N (4:Int))) default))) (4096:Int))),Int.tmod (w64 (x_c.Pc+(1:Int))) (64:Int)))))))
   (cond (decide (x_i.Op=(15:Int)))
    (grd ((0:Int)<=x_i.A/\x_i.A<((x_c.Regs.length:Nat):Int)) (grd ((0:Int)<=(Int.tmod x_i.N (4:Int))/\(Int.tmod x_i.N (4:Int))<((x_c.Regs.length:Nat):Int)) (grd ((0:Int)<=x_i.A/\x_i.A<((x_c.Regs.length:Nat):Int)) (some (.go ((x_c.Regs.set x_i.A.toNat (Int.tmod (w64 ((w64 ((x_c.Regs.getD x_i.A.toNat default)+(4096:Int)))-(x_c.Regs.getD (Int.toNat (Int.tmod x_i.N (4:Int))) default))) (4096:Int))),Int.tmod (w64 (x_c.Pc+(1:Int))) (64:Int)))))))
    (cond (decide (x_i.Op=(5:Int)))
     (some (.go (x_c.Regs,x_i.N)))
     (cond (decide (x_i.Op=(6:Int)))
      (grd ((0:Int)<=x_i.A/\x_i.A<((x_c.Regs.length:Nat):Int)) (cond (!decide ((x_c.Regs.getD x_i.A.toNat default)=(0:Int)))
       (some (.go (x_c.Regs,x_i.N)))
       (some (.go (x_c.Regs,Int.tmod (w64 (x_c.Pc+(1:Int))) (64:Int))))))
      (cond (decide (x_i.Op=(7:Int)))
       (Option.bind (kC x_c (Int.tmod (w64 (x_c.Pc+(1:Int))) (64:Int)) (1:Int) (0:Int)) λv2=>
       some (.out v2))
       (some (.go (x_c.Regs,Int.tmod (w64 (x_c.Pc+(1:Int))) (64:Int)))))))))) λj1=>
  JO.run j1 (zA x_c)
noncomputable def bXt:Sw tG:=⟨[.os 39,.v (.st 141)],.one (.st 39),lM⟩
theorem cBl:Sjk 112 bXt:=sgy [(108,.w bIb)] ⟨bPz,trivial⟩ (.s .o (.s .o (.j ⟨[2,4],[],[(.c 2 0,.ro 3),(.s 5,.i .i64)]⟩ .o .o))) kr kr kr
noncomputable def mQ (x_c:DCore):Option DCore:=
 Option.bind (oM (DCore.mk x_c.Regs x_c.Pc x_c.Root x_c.Vector x_c.Saved x_c.SavedUser x_c.Cause x_c.Bad x_c.Timer false x_c.User x_c.On x_c.Stopped) (4:Int) (0:Int) x_c.Pc) λv1=>
 some v1
noncomputable def bPq:Sg tG:=⟨[.st 39],.one (.sb 39),mQ⟩
theorem bWr:Sok 124 bPq:=sgx [(163,.r bAs)] ⟨bJu,trivial⟩ .o kr kr kr
noncomputable def fY (x_b:DBare)(x_addr:Int):Option DBare:=
 Option.bind (oM x_b.C (2:Int) x_addr x_b.C.Pc) λv1=>
 some (DBare.mk v1 x_b.Mem x_b.In x_b.Out)
noncomputable def aOs:Sg tG:=⟨[.st 41,.i .i64],.one (.sb 41),fY⟩
theorem aUa:Sok 126 aOs:=sgx [(163,.r bAs)] ⟨bJu,trivial⟩ .o kr kr kr
noncomputable def aHe (x_b:DBare)(x_i:DIns):Option DBare:=
 Option.bind (cV x_b.C x_i) λv1=>
 Option.bind (xN x_b.Mem x_b.C.Root v1 x_b.C.User false) λv2=>
 cond (decide (v2=(-1:Int)))
  (Option.bind (fY x_b v1) λv3=>
  some v3)
  (grd ((0:Int)<=v2/\v2<((x_b.Mem.length:Nat):Int)) (Option.bind (fE x_b x_i.A (x_b.Mem.getD v2.toNat default)) λv4=>
   some v4))
noncomputable def bWo:Sg tG:=⟨[.st 41,.st 141],.one (.sb 41),aHe⟩
theorem cDu:Sok 166 bWo:=sgx [(194,.r aUh),(125,.r bIz),(126,.r aOs),(195,.r bHr)] ⟨bBr,bOx,aUa,bRw,trivial⟩ .o kr kr kr
noncomputable def aHf (x_b:DBare)(x_i:DIns):Option DBare:=
 Option.bind (cV x_b.C x_i) λv1=>
 Option.bind (xN x_b.Mem x_b.C.Root v1 x_b.C.User true) λv2=>
 cond (decide (v2=(-1:Int)))
  (Option.bind (fY x_b v1) λv3=>
  some v3)
  (grd ((0:Int)<=x_i.A/\x_i.A<((x_b.C.Regs.length:Nat):Int)) (Option.bind (lG x_b.Mem v2 (x_b.C.Regs.getD x_i.A.toNat default)) λv4=>
   Option.bind (fK (DBare.mk x_b.C v4 x_b.In x_b.Out)) λv5=>
   some v5))
noncomputable def bVp:Sg tG:=⟨[.st 41,.st 141],.one (.sb 41),aHf⟩
theorem cDj:Sok 167 bVp:=sgx [(194,.r aUh),(125,.r bIz),(126,.r aOs),(196,.r bIt),(197,.r aUw)] ⟨bBr,bOx,aUa,bRx,aYr,trivial⟩ (.s .o (.s .o (.s .o (.s .o (.s .o (.s (.g [.fr (.c 2 13) 0] [] []) .o)))))) kr kr kr
noncomputable def aSj (x_b:DBare)(x_i:DIns):Option DBare:=
 cond (decide (x_i.Op=(3:Int)))
  (Option.bind (aHe x_b x_i) λv1=>
  some v1)
  (cond (decide (x_i.Op=(4:Int)))
   (Option.bind (aHf x_b x_i) λv2=>
   some v2)
   (Option.bind (lX x_b x_i) λv3=>
   some v3))
noncomputable def bVx:Sg tG:=⟨[.st 41,.st 141],.one (.sb 41),aSj⟩
theorem cCz:Sok 127 bVx:=sgx [(166,.r bWo),(167,.r bVp),(168,.r bOm)] ⟨cDu,cDj,bWs,trivial⟩ .o kr kr kr
noncomputable def aEu (x_b:DBare):Option DBare:=
 cond x_b.C.Stopped
  (some x_b)
  (Option.bind (gX x_b.C) λv1=>
  Option.bind (eS v1) λv2=>
  cond v2
   (Option.bind (mQ v1) λv3=>
   some (DBare.mk v3 x_b.Mem x_b.In x_b.Out))
   (Option.bind (xN x_b.Mem v1.Root v1.Pc v1.User false) λv4=>
   cond (decide (v4=(-1:Int)))
    (Option.bind (fY (DBare.mk v1 x_b.Mem x_b.In x_b.Out) v1.Pc) λv5=>
    some v5)
    (grd ((0:Int)<=v4/\v4<((x_b.Mem.length:Nat):Int)) (Option.bind (lI (x_b.Mem.getD v4.toNat default)) λv6=>
     Option.bind (aSj (DBare.mk (DCore.mk v1.Regs v1.Pc v1.Root v1.Vector v1.Saved v1.SavedUser v1.Cause v1.Bad v1.Timer v1.Waits v1.User v1.On v1.Stopped) x_b.Mem x_b.In x_b.Out) v6) λv7=>
     some v7))))
noncomputable def g60:Sg tG:=⟨[.st 41],.one (.sb 41),aEu⟩
theorem s60:Sok 60 g60:=sgx [(122,.r bJi),(123,.r bGz),(124,.r bPq),(125,.r bIz),(126,.r aOs),(128,.r bIp),(127,.r bVx)] ⟨bRt,bOd,bWr,bOx,aUa,bQy,cCz,trivial⟩ .o kr kr kr
noncomputable def eX (x_e:DExit):Option Bool:=
 cond (decide (x_e.Why=(2:Int)))
  (some true)
  (some (decide (x_e.Why=(3:Int))))
noncomputable def bWc:Sg tG:=⟨[.st 178],.one .b,eX⟩
theorem cCh:Sok 186 bWc:=sgx [] trivial .o kr kr kr
noncomputable def jU (x_h:DHost)(x_g:Int)(x_e:DExit):Option (DHost×Bool):=
 cond (decide (x_e.Why=(2:Int)))
  (Option.bind (jO x_h x_g x_e.Page) λv1=>
  some (v1.1,v1.2))
  (Option.bind (jS x_h x_g x_e.Page) λv2=>
  some (v2.1,v2.2))
noncomputable def bWa:Sg tG:=⟨[.st 26,.i .i64,.st 178],.two (.st 2026) .b,jU⟩
theorem cDl:Sok 187 bWa:=sgx [(154,.r bXo),(155,.r bUy)] ⟨bYq,bXg,trivial⟩ .o kr kr kr
noncomputable def aMg  (s2:(List Int)×(List DGuest)):Option (DHost×Bool):=some ((DHost.mk s2.1 s2.2),true)
noncomputable def cX (x_g:Int)(s3:(List Int)×(List DGuest)×Int×Int×Int×Int×Int×Int):Option (LO ((List Int)×(List DGuest)×Int×Int×Int×Int×Int×Int) (JO ((List Int)×(List DGuest)) (DHost×Bool))):=
 cond (decide (s3.2.2.2.2.2.2.2<(8:Int)))
  (Option.bind (eX (DExit.mk s3.2.2.1 s3.2.2.2.1 (DIns.mk s3.2.2.2.2.1 s3.2.2.2.2.2.1 s3.2.2.2.2.2.2.1))) λv4=>
  cond v4
   (Option.bind (jU (DHost.mk s3.1 s3.2.1) x_g (DExit.mk s3.2.2.1 s3.2.2.2.1 (DIns.mk s3.2.2.2.2.1 s3.2.2.2.2.2.1 s3.2.2.2.2.2.2.1))) λv5=>
   cond (!v5.2)
    (some (.ret (.out ((DHost.mk ([]:List Int) ([]:List DGuest)),false))))
    (Option.bind (pN v5.1 x_g) λv6=>
    some (.next (v5.1.Words,v5.1.Guests,v6.Why,v6.Page,v6.What.Op,v6.What.A,v6.What.N,w64 (s3.2.2.2.2.2.2.2+(1:Int))))))
   (some (.ret (.go (s3.1,s3.2.1)))))
  (some (.ret (.go (s3.1,s3.2.1))))
noncomputable def sZ (x_h:DHost)(x_g:Int):Option (DHost×Bool):=
 Option.bind (pN x_h x_g) λv1=>
 Option.bind (Option.bind (iter (cX x_g) (x_h.Words,x_h.Guests,v1.Why,v1.Page,v1.What.Op,v1.What.A,v1.What.N,(0:Int))) LO.val) λj2=>
  JO.run j2 aMg
noncomputable def bVs:Sg tG:=⟨[.st 26,.i .i64],.two (.sb 26) .b,sZ⟩
theorem cBu:Sok 148 bVs:=sgx [(185,.r bXc),(186,.r bWc),(187,.r bWa)] ⟨cBf,cCh,cDl,trivial⟩ (.s .o (.s .o (.j ⟨[2,4],[],[(.c 2 0,.rb 3),(.c 2 1,.rb 94)]⟩ (.s .o (.k (.l ⟨[1,2,4,6],[],[(.c 2 0,.rb 3),(.c 2 1,.rb 94),(.c 6 0,.i .i64),(.c 6 1,.i .i64),(.c 6 2,.i .i64),(.c 6 3,.i .i64),(.c 6 4,.i .i64),(.s 7,.i .i64)]⟩ (.s .o (.s (.k (.s .o (.s .o (.s .o (.g [.fr (.c 2 0) 0,.fr (.c 2 1) 0] [] []))))) .o))))) .o))) kr kr kr
noncomputable def sM (x_h:DHost)(x_g:Int)(x_b:DBare)(x_i:DIns):Option DHost:=
 Option.bind (cV x_b.C x_i) λv1=>
 Option.bind (dO x_h x_g v1 false) λv2=>
 cond (!decide (v2.2=(0:Int)))
  (Option.bind (fY x_b v1) λv3=>
  Option.bind (cK x_h x_g v3) λv4=>
  some v4)
  (grd ((0:Int)<=v2.1/\v2.1<((x_h.Words.length:Nat):Int)) (Option.bind (fE x_b x_i.A (x_h.Words.getD v2.1.toNat default)) λv5=>
   Option.bind (cK x_h x_g v5) λv6=>
   some v6))
noncomputable def bXv:Sg tG:=⟨[.st 26,.i .i64,.st 41,.st 141],.one (.st 2026),sM⟩
theorem cBg:Sok 214 bXv:=sgx [(194,.r aUh),(188,.r aUf),(126,.r aOs),(67,.r g67),(195,.r bHr)] ⟨bBr,bCr,aUa,s67,bRw,trivial⟩ .o kr kr kr
noncomputable def qQ (x_h:DHost)(x_g:Int)(x_b:DBare)(x_i:DIns):Option DHost:=
 Option.bind (cV x_b.C x_i) λv1=>
 Option.bind (dO x_h x_g v1 true) λv2=>
 cond (!decide (v2.2=(0:Int)))
  (Option.bind (fY x_b v1) λv3=>
  Option.bind (cK x_h x_g v3) λv4=>
  some v4)
  (Option.bind (fK x_b) λv5=>
  Option.bind (cK x_h x_g v5) λv6=>
  grd ((0:Int)<=x_i.A/\x_i.A<((x_b.C.Regs.length:Nat):Int)) (grd ((0:Int)<=v2.1/\v2.1<((v6.Words.length:Nat):Int)) (grd ((0:Int)<=x_g/\x_g<((v6.Guests.length:Nat):Int)) (Option.bind (gT x_h x_g v1) λv7=>
   grd ((0:Int)<=v7.Page/\v7.Page<((List.length (v6.Guests.getD x_g.toNat default).Pages:Nat):Int)) (some (DHost.mk (v6.Words.set v2.1.toNat (x_b.C.Regs.getD x_i.A.toNat default)) (v6.Guests.set x_g.toNat (DGuest.mk (v6.Guests.getD x_g.toNat default).Live (DCore.mk ((v6.Guests.getD x_g.toNat default).C).Regs ((v6.Guests.getD x_g.toNat default).C).Pc ((v6.Guests.getD x_g.toNat default).C).Root ((v6.Guests.getD x_g.toNat default).C).Vector ((v6.Guests.getD x_g.toNat default).C).Saved ((v6.Guests.getD x_g.toNat default).C).SavedUser ((v6.Guests.getD x_g.toNat default).C).Cause ((v6.Guests.getD x_g.toNat default).C).Bad ((v6.Guests.getD x_g.toNat default).C).Timer ((v6.Guests.getD x_g.toNat default).C).Waits ((v6.Guests.getD x_g.toNat default).C).User ((v6.Guests.getD x_g.toNat default).C).On ((v6.Guests.getD x_g.toNat default).C).Stopped) (List.set (v6.Guests.getD x_g.toNat default).Pages v7.Page.toNat (DSlot.mk (List.getD (v6.Guests.getD x_g.toNat default).Pages v7.Page.toNat default).Frame (List.getD (v6.Guests.getD x_g.toNat default).Pages v7.Page.toNat default).Write true)) (v6.Guests.getD x_g.toNat default).In (v6.Guests.getD x_g.toNat default).Out))))))))
noncomputable def bVh:Sg tG:=⟨[.st 26,.i .i64,.st 41,.st 141],.one (.st 2026),qQ⟩
theorem cDg:Sok 215 bVh:=sgx [(194,.r aUh),(188,.r aUf),(126,.r aOs),(67,.r g67),(197,.r aUw),(213,.r bJq)] ⟨bBr,bCr,aUa,s67,aYr,bOh,trivial⟩ .o kr kr kr
noncomputable def qB (x_h:DHost)(x_g:Int)(x_b:DBare)(x_i:DIns):Option DHost:=
 cond (decide (x_i.Op=(3:Int)))
  (Option.bind (sM x_h x_g x_b x_i) λv1=>
  some v1)
  (cond (decide (x_i.Op=(4:Int)))
   (Option.bind (qQ x_h x_g x_b x_i) λv2=>
   some v2)
   (Option.bind (lX x_b x_i) λv3=>
   Option.bind (cK x_h x_g v3) λv4=>
   some v4))
noncomputable def bYu:Sg tG:=⟨[.st 26,.i .i64,.st 41,.st 141],.one (.st 2026),qB⟩
theorem cCa:Sok 189 bYu:=sgx [(214,.r bXv),(215,.r bVh),(168,.r bOm),(67,.r g67)] ⟨cBg,cDg,bWs,s67,trivial⟩ .o kr kr kr
noncomputable def zR (x_h:DHost)(x_g:Int):Option DHost:=
 Option.bind (pB x_h x_g) λv1=>
 cond v1.C.Stopped
  (Option.bind (cH x_h) λv2=>
  some v2)
  (Option.bind (gX v1.C) λv3=>
  Option.bind (eS v3) λv4=>
  cond v4
   (Option.bind (mQ v3) λv5=>
   Option.bind (cK x_h x_g (DBare.mk v5 v1.Mem v1.In v1.Out)) λv6=>
   some v6)
   (Option.bind (dO x_h x_g v3.Pc false) λv7=>
   cond (!decide (v7.2=(0:Int)))
    (Option.bind (fY (DBare.mk v3 v1.Mem v1.In v1.Out) v3.Pc) λv8=>
    Option.bind (cK x_h x_g v8) λv9=>
    some v9)
    (grd ((0:Int)<=v7.1/\v7.1<((x_h.Words.length:Nat):Int)) (Option.bind (lI (x_h.Words.getD v7.1.toNat default)) λv10=>
     Option.bind (qB x_h x_g (DBare.mk (DCore.mk v3.Regs v3.Pc v3.Root v3.Vector v3.Saved v3.SavedUser v3.Cause v3.Bad v3.Timer v3.Waits v3.User v3.On v3.Stopped) v1.Mem v1.In v1.Out) v10) λv11=>
     some v11))))
noncomputable def bXf:Sg tG:=⟨[.st 26,.i .i64],.one (.st 2026),zR⟩
theorem cDv:Sok 149 bXf:=sgx [(68,.r g68),(131,.r aOx),(122,.r bJi),(123,.r bGz),(124,.r bPq),(67,.r g67),(188,.r aUf),(126,.r aOs),(128,.r bIp),(189,.r bYu)] ⟨s68,aPj,bRt,bOd,bWr,s67,bCr,aUa,bQy,cCa,trivial⟩ .o kr kr kr
noncomputable def qN (x_h:DHost)(x_g:Int):Option (DHost×Bool):=
 Option.bind (dL x_h x_g) λv1=>
 cond (!v1)
  (some ((DHost.mk ([]:List Int) ([]:List DGuest)),false))
  (Option.bind (sZ x_h x_g) λv2=>
  cond (!v2.2)
   (Option.bind (cH x_h) λv3=>
   some (v3,false))
   (Option.bind (zR v2.1 x_g) λv4=>
   some (v4,true)))
noncomputable def g98:Sg tG:=⟨[.st 26,.i .i64],.two (.st 2026) .b,qN⟩
theorem s98:Sok 98 g98:=sgx [(56,.r g56),(148,.r bVs),(131,.r aOx),(149,.r bXf)] ⟨s56,cBu,aPj,cDv,trivial⟩ .o kr kr kr
noncomputable def nT  (s1:(List Int)×(List DGuest)):Option (DHost×Bool):=some ((DHost.mk s1.1 s1.2),true)
noncomputable def kO (s2:(List Int)×(List DGuest)×Int)(s4:(List Int)×(List DGuest)×Bool):Option (LO ((List Int)×(List DGuest)×Int) (JO ((List Int)×(List DGuest)) (DHost×Bool))):=
 cond (!s4.2.2)
  (some (.ret (.out ((DHost.mk s4.1 s4.2.1),false))))
  (some (.next (s4.1,s4.2.1,w64 (s2.2.2+(1:Int)))))
noncomputable def eA (x_g:Int)(s2:(List Int)×(List DGuest)×Int):Option (LO ((List Int)×(List DGuest)×Int) (JO ((List Int)×(List DGuest)) (DHost×Bool))):=
 cond (decide (s2.2.2<(4:Int)))
  (Option.bind (lT (DHost.mk s2.1 s2.2.1) x_g) λv3=>
  Option.bind (cond (decide (v3.Why=(2:Int)))
   (Option.bind (gF (DHost.mk s2.1 s2.2.1) x_g v3.Page) λv5=>
   some (.go (v5.1.Words,v5.1.Guests,v5.2)))
   (cond (decide (v3.Why=(3:Int)))
    (Option.bind (gH (DHost.mk s2.1 s2.2.1) x_g v3.Page) λv6=>
    some (.go (v6.1.Words,v6.1.Guests,v6.2)))
    (some (.out (.ret (.out ((DHost.mk s2.1 s2.2.1),true))))))) λj4=>
   JO.run j4 (kO s2))
  (some (.ret (.go (s2.1,s2.2.1))))
noncomputable def lH (x_h:DHost)(x_g:Int):Option (DHost×Bool):=
 Option.bind (Option.bind (iter (eA x_g) (x_h.Words,x_h.Guests,(0:Int))) LO.val) λj1=>
  JO.run j1 nT
noncomputable def bYc:Sw tG:=⟨[.os 2026,.v (.i .i64)],.two (.st 2026) .b,lH⟩
theorem cDo:Sjk 104 bYc:=sgy [(156,.r bYz),(53,.r g53),(54,.r g54)] ⟨cBm,s53,s54,trivial⟩ (.s .o (.j ⟨[2,4],[],[(.c 2 0,.ro 3),(.c 2 1,.ro 1094)]⟩ (.s .o (.k (.l ⟨[1,2,4],[],[(.c 2 0,.ro 3),(.c 2 1,.ro 1094),(.s 6,.i .i64)]⟩ (.s .o (.s (.k (.s .o (.s .o (.j ⟨[1,2,4,6],[],[(.c 2 0,.ro 3),(.c 2 1,.ro 1094),(.s 8,.b)]⟩ .o .o)))) .o))))) .o)) kr kr kr
noncomputable def qK (x_g:Int)(v3:DHost×Bool)(v5:DCore×Bool)(v6:List DShade)(v9:DIns)(s10:Unit):Option (DHost×Bool):=
 grd ((0:Int)<=(Int.tmod v9.N (4:Int))/\(Int.tmod v9.N (4:Int))<((v5.1.Regs.length:Nat):Int)) (let z0:=v3.1.Guests.set x_g.toNat (DGuest.mk (v3.1.Guests.getD x_g.toNat default).Live v5.1 (v3.1.Guests.getD x_g.toNat default).Pages (v3.1.Guests.getD x_g.toNat default).In (v3.1.Guests.getD x_g.toNat default).Out);Option.bind (dB v6 (Int.tmod (List.getD ((z0.getD x_g.toNat default).C).Regs (Int.toNat (Int.tmod v9.N (4:Int))) default) (64:Int)) v5.1.User (decide (v9.Op=(4:Int)))) λv11=>
  cond (decide (v11.1<(0:Int)))
   (Option.bind (kC (DCore.mk ((z0.getD x_g.toNat default).C).Regs v5.1.Pc v5.1.Root v5.1.Vector v5.1.Saved v5.1.SavedUser v5.1.Cause v5.1.Bad v5.1.Timer v5.1.Waits v5.1.User v5.1.On v5.1.Stopped) v5.1.Pc (2:Int) (Int.tmod (List.getD ((z0.getD x_g.toNat default).C).Regs (Int.toNat (Int.tmod v9.N (4:Int))) default) (64:Int))) λv12=>
   grd ((0:Int)<=x_g/\x_g<((v3.1.Guests.length:Nat):Int)) (grd (x_g.toNat=x_g.toNat) (some ((DHost.mk v3.1.Words (z0.set x_g.toNat (DGuest.mk (z0.getD x_g.toNat default).Live v12 (z0.getD x_g.toNat default).Pages (z0.getD x_g.toNat default).In (z0.getD x_g.toNat default).Out))),true))))
   (cond (decide (v9.Op=(3:Int)))
    (grd ((0:Int)<=v11.1/\v11.1<((v3.1.Words.length:Nat):Int)) (grd ((0:Int)<=v9.A/\v9.A<((v5.1.Regs.length:Nat):Int)) (grd ((0:Int)<=x_g/\x_g<((v3.1.Guests.length:Nat):Int)) (grd (x_g.toNat=x_g.toNat) (some ((DHost.mk v3.1.Words (let z1:=List.set ((z0.getD x_g.toNat default).C).Regs v9.A.toNat (v3.1.Words.getD v11.1.toNat default);let z2:=z0.set x_g.toNat (DGuest.mk (z0.getD x_g.toNat default).Live (DCore.mk z1 ((z0.getD x_g.toNat default).C).Pc ((z0.getD x_g.toNat default).C).Root ((z0.getD x_g.toNat default).C).Vector ((z0.getD x_g.toNat default).C).Saved ((z0.getD x_g.toNat default).C).SavedUser ((z0.getD x_g.toNat default).C).Cause ((z0.getD x_g.toNat default).C).Bad ((z0.getD x_g.toNat default).C).Timer ((z0.getD x_g.toNat default).C).Waits ((z0.getD x_g.toNat default).C).User ((z0.getD x_g.toNat default).C).On ((z0.getD x_g.toNat default).C).Stopped) (z0.getD x_g.toNat default).Pages (z0.getD x_g.toNat default).In (z0.getD x_g.toNat default).Out);z2.set x_g.toNat (DGuest.mk (z2.getD x_g.toNat default).Live (DCore.mk ((z2.getD x_g.toNat default).C).Regs (Int.tmod (w64 (v5.1.Pc+(1:Int))) (64:Int)) v5.1.Root v5.1.Vector v5.1.Saved v5.1.SavedUser v5.1.Cause v5.1.Bad v5.1.Timer v5.1.Waits v5.1.User v5.1.On v5.1.Stopped) (z2.getD x_g.toNat default).Pages (z2.getD x_g.toNat default).In (z2.getD x_g.toNat default).Out))),true))))))
    (grd ((0:Int)<=v9.A/\v9.A<((v5.1.Regs.length:Nat):Int)) (grd ((0:Int)<=v11.1/\v11.1<((v3.1.Words.length:Nat):Int)) (grd ((0:Int)<=x_g/\x_g<((v3.1.Guests.length:Nat):Int)) (grd ((0:Int)<=(w64 (Int.tdiv (Int.tmod (List.getD ((z0.getD x_g.toNat default).C).Regs (Int.toNat (Int.tmod v9.N (4:Int))) default) (64:Int)) (8:Int)))/\(w64 (Int.tdiv (Int.tmod (List.getD ((z0.getD x_g.toNat default).C).Regs (Int.toNat (Int.tmod v9.N (4:Int))) default) (64:Int)) (8:Int)))<((v6.length:Nat):Int)) (grd ((0:Int)<=(v6.getD (Int.toNat (w64 (Int.tdiv (Int.tmod (List.getD ((z0.getD x_g.toNat default).C).Regs (Int.toNat (Int.tmod v9.N (4:Int))) default) (64:Int)) (8:Int)))) default).Page/\(v6.getD (Int.toNat (w64 (Int.tdiv (Int.tmod (List.getD ((z0.getD x_g.toNat default).C).Regs (Int.toNat (Int.tmod v9.N (4:Int))) default) (64:Int)) (8:Int)))) default).Page<((List.length (z0.getD x_g.toNat default).Pages:Nat):Int)) (grd ((0:Int)<=x_g/\x_g<((v3.1.Guests.length:Nat):Int)) (grd (x_g.toNat=x_g.toNat) (some ((DHost.mk (v3.1.Words.set v11.1.toNat (List.getD ((z0.getD x_g.toNat default).C).Regs v9.A.toNat default)) (let z3:=List.set (z0.getD x_g.toNat default).Pages (Int.toNat (v6.getD (Int.toNat (w64 (Int.tdiv (Int.tmod (List.getD ((z0.getD x_g.toNat default).C).Regs (Int.toNat (Int.tmod v9.N (4:Int))) default) (64:Int)) (8:Int)))) default).Page) (DSlot.mk (List.getD (z0.getD x_g.toNat default).Pages (Int.toNat (v6.getD (Int.toNat (w64 (Int.tdiv (Int.tmod (List.getD ((z0.getD x_g.toNat default).C).Regs (Int.toNat (Int.tmod v9.N (4:Int))) default) (64:Int)) (8:Int)))) default).Page) default).Frame (List.getD (z0.getD x_g.toNat default).Pages (Int.toNat (v6.getD (Int.toNat (w64 (Int.tdiv (Int.tmod (List.getD ((z0.getD x_g.toNat default).C).Regs (Int.toNat (Int.tmod v9.N (4:Int))) default) (64:Int)) (8:Int)))) default).Page) default).Write true);let z4:=z0.set x_g.toNat (DGuest.mk (z0.getD x_g.toNat default).Live (DCore.mk ((z0.getD x_g.toNat default).C).Regs ((z0.getD x_g.toNat default).C).Pc ((z0.getD x_g.toNat default).C).Root ((z0.getD x_g.toNat default).C).Vector ((z0.getD x_g.toNat default).C).Saved ((z0.getD x_g.toNat default).C).SavedUser ((z0.getD x_g.toNat default).C).Cause ((z0.getD x_g.toNat default).C).Bad ((z0.getD x_g.toNat default).C).Timer ((z0.getD x_g.toNat default).C).Waits ((z0.getD x_g.toNat default).C).User ((z0.getD x_g.toNat default).C).On ((z0.getD x_g.toNat default).C).Stopped) z3 (z0.getD x_g.toNat default).In (z0.getD x_g.toNat default).Out);z4.set x_g.toNat (DGuest.mk (z4.getD x_g.toNat default).Live (DCore.mk ((z4.getD x_g.toNat default).C).Regs (Int.tmod (w64 (v5.1.Pc+(1:Int))) (64:Int)) v5.1.Root v5.1.Vector v5.1.Saved v5.1.SavedUser v5.1.Cause v5.1.Bad v5.1.Timer v5.1.Waits v5.1.User v5.1.On v5.1.Stopped) (z4.getD x_g.toNat default).Pages (z4.getD x_g.toNat default).In (z4.getD x_g.toNat default).Out))),true)))))))))))
noncomputable def qV (x_h:DHost)(x_g:Int):Option (DHost×Bool):=
 Option.bind (dW x_h x_g) λv1=>
 cond (!v1)
  (some ((DHost.mk ([]:List Int) ([]:List DGuest)),false))
  (Option.bind (eM x_h) λv2=>
  Option.bind (lH v2 x_g) λv3=>
  cond (!v3.2)
   (Option.bind (eM x_h) λv4=>
   some (v4,false))
   (grd ((0:Int)<=x_g/\x_g<((v3.1.Guests.length:Nat):Int)) (cond ((v3.1.Guests.getD x_g.toNat default).C).Stopped
    (some (v3.1,true))
    (Option.bind (jW (DCore.mk ((v3.1.Guests.getD x_g.toNat default).C).Regs ((v3.1.Guests.getD x_g.toNat default).C).Pc ((v3.1.Guests.getD x_g.toNat default).C).Root ((v3.1.Guests.getD x_g.toNat default).C).Vector ((v3.1.Guests.getD x_g.toNat default).C).Saved ((v3.1.Guests.getD x_g.toNat default).C).SavedUser ((v3.1.Guests.getD x_g.toNat default).C).Cause ((v3.1.Guests.getD x_g.toNat default).C).Bad ((v3.1.Guests.getD x_g.toNat default).C).Timer ((v3.1.Guests.getD x_g.toNat default).C).Waits ((v3.1.Guests.getD x_g.toNat default).C).User ((v3.1.Guests.getD x_g.toNat default).C).On ((v3.1.Guests.getD x_g.toNat default).C).Stopped)) λv5=>
    grd ((0:Int)<=x_g/\x_g<((v3.1.Guests.length:Nat):Int)) (grd (x_g.toNat=x_g.toNat) (let z0:=v3.1.Guests.set x_g.toNat (DGuest.mk (v3.1.Guests.getD x_g.toNat default).Live v5.1 (v3.1.Guests.getD x_g.toNat default).Pages (v3.1.Guests.getD x_g.toNat default).In (v3.1.Guests.getD x_g.toNat default).Out);cond v5.2
     (some ((DHost.mk v3.1.Words z0),true))
     (Option.bind (jN (DHost.mk v3.1.Words z0) x_g) λv6=>
     Option.bind (dB v6 v5.1.Pc v5.1.User false) λv7=>
     cond (decide (v7.1<(0:Int)))
      (Option.bind (kC (DCore.mk ((z0.getD x_g.toNat default).C).Regs v5.1.Pc v5.1.Root v5.1.Vector v5.1.Saved v5.1.SavedUser v5.1.Cause v5.1.Bad v5.1.Timer v5.1.Waits v5.1.User v5.1.On v5.1.Stopped) v5.1.Pc (2:Int) v5.1.Pc) λv8=>
      grd ((0:Int)<=x_g/\x_g<((v3.1.Guests.length:Nat):Int)) (grd (x_g.toNat=x_g.toNat) (some ((DHost.mk v3.1.Words (z0.set x_g.toNat (DGuest.mk (z0.getD x_g.toNat default).Live v8 (z0.getD x_g.toNat default).Pages (z0.getD x_g.toNat default).In (z0.getD x_g.toNat default).Out))),true))))
      (grd ((0:Int)<=v7.1/\v7.1<((v3.1.Words.length:Nat):Int)) (Option.bind (oL (v3.1.Words.getD v7.1.toNat default)) λv9=>
       Option.bind (Option.bind (cW v9) λv13=>
        cond v13
         (cond v5.1.User
          (Option.bind (kC (DCore.mk ((z0.getD x_g.toNat default).C).Regs v5.1.Pc v5.1.Root v5.1.Vector v5.1.Saved v5.1.SavedUser v5.1.Cause v5.1.Bad v5.1.Timer v5.1.Waits v5.1.User v5.1.On v5.1.Stopped) v5.1.Pc (3:Int) (0:Int)) λv14=>
          grd ((0:Int)<=x_g/\x_g<((v3.1.Guests.length:Nat):Int)) (grd (x_g.toNat=x_g.toNat) (some (.out ((DHost.mk v3.1.Words (z0.set x_g.toNat (DGuest.mk (z0.getD x_g.toNat default).Live v14 (z0.getD x_g.toNat default).Pages (z0.getD x_g.toNat default).In (z0.getD x_g.toNat default).Out))),true)))))
          (Option.bind (cW v9) λv15=>
          cond v15
           (Option.bind (fV (DHost.mk v3.1.Words z0) x_g v9) λv16=>
           some (.out (v16.1,v16.2)))
           (cond (!decide (v9.Op=(3:Int)))
            (cond (!decide (v9.Op=(4:Int)))
             (Option.bind (lM (DCore.mk ((z0.getD x_g.toNat default).C).Regs v5.1.Pc v5.1.Root v5.1.Vector v5.1.Saved v5.1.SavedUser v5.1.Cause v5.1.Bad v5.1.Timer v5.1.Waits v5.1.User v5.1.On v5.1.Stopped) v9) λv17=>
             grd ((0:Int)<=x_g/\x_g<((v3.1.Guests.length:Nat):Int)) (grd (x_g.toNat=x_g.toNat) (some (.out ((DHost.mk v3.1.Words (z0.set x_g.toNat (DGuest.mk (z0.getD x_g.toNat default).Live v17 (z0.getD x_g.toNat default).Pages (z0.getD x_g.toNat default).In (z0.getD x_g.toNat default).Out))),true)))))
             (some (.go ())))
            (some (.go ())))))
         (Option.bind (cW v9) λv18=>
         cond v18
          (Option.bind (fV (DHost.mk v3.1.Words z0) x_g v9) λv19=>
          some (.out (v19.1,v19.2)))
          (cond (!decide (v9.Op=(3:Int)))
           (cond (!decide (v9.Op=(4:Int)))
            (Option.bind (lM (DCore.mk ((z0.getD x_g.toNat default).C).Regs v5.1.Pc v5.1.Root v5.1.Vector v5.1.Saved v5.1.SavedUser v5.1.Cause v5.1.Bad v5.1.Timer v5.1.Waits v5.1.User v5.1.On v5.1.Stopped) v9) λv20=>
            grd ((0:Int)<=x_g/\x_g<((v3.1.Guests.length:Nat):Int)) (grd (x_g.toNat=x_g.toNat) (some (.out ((DHost.mk v3.1.Words (z0.set x_g.toNat (DGuest.mk (z0.getD x_g.toNat default).Live v20 (z0.getD x_g.toNat default).Pages (z0.getD x_g.toNat default).In (z0.getD x_g.toNat default).Out))),true)))))
            (some (.go ())))
           (some (.go ()))))) λj10=>
        JO.run j10 (qK x_g v3 v5 v6 v9))))))))))
noncomputable def g50:Sg tG:=⟨[.st 26,.i .i64],.two (.st 2026) .b,qV⟩
theorem s50:Sok 50 g50:=sgx [(102,.r aJz),(103,.r aUo),(104,.w bYc),(105,.w bOu),(106,.r bQl),(107,.r bQg),(108,.w bIb),(109,.r bRk),(110,.r bJn),(111,.r bZk),(112,.w bXt)] ⟨aOu,bAg,cDo,cAe,bVw,bYh,bPz,bYl,bOe,cDr,cBl,trivial⟩ (.s .o (.s .o (.s .o (.s .o (.s .o (.s .o (.s (.g [.uf (.c 8 1) 0 1] [] []) (.s (.g [] [] [.fo (.c 6 1) 0]) (.s .o (.s .o (.s .o (.s (.s .o (.c (.s (.g [.uf (.c 9 0) 0 1] [13] [.fo (.c 6 1) 0]) .o) .o)) (.s .o (.j ⟨[1,4,6,9,11,14],[],[]⟩ (.k (.s .o (.c (.s (.g [.uf (.c 9 0) 0 1] [14] [.fo (.c 6 1) 0]) .o) (.s .o (.c .o (.s .o (.c (.s (.g [.uf (.c 9 0) 0 1] [14] [.fo (.c 6 1) 0]) .o) .o))))))) (.s .o (.s .o (.s (.s .o (.c (.s (.g [.uf (.c 9 0) 0 1] [14] [.fo (.c 6 1) 0]) .o) .o)) (.s .o (.s .o (.s (.g [.uf (.c 9 0) 0 1] [] [.fo (.c 6 1) 0]) .o)))))))))))))))))))) kr kr kr
noncomputable def aQy (x_b:DBare):Option DBare:=
 Option.bind (aHd x_b) λv1=>
 cond (!v1)
  (some (DBare.mk (DCore.mk ([]:List Int) (0:Int) (0:Int) (0:Int) (0:Int) false (0:Int) (0:Int) (0:Int) false false false false) ([]:List Int) ([]:List Int) ([]:List Int)))
  (Option.bind (aEu x_b) λv2=>
  Option.bind (gS v2) λv3=>
  some v3)
noncomputable def g14:Sg tG:=⟨[.st 41],.one (.st 41),aQy⟩
theorem s14:Sok 14 g14:=sgx [(59,.r g59),(60,.r g60),(57,.r g57)] ⟨s59,s60,s57,trivial⟩ .o kr kr kr
noncomputable def aMh  (s1:List Bool):Option (List Bool):=some s1
noncomputable def nS (x_a:List Bool)(s2:(List Bool)×Int):Option (LO ((List Bool)×Int) (JO (List Bool) (List Bool))):=
 cond (decide (s2.2<((x_a.length:Nat):Int)))
  (grd ((0:Int)<=s2.2/\s2.2<((x_a.length:Nat):Int)) (grd ((0:Int)<=s2.2/\s2.2<((s2.1.length:Nat):Int)) (some (.next ((s2.1.set s2.2.toNat (x_a.getD s2.2.toNat default)),w64 (s2.2+(1:Int)))))))
  (some (.ret (.go s2.1)))
noncomputable def sY (x_a:List Bool):Option (List Bool):=
 grd ((0:Int)<=((x_a.length:Nat):Int)/\((x_a.length:Nat):Int)*1<=2^47/\((x_a.length:Nat):Int)<=2^47) (Option.bind (Option.bind (iter (nS x_a) ((List.replicate (Int.toNat ((x_a.length:Nat):Int)) false),(0:Int))) LO.val) λj1=>
  JO.run j1 aMh)
noncomputable def g81:Sg tG:=⟨[.row 4],.one (.row 4),sY⟩
theorem s81:Sok 81 g81:=sgx [] trivial (.s .o (.s .o (.j ⟨[],[],[(.s 3,.ro 4)]⟩ (.s .o (.k (.l ⟨[0],[],[(.s 3,.ro 4),(.s 4,.i .i64)]⟩ .o))) .o))) kr kr kr
noncomputable def aMj  (s1:Unit):Option Bool:=some true
noncomputable def nY (x_a:List Bool)(x_b:List Bool)(s2:Int):Option (LO Int (JO Unit Bool)):=
 cond (decide (s2<((x_a.length:Nat):Int)))
  (grd ((0:Int)<=s2/\s2<((x_a.length:Nat):Int)) (grd ((0:Int)<=s2/\s2<((x_b.length:Nat):Int)) (cond (!((x_a.getD s2.toNat default)==(x_b.getD s2.toNat default)))
   (some (.ret (.out false)))
   (some (.next (w64 (s2+(1:Int))))))))
  (some (.ret (.go ())))
noncomputable def sS (x_a:List Bool)(x_b:List Bool):Option Bool:=
 cond (!decide (((x_a.length:Nat):Int)=((x_b.length:Nat):Int)))
  (some false)
  (Option.bind (Option.bind (iter (nY x_a x_b) (0:Int)) LO.val) λj1=>
   JO.run j1 aMj)
noncomputable def g82:Sg tG:=⟨[.row 4,.row 4],.one .b,sS⟩
theorem s82:Sok 82 g82:=sgx [] trivial (.s .o (.s .o (.j ⟨[],[],[]⟩ (.s .o (.k (.l ⟨[0,1],[],[(.s 5,.i .i64)]⟩ .o))) .o))) kr kr kr
noncomputable def tA (x_a:List Bool)(x_left:Int):Option Int:=
 cond (decide ((w64 (x_left-((x_a.length:Nat):Int)))<(0:Int)))
  (some (-1:Int))
  (some (w64 (x_left-((x_a.length:Nat):Int))))
noncomputable def g80:Sg tG:=⟨[.row 4,.i .i64],.one (.i .i64),tA⟩
theorem s80:Sok 80 g80:=sgx [] trivial .o kr kr kr
theorem aIo:LW 83 ⟨21,[.tmp 4],.seq (.reg false (rg 83 0)) (.seq (.seq (.reg false (rg 83 1)) (.block 0 (.loop (.seq (.seq (.reg false (rg 83 2)) (.cond (.t 9) .skip (.exit 0))) (.seq (.block 1 (.seq (.reg false (rg 83 3)) (.reg false (rg 83 4)))) (.reg false (rg 83 5))))))) (.seq (.reg false (rg 83 7)) .ret))⟩:=kr
noncomputable def qI  (s1:Int×(List Bool)):Option ((List Bool)×Int):=some (s1.2,s1.1)
noncomputable def iD  (s2:(List Bool)×Int×Int):Option (LO ((List Bool)×Int×Int) (JO (Int×(List Bool)) ((List Bool)×Int))):=
 cond (decide (s2.2.2<((s2.1.length:Nat):Int)))
  (grd ((0:Int)<=s2.2.2/\s2.2.2<((s2.1.length:Nat):Int)) (some (.next ((s2.1.set s2.2.2.toNat (decide ((Int.tmod s2.2.1 (3:Int))=(0:Int)))),w64 (s2.2.1+(1:Int)),w64 (s2.2.2+(1:Int))))))
  (some (.ret (.go (s2.2.1,s2.1))))
noncomputable def lZ (x_a:List Bool)(x_k:Int):Option ((List Bool)×Int):=
 Option.bind (Option.bind (iter iD (x_a,x_k,(0:Int))) LO.val) λj1=>
  JO.run j1 qI
theorem aLx{x_a:List Bool}{x_k:Int}{R_:(List Bool)×Int}(hh:lZ x_a x_k=some R_):Inl Tryz.prog 83 [.sref 0 [] 0 x_a.length 1,.int .i64 x_k] [(0,some (rT_4 x_a))] 1 (.int .i64 R_.2) [(0,some (rT_4 R_.1))] 1:=by let z2:EH:=(0,some (rT_4 x_a));unfold lZ at hh;refine Inl.start aIo [0,1] [0] (E:=sp 21 [(0,sw 0 x_a),(1,ii x_k)]) (H1:=[z2]) kr kr (sy [0,1] [0] (sp 21 [(0,sw 0 x_a),(1,ii x_k)]) [z2] 1 ?_);obtain⟨j1,hh,hk1⟩:=bind_some hh;refine Aw.join (S:=Int×(List Bool)) (λs1=>sp 21 [(1,ii s1.1)]) (λs1=>[(0,some (rT_4 s1.2))]) 1 (λs1=>qI s1=some R_) ?_ ?_;{intro s1 hh;unfold qI at hh;refine sy [4] [0] (sp 21 [(4,ii s1.1)]) [(0,some (rT_4 s1.2))] 1 (Aw.ret ?_);rw[bO hh];exact qR (r':=ii s1.1) kr (el [some 0] (lO gE) (hn mH aY))};intro Q1 hN1 hR1 hE1;refine sy [0,1,5] [0] (sp 21 [(0,sw 0 x_a),(1,ii x_k),(5,ii 0)]) [z2] 1 (Aw.block ?_);obtain⟨o2,hi2,hk2⟩:=bind_some hh;refine Aw.iter (λ(s2:(List Bool)×Int×Int)=>sp 21 [(0,sw 0 s2.1),(1,ii s2.2.1),(5,ii s2.2.2)]) (λ(s2:(List Bool)×Int×Int)=>[(0,some (rT_4 s2.1))]) 1 hi2 (el [some 0] (fS kr (rs (sw 0 x_a) (ri (ri rA)))) (hn mH aY)) ?_;intro s2 u2 Q2 hh hN2 hX2 hR2;let z3:EH:=(0,some (rT_4 s2.1));let z4:=(0,sw 0 s2.1);let z5:=(1,ii (w64 (s2.2.1+(1:Int))));let z6:=(5,ii s2.2.2);let z7:=(9,bb (decide (s2.2.2<((s2.1.length:Nat):Int))));let z1:=s2.1.set s2.2.2.toNat (decide ((Int.tmod s2.2.1 (3:Int))=(0:Int)));unfold iD at hh;refine Aw.seq (sy [0,1,5,9] [0] (sp 21 [z4,(1,ii s2.2.1),z6,z7]) [z3] 1 ?_);rcases aAe hh with⟨hb,hh⟩|⟨hb,hh⟩;{refine cF hb (Aw.exit (aJk (hX2 _ _ _ _ _ (bO hh) ?_)));intro hout;rw[hout]at hk2;refine aLs ?_;obtain rfl:=bO hk2;exact hN1 (s2.2.1,s2.1) _ _ _ hk1 (el [some 0] (fS kr (ri rA)) (hn mH aY))};refine cT hb (Aw.xskip (λ_ _ _ hq=>fF hq) (Aw.seq (Aw.block (Aw.sreg [0,1,5] [0] ?_))));obtain⟨hg24,hh⟩:=aE hh;refine yjc 6 [(3:Int)≠0,(0:Int)<=s2.2.2/\s2.2.2<((s2.1.length:Nat):Int)] (sp 21 [z4,(1,ii s2.2.1),z6,z7,(12,sw 0 s2.1),(13,ii s2.2.2),(14,ii s2.2.1),(15,ii (Int.tmod s2.2.1 (3:Int))),(16,bb (decide ((Int.tmod s2.2.1 (3:Int))=(0:Int)))),(17,.ptr 0 [] (0+s2.2.2.toNat*1))]) [z3] 1 (.cons dd (.cons hg24 .nil)) ?_;let q1:Root:=(rT_4 z1);refine ys (.store 1 (.t 17) (.t 16)) none (wV (c:=eB) (xs:=s2.1) (e:=4) (r:=0) (π:=[]) (o:=0+s2.2.2.toNat*1) (i:=s2.2.2.toNat) (off:=0) (vs:=[bb (decide ((Int.tmod s2.2.1 (3:Int))=(0:Int)))]) (y:=(decide ((Int.tmod s2.2.1 (3:Int))=(0:Int)))) (H':=[(0,some q1),z3]) nG kr kr kr kr ltn ltn dd kr kr ?_);exact yt (sp 21 [z4,(1,ii s2.2.1),z6]) [(0,some q1)] 1 (Aw.xreg [0,1,5] [0] (λ_ _ _ hq=>aFo (fF hq)) (yt (sp 21 [z4,z5,z6]) [(0,some q1)] 1 (Aw.oreg (ye (sp 21 [z4,z5,(5,ii (w64 (s2.2.2+(1:Int)))),(10,ii s2.2.2),(11,ii (w64 (s2.2.2+(1:Int))))]) [(0,some q1)] 1 (hN2 (z1,w64 (s2.2.1+(1:Int)),w64 (s2.2.2+(1:Int))) _ _ _ (bO hh) (el [some 0] (fS kr (rs (sw 0 s2.1) (ri (ri rA)))) (hn mH aY)))))))
noncomputable def aHx  (s1:Int):Option Int:=some s1
noncomputable def mG (x_a:List Bool)(s2:Int×Int):Option (LO (Int×Int) (JO Int Int)):=
 cond (decide (s2.2<((x_a.length:Nat):Int)))
  (grd ((0:Int)<=s2.2/\s2.2<((x_a.length:Nat):Int)) (cond (!((x_a.getD s2.2.toNat default)==(decide ((Int.tmod s2.1 (3:Int))=(0:Int)))))
   (some (.ret (.out (-1:Int))))
   (some (.next ((w64 (s2.1+(1:Int))),w64 (s2.2+(1:Int)))))))
  (some (.ret (.go s2.1)))
noncomputable def oY (x_a:List Bool)(x_k:Int):Option Int:=
 Option.bind (Option.bind (iter (mG x_a) (x_k,(0:Int))) LO.val) λj1=>
  JO.run j1 aHx
noncomputable def g84:Sg tG:=⟨[.row 4,.i .i64],.one (.i .i64),oY⟩
theorem s84:Sok 84 g84:=sgx [] trivial (.s .o (.j ⟨[],[],[(.s 1,.i .i64)]⟩ (.s .o (.k (.l ⟨[0],[],[(.s 1,.i .i64),(.s 5,.i .i64)]⟩ .o))) .o)) kr kr kr
noncomputable def gW (x_a:DMove):Option DMove:=
 Option.bind (pU x_a.From) λv1=>
 Option.bind (pU x_a.To) λv2=>
 Option.bind (sY x_a.Left) λv3=>
 some (DMove.mk v1 v2 x_a.G x_a.N v3)
noncomputable def g28:Sg tG:=⟨[.st 64],.one (.st 2029),gW⟩
theorem s28:Sok 28 g28:=sgx [(35,.r g35),(81,.r g81)] ⟨s35,s81,trivial⟩ .o kr kr kr
theorem sL{x_a:DMove}{R_:DMove}(hh:gW x_a=some R_):Fn Tryz.prog 28 [.agg [bo (eI .i64) x_a.From.Words,bo iR x_a.From.Guests,bo (eI .i64) x_a.To.Words,bo iR x_a.To.Guests,.int .i64 x_a.G,.int .i64 x_a.N,bo eB x_a.Left]] (.agg [.own 3 1 R_.From.Words.length (fl (eI .i64) R_.From.Words),.own 94 17 R_.From.Guests.length (fl bE R_.From.Guests),.own 3 1 R_.To.Words.length (fl (eI .i64) R_.To.Words),.own 94 17 R_.To.Guests.length (fl bE R_.To.Guests),.int .i64 R_.G,.int .i64 R_.N,.own 4 1 R_.Left.length (fl eB R_.Left)]):=kc (s28 x_a R_ hh)
noncomputable def hG (x_a:DMove)(x_b:DMove):Option Bool:=
 Option.bind (pS x_a.From x_b.From) λv1=>
 cond (!v1)
  (some false)
  (Option.bind (pS x_a.To x_b.To) λv2=>
  cond (!v2)
   (some false)
   (cond (!decide (x_a.G=x_b.G))
    (some false)
    (cond (!decide (x_a.N=x_b.N))
     (some false)
     (Option.bind (sS x_a.Left x_b.Left) λv3=>
     cond (!v3)
      (some false)
      (some true)))))
noncomputable def g30:Sg tG:=⟨[.st 29,.st 29],.one .b,hG⟩
theorem s30:Sok 30 g30:=sgx [(37,.r g37),(82,.r g82)] ⟨s37,s82,trivial⟩ .o kr kr kr
theorem rW{x_a:DMove}{x_b:DMove}{R_:Bool}(hh:hG x_a x_b=some R_):Fn Tryz.prog 30 [.agg (yQ x_a),.agg (yQ x_b)] (.bool R_):=kc (s30 x_a x_b R_ hh)
noncomputable def pV (x_a:DMove)(x_left:Int):Option Int:=
 Option.bind (pO x_a.From x_left) λv1=>
 cond (decide (v1<(0:Int)))
  (some (-1:Int))
  (Option.bind (pO x_a.To v1) λv2=>
  cond (decide (v2<(0:Int)))
   (some (-1:Int))
   (Option.bind (tA x_a.Left v2) λv3=>
   cond (decide (v3<(0:Int)))
    (some (-1:Int))
    (some v3)))
noncomputable def g27:Sg tG:=⟨[.st 64,.i .i64],.one (.i .i64),pV⟩
theorem s27:Sok 27 g27:=sgx [(33,.r g33),(80,.r g80)] ⟨s33,s80,trivial⟩ .o kr kr kr
theorem aTk{x_a:DMove}{x_left:Int}{R_:Int}(hh:pV x_a x_left=some R_):Fn Tryz.prog 27 [.agg [bo (eI .i64) x_a.From.Words,bo iR x_a.From.Guests,bo (eI .i64) x_a.To.Words,bo iR x_a.To.Guests,.int .i64 x_a.G,.int .i64 x_a.N,bo eB x_a.Left],.int .i64 x_left] (.int .i64 R_):=kc (s27 x_a x_left R_ hh)
theorem aMd:LW 31 ⟨18,[.tmp 4],.seq (.reg false (rg 31 0)) (.seq (.reg false (rg 31 1)) (.seq (.reg false (rg 31 2)) (.seq (.reg false (rg 31 3)) (.seq (.reg false (rg 31 4)) .ret))))⟩:=kr
noncomputable def jR (x_a:DMove)(x_k:Int):Option ((List Int)×(List DGuest)×(List Int)×(List DGuest)×(List Bool)×Int):=
 Option.bind (jP x_a.From x_k) λv1=>
 grd (v1.1.length=x_a.From.Words.length) (grd (v1.2.1.length=x_a.From.Guests.length) (Option.bind (jP x_a.To v1.2.2) λv2=>
  grd (v2.1.length=x_a.To.Words.length) (grd (v2.2.1.length=x_a.To.Guests.length) (Option.bind (lZ x_a.Left v2.2.2) λv3=>
   grd (v3.1.length=x_a.Left.length) (some (v1.1,v1.2.1,v2.1,v2.2.1,v3.1,v3.2))))))
theorem aAn{x_a:DMove}{x_k:Int}{R_:(List Int)×(List DGuest)×(List Int)×(List DGuest)×(List Bool)×Int}(hh:jR x_a x_k=some R_):Inl Tryz.prog 31 [.agg [.sref 0 [] 0 x_a.From.Words.length 1,.sref 1 [] 0 x_a.From.Guests.length 17,.sref 2 [] 0 x_a.To.Words.length 1,.sref 3 [] 0 x_a.To.Guests.length 17,.int .i64 x_a.G,.int .i64 x_a.N,.sref 4 [] 0 x_a.Left.length 1],.int .i64 x_k] [(4,some (rT_4 x_a.Left)),(3,some (rO94 x_a.To.Guests)),(2,some (rI_3 x_a.To.Words)),(1,some (rO94 x_a.From.Guests)),(0,some (rI_3 x_a.From.Words))] 5 (.int .i64 R_.2.2.2.2.2) [(0,some (rI_3 R_.1)),(1,some (rO94 R_.2.1)),(2,some (rI_3 R_.2.2.1)),(3,some (rO94 R_.2.2.2.1)),(4,some (rT_4 R_.2.2.2.2.1))] 5:=by let z1:EH:=(4,some (rT_4 x_a.Left));unfold jR at hh;let q1:Root:=(rI_3 x_a.From.Words);let q2:Root:=(rO94 x_a.From.Guests);let q3:Root:=(rI_3 x_a.To.Words);let z2:=(2,some q3);let q4:Root:=(rO94 x_a.To.Guests);let z3:=(3,some q4);refine Inl.start aMd [0,1] [0,1,2,3,4] (E:=sp 18 [(0,.agg [sw 0 x_a.From.Words,.sref 1 [] 0 x_a.From.Guests.length 17,sw 2 x_a.To.Words,.sref 3 [] 0 x_a.To.Guests.length 17,ii x_a.G,ii x_a.N,sw 4 x_a.Left]),(1,ii x_k)]) (H1:=[(0,some q1),(1,some q2),z2,z3,z1]) kr kr (Aw.sreg [1,2] [0,1,2,3,4,5] ?_);let q5:Root:=⟨29,[sw 0 x_a.From.Words,.sref 1 [] 0 x_a.From.Guests.length 17,sw 2 x_a.To.Words,.sref 3 [] 0 x_a.To.Guests.length 17,ii x_a.G,ii x_a.N,sw 4 x_a.Left]⟩;let z4:=(5,some q5);refine yt (sp 18 [(1,ii x_k),(2,pp 5)]) [(0,some q1),(1,some q2),z2,z3,z1,z4] 6 (Aw.sreg [1,2] [0,1,2,3,4,5] (yu 3 [(5,pp 5),(6,.agg [sw 0 x_a.From.Words,.sref 1 [] 0 x_a.From.Guests.length 17]),(7,ii x_k)] [(0,some q1),(1,some q2),z2,z3,z1,z4] 6 ?_));obtain⟨v1,hv1,hh⟩:=bind_some hh;let z5:EH:=(0,some (rI_3 v1.1));let z6:EH:=(1,some (rO94 v1.2.1));obtain⟨hg3,hh⟩:=aE hh;obtain⟨hg4,hh⟩:=aE hh;refine ys (.call 39 [.t 6,.t 7]) (some 8) (cf (ii v1.2.2) [z5,z6] 6 [0,1] (aBt hv1) [.agg [sw 0 x_a.From.Words,.sref 1 [] 0 x_a.From.Guests.length 17],ii x_k] rz (hn cJ (hn aX aY)) gE (hn aX (hn cJ aY)) ?_);refine yt (sp 18 [(1,ii v1.2.2),(2,pp 5)]) [z5,z6,z2,z3,z1,z4] 6 (Aw.sreg [1,2] [0,1,2,3,4,5] (yu 3 [(9,.ptr 5 [] 2),(10,.agg [sw 2 x_a.To.Words,.sref 3 [] 0 x_a.To.Guests.length 17]),(11,ii v1.2.2)] [z5,z6,z2,z3,z1,z4] 6 ?_));obtain⟨v2,hv2,hh⟩:=bind_some hh;let z7:EH:=(2,some (rI_3 v2.1));let z8:EH:=(3,some (rO94 v2.2.1));obtain⟨hg7,hh⟩:=aE hh;obtain⟨hg8,hh⟩:=aE hh;refine ys (.call 39 [.t 10,.t 11]) (some 12) (cf (ii v2.2.2) [z7,z8] 6 [2,3] (aBt hv2) [.agg [sw 2 x_a.To.Words,.sref 3 [] 0 x_a.To.Guests.length 17],ii v1.2.2] rz (hn cJ (hn aX aY)) gE (hn aX (hn cJ aY)) ?_);refine yt (sp 18 [(1,ii v2.2.2),(2,pp 5)]) [z5,z6,z7,z8,z1,z4] 6 (Aw.sreg [1] [0,1,2,3,4] (yu 3 [(13,.ptr 5 [] 6),(14,sw 4 x_a.Left),(15,ii v2.2.2)] [z5,z6,z7,z8,z1,z4] 6 ?_));obtain⟨v3,hv3,hh⟩:=bind_some hh;let z9:EH:=(4,some (rT_4 v3.1));obtain⟨hg10,hh⟩:=aE hh;refine ys (.call 83 [.t 14,.t 15]) (some 16) (cf (ii v3.2) [z9] 6 [4] (aLx hv3) [sw 4 x_a.Left,ii v2.2.2] rz (hn mH aY) gE (hn mH aY) ?_);refine yt (sp 18 [(1,ii v3.2)]) [z5,z6,z7,z8,z9] 6 (sy [4] [0,1,2,3,4] (sp 18 [(4,ii v3.2)]) [z5,z6,z7,z8,z9] 6 (Aw.ret ?_));rw[bO hh];exact qR (r':=ii v3.2) kr (el [some 0,some 1,some 2,some 3,some 4] (lO gE) (hn aX (hn cJ (hn aX (hn cJ (hn mH aY))))))
noncomputable def jQ (x_a:DMove)(x_k:Int):Option Int:=
 Option.bind (mU x_a.From x_k) λv1=>
 cond (decide (v1<(0:Int)))
  (some (-1:Int))
  (Option.bind (mU x_a.To v1) λv2=>
  cond (decide (v2<(0:Int)))
   (some (-1:Int))
   (Option.bind (oY x_a.Left v2) λv3=>
   cond (decide (v3<(0:Int)))
    (some (-1:Int))
    (some v3)))
noncomputable def g32:Sg tG:=⟨[.st 29,.i .i64],.one (.i .i64),jQ⟩
theorem s32:Sok 32 g32:=sgx [(41,.r g41),(84,.r g84)] ⟨s41,s84,trivial⟩ .o kr kr kr
theorem aBc{x_a:DMove}{x_k:Int}{R_:Int}(hh:jQ x_a x_k=some R_):Fn Tryz.prog 32 [.agg (yQ x_a),.int .i64 x_k] (.int .i64 R_):=kc (s32 x_a x_k R_ hh)
noncomputable def aHw  (s1:Unit):Option Bool:=some true
noncomputable def mE (x_a:List Int)(x_b:List Int)(s2:Int):Option (LO Int (JO Unit Bool)):=
 cond (decide (s2<((x_a.length:Nat):Int)))
  (grd ((0:Int)<=s2/\s2<((x_a.length:Nat):Int)) (grd ((0:Int)<=s2/\s2<((x_b.length:Nat):Int)) (cond (!decide ((x_a.getD s2.toNat default)=(x_b.getD s2.toNat default)))
   (some (.ret (.out false)))
   (some (.next (w64 (s2+(1:Int))))))))
  (some (.ret (.go ())))
noncomputable def oX (x_a:List Int)(x_b:List Int):Option Bool:=
 Option.bind (Option.bind (iter (mE x_a x_b) (0:Int)) LO.val) λj1=>
  JO.run j1 aHw
noncomputable def bYw:Sg tG:=⟨[.row 3,.row 3],.one .b,oX⟩
theorem cCb:Sok 129 bYw:=sgx [] trivial (.s .o (.j ⟨[],[],[]⟩ (.s .o (.k (.l ⟨[1,7,8],[],[(.s 9,.i .i64)]⟩ .o))) .o)) kr kr kr
noncomputable def aMf  (s1:List Int):Option (List Int):=some s1
noncomputable def kR (x_h:DHost)(x_g:Int)(x_page:Int)(s2:(List Int)×Int):Option (LO ((List Int)×Int) (JO (List Int) (List Int))):=
 cond (decide (s2.2<(8:Int)))
  (Option.bind (qC x_h x_g (w64 ((w64 (x_page*(8:Int)))+s2.2))) λv3=>
  grd ((s2.1.length+List.length ([v3]:List Int))*8<=2^47/\s2.1.length+List.length ([v3]:List Int)<=2^47) (some (.next ((s2.1++([v3]:List Int)),w64 (s2.2+(1:Int))))))
  (some (.ret (.go s2.1)))
noncomputable def lK (x_h:DHost)(x_g:Int)(x_page:Int):Option (List Int):=
 Option.bind (Option.bind (iter (kR x_h x_g x_page) (([]:List Int),(0:Int))) LO.val) λj1=>
  JO.run j1 aMf
noncomputable def g52:Sg tG:=⟨[.st 26,.i .i64,.i .i64],.one (.row 3),lK⟩
theorem s52:Sok 52 g52:=sgx [(113,.r bQk)] ⟨bWt,trivial⟩ (.s .o (.s .o (.j ⟨[],[],[(.s 7,.ro 3)]⟩ (.s .o (.k (.l ⟨[1,2,3],[],[(.s 7,.ro 3),(.s 8,.i .i64)]⟩ .o))) .o))) kr kr kr
noncomputable def tZ (x_m:DMove)(x_page:Int):Option Bool:=
 grd ((0:Int)<=x_m.G/\x_m.G<((x_m.From.Guests.length:Nat):Int)) (grd ((0:Int)<=x_page/\x_page<((List.length (x_m.From.Guests.getD x_m.G.toNat default).Pages:Nat):Int)) (grd ((0:Int)<=x_m.N/\x_m.N<((x_m.To.Guests.length:Nat):Int)) (grd ((0:Int)<=x_page/\x_page<((List.length (x_m.To.Guests.getD x_m.N.toNat default).Pages:Nat):Int)) (Option.bind (bZ x_m.From.Words (DSlot.mk (List.getD (x_m.From.Guests.getD x_m.G.toNat default).Pages x_page.toNat default).Frame (List.getD (x_m.From.Guests.getD x_m.G.toNat default).Pages x_page.toNat default).Write (List.getD (x_m.From.Guests.getD x_m.G.toNat default).Pages x_page.toNat default).Dirty)) λv1=>
  Option.bind (bZ x_m.To.Words (DSlot.mk (List.getD (x_m.To.Guests.getD x_m.N.toNat default).Pages x_page.toNat default).Frame (List.getD (x_m.To.Guests.getD x_m.N.toNat default).Pages x_page.toNat default).Write (List.getD (x_m.To.Guests.getD x_m.N.toNat default).Pages x_page.toNat default).Dirty)) λv2=>
  Option.bind (oX v1 v2) λv3=>
  some v3))))
noncomputable def g61:Sg tG:=⟨[.st 29,.i .i64],.one .b,tZ⟩
theorem s61:Sok 61 g61:=sgx [(100,.r bIh),(129,.r bYw)] ⟨bHh,cCb,trivial⟩ .o kr kr kr
noncomputable def aPd  (s3:Unit):Option Bool:=some true
noncomputable def uQ (s4:Int)(s5:Unit):Option (LO Int (JO Unit Bool)):=some (.next (w64 (s4+(1:Int))))
noncomputable def oT (x_m:DMove)(s4:Int):Option (LO Int (JO Unit Bool)):=
 cond (decide (s4<((List.length (x_m.From.Guests.getD x_m.G.toNat default).Pages:Nat):Int)))
  (Option.bind (grd ((0:Int)<=s4/\s4<((List.length (x_m.From.Guests.getD x_m.G.toNat default).Pages:Nat):Int)) (cond (List.getD (x_m.From.Guests.getD x_m.G.toNat default).Pages s4.toNat default).Dirty
   (some (.out (.ret (.out false))))
   (grd ((0:Int)<=s4/\s4<((x_m.Left.length:Nat):Int)) (cond (!(x_m.Left.getD s4.toNat default))
    (Option.bind (tZ x_m s4) λv6=>
    cond (!v6)
     (some (.out (.ret (.out false))))
     (some (.go ())))
    (some (.go ())))))) λj5=>
   JO.run j5 (uQ s4))
  (some (.ret (.go ())))
noncomputable def uI (x_m:DMove):Option Bool:=
 Option.bind (dL x_m.From x_m.G) λv1=>
 cond (!v1)
  (some false)
  (Option.bind (dL x_m.To x_m.N) λv2=>
  cond (!v2)
   (some false)
   (cond (!decide (((x_m.Left.length:Nat):Int)=(8:Int)))
    (some false)
    (Option.bind (grd ((0:Int)<=x_m.G/\x_m.G<((x_m.From.Guests.length:Nat):Int)) (Option.bind (iter (oT x_m) (0:Int)) LO.val)) λj3=>
     JO.run j3 aPd)))
noncomputable def g15:Sg tG:=⟨[.st 29],.one .b,uI⟩
theorem s15:Sok 15 g15:=sgx [(56,.r g56),(61,.r g61)] ⟨s56,s61,trivial⟩ (.s .o (.s .o (.j ⟨[],[],[]⟩ (.s .o (.k (.l ⟨[1,32,33],[],[(.s 34,.i .i64)]⟩ (.s .o (.s .o (.j ⟨[1,32,33,34],[],[]⟩ .o .o)))))) .o))) kr kr kr
noncomputable def aPs  (s3:Unit):Option Bool:=some true
noncomputable def aAm (s4:Int)(s5:Unit):Option (LO Int (JO Unit Bool)):=some (.next (w64 (s4+(1:Int))))
noncomputable def iI (x_m:DMove)(s4:Int)(v6:List Int)(v7:List Int)(s8:Int):Option (LO Int (JO Unit (LO Int (JO Unit Bool)))):=
 cond (decide (s8<(8:Int)))
  (grd ((0:Int)<=s4/\s4<((x_m.Left.length:Nat):Int)) (cond (!(x_m.Left.getD s4.toNat default))
   (grd ((0:Int)<=s8/\s8<((v6.length:Nat):Int)) (grd ((0:Int)<=s8/\s8<((v7.length:Nat):Int)) (cond (!decide ((v6.getD s8.toNat default)=(v7.getD s8.toNat default)))
    (some (.ret (.out (.ret (.out false)))))
    (some (.next (w64 (s8+(1:Int))))))))
   (some (.ret (.go ())))))
  (some (.ret (.go ())))
noncomputable def pE (x_m:DMove)(s4:Int):Option (LO Int (JO Unit Bool)):=
 cond (decide (s4<(8:Int)))
  (Option.bind (grd ((0:Int)<=x_m.G/\x_m.G<((x_m.From.Guests.length:Nat):Int)) (grd ((0:Int)<=s4/\s4<((List.length (x_m.From.Guests.getD x_m.G.toNat default).Pages:Nat):Int)) (cond (List.getD (x_m.From.Guests.getD x_m.G.toNat default).Pages s4.toNat default).Dirty
   (some (.out (.ret (.out false))))
   (Option.bind (lK x_m.From x_m.G s4) λv6=>
   Option.bind (lK x_m.To x_m.N s4) λv7=>
   Option.bind (iter (iI x_m s4 v6 v7) (0:Int)) LO.val)))) λj5=>
   JO.run j5 (aAm s4))
  (some (.ret (.go ())))
noncomputable def uF (x_m:DMove):Option Bool:=
 Option.bind (dW x_m.From x_m.G) λv1=>
 cond (!v1)
  (some false)
  (Option.bind (dW x_m.To x_m.N) λv2=>
  cond (!v2)
   (some false)
   (cond (!decide (((x_m.Left.length:Nat):Int)=(8:Int)))
    (some false)
    (Option.bind (Option.bind (iter (pE x_m) (0:Int)) LO.val) λj3=>
     JO.run j3 aPs)))
noncomputable def g48:Sg tG:=⟨[.st 29],.one .b,uF⟩
theorem s48:Sok 48 g48:=sgx [(102,.r aJz),(52,.r g52)] ⟨aOu,s52,trivial⟩ (.s .o (.s .o (.j ⟨[],[],[]⟩ (.s .o (.k (.l ⟨[1],[],[(.s 3,.i .i64)]⟩ (.s .o (.j ⟨[1,3],[],[]⟩ (.k (.s .o (.s .o (.s .o (.k (.l ⟨[1,3,4,5],[],[(.s 6,.i .i64)]⟩ .o)))))) .o))))) .o))) kr kr kr
noncomputable def kI (x_m:DMove):Option DMove:=
 grd ((0:Int)<=((x_m.Left.length:Nat):Int)/\((x_m.Left.length:Nat):Int)*1<=2^47/\((x_m.Left.length:Nat):Int)<=2^47) (Option.bind (cH x_m.From) λv1=>
  Option.bind (cH x_m.To) λv2=>
  some (DMove.mk v1 v2 x_m.G x_m.N (over (List.replicate (Int.toNat ((x_m.Left.length:Nat):Int)) false) 0 (List.length (List.replicate (Int.toNat ((x_m.Left.length:Nat):Int)) false)) x_m.Left)))
noncomputable def g97:Sg tG:=⟨[.st 29],.one (.st 2029),kI⟩
theorem s97:Sok 97 g97:=sgx [(131,.r aOx)] ⟨aPj,trivial⟩ .o kr kr kr
noncomputable def lL (x_m:DMove):Option DMove:=
 Option.bind (eM x_m.From) λv1=>
 Option.bind (eM x_m.To) λv2=>
 grd (x_m.Left.length*1<=2^47/\x_m.Left.length<=2^47) (some (DMove.mk v1 v2 x_m.G x_m.N x_m.Left))
noncomputable def g49:Sg tG:=⟨[.st 29],.one (.st 2029),lL⟩
theorem s49:Sok 49 g49:=sgx [(103,.r aUo)] ⟨bAg,trivial⟩ .o kr kr kr
noncomputable def aMa  (s1:Unit):Option Bool:=some true
noncomputable def kL (x_pages:List Int)(s2:Int):Option (LO Int (JO Unit Bool)):=
 cond (decide (s2<((x_pages.length:Nat):Int)))
  (grd ((0:Int)<=s2/\s2<((x_pages.length:Nat):Int)) (Option.bind (fO (x_pages.getD s2.toNat default)) λv3=>
   cond (!v3)
    (some (.ret (.out false)))
    (some (.next (w64 (s2+(1:Int)))))))
  (some (.ret (.go ())))
noncomputable def sF (x_pages:List Int):Option Bool:=
 Option.bind (Option.bind (iter (kL x_pages) (0:Int)) LO.val) λj1=>
  JO.run j1 aMa
noncomputable def bYi:Sg tG:=⟨[.row 3],.one .b,sF⟩
theorem cBi:Sok 190 bYi:=sgx [(46,.r g46)] ⟨s46,trivial⟩ (.s .o (.j ⟨[],[],[]⟩ (.s .o (.k (.l ⟨[5,6],[],[(.s 7,.i .i64)]⟩ .o))) .o)) kr kr kr
noncomputable def aJs (v3:DHost)(s4:List DGuest):Option (DHost×Bool):=some ((DHost.mk v3.Words s4),true)
noncomputable def jB (x_g:Int)(x_pages:List Int)(s5:(List DGuest)×Int):Option (LO ((List DGuest)×Int) (JO (List DGuest) (DHost×Bool))):=
 cond (decide (s5.2<((x_pages.length:Nat):Int)))
  (grd ((0:Int)<=s5.2/\s5.2<((x_pages.length:Nat):Int)) (grd ((0:Int)<=x_g/\x_g<((s5.1.length:Nat):Int)) (grd ((0:Int)<=(x_pages.getD s5.2.toNat default)/\(x_pages.getD s5.2.toNat default)<((List.length (s5.1.getD x_g.toNat default).Pages:Nat):Int)) (some (.next ((s5.1.set x_g.toNat (DGuest.mk (s5.1.getD x_g.toNat default).Live (DCore.mk ((s5.1.getD x_g.toNat default).C).Regs ((s5.1.getD x_g.toNat default).C).Pc ((s5.1.getD x_g.toNat default).C).Root ((s5.1.getD x_g.toNat default).C).Vector ((s5.1.getD x_g.toNat default).C).Saved ((s5.1.getD x_g.toNat default).C).SavedUser ((s5.1.getD x_g.toNat default).C).Cause ((s5.1.getD x_g.toNat default).C).Bad ((s5.1.getD x_g.toNat default).C).Timer ((s5.1.getD x_g.toNat default).C).Waits ((s5.1.getD x_g.toNat default).C).User ((s5.1.getD x_g.toNat default).C).On ((s5.1.getD x_g.toNat default).C).Stopped) (List.set (s5.1.getD x_g.toNat default).Pages (Int.toNat (x_pages.getD s5.2.toNat default)) (DSlot.mk (-1:Int) false false)) (s5.1.getD x_g.toNat default).In (s5.1.getD x_g.toNat default).Out)),w64 (s5.2+(1:Int))))))))
  (some (.ret (.go s5.1)))
noncomputable def mX (x_h:DHost)(x_g:Int)(x_pages:List Int):Option (DHost×Bool):=
 Option.bind (dL x_h x_g) λv1=>
 cond (!v1)
  (some ((DHost.mk ([]:List Int) ([]:List DGuest)),false))
  (Option.bind (sF x_pages) λv2=>
  cond (!v2)
   (some ((DHost.mk ([]:List Int) ([]:List DGuest)),false))
   (Option.bind (cH x_h) λv3=>
   Option.bind (Option.bind (iter (jB x_g x_pages) (v3.Guests,(0:Int))) LO.val) λj4=>
    JO.run j4 (aJs v3)))
noncomputable def cBp:Sg tG:=⟨[.st 26,.i .i64,.row 3],.two (.st 2026) .b,mX⟩
theorem cBy:Sok 153 cBp:=sgx [(56,.r g56),(190,.r bYi),(131,.r aOx)] ⟨s56,cBi,aPj,trivial⟩ (.s .o (.s .o (.s .o (.j ⟨[6,8],[],[(.c 8 1,.ro 1094)]⟩ (.s .o (.k (.l ⟨[1,6,8,23,24],[],[(.c 8 1,.ro 1094),(.s 25,.i .i64)]⟩ .o))) .o)))) kr kr kr
theorem aOv{x_h:DHost}{x_g:Int}{x_pages:List Int}{R_:DHost×Bool}(hh:mX x_h x_g x_pages=some R_):Fn Tryz.prog 153 [.agg (mI x_h),.int .i64 x_g,bo (eI .i64) x_pages] (.tup [.agg [.own 3 1 R_.1.Words.length (fl (eI .i64) R_.1.Words),.own 94 17 R_.1.Guests.length (fl bE R_.1.Guests)],.bool R_.2]):=kc (cBy x_h x_g x_pages R_ hh)
noncomputable def vM (x_m:DMove)(v1:DMove)(v2:DHost×Bool)(s3:List Bool):Option (DMove×Bool):=
 grd ((0:Int)<=x_m.G/\x_m.G<((v2.1.Guests.length:Nat):Int)) (Option.bind (qW (v2.1.Guests.getD x_m.G.toNat default).Pages) λv4=>
  grd ((0:Int)<=x_m.G/\x_m.G<((v2.1.Guests.length:Nat):Int)) (some ((DMove.mk (DHost.mk v2.1.Words (v2.1.Guests.set x_m.G.toNat (DGuest.mk (v2.1.Guests.getD x_m.G.toNat default).Live (DCore.mk ((v2.1.Guests.getD x_m.G.toNat default).C).Regs ((v2.1.Guests.getD x_m.G.toNat default).C).Pc ((v2.1.Guests.getD x_m.G.toNat default).C).Root ((v2.1.Guests.getD x_m.G.toNat default).C).Vector ((v2.1.Guests.getD x_m.G.toNat default).C).Saved ((v2.1.Guests.getD x_m.G.toNat default).C).SavedUser ((v2.1.Guests.getD x_m.G.toNat default).C).Cause ((v2.1.Guests.getD x_m.G.toNat default).C).Bad ((v2.1.Guests.getD x_m.G.toNat default).C).Timer ((v2.1.Guests.getD x_m.G.toNat default).C).Waits ((v2.1.Guests.getD x_m.G.toNat default).C).User ((v2.1.Guests.getD x_m.G.toNat default).C).On ((v2.1.Guests.getD x_m.G.toNat default).C).Stopped) v4 (v2.1.Guests.getD x_m.G.toNat default).In (v2.1.Guests.getD x_m.G.toNat default).Out))) v1.To v1.G v1.N s3),true)))
noncomputable def oH (s5:(List Bool)×Int)(s6:List Bool):Option (LO ((List Bool)×Int) (JO (List Bool) (DMove×Bool))):=some (.next (s6,w64 (s5.2+(1:Int))))
noncomputable def gB (x_m:DMove)(v2:DHost×Bool)(s5:(List Bool)×Int):Option (LO ((List Bool)×Int) (JO (List Bool) (DMove×Bool))):=
 cond (decide (s5.2<((List.length (v2.1.Guests.getD x_m.G.toNat default).Pages:Nat):Int)))
  (Option.bind (grd ((0:Int)<=s5.2/\s5.2<((List.length (v2.1.Guests.getD x_m.G.toNat default).Pages:Nat):Int)) (grd ((0:Int)<=s5.2/\s5.2<((s5.1.length:Nat):Int)) (cond (s5.1.getD s5.2.toNat default)
   (grd ((0:Int)<=s5.2/\s5.2<((s5.1.length:Nat):Int)) (some (.go (s5.1.set s5.2.toNat true))))
   (grd ((0:Int)<=s5.2/\s5.2<((s5.1.length:Nat):Int)) (some (.go (s5.1.set s5.2.toNat (List.getD (v2.1.Guests.getD x_m.G.toNat default).Pages s5.2.toNat default).Dirty))))))) λj6=>
   JO.run j6 (oH s5))
  (some (.ret (.go s5.1)))
noncomputable def nF (x_m:DMove):Option (DMove×Bool):=
 Option.bind (kI x_m) λv1=>
 Option.bind (qN x_m.From x_m.G) λv2=>
 cond (!v2.2)
  (some (v1,false))
  (Option.bind (grd ((0:Int)<=x_m.G/\x_m.G<((v2.1.Guests.length:Nat):Int)) (Option.bind (iter (gB x_m v2) (v1.Left,(0:Int))) LO.val)) λj3=>
   JO.run j3 (vM x_m v1 v2))
noncomputable def g45:Sg tG:=⟨[.st 29],.two (.st 2029) .b,nF⟩
theorem s45:Sok 45 g45:=sgx [(97,.r g97),(98,.r g98),(99,.r g99)] ⟨s97,s98,s99,trivial⟩ (.s .o (.s .o (.s .o (.s .o (.j ⟨[1,2,4,5],[],[(.c 4 6,.ro 4)]⟩ (.s .o (.k (.l ⟨[1,2,4,5,28,29],[],[(.c 4 6,.ro 4),(.s 30,.i .i64)]⟩ (.s .o (.s .o (.j ⟨[1,2,4,5,28,29,30],[],[(.c 4 6,.ro 4)]⟩ .o .o)))))) (.s (.g [] [] [.fo (.c 5 1) 0]) .o)))))) kr kr kr
theorem aJe:LW 101 ⟨58,[.cell 8 true 2,.tmp 9],.seq (.reg false (rg 101 0)) (.seq (.seq (.reg false (rg 101 1)) (.cond (.t 14) (.seq (.reg false (rg 101 2)) .ret) .skip)) (.seq (.reg false (rg 101 3)) (.seq (.seq (.reg false (rg 101 4)) (.cond (.t 30) (.seq (.reg false (rg 101 5)) .ret) .skip)) (.seq (.reg false (rg 101 6)) (.seq (.seq (.reg false (rg 101 7)) (.cond (.t 40) (.seq (.reg false (rg 101 8)) .ret) .skip)) (.seq (.regd (rg 101 9) (rg 101 10)) (.seq (.reg false (rg 101 11)) .ret)))))))⟩:=kr
noncomputable def iJ (x_h:DHost)(x_g:Int)(x_page:Int)(x_words:List Int):Option (DHost×Bool):=
 Option.bind (mT x_words) λv1=>
 cond v1
  (Option.bind (mX x_h x_g ([x_page]:List Int)) λv2=>
  some (v2.1,v2.2))
  (Option.bind (jO x_h x_g x_page) λv3=>
  cond (!v3.2)
   (some ((DHost.mk ([]:List Int) ([]:List DGuest)),false))
   (Option.bind (jS v3.1 x_g x_page) λv4=>
   cond (!v4.2)
    (some ((DHost.mk ([]:List Int) ([]:List DGuest)),false))
    (grd ((0:Int)<=x_g/\x_g<((v4.1.Guests.length:Nat):Int)) (grd ((0:Int)<=x_page/\x_page<((List.length (v4.1.Guests.getD x_g.toNat default).Pages:Nat):Int)) (Option.bind (gQ v4.1.Words (List.getD (v4.1.Guests.getD x_g.toNat default).Pages x_page.toNat default).Frame) λv5=>
     grd (v5.1.length=v4.1.Words.length) (grd (v5.2.1+v5.2.2<=v5.1.length) (some ((DHost.mk (over v5.1 v5.2.1 v5.2.2 x_words) v4.1.Guests),true))))))))
theorem aMc{x_h:DHost}{x_g:Int}{x_page:Int}{x_words:List Int}{R_:DHost×Bool}(hh:iJ x_h x_g x_page x_words=some R_):Fn Tryz.prog 101 [.agg (mI x_h),.int .i64 x_g,.int .i64 x_page,bo (eI .i64) x_words] (.tup [.agg [.own 3 1 R_.1.Words.length (fl (eI .i64) R_.1.Words),.own 94 17 R_.1.Guests.length (fl bE R_.1.Guests)],.bool R_.2]):=by let z3:EH:=(0,some (rB26 x_h));let z4:=(1,ii x_g);let z5:EH:=(1,some ⟨26,[.nil,.nil]⟩);let z6:=(12,pp 7);let z7:=(2,ii x_page);let z8:=(3,bo (eI .i64) x_words);let z9:EV:=(47,.ptr 6 [] (0+x_g.toNat*17));let z10:EV:=(48,.ptr 6 [] (0+x_g.toNat*17+14));let z11:EV:=(51,.ptr 6 [0+x_g.toNat*17+14+0] (0+x_page.toNat*3));let z12:EV:=(52,.ptr 6 [0+x_g.toNat*17+14+0] (0+x_page.toNat*3+0));let z13:=(8,pp 1);unfold iJ at hh;refine Fn.start aJe [0,1,2,3] (E:=sp 58 [(0,.agg (mI x_h)),z4,z7,z8]) kr (v:= .tup [.agg [sw 0 R_.1.Words,.sref 1 [] 0 R_.1.Guests.length 17],bb R_.2]) (Hr:=[(1,some (rO94 R_.1.Guests)),(0,some (rI_3 R_.1.Words))]) (k:=2) kr (sy [1,2,3,4,8] [0,1] (sp 58 [z4,z7,z8,(4,pp 0),z13]) [z3,z5] 2 (Aw.seq (Aw.sreg [1,2,3,4,8,14] [0,1] (yj 1  (sp 58 [z4,z7,z8,(4,pp 0),z13,(13,bo (eI .i64) x_words)]) [z3,z5] 2 ?_))));obtain⟨v1,hv1,hh⟩:=bind_some hh;refine ys (.call 152 [.t 13]) (some 14) (oc (aPf hv1) ?_);refine yt (sp 58 [z4,z7,z8,(4,pp 0),z13,(14,bb v1)]) [z3,z5] 2 ?_;rcases dM hh with⟨hb,hh⟩|⟨hb,hh⟩;{refine cT hb (Aw.sreg [8,9] [1,3,4] (yu 4 [(15,.agg (mI x_h)),(16,ii x_g),(17,ii x_page),(18,.sref 2 [] 0 1 1)] [(2,some ⟨3,[ii x_page]⟩),z3,z5] 3 ?_));obtain⟨v2,hv2,hh⟩:=bind_some hh;let q1:Root:=(rO94 v2.1.Guests);let q2:Root:=(rI_3 v2.1.Words);refine ys (.call 153 [.t 15,.t 16,.t 18]) (some 19) (dI (r:= .tup [.agg [.own 3 1 v2.1.Words.length (fl (eI .i64) v2.1.Words),.own 94 17 v2.1.Guests.length (fl bE v2.1.Guests)],bb v2.2]) (v:= .tup [.agg [sw 3 v2.1.Words,.sref 4 [] 0 v2.1.Guests.length 17],bb v2.2]) (Hr:=[(4,some q1),(3,some q2)]) (n':=5) (aOv hv2) (gC (vs:=[.agg (mI x_h),ii x_g,.sref 2 [] 0 1 1]) kr (dD (aD (aKa (zY _))) (cz1 (dD (aR (c:=(eI .i64)) (xs:=([x_page]:List Int)) (e:=3) eqn aV bL bJ kr) eK)))) nrr nrr kr ?_);refine yt (sp 58 [z13,(9,bb v2.2)]) [(1,some ⟨26,[sw 3 v2.1.Words,.sref 4 [] 0 v2.1.Guests.length 17]⟩),(3,some q2),(4,some q1)] 5 (Aw.ret (kJ ?_));rw[bO hh];exact qR (r':= .tup [.agg [sw 3 v2.1.Words,.sref 4 [] 0 v2.1.Guests.length 17],bb v2.2]) kr (Ent.list [some 3,some 4] rfl rfl (Nat.zero_le _) (lO (oA rz)) (hn cJ (hn aX aY)))};refine cF hb (Aw.xskip (λ_ _ _ hq=>fF hq) (Aw.sreg [1,2,3,8,10,11] [1,2,3,4] (yj 3  (sp 58 [z4,z7,z8,(4,pp 0),z13,(14,bb v1),(23,.agg (mI x_h)),(24,ii x_g),(25,ii x_page)]) [z3,z5] 2 ?_)));obtain⟨v3,hv3,hh⟩:=bind_some hh;let q3:Root:=(rO94 v3.1.Guests);let q4:Root:=(rI_3 v3.1.Words);refine ys (.call 154 [.t 23,.t 24,.t 25]) (some 26) (dI (r:= .tup [.agg [.own 3 1 v3.1.Words.length (fl (eI .i64) v3.1.Words),.own 94 17 v3.1.Guests.length (fl bE v3.1.Guests)],bb v3.2]) (v:= .tup [.agg [sw 2 v3.1.Words,.sref 3 [] 0 v3.1.Guests.length 17],bb v3.2]) (Hr:=[(3,some q3),(2,some q4)]) (n':=4) (aPw hv3) (gC (vs:=[.agg (mI x_h),ii x_g,ii x_page]) kr (dD (aD (aKa (zY _))) (cz1 (cz1 eK)))) nrr nrr kr ?_);let q5:Root:=⟨26,[sw 2 v3.1.Words,.sref 3 [] 0 v3.1.Guests.length 17]⟩;refine yt (sp 58 [z4,z7,z8,z13,(10,pp 4),(11,bb v3.2)]) [z5,(2,some q4),(3,some q3),(4,some q5)] 5 (Aw.seq (sy [1,2,3,8,10,30] [1,2,3,4] (sp 58 [z4,z7,z8,z13,(10,pp 4),(30,bb (!v3.2))]) [z5,(2,some q4),(3,some q3),(4,some q5)] 5 ?_));rcases dM hh with⟨hb,hh⟩|⟨hb,hh⟩;{refine cT hb (sy [8,9] [1] (sp 58 [z13,(9,bb false)]) [z5] 5 (Aw.ret (kJ ?_)));rw[bO hh];exact qR (r':= .tup [.agg [.nil,.nil],bb false]) kr (Ent.list [none,none] rfl rfl (Nat.zero_le _) (lO (oA rz)) (aXg dd rfl rfl (aXg dd rfl rfl aY)))};refine cF hb (Aw.xskip (λ_ _ _ hq=>fF hq) (Aw.sreg [1,2,3,8,11,12] [1,5,6,7] (yj 3  (sp 58 [z4,z7,z8,z13,(10,pp 4),(30,bb (!v3.2)),(33,.agg [sw 2 v3.1.Words,.sref 3 [] 0 v3.1.Guests.length 17]),(34,ii x_g),(35,ii x_page)]) [z5,(2,some q4),(3,some q3),(4,some q5)] 5 ?_)));obtain⟨v4,hv4,hh⟩:=bind_some hh;let z14:=(40,bb (!v4.2));let z15:=(43,sw 5 v4.1.Words);let z16:EV:=(45,.sref 6 [] 0 v4.1.Guests.length 17);let z1:=v4.1.Guests.getD x_g.toNat default;let z17:EV:=(49,.sref 6 [0+x_g.toNat*17+14+0] 0 (List.length z1.Pages) 3);let z2:=List.getD z1.Pages x_page.toNat default;let q6:Root:=(rO94 v4.1.Guests);let z18:=(6,some q6);let q7:Root:=(rI_3 v4.1.Words);let z19:=(5,some q7);refine ys (.call 155 [.t 33,.t 34,.t 35]) (some 36) (dI (r:= .tup [.agg [.own 3 1 v4.1.Words.length (fl (eI .i64) v4.1.Words),.own 94 17 v4.1.Guests.length (fl bE v4.1.Guests)],bb v4.2]) (v:= .tup [.agg [sw 5 v4.1.Words,.sref 6 [] 0 v4.1.Guests.length 17],bb v4.2]) (Hr:=[z18,z19]) (n':=7) (aPl hv4) (gC (vs:=[.agg [sw 2 v3.1.Words,.sref 3 [] 0 v3.1.Guests.length 17],ii x_g,ii x_page]) kr (dD (eN (aB (aR (c:=(eI .i64)) (xs:=v3.1.Words) (e:=3) eqn aV bL bJ kr) (aB (cQ (B:=dC) (xs:=v3.1.Guests) (e:=94) cS aL eqn kr) fH))) (cz1 (cz1 eK)))) nrr nrr kr ?_);let q8:Root:=⟨26,[sw 5 v4.1.Words,.sref 6 [] 0 v4.1.Guests.length 17]⟩;let z20:=(7,some q8);refine yt (sp 58 [z4,z7,z8,z13,(11,bb v4.2),z6]) [z5,z19,z18,z20] 8 (Aw.seq (sy [1,2,3,8,12,40] [1,5,6,7] (sp 58 [z4,z7,z8,z13,z6,z14]) [z5,z19,z18,z20] 8 ?_));rcases dM hh with⟨hb,hh⟩|⟨hb,hh⟩;{refine cT hb (sy [8,9] [1] (sp 58 [z13,(9,bb false)]) [z5] 8 (Aw.ret (kJ ?_)));rw[bO hh];exact qR (r':= .tup [.agg [.nil,.nil],bb false]) kr (Ent.list [none,none] rfl rfl (Nat.zero_le _) (lO (oA rz)) (aXg dd rfl rfl (aXg dd rfl rfl aY)))};refine cF hb (Aw.xskip (λ_ _ _ hq=>fF hq) (Aw.sregd [8,12] [1,5,6,7] [5] kr ?_));obtain⟨hg8,hh⟩:=aE hh;refine dc (cs:=[(0:Int)<=x_g/\x_g<((v4.1.Guests.length:Nat):Int)]) (E':=(sp 58 [z4,z7,z8,z13,z6,z14,(42,pp 7),z15,(44,.ptr 7 [] 1),z16,(46,ii x_g),z9,z10])) (H':=[z5,z19,z18,z20]) (n':=8) (fs':=none) (pre:=(List.take 7 (rg 101 9))) (L':=(List.drop 7 (rg 101 9))) kr (λK=>by kernel_rfl) (.cons hg8 .nil) (ds (.load false 1 (.t 48)) (some 49) (bSs rfl kr (aKv (c:=bE) (xs:=v4.1.Guests) (e:=94) (r:=6) (π:=[]) (o:=0+x_g.toNat*17+14) (i:=x_g.toNat) (off:=14) (v:= .sref 6 [0+x_g.toNat*17+14+0] 0 (List.length z1.Pages) 3) aL kr kr ltn ltn dd kr ?_)));obtain⟨hg7,hh⟩:=aE hh;refine dc (cs:=[(0:Int)<=x_page/\x_page<((List.length z1.Pages:Nat):Int)]) (E':=(sp 58 [z4,z7,z8,z13,z6,z14,(42,pp 7),z15,(44,.ptr 7 [] 1),z16,(46,ii x_g),z9,z10,z17,(50,ii x_page),z11,z12])) (H':=[z5,z19,z18,z20]) (n':=8) (fs':=none) (pre:=(List.take 3 (List.drop 8 (rg 101 9)))) (L':=(List.drop 11 (rg 101 9))) kr (λK=>by kernel_rfl) (.cons hg7 .nil) (ds (.load false 1 (.t 52)) (some 53) (bSs rfl kr (aKv (c:=eY) (xs:=z1.Pages) (e:=91) (r:=6) (π:=[0+x_g.toNat*17+14+0]) (o:=0+x_page.toNat*3+0) (i:=x_page.toNat) (off:=0) (v:=ii z2.Frame) mC kr (aEq (e:=94) (e':=91) (sz':=3) (m':=(List.length z1.Pages)) (cs':=(fl eY z1.Pages)) (c:=bE) (xs:=v4.1.Guests) (i:=x_g.toNat) (off:=14) aL kr ltn ltn dd rfl kr) ltn ltn dd kr ?_)));obtain⟨v5,hv5,hh⟩:=bind_some hh;let z21:EH:=(5,some (rI_3 v5.1));obtain⟨hg5,hh⟩:=aE hh;obtain⟨hg6,hh⟩:=aE hh;refine ds (.call 151 [.t 43,.t 53]) (some 54) (uL rfl (cf (.sref 5 [] (0+v5.2.1*1) v5.2.2 1) [z21] 8 [5] (uY hv5) [sw 5 v4.1.Words,ii z2.Frame] rz (hn aX aY) aBa (hn aX aY) ⟨⟨⟨by decide,aKl rfl rfl⟩,Hld.un ?_⟩⟩));refine dt (sp 58 [z4,z7,z8,z13,z6,z14,(42,pp 7),z15,(44,.ptr 7 [] 1),z16,(46,ii x_g),z9,z10,z17,(50,ii x_page),z11,z12,(53,ii z2.Frame),(54,.sref 5 [] (0+v5.2.1*1) v5.2.2 1),(55,bo (eI .i64) x_words)]) [z21,(5,none),z5,z19,z18,z20] 8 ?_;let q9:Root:=(rI_3 (over v5.1 v5.2.1 v5.2.2 x_words));refine ys (.cpy 1 (.t 54) (.t 55)) (some 56) (aIg (c:=(eI .i64)) (xs:=v5.1) (ys:=x_words) (e:=3) (r:=5) (π:=[]) (o:=0+v5.2.1*1) (k:=v5.2.2) (i:=v5.2.1) (H':=[(5,some q9),z21,(5,none),z5,z19,z18,z20]) aV (rpv kr (aSh (c:=(eI .i64)) (xs:=x_words) aV)) kr kr ltn ltn kr ?_);refine yt (sp 58 [z13,z6]) [z5,(5,some q9),z18,z20] 8 (sy [8,9] [1,5,6] (sp 58 [z13,(9,bb true)]) [(1,some q8),(5,some q9),z18] 8 (Aw.ret ?_));rw[bO hh];exact qR (r':= .tup [.agg [sw 5 v4.1.Words,.sref 6 [] 0 v4.1.Guests.length 17],bb true]) kr (Ent.list [some 5,some 6] rfl rfl (Nat.zero_le _) (lO (oA rz)) (hn cJ (hn aX aY)))
noncomputable def bWl:Sg tG:=⟨[.st 26,.i .i64,.i .i64,.row 3],.two (.st 2026) .b,iJ⟩
theorem cCt:Sok 101 bWl:=λx_h x_g x_page x_words R_ hh=>kc (aMc (x_h:=x_h) (x_g:=x_g) (x_page:=x_page) (x_words:=x_words) hh)
noncomputable def qX (x_m:DMove)(x_page:Int):Option (DMove×Bool):=
 Option.bind (kI x_m) λv1=>
 grd ((0:Int)<=x_m.G/\x_m.G<((x_m.From.Guests.length:Nat):Int)) (grd ((0:Int)<=x_page/\x_page<((List.length (x_m.From.Guests.getD x_m.G.toNat default).Pages:Nat):Int)) (Option.bind (bZ x_m.From.Words (DSlot.mk (List.getD (x_m.From.Guests.getD x_m.G.toNat default).Pages x_page.toNat default).Frame (List.getD (x_m.From.Guests.getD x_m.G.toNat default).Pages x_page.toNat default).Write (List.getD (x_m.From.Guests.getD x_m.G.toNat default).Pages x_page.toNat default).Dirty)) λv2=>
  Option.bind (iJ x_m.To x_m.N x_page v2) λv3=>
  cond (!v3.2)
   (some (v1,false))
   (grd ((0:Int)<=x_page/\x_page<((v1.Left.length:Nat):Int)) (some ((DMove.mk v1.From v3.1 v1.G v1.N (v1.Left.set x_page.toNat false)),true)))))
noncomputable def g47:Sg tG:=⟨[.st 29,.i .i64],.two (.st 2029) .b,qX⟩
theorem s47:Sok 47 g47:=sgx [(97,.r g97),(100,.r bIh),(101,.r bWl)] ⟨s97,bHh,cCt,trivial⟩ .o kr kr kr
noncomputable def aOz  (s2:Unit):Option (DMove×Bool):=some ((DMove.mk (DHost.mk ([]:List Int) ([]:List DGuest)) (DHost.mk ([]:List Int) ([]:List DGuest)) (0:Int) (0:Int) ([]:List Bool)),false)
noncomputable def mO (x_m:DMove)(x_a:DAct):Option (DMove×Bool):=
 Option.bind (uI x_m) λv1=>
 cond (!v1)
  (some ((DMove.mk (DHost.mk ([]:List Int) ([]:List DGuest)) (DHost.mk ([]:List Int) ([]:List DGuest)) (0:Int) (0:Int) ([]:List Bool)),false))
  (Option.bind (cond (decide (x_a.Kind=(1:Int)))
   (Option.bind (nF x_m) λv3=>
   some (.out (v3.1,v3.2)))
   (cond (decide (x_a.Kind=(2:Int)))
    (Option.bind (fO x_a.Page) λv4=>
    cond v4
     (Option.bind (qX x_m x_a.Page) λv5=>
     some (.out (v5.1,v5.2)))
     (some (.go ())))
    (some (.go ())))) λj2=>
   JO.run j2 aOz)
noncomputable def g9:Sg tG:=⟨[.st 29,.st 31],.two (.st 2029) .b,mO⟩
theorem s9:Sok 9 g9:=sgx [(15,.r g15),(45,.r g45),(46,.r g46),(47,.r g47)] ⟨s15,s45,s46,s47,trivial⟩ (.s .o (.s .o (.j ⟨[4],[],[]⟩ .o .o))) kr kr kr
theorem aDs{x_m:DMove}{x_a:DAct}{R_:DMove×Bool}(hh:mO x_m x_a=some R_):Fn Tryz.prog 9 [.agg (yQ x_m),.agg (dS x_a)] (.tup [.agg [.own 3 1 R_.1.From.Words.length (fl (eI .i64) R_.1.From.Words),.own 94 17 R_.1.From.Guests.length (fl bE R_.1.From.Guests),.own 3 1 R_.1.To.Words.length (fl (eI .i64) R_.1.To.Words),.own 94 17 R_.1.To.Guests.length (fl bE R_.1.To.Guests),.int .i64 R_.1.G,.int .i64 R_.1.N,.own 4 1 R_.1.Left.length (fl eB R_.1.Left)],.bool R_.2]):=kc (s9 x_m x_a R_ hh)
noncomputable def uU (x_m:DMove)(x_a:DAct)(v2:DMove)(v5:List Int)(s8:(List Int)×(List DGuest)×Bool):Option (DMove×Bool):=
 cond (!s8.2.2)
  (Option.bind (lL x_m) λv9=>
  some (v9,false))
  (grd ((0:Int)<=x_m.N/\x_m.N<((s8.2.1.length:Nat):Int)) (grd ((0:Int)<=x_a.Page/\x_a.Page<((List.length (s8.2.1.getD x_m.N.toNat default).Pages:Nat):Int)) (grd ((0:Int)<=(w64 ((List.getD (s8.2.1.getD x_m.N.toNat default).Pages x_a.Page.toNat default).Frame*(8:Int)))/\(w64 ((List.getD (s8.2.1.getD x_m.N.toNat default).Pages x_a.Page.toNat default).Frame*(8:Int)))<=((s8.1.length:Nat):Int)/\((s8.1.length:Nat):Int)<=((s8.1.length:Nat):Int)) (some ((DMove.mk v2.From (DHost.mk (over s8.1 (Int.toNat (w64 ((List.getD (s8.2.1.getD x_m.N.toNat default).Pages x_a.Page.toNat default).Frame*(8:Int)))) (Int.toNat ((s8.1.length:Nat):Int)-Int.toNat (w64 ((List.getD (s8.2.1.getD x_m.N.toNat default).Pages x_a.Page.toNat default).Frame*(8:Int)))) v5) s8.2.1) v2.G v2.N (v2.Left.set x_a.Page.toNat false)),true)))))
noncomputable def aAj (x_m:DMove)(x_a:DAct)(v2:DMove)(v5:List Int)(s6:Bool):Option (DMove×Bool):=
 grd ((0:Int)<=x_a.Page/\x_a.Page<((v2.Left.length:Nat):Int)) (cond s6
  (grd ((0:Int)<=x_m.N/\x_m.N<((v2.To.Guests.length:Nat):Int)) (grd ((0:Int)<=x_a.Page/\x_a.Page<((List.length (v2.To.Guests.getD x_m.N.toNat default).Pages:Nat):Int)) (some ((DMove.mk v2.From (DHost.mk v2.To.Words (v2.To.Guests.set x_m.N.toNat (DGuest.mk (v2.To.Guests.getD x_m.N.toNat default).Live (DCore.mk ((v2.To.Guests.getD x_m.N.toNat default).C).Regs ((v2.To.Guests.getD x_m.N.toNat default).C).Pc ((v2.To.Guests.getD x_m.N.toNat default).C).Root ((v2.To.Guests.getD x_m.N.toNat default).C).Vector ((v2.To.Guests.getD x_m.N.toNat default).C).Saved ((v2.To.Guests.getD x_m.N.toNat default).C).SavedUser ((v2.To.Guests.getD x_m.N.toNat default).C).Cause ((v2.To.Guests.getD x_m.N.toNat default).C).Bad ((v2.To.Guests.getD x_m.N.toNat default).C).Timer ((v2.To.Guests.getD x_m.N.toNat default).C).Waits ((v2.To.Guests.getD x_m.N.toNat default).C).User ((v2.To.Guests.getD x_m.N.toNat default).C).On ((v2.To.Guests.getD x_m.N.toNat default).C).Stopped) (List.set (v2.To.Guests.getD x_m.N.toNat default).Pages x_a.Page.toNat (DSlot.mk (-1:Int) false false)) (v2.To.Guests.getD x_m.N.toNat default).In (v2.To.Guests.getD x_m.N.toNat default).Out))) v2.G v2.N (v2.Left.set x_a.Page.toNat false)),true))))
  (Option.bind (gF v2.To x_m.N x_a.Page) λv7=>
  Option.bind (cond v7.2
   (Option.bind (gH v7.1 x_m.N x_a.Page) λv10=>
   some (.go (v10.1.Words,v10.1.Guests,v10.2)))
   (some (.go (v7.1.Words,v7.1.Guests,v7.2)))) λj8=>
   JO.run j8 (uU x_m x_a v2 v5)))
noncomputable def tQ (s11:Bool×Int)(s12:Bool):Option (LO (Bool×Int) (JO Bool (DMove×Bool))):=some (.next (s12,w64 (s11.2+(1:Int))))
noncomputable def kN (v5:List Int)(s11:Bool×Int):Option (LO (Bool×Int) (JO Bool (DMove×Bool))):=
 cond (decide (s11.2<(8:Int)))
  (Option.bind (cond s11.1
   (grd ((0:Int)<=s11.2/\s11.2<((v5.length:Nat):Int)) (some (.go (decide ((v5.getD s11.2.toNat default)=(0:Int))))))
   (some (.go false))) λj12=>
   JO.run j12 (tQ s11))
  (some (.ret (.go s11.1)))
noncomputable def aBd (x_m:DMove)(x_a:DAct)(v2:DMove)(s3:Unit):Option (DMove×Bool):=
 cond (!decide (x_a.Kind=(2:Int)))
  (some ((DMove.mk (DHost.mk ([]:List Int) ([]:List DGuest)) (DHost.mk ([]:List Int) ([]:List DGuest)) (0:Int) (0:Int) ([]:List Bool)),false))
  (Option.bind (cI x_a.Page (0:Int) (7:Int)) λv4=>
  cond (!v4)
   (some ((DMove.mk (DHost.mk ([]:List Int) ([]:List DGuest)) (DHost.mk ([]:List Int) ([]:List DGuest)) (0:Int) (0:Int) ([]:List Bool)),false))
   (Option.bind (lK x_m.From x_m.G x_a.Page) λv5=>
   Option.bind (Option.bind (iter (kN v5) (true,(0:Int))) LO.val) λj6=>
    JO.run j6 (aAj x_m x_a v2 v5)))
noncomputable def zC (v2:DMove)(v13:DHost×Bool)(s15:(List Bool)×(List DGuest)):Option (JO Unit (DMove×Bool)):=some (.out ((DMove.mk (DHost.mk v13.1.Words s15.2) v2.To v2.G v2.N s15.1),true))
noncomputable def tC (s16:(List Bool)×(List DGuest)×Int)(s17:(List Bool)×(List DGuest)):Option (LO ((List Bool)×(List DGuest)×Int) (JO ((List Bool)×(List DGuest)) (JO Unit (DMove×Bool)))):=some (.next (s17.1,s17.2,w64 (s16.2.2+(1:Int))))
noncomputable def kK (x_m:DMove)(s16:(List Bool)×(List DGuest)×Int):Option (LO ((List Bool)×(List DGuest)×Int) (JO ((List Bool)×(List DGuest)) (JO Unit (DMove×Bool)))):=
 cond (decide (s16.2.2<(8:Int)))
  (Option.bind (grd ((0:Int)<=x_m.G/\x_m.G<((s16.2.1.length:Nat):Int)) (grd ((0:Int)<=s16.2.2/\s16.2.2<((List.length (s16.2.1.getD x_m.G.toNat default).Pages:Nat):Int)) (cond (List.getD (s16.2.1.getD x_m.G.toNat default).Pages s16.2.2.toNat default).Dirty
   (grd ((0:Int)<=x_m.G/\x_m.G<((s16.2.1.length:Nat):Int)) (grd ((0:Int)<=s16.2.2/\s16.2.2<((List.length (s16.2.1.getD x_m.G.toNat default).Pages:Nat):Int)) (grd ((0:Int)<=s16.2.2/\s16.2.2<((s16.1.length:Nat):Int)) (some (.go ((s16.1.set s16.2.2.toNat true),s16.2.1.set x_m.G.toNat (DGuest.mk (s16.2.1.getD x_m.G.toNat default).Live (DCore.mk ((s16.2.1.getD x_m.G.toNat default).C).Regs ((s16.2.1.getD x_m.G.toNat default).C).Pc ((s16.2.1.getD x_m.G.toNat default).C).Root ((s16.2.1.getD x_m.G.toNat default).C).Vector ((s16.2.1.getD x_m.G.toNat default).C).Saved ((s16.2.1.getD x_m.G.toNat default).C).SavedUser ((s16.2.1.getD x_m.G.toNat default).C).Cause ((s16.2.1.getD x_m.G.toNat default).C).Bad ((s16.2.1.getD x_m.G.toNat default).C).Timer ((s16.2.1.getD x_m.G.toNat default).C).Waits ((s16.2.1.getD x_m.G.toNat default).C).User ((s16.2.1.getD x_m.G.toNat default).C).On ((s16.2.1.getD x_m.G.toNat default).C).Stopped) (List.set (s16.2.1.getD x_m.G.toNat default).Pages s16.2.2.toNat (DSlot.mk (List.getD (s16.2.1.getD x_m.G.toNat default).Pages s16.2.2.toNat default).Frame (List.getD (s16.2.1.getD x_m.G.toNat default).Pages s16.2.2.toNat default).Write false)) (s16.2.1.getD x_m.G.toNat default).In (s16.2.1.getD x_m.G.toNat default).Out)))))))
   (some (.go (s16.1,s16.2.1)))))) λj17=>
   JO.run j17 (tC s16))
  (some (.ret (.go (s16.1,s16.2.1))))
noncomputable def pW (x_m:DMove)(x_a:DAct):Option (DMove×Bool):=
 Option.bind (uF x_m) λv1=>
 cond (!v1)
  (some ((DMove.mk (DHost.mk ([]:List Int) ([]:List DGuest)) (DHost.mk ([]:List Int) ([]:List DGuest)) (0:Int) (0:Int) ([]:List Bool)),false))
  (Option.bind (lL x_m) λv2=>
  Option.bind (cond (decide (x_a.Kind=(1:Int)))
   (Option.bind (qV v2.From x_m.G) λv13=>
   cond (!v13.2)
    (Option.bind (lL x_m) λv14=>
    some (.out (v14,false)))
    (Option.bind (Option.bind (iter (kK x_m) (v2.Left,v13.1.Guests,(0:Int))) LO.val) λj15=>
     JO.run j15 (zC v2 v13)))
   (some (.go ()))) λj3=>
   JO.run j3 (aBd x_m x_a v2))
noncomputable def g10:Sg tG:=⟨[.st 29,.st 31],.two (.st 2029) .b,pW⟩
theorem s10:Sok 10 g10:=sgx [(48,.r g48),(49,.r g49),(50,.r g50),(51,.r g51),(52,.r g52),(53,.r g53),(54,.r g54)] ⟨s48,s49,s50,s51,s52,s53,s54,trivial⟩ (.s .o (.s .o (.s .o (.j ⟨[2,3,4,6],[],[]⟩ (.s .o (.c (.s .o (.s .o (.j ⟨[4,6,7],[],[(.c 6 6,.ro 4),(.c 7 1,.ro 1094)]⟩ (.s .o (.k (.l ⟨[2,4,6,7],[],[(.c 6 6,.ro 4),(.c 7 1,.ro 1094),(.s 9,.i .i64)]⟩ (.s .o (.j ⟨[2,4,6,7,9],[],[(.c 6 6,.ro 4),(.c 7 1,.ro 1094)]⟩ .o .o))))) .o))) .o)) (.s .o (.s .o (.s .o (.j ⟨[2,3,4,6,10],[],[(.s 11,.b)]⟩ (.s .o (.k (.l ⟨[2,3,4,6,10],[],[(.s 11,.b),(.s 12,.i .i64)]⟩ (.s .o (.j ⟨[2,3,4,6,10,12],[],[(.s 11,.b)]⟩ .o .o))))) (.s .o (.s .o (.s .o (.j ⟨[2,3,4,6,10,13],[],[(.c 13 0,.ro 3),(.c 13 1,.ro 1094),(.s 14,.b)]⟩ .o .o)))))))))))) kr kr kr
theorem aTg{x_m:DMove}{x_a:DAct}{R_:DMove×Bool}(hh:pW x_m x_a=some R_):Fn Tryz.prog 10 [.agg (yQ x_m),.agg (dS x_a)] (.tup [.agg [.own 3 1 R_.1.From.Words.length (fl (eI .i64) R_.1.From.Words),.own 94 17 R_.1.From.Guests.length (fl bE R_.1.From.Guests),.own 3 1 R_.1.To.Words.length (fl (eI .i64) R_.1.To.Words),.own 94 17 R_.1.To.Guests.length (fl bE R_.1.To.Guests),.int .i64 R_.1.G,.int .i64 R_.1.N,.own 4 1 R_.1.Left.length (fl eB R_.1.Left)],.bool R_.2]):=kc (s10 x_m x_a R_ hh)
noncomputable def oO (x_a:DAct):Option DAct:=some x_a
noncomputable def g29:Sg tG:=⟨[.st 65],.one (.st 31),oO⟩
theorem s29:Sok 29 g29:=sgx [] trivial .o kr kr kr
theorem yR{x_a:DAct}{R_:DAct}(hh:oO x_a=some R_):Fn Tryz.prog 29 [.agg (dS x_a)] (.agg [.int .i64 R_.Kind,.int .i64 R_.Page]):=kc (s29 x_a R_ hh)
theorem aCw:LW 6 ⟨104,[.tmp 4],.seq (.reg false (rg 6 0)) (.seq (.reg false (rg 6 1)) (.seq (.reg false (rg 6 2)) (.seq (.seq (.reg false (rg 6 3)) (.cond (.t 20) (.seq (.reg false (rg 6 4)) .ret) .skip)) (.seq (.regd (rg 6 5) (rg 6 6)) (.seq (.reg false (rg 6 7)) (.seq (.regd (rg 6 8) (rg 6 9)) (.seq (.seq (.reg false (rg 6 10)) (.cond (.t 46) (.seq (.reg false (rg 6 11)) .ret) .skip)) (.seq (.seq (.regd (rg 6 12) (rg 6 13)) (.cond (.t 51) (.seq (.reg false (rg 6 14)) .ret) .skip)) (.seq (.reg false (rg 6 15)) (.seq (.reg false (rg 6 16)) (.seq (.seq (.reg false (rg 6 17)) (.cond (.t 67) (.seq (.reg false (rg 6 18)) .ret) .skip)) (.seq (.reg false (rg 6 19)) (.seq (.reg false (rg 6 20)) (.seq (.reg false (rg 6 21)) (.seq (.reg false (rg 6 22)) (.seq (.seq (.reg false (rg 6 23)) (.cond (.t 75) (.seq (.reg false (rg 6 24)) .ret) .skip)) (.seq (.seq (.reg false (rg 6 25)) (.cond (.t 78) (.seq (.reg false (rg 6 26)) .ret) .skip)) (.seq (.regd (rg 6 27) (rg 6 28)) (.seq (.seq (.reg false (rg 6 29)) (.cond (.t 95) (.seq (.reg false (rg 6 30)) .ret) .skip)) (.seq (.reg false (rg 6 31)) (.seq (.reg false (rg 6 32)) (.seq (.seq (.reg false (rg 6 33)) (.cond (.t 100) (.seq (.reg false (rg 6 34)) .ret) .skip)) (.seq (.seq (.reg false (rg 6 35)) (.cond (.t 103) (.seq (.reg false (rg 6 36)) .ret) .skip)) (.seq (.reg false (rg 6 37)) .ret))))))))))))))))))))))))⟩:=kr
noncomputable def kZ (x_aM:DMove)(x_aA:DAct):Option Bool:=
 Option.bind (pV x_aM (1048576:Int)) λv1=>
 cond (decide (v1<(0:Int)))
  (some true)
  (Option.bind (gW x_aM) λv2=>
  Option.bind (oO x_aA) λv3=>
  Option.bind (pW v2 v3) λv4=>
  Option.bind (gW x_aM) λv5=>
  Option.bind (oO x_aA) λv6=>
  Option.bind (mO v5 v6) λv7=>
  Option.bind (hG v7.1 v4.1) λv8=>
  cond (!v8)
   (some false)
   (cond (!(v7.2==v4.2))
    (some false)
    (Option.bind (gW x_aM) λv9=>
    Option.bind (hG v5 v9) λv10=>
    cond (!v10)
     (some false)
     (Option.bind (jR v5 (1:Int)) λv11=>
     grd (v11.1.length=v5.From.Words.length) (grd (v11.2.1.length=v5.From.Guests.length) (grd (v11.2.2.1.length=v5.To.Words.length) (grd (v11.2.2.2.1.length=v5.To.Guests.length) (grd (v11.2.2.2.2.1.length=v5.Left.length) (cond (decide (v11.2.2.2.2.2<(0:Int)))
      (some false)
      (Option.bind (hG v7.1 v4.1) λv12=>
      cond (!v12)
       (some false)
       (cond (!(v7.2==v4.2))
        (some false)
        (Option.bind (jR v7.1 (1:Int)) λv13=>
        grd (v13.1.length=v7.1.From.Words.length) (grd (v13.2.1.length=v7.1.From.Guests.length) (grd (v13.2.2.1.length=v7.1.To.Words.length) (grd (v13.2.2.2.1.length=v7.1.To.Guests.length) (grd (v13.2.2.2.2.1.length=v7.1.Left.length) (Option.bind (jQ (DMove.mk (DHost.mk v13.1 v13.2.1) (DHost.mk v13.2.2.1 v13.2.2.2.1) v7.1.G v7.1.N v13.2.2.2.2.1) (1:Int)) λv14=>
         cond (decide (v14<(0:Int)))
          (some false)
          (cond (!decide (v14=v13.2.2.2.2.2))
           (some false)
           (Option.bind (gW x_aM) λv15=>
           Option.bind (oO x_aA) λv16=>
           Option.bind (mO v15 v16) λv17=>
           Option.bind (hG v17.1 v4.1) λv18=>
           cond (!v18)
            (some false)
            (cond (!(v17.2==v4.2))
             (some false)
             (Option.bind (jQ (DMove.mk (DHost.mk v13.1 v13.2.1) (DHost.mk v13.2.2.1 v13.2.2.2.1) v7.1.G v7.1.N v13.2.2.2.2.1) (1:Int)) λv19=>
             cond (decide (v19<(0:Int)))
              (some false)
              (cond (!decide (v19=v13.2.2.2.2.2))
               (some false)
               (some true)))))))))))))))))))))))
theorem aDu{x_aM:DMove}{x_aA:DAct}{R_:Bool}(hh:kZ x_aM x_aA=some R_):Fn Tryz.prog 6 [.agg (nM x_aM),.agg (dS x_aA)] (.bool R_):=by let z1:EH:=(0,some (rB64 x_aM));let z2:EH:=(1,some ⟨65,dS x_aA⟩);let z3:=(2,pp 0);let z4:EV:=(22,.agg (nM x_aM));let z5:=(3,pp 1);let z6:=(4,bb false);let z7:=(6,pp 12);let z8:=(8,pp 18);let z9:EV:=(80,.agg (nM x_aM));let z10:=(9,pp 24);unfold kZ at hh;refine Fn.start aCw [0,1] (E:=sp 104 [(0,.agg (nM x_aM)),(1,.agg (dS x_aA))]) kr (v:=bb R_) (Hr:=[]) (k:=0) kr (sy [2,3] [0,1] (sp 104 [z3,z5]) [z1,z2] 2 (sy [2,3,5] [0,1] (sp 104 [z3,z5,(5,ii 1048576)]) [z1,z2] 2 (Aw.sreg [2,3,5] [0,1] (yu 2 [(16,.agg (nM x_aM)),(17,ii 1048576)] [z1,z2] 2 ?_))));obtain⟨v1,hv1,hh⟩:=bind_some hh;let z11:=(20,bb (decide (v1<(0:Int))));refine ys (.call 27 [.t 16,.t 17]) (some 18) (dI (r:=ii v1) (v:=ii v1) (Hr:=[]) (n':=2) (aTk hv1) (gC (vs:=[.agg (nM x_aM),ii 1048576]) kr (dD (eN cz) (cz1 eK))) rfl rfl kr ?_);refine yt (sp 104 [z3,z5,(5,ii v1)]) [z1,z2] 2 (Aw.seq (sy [2,3,20] [0,1] (sp 104 [z3,z5,z11]) [z1,z2] 2 ?_));rcases dM hh with⟨hb,hh⟩|⟨hb,hh⟩;{exact cT hb (sy [4] [] (sp 104 [(4,bb true)]) [] 2 (Aw.ret (kJ (vV hh))))};refine cF hb (Aw.xskip (λ_ _ _ hq=>fF hq) (Aw.sregd [2,3,6,7] [0,1,7,8,9,10,11,12] [] kr (dj 1 (sp 104 [z3,z5,z11,z4]) [z1,z2] 2 ?_)));obtain⟨v2,hv2,hh⟩:=bind_some hh;let z12:EV:=(23,.agg [sw 2 v2.From.Words,.sref 3 [] 0 v2.From.Guests.length 17,sw 4 v2.To.Words,.sref 5 [] 0 v2.To.Guests.length 17,ii v2.G,ii v2.N,sw 6 v2.Left]);let z13:EH:=(6,some (rT_4 v2.Left));let q1:Root:=(rO94 v2.To.Guests);let q2:Root:=(rI_3 v2.To.Words);let q3:Root:=(rO94 v2.From.Guests);let q4:Root:=(rI_3 v2.From.Words);refine ds (.call 28 [.t 22]) (some 23) (uL rfl (dI (r:= .agg [.own 3 1 v2.From.Words.length (fl (eI .i64) v2.From.Words),.own 94 17 v2.From.Guests.length (fl bE v2.From.Guests),.own 3 1 v2.To.Words.length (fl (eI .i64) v2.To.Words),.own 94 17 v2.To.Guests.length (fl bE v2.To.Guests),ii v2.G,ii v2.N,.own 4 1 v2.Left.length (fl eB v2.Left)]) (v:= .agg [sw 2 v2.From.Words,.sref 3 [] 0 v2.From.Guests.length 17,sw 4 v2.To.Words,.sref 5 [] 0 v2.To.Guests.length 17,ii v2.G,ii v2.N,sw 6 v2.Left]) (Hr:=[z13,(5,some q1),(4,some q2),(3,some q3),(2,some q4)]) (n':=7) (sL hv2) (gC (vs:=[.agg (nM x_aM)]) kr (dD (eN cz) eK)) nrr nrr kr ⟨⟨⟨by decide,nK (n:=2) (n0:=2) (r:= .agg [.own 3 1 v2.From.Words.length (fl (eI .i64) v2.From.Words),.own 94 17 v2.From.Guests.length (fl bE v2.From.Guests),.own 3 1 v2.To.Words.length (fl (eI .i64) v2.To.Words),.own 94 17 v2.To.Guests.length (fl bE v2.To.Guests),ii v2.G,ii v2.N,.own 4 1 v2.Left.length (fl eB v2.Left)]) (v:= .agg [sw 2 v2.From.Words,.sref 3 [] 0 v2.From.Guests.length 17,sw 4 v2.To.Words,.sref 5 [] 0 v2.To.Guests.length 17,ii v2.G,ii v2.N,sw 6 v2.Left]) (Hr:=[z13,(5,some q1),(4,some q2),(3,some q3),(2,some q4)]) (n':=7) kr dd⟩,Hld.un ?_⟩⟩));refine dj 1 (sp 104 [z3,z5,z11,z4,z12,(24,.agg (dS x_aA))]) [z13,(5,some q1),(4,some q2),(3,some q3),(2,some q4),z1,z2] 7 ?_;obtain⟨v3,hv3,hh⟩:=bind_some hh;refine ds (.call 29 [.t 24]) (some 25) (uL rfl (dI (r:= .agg (dS v3)) (v:= .agg (dS v3)) (Hr:=[]) (n':=7) (yR hv3) (gC (vs:=[.agg (dS x_aA)]) kr (cz1 eK)) rfl rfl kr ⟨⟨⟨by decide,nK (n:=7) (n0:=7) (r:= .agg (dS v3)) (v:= .agg (dS v3)) (Hr:=[]) (n':=7) kr dd⟩,Hld.un ?_⟩⟩));obtain⟨v4,hv4,hh⟩:=bind_some hh;let z14:EH:=(11,some (rT_4 v4.1.Left));let z15:=(7,bb v4.2);let q5:Root:=(rO94 v4.1.To.Guests);let z16:=(10,some q5);let q6:Root:=(rI_3 v4.1.To.Words);let z17:=(9,some q6);let q7:Root:=(rO94 v4.1.From.Guests);let z18:=(8,some q7);let q8:Root:=(rI_3 v4.1.From.Words);let z19:=(7,some q8);refine ds (.call 10 [.t 23,.t 25]) (some 26) (uL rfl (dI (r:= .tup [.agg [.own 3 1 v4.1.From.Words.length (fl (eI .i64) v4.1.From.Words),.own 94 17 v4.1.From.Guests.length (fl bE v4.1.From.Guests),.own 3 1 v4.1.To.Words.length (fl (eI .i64) v4.1.To.Words),.own 94 17 v4.1.To.Guests.length (fl bE v4.1.To.Guests),ii v4.1.G,ii v4.1.N,.own 4 1 v4.1.Left.length (fl eB v4.1.Left)],bb v4.2]) (v:= .tup [.agg [sw 7 v4.1.From.Words,.sref 8 [] 0 v4.1.From.Guests.length 17,sw 9 v4.1.To.Words,.sref 10 [] 0 v4.1.To.Guests.length 17,ii v4.1.G,ii v4.1.N,sw 11 v4.1.Left],bb v4.2]) (Hr:=[z14,z16,z17,z18,z19]) (n':=12) (aTg hv4) (gC (vs:=[.agg [sw 2 v2.From.Words,.sref 3 [] 0 v2.From.Guests.length 17,sw 4 v2.To.Words,.sref 5 [] 0 v2.To.Guests.length 17,ii v2.G,ii v2.N,sw 6 v2.Left],.agg (dS v3)]) kr (dD (eN (aB (aR (c:=(eI .i64)) (xs:=v2.From.Words) (e:=3) eqn aV bL bJ kr) (aB (cQ (B:=dC) (xs:=v2.From.Guests) (e:=94) cS aL eqn kr) (aB (aR (c:=(eI .i64)) (xs:=v2.To.Words) (e:=3) eqn aV bL bJ kr) (aB (cQ (B:=dC) (xs:=v2.To.Guests) (e:=94) cS aL eqn kr) (cs1 (cs1 (aB (aR (c:=eB) (xs:=v2.Left) (e:=4) eqn nG pL kV kr) fH)))))))) (cz1 eK))) nrr nrr kr ⟨⟨⟨by decide,nK (n:=7) (n0:=7) (r:= .tup [.agg [.own 3 1 v4.1.From.Words.length (fl (eI .i64) v4.1.From.Words),.own 94 17 v4.1.From.Guests.length (fl bE v4.1.From.Guests),.own 3 1 v4.1.To.Words.length (fl (eI .i64) v4.1.To.Words),.own 94 17 v4.1.To.Guests.length (fl bE v4.1.To.Guests),ii v4.1.G,ii v4.1.N,.own 4 1 v4.1.Left.length (fl eB v4.1.Left)],bb v4.2]) (v:= .tup [.agg [sw 7 v4.1.From.Words,.sref 8 [] 0 v4.1.From.Guests.length 17,sw 9 v4.1.To.Words,.sref 10 [] 0 v4.1.To.Guests.length 17,ii v4.1.G,ii v4.1.N,sw 11 v4.1.Left],bb v4.2]) (Hr:=[z14,z16,z17,z18,z19]) (n':=12) kr dd⟩,Hld.un ?_⟩⟩));let q9:Root:=⟨29,[.nil,.nil,.nil,.nil,ii 0,ii 0,.nil]⟩;refine dt (sp 104 [z3,z5,z7,z11,(21,.tup [.agg [sw 7 v4.1.From.Words,.sref 8 [] 0 v4.1.From.Guests.length 17,sw 9 v4.1.To.Words,.sref 10 [] 0 v4.1.To.Guests.length 17,ii v4.1.G,ii v4.1.N,sw 11 v4.1.Left],bb v4.2]),z4,z12,(24,.agg (dS x_aA)),(25,.agg (dS v3)),(26,.tup [.agg [sw 7 v4.1.From.Words,.sref 8 [] 0 v4.1.From.Guests.length 17,sw 9 v4.1.To.Words,.sref 10 [] 0 v4.1.To.Guests.length 17,ii v4.1.G,ii v4.1.N,sw 11 v4.1.Left],bb v4.2]),(27,.agg [sw 7 v4.1.From.Words,.sref 8 [] 0 v4.1.From.Guests.length 17,sw 9 v4.1.To.Words,.sref 10 [] 0 v4.1.To.Guests.length 17,ii v4.1.G,ii v4.1.N,sw 11 v4.1.Left]),(28,bb v4.2)]) [(12,some q9),z14,z16,z17,z18,z19,z13,(5,some q1),(4,some q2),(3,some q3),(2,some q4),z1,z2] 13 ?_;let q10:Root:=⟨29,[sw 7 v4.1.From.Words,.sref 8 [] 0 v4.1.From.Guests.length 17,sw 9 v4.1.To.Words,.sref 10 [] 0 v4.1.To.Guests.length 17,ii v4.1.G,ii v4.1.N,sw 11 v4.1.Left]⟩;let z20:=(12,some q10);refine yt (sp 104 [z3,z5,z7,z15]) [z1,z2,z19,z18,z17,z16,z14,z20] 13 (Aw.sreg [2,3,6,7,8] [0,1,7,8,9,10,11,12,13,14,15,16,17,18] (yu 1 [(29,.agg (nM x_aM))] [z1,z2,z19,z18,z17,z16,z14,z20] 13 ?_));obtain⟨v5,hv5,hh⟩:=bind_some hh;let z21:EH:=(17,some (rT_4 v5.Left));let z22:EV:=(32,.agg [sw 13 v5.From.Words,.sref 14 [] 0 v5.From.Guests.length 17,sw 15 v5.To.Words,.sref 16 [] 0 v5.To.Guests.length 17,ii v5.G,ii v5.N,sw 17 v5.Left]);let z23:EV:=(47,.agg [sw 13 v5.From.Words,.sref 14 [] 0 v5.From.Guests.length 17,sw 15 v5.To.Words,.sref 16 [] 0 v5.To.Guests.length 17,ii v5.G,ii v5.N,sw 17 v5.Left]);let q11:Root:=(rO94 v5.To.Guests);let z24:=(16,some q11);let q12:Root:=(rI_3 v5.To.Words);let z25:=(15,some q12);let q13:Root:=(rO94 v5.From.Guests);let z26:=(14,some q13);let q14:Root:=(rI_3 v5.From.Words);let z27:=(13,some q14);refine ys (.call 28 [.t 29]) (some 30) (dI (r:= .agg [.own 3 1 v5.From.Words.length (fl (eI .i64) v5.From.Words),.own 94 17 v5.From.Guests.length (fl bE v5.From.Guests),.own 3 1 v5.To.Words.length (fl (eI .i64) v5.To.Words),.own 94 17 v5.To.Guests.length (fl bE v5.To.Guests),ii v5.G,ii v5.N,.own 4 1 v5.Left.length (fl eB v5.Left)]) (v:= .agg [sw 13 v5.From.Words,.sref 14 [] 0 v5.From.Guests.length 17,sw 15 v5.To.Words,.sref 16 [] 0 v5.To.Guests.length 17,ii v5.G,ii v5.N,sw 17 v5.Left]) (Hr:=[z21,z24,z25,z26,z27]) (n':=18) (sL hv5) (gC (vs:=[.agg (nM x_aM)]) kr (dD (eN cz) eK)) nrr nrr kr ?_);let q15:Root:=⟨29,[sw 13 v5.From.Words,.sref 14 [] 0 v5.From.Guests.length 17,sw 15 v5.To.Words,.sref 16 [] 0 v5.To.Guests.length 17,ii v5.G,ii v5.N,sw 17 v5.Left]⟩;let z28:=(18,some q15);refine yt (sp 104 [z3,z5,z7,z15,z8]) [z1,z2,z19,z18,z17,z16,z14,z20,z27,z26,z25,z24,z21,z28] 19 (Aw.sregd [2,3,6,7,8,9,10] [0,1,7,8,9,10,11,12,13,14,15,16,17,18,19,20,21,22,23,24] [] kr (dj 2 (sp 104 [z3,z5,z7,z15,z8,z22,(33,.agg (dS x_aA))]) [z1,z2,z19,z18,z17,z16,z14,z20,z27,z26,z25,z24,z21,z28] 19 ?_));obtain⟨v6,hv6,hh⟩:=bind_some hh;refine ds (.call 29 [.t 33]) (some 34) (uL rfl (dI (r:= .agg (dS v6)) (v:= .agg (dS v6)) (Hr:=[]) (n':=19) (yR hv6) (gC (vs:=[.agg (dS x_aA)]) kr (cz1 eK)) rfl rfl kr ⟨⟨⟨by decide,nK (n:=19) (n0:=19) (r:= .agg (dS v6)) (v:= .agg (dS v6)) (Hr:=[]) (n':=19) kr dd⟩,Hld.un ?_⟩⟩));obtain⟨v7,hv7,hh⟩:=bind_some hh;let z29:=(10,bb v7.2);let z30:EH:=(23,some (rT_4 v7.1.Left));let z31:=(46,bb (!(v7.2==v4.2)));let q16:Root:=(rO94 v7.1.To.Guests);let z32:=(22,some q16);let q17:Root:=(rI_3 v7.1.To.Words);let z33:=(21,some q17);let q18:Root:=(rO94 v7.1.From.Guests);let z34:=(20,some q18);let q19:Root:=(rI_3 v7.1.From.Words);let z35:=(19,some q19);refine ds (.call 9 [.t 32,.t 34]) (some 35) (uL rfl (dI (r:= .tup [.agg [.own 3 1 v7.1.From.Words.length (fl (eI .i64) v7.1.From.Words),.own 94 17 v7.1.From.Guests.length (fl bE v7.1.From.Guests),.own 3 1 v7.1.To.Words.length (fl (eI .i64) v7.1.To.Words),.own 94 17 v7.1.To.Guests.length (fl bE v7.1.To.Guests),ii v7.1.G,ii v7.1.N,.own 4 1 v7.1.Left.length (fl eB v7.1.Left)],bb v7.2]) (v:= .tup [.agg [sw 19 v7.1.From.Words,.sref 20 [] 0 v7.1.From.Guests.length 17,sw 21 v7.1.To.Words,.sref 22 [] 0 v7.1.To.Guests.length 17,ii v7.1.G,ii v7.1.N,sw 23 v7.1.Left],bb v7.2]) (Hr:=[z30,z32,z33,z34,z35]) (n':=24) (aDs hv7) (gC (vs:=[.agg [sw 13 v5.From.Words,.sref 14 [] 0 v5.From.Guests.length 17,sw 15 v5.To.Words,.sref 16 [] 0 v5.To.Guests.length 17,ii v5.G,ii v5.N,sw 17 v5.Left],.agg (dS v6)]) kr (dD (eN (aB (aR (c:=(eI .i64)) (xs:=v5.From.Words) (e:=3) eqn aV bL bJ kr) (aB (cQ (B:=dC) (xs:=v5.From.Guests) (e:=94) cS aL eqn kr) (aB (aR (c:=(eI .i64)) (xs:=v5.To.Words) (e:=3) eqn aV bL bJ kr) (aB (cQ (B:=dC) (xs:=v5.To.Guests) (e:=94) cS aL eqn kr) (cs1 (cs1 (aB (aR (c:=eB) (xs:=v5.Left) (e:=4) eqn nG pL kV kr) fH)))))))) (cz1 eK))) nrr nrr kr ⟨⟨⟨by decide,nK (n:=19) (n0:=19) (r:= .tup [.agg [.own 3 1 v7.1.From.Words.length (fl (eI .i64) v7.1.From.Words),.own 94 17 v7.1.From.Guests.length (fl bE v7.1.From.Guests),.own 3 1 v7.1.To.Words.length (fl (eI .i64) v7.1.To.Words),.own 94 17 v7.1.To.Guests.length (fl bE v7.1.To.Guests),ii v7.1.G,ii v7.1.N,.own 4 1 v7.1.Left.length (fl eB v7.1.Left)],bb v7.2]) (v:= .tup [.agg [sw 19 v7.1.From.Words,.sref 20 [] 0 v7.1.From.Guests.length 17,sw 21 v7.1.To.Words,.sref 22 [] 0 v7.1.To.Guests.length 17,ii v7.1.G,ii v7.1.N,sw 23 v7.1.Left],bb v7.2]) (Hr:=[z30,z32,z33,z34,z35]) (n':=24) kr dd⟩,Hld.un ?_⟩⟩));refine dt (sp 104 [z3,z5,z7,z15,z8,z10,(31,.tup [.agg [sw 19 v7.1.From.Words,.sref 20 [] 0 v7.1.From.Guests.length 17,sw 21 v7.1.To.Words,.sref 22 [] 0 v7.1.To.Guests.length 17,ii v7.1.G,ii v7.1.N,sw 23 v7.1.Left],bb v7.2]),z22,(33,.agg (dS x_aA)),(34,.agg (dS v6)),(35,.tup [.agg [sw 19 v7.1.From.Words,.sref 20 [] 0 v7.1.From.Guests.length 17,sw 21 v7.1.To.Words,.sref 22 [] 0 v7.1.To.Guests.length 17,ii v7.1.G,ii v7.1.N,sw 23 v7.1.Left],bb v7.2]),(36,.agg [sw 19 v7.1.From.Words,.sref 20 [] 0 v7.1.From.Guests.length 17,sw 21 v7.1.To.Words,.sref 22 [] 0 v7.1.To.Guests.length 17,ii v7.1.G,ii v7.1.N,sw 23 v7.1.Left]),(37,bb v7.2)]) [(24,some q9),z30,z32,z33,z34,z35,z1,z2,z19,z18,z17,z16,z14,z20,z27,z26,z25,z24,z21,z28] 25 ?_;let q20:Root:=⟨29,[sw 19 v7.1.From.Words,.sref 20 [] 0 v7.1.From.Guests.length 17,sw 21 v7.1.To.Words,.sref 22 [] 0 v7.1.To.Guests.length 17,ii v7.1.G,ii v7.1.N,sw 23 v7.1.Left]⟩;let z36:=(24,some q20);refine yt (sp 104 [z3,z5,z7,z15,z8,z10,z29]) [z1,z2,z19,z18,z17,z16,z14,z20,z27,z26,z25,z24,z21,z28,z35,z34,z33,z32,z30,z36] 25 (Aw.seq (Aw.sreg [2,3,6,7,8,9,10,46] [0,1,7,8,9,10,11,12,13,14,15,16,17,18,19,20,21,22,23,24] (yj 2  (sp 104 [z3,z5,z7,z15,z8,z10,z29,(38,.agg [sw 19 v7.1.From.Words,.sref 20 [] 0 v7.1.From.Guests.length 17,sw 21 v7.1.To.Words,.sref 22 [] 0 v7.1.To.Guests.length 17,ii v7.1.G,ii v7.1.N,sw 23 v7.1.Left]),(39,.agg [sw 7 v4.1.From.Words,.sref 8 [] 0 v4.1.From.Guests.length 17,sw 9 v4.1.To.Words,.sref 10 [] 0 v4.1.To.Guests.length 17,ii v4.1.G,ii v4.1.N,sw 11 v4.1.Left])]) [z1,z2,z19,z18,z17,z16,z14,z20,z27,z26,z25,z24,z21,z28,z35,z34,z33,z32,z30,z36] 25 ?_)));obtain⟨v8,hv8,hh⟩:=bind_some hh;refine ys (.call 30 [.t 38,.t 39]) (some 40) (dI (r:=bb v8) (v:=bb v8) (Hr:=[]) (n':=25) (rW hv8) (gC (vs:=[.agg [sw 19 v7.1.From.Words,.sref 20 [] 0 v7.1.From.Guests.length 17,sw 21 v7.1.To.Words,.sref 22 [] 0 v7.1.To.Guests.length 17,ii v7.1.G,ii v7.1.N,sw 23 v7.1.Left],.agg [sw 7 v4.1.From.Words,.sref 8 [] 0 v4.1.From.Guests.length 17,sw 9 v4.1.To.Words,.sref 10 [] 0 v4.1.To.Guests.length 17,ii v4.1.G,ii v4.1.N,sw 11 v4.1.Left]]) kr (dD (eN (aB (aR (c:=(eI .i64)) (xs:=v7.1.From.Words) (e:=3) eqn aV bL bJ kr) (aB (cQ (B:=dC) (xs:=v7.1.From.Guests) (e:=94) cS aL eqn kr) (aB (aR (c:=(eI .i64)) (xs:=v7.1.To.Words) (e:=3) eqn aV bL bJ kr) (aB (cQ (B:=dC) (xs:=v7.1.To.Guests) (e:=94) cS aL eqn kr) (cs1 (cs1 (aB (aR (c:=eB) (xs:=v7.1.Left) (e:=4) eqn nG pL kV kr) fH)))))))) (dD (eN (aB (aR (c:=(eI .i64)) (xs:=v4.1.From.Words) (e:=3) eqn aV bL bJ kr) (aB (cQ (B:=dC) (xs:=v4.1.From.Guests) (e:=94) cS aL eqn kr) (aB (aR (c:=(eI .i64)) (xs:=v4.1.To.Words) (e:=3) eqn aV bL bJ kr) (aB (cQ (B:=dC) (xs:=v4.1.To.Guests) (e:=94) cS aL eqn kr) (cs1 (cs1 (aB (aR (c:=eB) (xs:=v4.1.Left) (e:=4) eqn nG pL kV kr) fH)))))))) eK))) rfl rfl kr ?_);refine yu 2 [(40,bb v8),(41,bb (!v8)),(42,bb (!v8))] [z1,z2,z19,z18,z17,z16,z14,z20,z27,z26,z25,z24,z21,z28,z35,z34,z33,z32,z30,z36] 25 ?_;rcases dM hh with⟨hb,hh⟩|⟨hb,hh⟩;{exact yb 41 hb (yb 42 hb (yt (sp 104 [z3,z5,z7,z15,z8,z10,z29,(46,bb true)]) [z1,z2,z19,z18,z17,z16,z14,z20,z27,z26,z25,z24,z21,z28,z35,z34,z33,z32,z30,z36] 25 (cT rfl (sy [4] [] (sp 104 [z6]) [] 25 (Aw.ret (kJ (vV hh)))))))};refine yb 41 hb (yb 42 hb (yt (sp 104 [z3,z5,z7,z15,z8,z10,z29,z31]) [z1,z2,z19,z18,z17,z16,z14,z20,z27,z26,z25,z24,z21,z28,z35,z34,z33,z32,z30,z36] 25 ?_));rcases dM hh with⟨hb,hh⟩|⟨hb,hh⟩;{exact cT hb (sy [4] [] (sp 104 [z6]) [] 25 (Aw.ret (kJ (vV hh))))};refine cF hb (Aw.xskip (λ_ _ _ hq=>fF hq) (Aw.seq (Aw.sregd [2,3,6,7,8,9,10,51] [0,1,7,8,9,10,11,12,13,14,15,16,17,18,19,20,21,22,23,24] [] kr (dj 2 (sp 104 [z3,z5,z7,z15,z8,z10,z29,z31,z23,(48,.agg (nM x_aM))]) [z1,z2,z19,z18,z17,z16,z14,z20,z27,z26,z25,z24,z21,z28,z35,z34,z33,z32,z30,z36] 25 ?_))));obtain⟨v9,hv9,hh⟩:=bind_some hh;let z37:EH:=(29,some (rT_4 v9.Left));let q21:Root:=(rO94 v9.To.Guests);let q22:Root:=(rI_3 v9.To.Words);let q23:Root:=(rO94 v9.From.Guests);let q24:Root:=(rI_3 v9.From.Words);refine ds (.call 28 [.t 48]) (some 49) (uL rfl (dI (r:= .agg [.own 3 1 v9.From.Words.length (fl (eI .i64) v9.From.Words),.own 94 17 v9.From.Guests.length (fl bE v9.From.Guests),.own 3 1 v9.To.Words.length (fl (eI .i64) v9.To.Words),.own 94 17 v9.To.Guests.length (fl bE v9.To.Guests),ii v9.G,ii v9.N,.own 4 1 v9.Left.length (fl eB v9.Left)]) (v:= .agg [sw 25 v9.From.Words,.sref 26 [] 0 v9.From.Guests.length 17,sw 27 v9.To.Words,.sref 28 [] 0 v9.To.Guests.length 17,ii v9.G,ii v9.N,sw 29 v9.Left]) (Hr:=[z37,(28,some q21),(27,some q22),(26,some q23),(25,some q24)]) (n':=30) (sL hv9) (gC (vs:=[.agg (nM x_aM)]) kr (dD (eN cz) eK)) nrr nrr kr ⟨⟨⟨by decide,nK (n:=25) (n0:=25) (r:= .agg [.own 3 1 v9.From.Words.length (fl (eI .i64) v9.From.Words),.own 94 17 v9.From.Guests.length (fl bE v9.From.Guests),.own 3 1 v9.To.Words.length (fl (eI .i64) v9.To.Words),.own 94 17 v9.To.Guests.length (fl bE v9.To.Guests),ii v9.G,ii v9.N,.own 4 1 v9.Left.length (fl eB v9.Left)]) (v:= .agg [sw 25 v9.From.Words,.sref 26 [] 0 v9.From.Guests.length 17,sw 27 v9.To.Words,.sref 28 [] 0 v9.To.Guests.length 17,ii v9.G,ii v9.N,sw 29 v9.Left]) (Hr:=[z37,(28,some q21),(27,some q22),(26,some q23),(25,some q24)]) (n':=30) kr dd⟩,Hld.un ?_⟩⟩));refine dt (sp 104 [z3,z5,z7,z15,z8,z10,z29,z31,z23,(48,.agg (nM x_aM)),(49,.agg [sw 25 v9.From.Words,.sref 26 [] 0 v9.From.Guests.length 17,sw 27 v9.To.Words,.sref 28 [] 0 v9.To.Guests.length 17,ii v9.G,ii v9.N,sw 29 v9.Left])]) [z37,(28,some q21),(27,some q22),(26,some q23),(25,some q24),z1,z2,z19,z18,z17,z16,z14,z20,z27,z26,z25,z24,z21,z28,z35,z34,z33,z32,z30,z36] 30 ?_;obtain⟨v10,hv10,hh⟩:=bind_some hh;refine ys (.call 30 [.t 47,.t 49]) (some 50) (dI (r:=bb v10) (v:=bb v10) (Hr:=[]) (n':=30) (rW hv10) (gC (vs:=[.agg [sw 13 v5.From.Words,.sref 14 [] 0 v5.From.Guests.length 17,sw 15 v5.To.Words,.sref 16 [] 0 v5.To.Guests.length 17,ii v5.G,ii v5.N,sw 17 v5.Left],.agg [sw 25 v9.From.Words,.sref 26 [] 0 v9.From.Guests.length 17,sw 27 v9.To.Words,.sref 28 [] 0 v9.To.Guests.length 17,ii v9.G,ii v9.N,sw 29 v9.Left]]) kr (dD (eN (aB (aR (c:=(eI .i64)) (xs:=v5.From.Words) (e:=3) eqn aV bL bJ kr) (aB (cQ (B:=dC) (xs:=v5.From.Guests) (e:=94) cS aL eqn kr) (aB (aR (c:=(eI .i64)) (xs:=v5.To.Words) (e:=3) eqn aV bL bJ kr) (aB (cQ (B:=dC) (xs:=v5.To.Guests) (e:=94) cS aL eqn kr) (cs1 (cs1 (aB (aR (c:=eB) (xs:=v5.Left) (e:=4) eqn nG pL kV kr) fH)))))))) (dD (eN (aB (aR (c:=(eI .i64)) (xs:=v9.From.Words) (e:=3) eqn aV bL bJ kr) (aB (cQ (B:=dC) (xs:=v9.From.Guests) (e:=94) cS aL eqn kr) (aB (aR (c:=(eI .i64)) (xs:=v9.To.Words) (e:=3) eqn aV bL bJ kr) (aB (cQ (B:=dC) (xs:=v9.To.Guests) (e:=94) cS aL eqn kr) (cs1 (cs1 (aB (aR (c:=eB) (xs:=v9.Left) (e:=4) eqn nG pL kV kr) fH)))))))) eK))) rfl rfl kr ?_);refine yt (sp 104 [z3,z5,z7,z15,z8,z10,z29,(51,bb (!v10))]) [z1,z2,z19,z18,z17,z16,z14,z20,z27,z26,z25,z24,z21,z28,z35,z34,z33,z32,z30,z36] 30 ?_;rcases dM hh with⟨hb,hh⟩|⟨hb,hh⟩;{exact cT hb (sy [4] [] (sp 104 [z6]) [] 30 (Aw.ret (kJ (vV hh))))};refine cF hb (Aw.xskip (λ_ _ _ hq=>fF hq) (sy [2,3,6,7,8,9,10,11] [0,1,7,8,9,10,11,12,13,14,15,16,17,18,19,20,21,22,23,24] (sp 104 [z3,z5,z7,z15,z8,z10,z29,(11,ii 1)]) [z1,z2,z19,z18,z17,z16,z14,z20,z27,z26,z25,z24,z21,z28,z35,z34,z33,z32,z30,z36] 30 (Aw.sreg [2,3,6,7,9,10,11] [0,1,7,8,9,10,11,12,19,20,21,22,23,24] (yu 2 [(52,.agg [sw 13 v5.From.Words,.sref 14 [] 0 v5.From.Guests.length 17,sw 15 v5.To.Words,.sref 16 [] 0 v5.To.Guests.length 17,ii v5.G,ii v5.N,sw 17 v5.Left]),(53,ii 1)] [z1,z2,z19,z18,z17,z16,z14,z20,z27,z26,z25,z24,z21,z28,z35,z34,z33,z32,z30,z36] 30 ?_))));obtain⟨v11,hv11,hh⟩:=bind_some hh;obtain⟨hg6,hh⟩:=aE hh;obtain⟨hg7,hh⟩:=aE hh;obtain⟨hg8,hh⟩:=aE hh;obtain⟨hg9,hh⟩:=aE hh;obtain⟨hg10,hh⟩:=aE hh;let q25:Root:=(rI_3 v11.1);let q26:Root:=(rI_3 v11.2.2.1);let q27:Root:=(rO94 v11.2.2.2.1);let q28:Root:=(rT_4 v11.2.2.2.2.1);refine ys (.call 31 [.t 52,.t 53]) (some 54) (cf (ii v11.2.2.2.2.2) [(13,some q25),(14,some (rO94 v11.2.1)),(15,some q26),(16,some q27),(17,some q28)] 30 [13,14,15,16,17] (aAn hv11) [.agg [sw 13 v5.From.Words,.sref 14 [] 0 v5.From.Guests.length 17,sw 15 v5.To.Words,.sref 16 [] 0 v5.To.Guests.length 17,ii v5.G,ii v5.N,sw 17 v5.Left],ii 1] rz (hn mH (hn cJ (hn aX (hn cJ (hn aX aY))))) gE (hn aX (hn cJ (hn aX (hn cJ (hn mH aY))))) ?_);refine yt (sp 104 [z3,z5,z7,z15,z10,z29,(11,ii v11.2.2.2.2.2)]) [z1,z2,z19,z18,z17,z16,z14,z20,z35,z34,z33,z32,z30,z36] 30 (Aw.seq (Aw.sreg [2,3,6,7,9,67] [0,1,7,8,9,10,11,12,19,20,21,22,23,24] (yj 3  (sp 104 [z3,z5,z7,z15,z10,z29,(11,ii v11.2.2.2.2.2),(55,ii v11.2.2.2.2.2),(56,bb (decide (v11.2.2.2.2.2<(0:Int)))),(57,bb (decide (v11.2.2.2.2.2<(0:Int))))]) [z1,z2,z19,z18,z17,z16,z14,z20,z35,z34,z33,z32,z30,z36] 30 ?_)));rcases dM hh with⟨hb,hh⟩|⟨hb,hh⟩;{exact yb 56 hb (yb 57 hb (yt (sp 104 [z3,z5,z7,z15,z10,(67,bb true)]) [z1,z2,z19,z18,z17,z16,z14,z20,z35,z34,z33,z32,z30,z36] 30 (cT rfl (sy [4] [] (sp 104 [z6]) [] 30 (Aw.ret (kJ (vV hh)))))))};refine yb 56 hb (yb 57 hb (yu 2 [(56,bb false),(57,bb false),(58,.agg [sw 19 v7.1.From.Words,.sref 20 [] 0 v7.1.From.Guests.length 17,sw 21 v7.1.To.Words,.sref 22 [] 0 v7.1.To.Guests.length 17,ii v7.1.G,ii v7.1.N,sw 23 v7.1.Left]),(59,.agg [sw 7 v4.1.From.Words,.sref 8 [] 0 v4.1.From.Guests.length 17,sw 9 v4.1.To.Words,.sref 10 [] 0 v4.1.To.Guests.length 17,ii v4.1.G,ii v4.1.N,sw 11 v4.1.Left])] [z1,z2,z19,z18,z17,z16,z14,z20,z35,z34,z33,z32,z30,z36] 30 ?_));obtain⟨v12,hv12,hh⟩:=bind_some hh;refine yg (.call 30 [.t 58,.t 59]) (some 60) 57 false (dI (r:=bb v12) (v:=bb v12) (Hr:=[]) (n':=30) (rW hv12) (gC (vs:=[.agg [sw 19 v7.1.From.Words,.sref 20 [] 0 v7.1.From.Guests.length 17,sw 21 v7.1.To.Words,.sref 22 [] 0 v7.1.To.Guests.length 17,ii v7.1.G,ii v7.1.N,sw 23 v7.1.Left],.agg [sw 7 v4.1.From.Words,.sref 8 [] 0 v4.1.From.Guests.length 17,sw 9 v4.1.To.Words,.sref 10 [] 0 v4.1.To.Guests.length 17,ii v4.1.G,ii v4.1.N,sw 11 v4.1.Left]]) kr (dD (eN (aB (aR (c:=(eI .i64)) (xs:=v7.1.From.Words) (e:=3) eqn aV bL bJ kr) (aB (cQ (B:=dC) (xs:=v7.1.From.Guests) (e:=94) cS aL eqn kr) (aB (aR (c:=(eI .i64)) (xs:=v7.1.To.Words) (e:=3) eqn aV bL bJ kr) (aB (cQ (B:=dC) (xs:=v7.1.To.Guests) (e:=94) cS aL eqn kr) (cs1 (cs1 (aB (aR (c:=eB) (xs:=v7.1.Left) (e:=4) eqn nG pL kV kr) fH)))))))) (dD (eN (aB (aR (c:=(eI .i64)) (xs:=v4.1.From.Words) (e:=3) eqn aV bL bJ kr) (aB (cQ (B:=dC) (xs:=v4.1.From.Guests) (e:=94) cS aL eqn kr) (aB (aR (c:=(eI .i64)) (xs:=v4.1.To.Words) (e:=3) eqn aV bL bJ kr) (aB (cQ (B:=dC) (xs:=v4.1.To.Guests) (e:=94) cS aL eqn kr) (cs1 (cs1 (aB (aR (c:=eB) (xs:=v4.1.Left) (e:=4) eqn nG pL kV kr) fH)))))))) eK))) rfl rfl kr ?_);refine yu 3 [(60,bb v12),(61,bb (!v12)),(62,bb (!v12)),(63,bb (!v12))] [z1,z2,z19,z18,z17,z16,z14,z20,z35,z34,z33,z32,z30,z36] 30 ?_;rcases dM hh with⟨hb,hh⟩|⟨hb,hh⟩;{exact yb 61 hb (yb 62 hb (yb 63 hb (yt (sp 104 [z3,z5,z7,z15,z10,(67,bb true)]) [z1,z2,z19,z18,z17,z16,z14,z20,z35,z34,z33,z32,z30,z36] 30 (cT rfl (sy [4] [] (sp 104 [z6]) [] 30 (Aw.ret (kJ (vV hh))))))))};refine yb 61 hb (yb 62 hb (yb 63 hb (yt (sp 104 [z3,z5,z7,z15,z10,(67,bb (!(v7.2==v4.2)))]) [z1,z2,z19,z18,z17,z16,z14,z20,z35,z34,z33,z32,z30,z36] 30 ?_)));rcases dM hh with⟨hb,hh⟩|⟨hb,hh⟩;{exact cT hb (sy [4] [] (sp 104 [z6]) [] 30 (Aw.ret (kJ (vV hh))))};refine cF hb (Aw.xskip (λ_ _ _ hq=>fF hq) (sy [2,3,6,7,9,12] [0,1,7,8,9,10,11,12,19,20,21,22,23,24] (sp 104 [z3,z5,z7,z15,z10,(12,ii 1)]) [z1,z2,z19,z18,z17,z16,z14,z20,z35,z34,z33,z32,z30,z36] 30 (Aw.sreg [2,3,6,7,9,12] [0,1,7,8,9,10,11,12,19,20,21,22,23,24] (yu 2 [(68,.agg [sw 19 v7.1.From.Words,.sref 20 [] 0 v7.1.From.Guests.length 17,sw 21 v7.1.To.Words,.sref 22 [] 0 v7.1.To.Guests.length 17,ii v7.1.G,ii v7.1.N,sw 23 v7.1.Left]),(69,ii 1)] [z1,z2,z19,z18,z17,z16,z14,z20,z35,z34,z33,z32,z30,z36] 30 ?_))));obtain⟨v13,hv13,hh⟩:=bind_some hh;let z38:=(12,ii v13.2.2.2.2.2);let z39:EH:=(20,some (rO94 v13.2.1));obtain⟨hg16,hh⟩:=aE hh;obtain⟨hg17,hh⟩:=aE hh;obtain⟨hg18,hh⟩:=aE hh;obtain⟨hg19,hh⟩:=aE hh;obtain⟨hg20,hh⟩:=aE hh;let q29:Root:=(rI_3 v13.1);let z40:=(19,some q29);let q30:Root:=(rI_3 v13.2.2.1);let z41:=(21,some q30);let q31:Root:=(rO94 v13.2.2.2.1);let z42:=(22,some q31);let q32:Root:=(rT_4 v13.2.2.2.2.1);let z43:=(23,some q32);refine ys (.call 31 [.t 68,.t 69]) (some 70) (cf (ii v13.2.2.2.2.2) [z40,z39,z41,z42,z43] 30 [19,20,21,22,23] (aAn hv13) [.agg [sw 19 v7.1.From.Words,.sref 20 [] 0 v7.1.From.Guests.length 17,sw 21 v7.1.To.Words,.sref 22 [] 0 v7.1.To.Guests.length 17,ii v7.1.G,ii v7.1.N,sw 23 v7.1.Left],ii 1] rz (hn mH (hn cJ (hn aX (hn cJ (hn aX aY))))) gE (hn aX (hn cJ (hn aX (hn cJ (hn mH aY))))) ?_);refine yt (sp 104 [z3,z5,z7,z15,z10,z38]) [z1,z2,z19,z18,z17,z16,z14,z20,z40,z39,z41,z42,z43,z36] 30 (sy [2,3,6,7,9,12,13] [0,1,7,8,9,10,11,12,19,20,21,22,23,24] (sp 104 [z3,z5,z7,z15,z10,z38,(13,ii 1)]) [z1,z2,z19,z18,z17,z16,z14,z20,z40,z39,z41,z42,z43,z36] 30 (Aw.sreg [2,3,6,7,9,12,13] [0,1,7,8,9,10,11,12,19,20,21,22,23,24] (yu 2 [(71,.agg [sw 19 v7.1.From.Words,.sref 20 [] 0 v7.1.From.Guests.length 17,sw 21 v7.1.To.Words,.sref 22 [] 0 v7.1.To.Guests.length 17,ii v7.1.G,ii v7.1.N,sw 23 v7.1.Left]),(72,ii 1)] [z1,z2,z19,z18,z17,z16,z14,z20,z40,z39,z41,z42,z43,z36] 30 ?_)));obtain⟨v14,hv14,hh⟩:=bind_some hh;let z44:=(78,bb (!decide (v14=v13.2.2.2.2.2)));refine ys (.call 32 [.t 71,.t 72]) (some 73) (dI (r:=ii v14) (v:=ii v14) (Hr:=[]) (n':=30) (aBc hv14) (gC (vs:=[.agg [sw 19 v7.1.From.Words,.sref 20 [] 0 v7.1.From.Guests.length 17,sw 21 v7.1.To.Words,.sref 22 [] 0 v7.1.To.Guests.length 17,ii v7.1.G,ii v7.1.N,sw 23 v7.1.Left],ii 1]) kr (dD (eN (aB (aR (c:=(eI .i64)) (xs:=v13.1) (e:=3) eqn aV bL bJ kr) (aB (cQ (B:=dC) (xs:=v13.2.1) (e:=94) cS aL eqn kr) (aB (aR (c:=(eI .i64)) (xs:=v13.2.2.1) (e:=3) eqn aV bL bJ kr) (aB (cQ (B:=dC) (xs:=v13.2.2.2.1) (e:=94) cS aL eqn kr) (cs1 (cs1 (aB (aR (c:=eB) (xs:=v13.2.2.2.2.1) (e:=4) eqn nG pL kV kr) fH)))))))) (cz1 eK))) rfl rfl kr ?_);refine yt (sp 104 [z3,z5,z7,z15,z10,z38,(13,ii v14)]) [z1,z2,z19,z18,z17,z16,z14,z20,z40,z39,z41,z42,z43,z36] 30 (Aw.seq (sy [2,3,6,7,9,12,13,75] [0,1,7,8,9,10,11,12,19,20,21,22,23,24] (sp 104 [z3,z5,z7,z15,z10,z38,(13,ii v14),(75,bb (decide (v14<(0:Int))))]) [z1,z2,z19,z18,z17,z16,z14,z20,z40,z39,z41,z42,z43,z36] 30 ?_));rcases dM hh with⟨hb,hh⟩|⟨hb,hh⟩;{exact cT hb (sy [4] [] (sp 104 [z6]) [] 30 (Aw.ret (kJ (vV hh))))};refine cF hb (Aw.xskip (λ_ _ _ hq=>fF hq) (Aw.seq (sy [2,3,6,7,9,12,78] [0,1,7,8,9,10,11,12,19,20,21,22,23,24] (sp 104 [z3,z5,z7,z15,z10,z38,z44]) [z1,z2,z19,z18,z17,z16,z14,z20,z40,z39,z41,z42,z43,z36] 30 ?_)));rcases dM hh with⟨hb,hh⟩|⟨hb,hh⟩;{exact cT hb (sy [4] [] (sp 104 [z6]) [] 30 (Aw.ret (kJ (vV hh))))};refine cF hb (Aw.xskip (λ_ _ _ hq=>fF hq) (Aw.sregd [6,7,9,12,14,15] [7,8,9,10,11,12,19,20,21,22,23,24,35,36,37,38,39,40] [] kr (dj 1 (sp 104 [z3,z5,z7,z15,z10,z38,z44,z9]) [z1,z2,z19,z18,z17,z16,z14,z20,z40,z39,z41,z42,z43,z36] 30 ?_)));obtain⟨v15,hv15,hh⟩:=bind_some hh;let z45:EH:=(34,some (rT_4 v15.Left));let z46:EV:=(81,.agg [sw 30 v15.From.Words,.sref 31 [] 0 v15.From.Guests.length 17,sw 32 v15.To.Words,.sref 33 [] 0 v15.To.Guests.length 17,ii v15.G,ii v15.N,sw 34 v15.Left]);let q33:Root:=(rO94 v15.To.Guests);let z47:=(33,some q33);let q34:Root:=(rI_3 v15.To.Words);let z48:=(32,some q34);let q35:Root:=(rO94 v15.From.Guests);let z49:=(31,some q35);let q36:Root:=(rI_3 v15.From.Words);let z50:=(30,some q36);refine ds (.call 28 [.t 80]) (some 81) (uL rfl (dI (r:= .agg [.own 3 1 v15.From.Words.length (fl (eI .i64) v15.From.Words),.own 94 17 v15.From.Guests.length (fl bE v15.From.Guests),.own 3 1 v15.To.Words.length (fl (eI .i64) v15.To.Words),.own 94 17 v15.To.Guests.length (fl bE v15.To.Guests),ii v15.G,ii v15.N,.own 4 1 v15.Left.length (fl eB v15.Left)]) (v:= .agg [sw 30 v15.From.Words,.sref 31 [] 0 v15.From.Guests.length 17,sw 32 v15.To.Words,.sref 33 [] 0 v15.To.Guests.length 17,ii v15.G,ii v15.N,sw 34 v15.Left]) (Hr:=[z45,z47,z48,z49,z50]) (n':=35) (sL hv15) (gC (vs:=[.agg (nM x_aM)]) kr (dD (eN cz) eK)) nrr nrr kr ⟨⟨⟨by decide,nK (n:=30) (n0:=30) (r:= .agg [.own 3 1 v15.From.Words.length (fl (eI .i64) v15.From.Words),.own 94 17 v15.From.Guests.length (fl bE v15.From.Guests),.own 3 1 v15.To.Words.length (fl (eI .i64) v15.To.Words),.own 94 17 v15.To.Guests.length (fl bE v15.To.Guests),ii v15.G,ii v15.N,.own 4 1 v15.Left.length (fl eB v15.Left)]) (v:= .agg [sw 30 v15.From.Words,.sref 31 [] 0 v15.From.Guests.length 17,sw 32 v15.To.Words,.sref 33 [] 0 v15.To.Guests.length 17,ii v15.G,ii v15.N,sw 34 v15.Left]) (Hr:=[z45,z47,z48,z49,z50]) (n':=35) kr dd⟩,Hld.un ?_⟩⟩));refine dj 1 (sp 104 [z3,z5,z7,z15,z10,z38,z44,z9,z46,(82,.agg (dS x_aA))]) [z45,z47,z48,z49,z50,z1,z2,z19,z18,z17,z16,z14,z20,z40,z39,z41,z42,z43,z36] 35 ?_;obtain⟨v16,hv16,hh⟩:=bind_some hh;refine ds (.call 29 [.t 82]) (some 83) (uL rfl (dI (r:= .agg (dS v16)) (v:= .agg (dS v16)) (Hr:=[]) (n':=35) (yR hv16) (gC (vs:=[.agg (dS x_aA)]) kr (cz1 eK)) rfl rfl kr ⟨⟨⟨by decide,nK (n:=35) (n0:=35) (r:= .agg (dS v16)) (v:= .agg (dS v16)) (Hr:=[]) (n':=35) kr dd⟩,Hld.un ?_⟩⟩));obtain⟨v17,hv17,hh⟩:=bind_some hh;let z51:EH:=(39,some (rT_4 v17.1.Left));let q37:Root:=(rO94 v17.1.To.Guests);let z52:=(38,some q37);let q38:Root:=(rI_3 v17.1.To.Words);let z53:=(37,some q38);let q39:Root:=(rO94 v17.1.From.Guests);let z54:=(36,some q39);let q40:Root:=(rI_3 v17.1.From.Words);let z55:=(35,some q40);refine ds (.call 9 [.t 81,.t 83]) (some 84) (uL rfl (dI (r:= .tup [.agg [.own 3 1 v17.1.From.Words.length (fl (eI .i64) v17.1.From.Words),.own 94 17 v17.1.From.Guests.length (fl bE v17.1.From.Guests),.own 3 1 v17.1.To.Words.length (fl (eI .i64) v17.1.To.Words),.own 94 17 v17.1.To.Guests.length (fl bE v17.1.To.Guests),ii v17.1.G,ii v17.1.N,.own 4 1 v17.1.Left.length (fl eB v17.1.Left)],bb v17.2]) (v:= .tup [.agg [sw 35 v17.1.From.Words,.sref 36 [] 0 v17.1.From.Guests.length 17,sw 37 v17.1.To.Words,.sref 38 [] 0 v17.1.To.Guests.length 17,ii v17.1.G,ii v17.1.N,sw 39 v17.1.Left],bb v17.2]) (Hr:=[z51,z52,z53,z54,z55]) (n':=40) (aDs hv17) (gC (vs:=[.agg [sw 30 v15.From.Words,.sref 31 [] 0 v15.From.Guests.length 17,sw 32 v15.To.Words,.sref 33 [] 0 v15.To.Guests.length 17,ii v15.G,ii v15.N,sw 34 v15.Left],.agg (dS v16)]) kr (dD (eN (aB (aR (c:=(eI .i64)) (xs:=v15.From.Words) (e:=3) eqn aV bL bJ kr) (aB (cQ (B:=dC) (xs:=v15.From.Guests) (e:=94) cS aL eqn kr) (aB (aR (c:=(eI .i64)) (xs:=v15.To.Words) (e:=3) eqn aV bL bJ kr) (aB (cQ (B:=dC) (xs:=v15.To.Guests) (e:=94) cS aL eqn kr) (cs1 (cs1 (aB (aR (c:=eB) (xs:=v15.Left) (e:=4) eqn nG pL kV kr) fH)))))))) (cz1 eK))) nrr nrr kr ⟨⟨⟨by decide,nK (n:=35) (n0:=35) (r:= .tup [.agg [.own 3 1 v17.1.From.Words.length (fl (eI .i64) v17.1.From.Words),.own 94 17 v17.1.From.Guests.length (fl bE v17.1.From.Guests),.own 3 1 v17.1.To.Words.length (fl (eI .i64) v17.1.To.Words),.own 94 17 v17.1.To.Guests.length (fl bE v17.1.To.Guests),ii v17.1.G,ii v17.1.N,.own 4 1 v17.1.Left.length (fl eB v17.1.Left)],bb v17.2]) (v:= .tup [.agg [sw 35 v17.1.From.Words,.sref 36 [] 0 v17.1.From.Guests.length 17,sw 37 v17.1.To.Words,.sref 38 [] 0 v17.1.To.Guests.length 17,ii v17.1.G,ii v17.1.N,sw 39 v17.1.Left],bb v17.2]) (Hr:=[z51,z52,z53,z54,z55]) (n':=40) kr dd⟩,Hld.un ?_⟩⟩));refine dt (sp 104 [z3,z5,z7,z15,z10,z38,(14,pp 40),z44,(79,.tup [.agg [sw 35 v17.1.From.Words,.sref 36 [] 0 v17.1.From.Guests.length 17,sw 37 v17.1.To.Words,.sref 38 [] 0 v17.1.To.Guests.length 17,ii v17.1.G,ii v17.1.N,sw 39 v17.1.Left],bb v17.2]),z9,z46,(82,.agg (dS x_aA)),(83,.agg (dS v16)),(84,.tup [.agg [sw 35 v17.1.From.Words,.sref 36 [] 0 v17.1.From.Guests.length 17,sw 37 v17.1.To.Words,.sref 38 [] 0 v17.1.To.Guests.length 17,ii v17.1.G,ii v17.1.N,sw 39 v17.1.Left],bb v17.2]),(85,.agg [sw 35 v17.1.From.Words,.sref 36 [] 0 v17.1.From.Guests.length 17,sw 37 v17.1.To.Words,.sref 38 [] 0 v17.1.To.Guests.length 17,ii v17.1.G,ii v17.1.N,sw 39 v17.1.Left]),(86,bb v17.2)]) [(40,some q9),z51,z52,z53,z54,z55,z45,z47,z48,z49,z50,z1,z2,z19,z18,z17,z16,z14,z20,z40,z39,z41,z42,z43,z36] 41 ?_;let q41:Root:=⟨29,[sw 35 v17.1.From.Words,.sref 36 [] 0 v17.1.From.Guests.length 17,sw 37 v17.1.To.Words,.sref 38 [] 0 v17.1.To.Guests.length 17,ii v17.1.G,ii v17.1.N,sw 39 v17.1.Left]⟩;refine yt (sp 104 [z7,z15,z10,z38,(14,pp 40),(15,bb v17.2)]) [z19,z18,z17,z16,z14,z20,z40,z39,z41,z42,z43,z36,z55,z54,z53,z52,z51,(40,some q41)] 41 (Aw.seq (Aw.sreg [9,12,95] [19,20,21,22,23,24] (yj 2  (sp 104 [z7,z15,z10,z38,(14,pp 40),(15,bb v17.2),(87,.agg [sw 35 v17.1.From.Words,.sref 36 [] 0 v17.1.From.Guests.length 17,sw 37 v17.1.To.Words,.sref 38 [] 0 v17.1.To.Guests.length 17,ii v17.1.G,ii v17.1.N,sw 39 v17.1.Left]),(88,.agg [sw 7 v4.1.From.Words,.sref 8 [] 0 v4.1.From.Guests.length 17,sw 9 v4.1.To.Words,.sref 10 [] 0 v4.1.To.Guests.length 17,ii v4.1.G,ii v4.1.N,sw 11 v4.1.Left])]) [z19,z18,z17,z16,z14,z20,z40,z39,z41,z42,z43,z36,z55,z54,z53,z52,z51,(40,some q41)] 41 ?_)));obtain⟨v18,hv18,hh⟩:=bind_some hh;refine ys (.call 30 [.t 87,.t 88]) (some 89) (dI (r:=bb v18) (v:=bb v18) (Hr:=[]) (n':=41) (rW hv18) (gC (vs:=[.agg [sw 35 v17.1.From.Words,.sref 36 [] 0 v17.1.From.Guests.length 17,sw 37 v17.1.To.Words,.sref 38 [] 0 v17.1.To.Guests.length 17,ii v17.1.G,ii v17.1.N,sw 39 v17.1.Left],.agg [sw 7 v4.1.From.Words,.sref 8 [] 0 v4.1.From.Guests.length 17,sw 9 v4.1.To.Words,.sref 10 [] 0 v4.1.To.Guests.length 17,ii v4.1.G,ii v4.1.N,sw 11 v4.1.Left]]) kr (dD (eN (aB (aR (c:=(eI .i64)) (xs:=v17.1.From.Words) (e:=3) eqn aV bL bJ kr) (aB (cQ (B:=dC) (xs:=v17.1.From.Guests) (e:=94) cS aL eqn kr) (aB (aR (c:=(eI .i64)) (xs:=v17.1.To.Words) (e:=3) eqn aV bL bJ kr) (aB (cQ (B:=dC) (xs:=v17.1.To.Guests) (e:=94) cS aL eqn kr) (cs1 (cs1 (aB (aR (c:=eB) (xs:=v17.1.Left) (e:=4) eqn nG pL kV kr) fH)))))))) (dD (eN (aB (aR (c:=(eI .i64)) (xs:=v4.1.From.Words) (e:=3) eqn aV bL bJ kr) (aB (cQ (B:=dC) (xs:=v4.1.From.Guests) (e:=94) cS aL eqn kr) (aB (aR (c:=(eI .i64)) (xs:=v4.1.To.Words) (e:=3) eqn aV bL bJ kr) (aB (cQ (B:=dC) (xs:=v4.1.To.Guests) (e:=94) cS aL eqn kr) (cs1 (cs1 (aB (aR (c:=eB) (xs:=v4.1.Left) (e:=4) eqn nG pL kV kr) fH)))))))) eK))) rfl rfl kr ?_);refine yu 2 [(89,bb v18),(90,bb (!v18)),(91,bb (!v18))] [z19,z18,z17,z16,z14,z20,z40,z39,z41,z42,z43,z36,z55,z54,z53,z52,z51,(40,some q41)] 41 ?_;rcases dM hh with⟨hb,hh⟩|⟨hb,hh⟩;{exact yb 90 hb (yb 91 hb (yt (sp 104 [z10,z38,(95,bb true)]) [z40,z39,z41,z42,z43,z36] 41 (cT rfl (sy [4] [] (sp 104 [z6]) [] 41 (Aw.ret (kJ (vV hh)))))))};refine yb 90 hb (yb 91 hb (yt (sp 104 [z10,z38,(95,bb (!(v17.2==v4.2)))]) [z40,z39,z41,z42,z43,z36] 41 ?_));rcases dM hh with⟨hb,hh⟩|⟨hb,hh⟩;{exact cT hb (sy [4] [] (sp 104 [z6]) [] 41 (Aw.ret (kJ (vV hh))))};refine cF hb (Aw.xskip (λ_ _ _ hq=>fF hq) (sy [9,12,13] [19,20,21,22,23,24] (sp 104 [z10,z38,(13,ii 1)]) [z40,z39,z41,z42,z43,z36] 41 (Aw.sreg [12,13] [] (yu 2 [(96,.agg [sw 19 v7.1.From.Words,.sref 20 [] 0 v7.1.From.Guests.length 17,sw 21 v7.1.To.Words,.sref 22 [] 0 v7.1.To.Guests.length 17,ii v7.1.G,ii v7.1.N,sw 23 v7.1.Left]),(97,ii 1)] [z40,z39,z41,z42,z43,z36] 41 ?_))));obtain⟨v19,hv19,hh⟩:=bind_some hh;refine ys (.call 32 [.t 96,.t 97]) (some 98) (dI (r:=ii v19) (v:=ii v19) (Hr:=[]) (n':=41) (aBc hv19) (gC (vs:=[.agg [sw 19 v7.1.From.Words,.sref 20 [] 0 v7.1.From.Guests.length 17,sw 21 v7.1.To.Words,.sref 22 [] 0 v7.1.To.Guests.length 17,ii v7.1.G,ii v7.1.N,sw 23 v7.1.Left],ii 1]) kr (dD (eN (aB (aR (c:=(eI .i64)) (xs:=v13.1) (e:=3) eqn aV bL bJ kr) (aB (cQ (B:=dC) (xs:=v13.2.1) (e:=94) cS aL eqn kr) (aB (aR (c:=(eI .i64)) (xs:=v13.2.2.1) (e:=3) eqn aV bL bJ kr) (aB (cQ (B:=dC) (xs:=v13.2.2.2.1) (e:=94) cS aL eqn kr) (cs1 (cs1 (aB (aR (c:=eB) (xs:=v13.2.2.2.2.1) (e:=4) eqn nG pL kV kr) fH)))))))) (cz1 eK))) rfl rfl kr ?_);refine yt (sp 104 [z38,(13,ii v19)]) [] 41 (Aw.seq (sy [12,13,100] [] (sp 104 [z38,(13,ii v19),(100,bb (decide (v19<(0:Int))))]) [] 41 ?_));rcases dM hh with⟨hb,hh⟩|⟨hb,hh⟩;{exact cT hb (sy [4] [] (sp 104 [z6]) [] 41 (Aw.ret (kJ (vV hh))))};refine cF hb (Aw.xskip (λ_ _ _ hq=>fF hq) (Aw.seq (sy [103] [] (sp 104 [(103,bb (!decide (v19=v13.2.2.2.2.2)))]) [] 41 ?_)));rcases dM hh with⟨hb,hh⟩|⟨hb,hh⟩;{exact cT hb (sy [4] [] (sp 104 [z6]) [] 41 (Aw.ret (kJ (vV hh))))};exact cF hb (Aw.xskip (λ_ _ _ hq=>fF hq) (sy [4] [] (sp 104 [(4,bb true)]) [] 41 (Aw.ret (vV hh))))
end Go.Proofs.YtcgggihjcelmhaaGreat
