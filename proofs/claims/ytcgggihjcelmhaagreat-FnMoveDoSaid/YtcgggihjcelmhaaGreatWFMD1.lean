/- Plain functions of the program, and that it hands back what they say. Made by program. -/
import Derived.Test.YtcgggihjcelmhaaGreatWTD
import Derived.Test.YtcgggihjcelmhaaGreatProg
import Derived.Test.YtcgggihjcelmhaaGreatWKC1
namespace Go.Proofs.YtcgggihjcelmhaaGreat
open Go.RowKit
set_option maxRecDepth 100000
set_option linter.all false
set_option maxHeartbeats 0
noncomputable def zD (x_c:DCore)(s1:(List Int)×Int):Option DCore:=some (DCore.mk s1.1 s1.2 x_c.Root x_c.Vector x_c.Saved x_c.SavedUser x_c.Cause x_c.Bad x_c.Timer x_c.Waits x_c.User x_c.On x_c.Stopped)
noncomputable def kQ (x_c:DCore)(x_i:DIns):Option DCore:=
 Option.bind (cond (decide (x_i.Op=(1:Int)))
  (grd ((0:Int)<=x_i.A/\x_i.A<((x_c.Regs.length:Nat):Int)) (some (.go ((x_c.Regs.set x_i.A.toNat x_i.N),Int.tmod (w64 (x_c.Pc+(1:Int))) (64:Int)))))
  (cond (decide (x_i.Op=(2:Int)))
   (grd ((0:Int)<=x_i.A/\x_i.A<((x_c.Regs.length:Nat):Int)) (grd ((0:Int)<=(Int.tmod x_i.N (4:Int))/\(Int.tmod x_i.N (4:Int))<((x_c.Regs.length:Nat):Int)) (grd ((0:Int)<=x_i.A/\x_i.A<((x_c.Regs.length:Nat):Int)) (some (.go ((x_c.Regs.set x_i.A.toNat (Int.tmod (w64 ((x_c.Regs.getD x_i.A.toNat default)+(x_c.Regs.getD (Int.toNat (Int.tmod x_i.N (4:Int))) default))) (4096:Int))),Int.tmod (w64 (x_c.Pc+(1:Int))) (64:Int)))))))
   (cond (decide (x_i.Op=(15:Int)))
    (grd ((0:Int)<=x_i.A/\x_i.A<((x_c.Regs.length:Nat):Int)) (grd ((0:Int)<=(Int.tmod x_i.N (4:Int))/\(Int.tmod x_i.N (4:Int))<((x_c.Regs.length:Nat):Int)) (grd ((0:Int)<=x_i.A/\x_i.A<((x_c.Regs.length:Nat):Int)) (some (.go ((x_c.Regs.set x_i.A.toNat (Int.tmod (w64 ((w64 ((x_c.Regs.getD x_i.A.toNat default)+(4096:Int)))-(x_c.Regs.getD (Int.toNat (Int.tmod x_i.N (4:Int))) default))) (4096:Int))),Int.tmod (w64 (x_c.Pc+(1:Int))) (64:Int)))))))
    (cond (decide (x_i.Op=(5:Int)))
     (some (.go (x_c.Regs,x_i.N)))
     (cond (decide (x_i.Op=(6:Int)))
      (grd ((0:Int)<=x_i.A/\x_i.A<((x_c.Regs.length:Nat):Int)) (cond (!decide ((x_c.Regs.getD x_i.A.toNat default)=(0:Int)))
       (some (.go (x_c.Regs,x_i.N)))
       (some (.go (x_c.Regs,Int.tmod (w64 (x_c.Pc+(1:Int))) (64:Int))))))
      (cond (decide (x_i.Op=(7:Int)))
       (Option.bind (jO x_c (Int.tmod (w64 (x_c.Pc+(1:Int))) (64:Int)) (1:Int) (0:Int)) λv2=>
       some (.out v2))
       (some (.go (x_c.Regs,Int.tmod (w64 (x_c.Pc+(1:Int))) (64:Int)))))))))) λj1=>
  JO.run j1 (zD x_c)
noncomputable def cAm:Sw tG:=⟨[.os 39,.v (.st 141)],.one (.st 39),kQ⟩
theorem cDx:Sjk 112 cAm:=sgy [(108,.w bIf)] ⟨bPz,trivial⟩ (.s .o (.s .o (.j ⟨[2,4],[],[(.c 2 0,.ro 3),(.s 5,.i .i64)]⟩ .o .o))) kr kr kr
noncomputable def mJ (x_c:DCore):Option DCore:=
 Option.bind (nK (DCore.mk x_c.Regs x_c.Pc x_c.Root x_c.Vector x_c.Saved x_c.SavedUser x_c.Cause x_c.Bad x_c.Timer false x_c.User x_c.On x_c.Stopped) (4:Int) (0:Int) x_c.Pc) λv1=>
 some v1
noncomputable def bRj:Sg tG:=⟨[.st 39],.one (.sb 39),mJ⟩
theorem bXe:Sok 124 bRj:=sgx [(163,.r aYr)] ⟨bIj,trivial⟩ .o kr kr kr
noncomputable def fL (x_b:DBare)(x_addr:Int):Option DBare:=
 Option.bind (nK x_b.C (2:Int) x_addr x_b.C.Pc) λv1=>
 some (DBare.mk v1 x_b.Mem x_b.In x_b.Out)
noncomputable def aPi:Sg tG:=⟨[.st 41,.i .i64],.one (.sb 41),fL⟩
theorem aUj:Sok 126 aPi:=sgx [(163,.r aYr)] ⟨bIj,trivial⟩ .o kr kr kr
noncomputable def sY (x_b:DBare)(x_i:DIns):Option DBare:=
 Option.bind (cM x_b.C x_i) λv1=>
 Option.bind (oX x_b.Mem x_b.C.Root v1 x_b.C.User false) λv2=>
 cond (decide (v2=(-1:Int)))
  (Option.bind (fL x_b v1) λv3=>
  some v3)
  (grd ((0:Int)<=v2/\v2<((x_b.Mem.length:Nat):Int)) (Option.bind (eX x_b x_i.A (x_b.Mem.getD v2.toNat default)) λv4=>
   some v4))
noncomputable def bXx:Sg tG:=⟨[.st 41,.st 141],.one (.sb 41),sY⟩
theorem cDm:Sok 166 bXx:=sgx [(194,.r aVa),(125,.r bIa),(126,.r aPi),(195,.r bJo)] ⟨bAu,bRw,aUj,bSj,trivial⟩ .o kr kr kr
noncomputable def tD (x_b:DBare)(x_i:DIns):Option DBare:=
 Option.bind (cM x_b.C x_i) λv1=>
 Option.bind (oX x_b.Mem x_b.C.Root v1 x_b.C.User true) λv2=>
 cond (decide (v2=(-1:Int)))
  (Option.bind (fL x_b v1) λv3=>
  some v3)
  (grd ((0:Int)<=x_i.A/\x_i.A<((x_b.C.Regs.length:Nat):Int)) (Option.bind (kT x_b.Mem v2 (x_b.C.Regs.getD x_i.A.toNat default)) λv4=>
   Option.bind (eF (DBare.mk x_b.C v4 x_b.In x_b.Out)) λv5=>
   some v5))
noncomputable def bZd:Sg tG:=⟨[.st 41,.st 141],.one (.sb 41),tD⟩
theorem cEa:Sok 167 bZd:=sgx [(194,.r aVa),(125,.r bIa),(126,.r aPi),(196,.r bKe),(197,.r aUi)] ⟨bAu,bRw,aUj,bRc,bAc,trivial⟩ (.s .o (.s .o (.s .o (.s .o (.s .o (.s (.g [.fr (.c 2 13) 0] [] []) .o)))))) kr kr kr
noncomputable def uV (x_b:DBare)(x_i:DIns):Option DBare:=
 cond (decide (x_i.Op=(3:Int)))
  (Option.bind (sY x_b x_i) λv1=>
  some v1)
  (cond (decide (x_i.Op=(4:Int)))
   (Option.bind (tD x_b x_i) λv2=>
   some v2)
   (Option.bind (lI x_b x_i) λv3=>
   some v3))
noncomputable def bWp:Sg tG:=⟨[.st 41,.st 141],.one (.sb 41),uV⟩
theorem cCs:Sok 127 bWp:=sgx [(166,.r bXx),(167,.r bZd),(168,.r bTf)] ⟨cDm,cEa,bZc,trivial⟩ .o kr kr kr
noncomputable def qZ (x_b:DBare):Option DBare:=
 cond x_b.C.Stopped
  (some x_b)
  (Option.bind (gK x_b.C) λv1=>
  Option.bind (eL v1) λv2=>
  cond v2
   (Option.bind (mJ v1) λv3=>
   some (DBare.mk v3 x_b.Mem x_b.In x_b.Out))
   (Option.bind (oX x_b.Mem v1.Root v1.Pc v1.User false) λv4=>
   cond (decide (v4=(-1:Int)))
    (Option.bind (fL (DBare.mk v1 x_b.Mem x_b.In x_b.Out) v1.Pc) λv5=>
    some v5)
    (grd ((0:Int)<=v4/\v4<((x_b.Mem.length:Nat):Int)) (Option.bind (kM (x_b.Mem.getD v4.toNat default)) λv6=>
     Option.bind (uV (DBare.mk (DCore.mk v1.Regs v1.Pc v1.Root v1.Vector v1.Saved v1.SavedUser v1.Cause v1.Bad v1.Timer v1.Waits v1.User v1.On v1.Stopped) x_b.Mem x_b.In x_b.Out) v6) λv7=>
     some v7))))
noncomputable def g60:Sg tG:=⟨[.st 41],.one (.sb 41),qZ⟩
theorem s60:Sok 60 g60:=sgx [(122,.r bIh),(123,.r bJg),(124,.r bRj),(125,.r bIa),(126,.r aPi),(128,.r bJd),(127,.r bWp)] ⟨bPj,bOx,bXe,bRw,aUj,bRg,cCs,trivial⟩ .o kr kr kr
noncomputable def eP (x_e:DExit):Option Bool:=
 cond (decide (x_e.Why=(2:Int)))
  (some true)
  (some (decide (x_e.Why=(3:Int))))
noncomputable def bXm:Sg tG:=⟨[.st 178],.one .b,eP⟩
theorem cFh:Sok 186 bXm:=sgx [] trivial .o kr kr kr
noncomputable def iZ (x_h:DHost)(x_g:Int)(x_e:DExit):Option (DHost×Bool):=
 cond (decide (x_e.Why=(2:Int)))
  (Option.bind (jG x_h x_g x_e.Page) λv1=>
  some (v1.1,v1.2))
  (Option.bind (iY x_h x_g x_e.Page) λv2=>
  some (v2.1,v2.2))
noncomputable def bWz:Sg tG:=⟨[.st 26,.i .i64,.st 178],.two (.st 2026) .b,iZ⟩
theorem cEh:Sok 187 bWz:=sgx [(154,.r cAd),(155,.r cAi)] ⟨cAg,bYh,trivial⟩ .o kr kr kr
noncomputable def aLx  (s2:(List Int)×(List DGuest)):Option (DHost×Bool):=some ((DHost.mk s2.1 s2.2),true)
noncomputable def cP (x_g:Int)(s3:(List Int)×(List DGuest)×Int×Int×Int×Int×Int×Int):Option (LO ((List Int)×(List DGuest)×Int×Int×Int×Int×Int×Int) (JO ((List Int)×(List DGuest)) (DHost×Bool))):=
 cond (decide (s3.2.2.2.2.2.2.2<(8:Int)))
  (Option.bind (eP (DExit.mk s3.2.2.1 s3.2.2.2.1 (DIns.mk s3.2.2.2.2.1 s3.2.2.2.2.2.1 s3.2.2.2.2.2.2.1))) λv4=>
  cond v4
   (Option.bind (iZ (DHost.mk s3.1 s3.2.1) x_g (DExit.mk s3.2.2.1 s3.2.2.2.1 (DIns.mk s3.2.2.2.2.1 s3.2.2.2.2.2.1 s3.2.2.2.2.2.2.1))) λv5=>
   cond (!v5.2)
    (some (.ret (.out ((DHost.mk ([]:List Int) ([]:List DGuest)),false))))
    (Option.bind (oK v5.1 x_g) λv6=>
    some (.next (v5.1.Words,v5.1.Guests,v6.Why,v6.Page,v6.What.Op,v6.What.A,v6.What.N,w64 (s3.2.2.2.2.2.2.2+(1:Int))))))
   (some (.ret (.go (s3.1,s3.2.1)))))
  (some (.ret (.go (s3.1,s3.2.1))))
noncomputable def rP (x_h:DHost)(x_g:Int):Option (DHost×Bool):=
 Option.bind (oK x_h x_g) λv1=>
 Option.bind (Option.bind (iter (cP x_g) (x_h.Words,x_h.Guests,v1.Why,v1.Page,v1.What.Op,v1.What.A,v1.What.N,(0:Int))) LO.val) λj2=>
  JO.run j2 aLx
noncomputable def cBq:Sg tG:=⟨[.st 26,.i .i64],.two (.sb 26) .b,rP⟩
theorem cEz:Sok 148 cBq:=sgx [(185,.r bYv),(186,.r bXm),(187,.r bWz)] ⟨cCx,cFh,cEh,trivial⟩ (.s .o (.s .o (.j ⟨[2,4],[],[(.c 2 0,.rb 3),(.c 2 1,.rb 94)]⟩ (.s .o (.k (.l ⟨[1,2,4,6],[],[(.c 2 0,.rb 3),(.c 2 1,.rb 94),(.c 6 0,.i .i64),(.c 6 1,.i .i64),(.c 6 2,.i .i64),(.c 6 3,.i .i64),(.c 6 4,.i .i64),(.s 7,.i .i64)]⟩ (.s .o (.s (.k (.s .o (.s .o (.s .o (.g [.fr (.c 2 0) 0,.fr (.c 2 1) 0] [] []))))) .o))))) .o))) kr kr kr
noncomputable def rQ (x_h:DHost)(x_g:Int)(x_b:DBare)(x_i:DIns):Option DHost:=
 Option.bind (cM x_b.C x_i) λv1=>
 Option.bind (dJ x_h x_g v1 false) λv2=>
 cond (!decide (v2.2=(0:Int)))
  (Option.bind (fL x_b v1) λv3=>
  Option.bind (bW x_h x_g v3) λv4=>
  some v4)
  (grd ((0:Int)<=v2.1/\v2.1<((x_h.Words.length:Nat):Int)) (Option.bind (eX x_b x_i.A (x_h.Words.getD v2.1.toNat default)) λv5=>
   Option.bind (bW x_h x_g v5) λv6=>
   some v6))
noncomputable def bYe:Sg tG:=⟨[.st 26,.i .i64,.st 41,.st 141],.one (.st 2026),rQ⟩
theorem cFa:Sok 214 bYe:=sgx [(194,.r aVa),(188,.r aUv),(126,.r aPi),(67,.r g67),(195,.r bJo)] ⟨bAu,bBc,aUj,s67,bSj,trivial⟩ .o kr kr kr
noncomputable def pS (x_h:DHost)(x_g:Int)(x_b:DBare)(x_i:DIns):Option DHost:=
 Option.bind (cM x_b.C x_i) λv1=>
 Option.bind (dJ x_h x_g v1 true) λv2=>
 cond (!decide (v2.2=(0:Int)))
  (Option.bind (fL x_b v1) λv3=>
  Option.bind (bW x_h x_g v3) λv4=>
  some v4)
  (Option.bind (eF x_b) λv5=>
  Option.bind (bW x_h x_g v5) λv6=>
  grd ((0:Int)<=x_i.A/\x_i.A<((x_b.C.Regs.length:Nat):Int)) (grd ((0:Int)<=v2.1/\v2.1<((v6.Words.length:Nat):Int)) (grd ((0:Int)<=x_g/\x_g<((v6.Guests.length:Nat):Int)) (Option.bind (gG x_h x_g v1) λv7=>
   grd ((0:Int)<=v7.Page/\v7.Page<((List.length (v6.Guests.getD x_g.toNat default).Pages:Nat):Int)) (some (DHost.mk (v6.Words.set v2.1.toNat (x_b.C.Regs.getD x_i.A.toNat default)) (v6.Guests.set x_g.toNat (DGuest.mk (v6.Guests.getD x_g.toNat default).Live (DCore.mk ((v6.Guests.getD x_g.toNat default).C).Regs ((v6.Guests.getD x_g.toNat default).C).Pc ((v6.Guests.getD x_g.toNat default).C).Root ((v6.Guests.getD x_g.toNat default).C).Vector ((v6.Guests.getD x_g.toNat default).C).Saved ((v6.Guests.getD x_g.toNat default).C).SavedUser ((v6.Guests.getD x_g.toNat default).C).Cause ((v6.Guests.getD x_g.toNat default).C).Bad ((v6.Guests.getD x_g.toNat default).C).Timer ((v6.Guests.getD x_g.toNat default).C).Waits ((v6.Guests.getD x_g.toNat default).C).User ((v6.Guests.getD x_g.toNat default).C).On ((v6.Guests.getD x_g.toNat default).C).Stopped) (List.set (v6.Guests.getD x_g.toNat default).Pages v7.Page.toNat (DSlot.mk (List.getD (v6.Guests.getD x_g.toNat default).Pages v7.Page.toNat default).Frame (List.getD (v6.Guests.getD x_g.toNat default).Pages v7.Page.toNat default).Write true)) (v6.Guests.getD x_g.toNat default).In (v6.Guests.getD x_g.toNat default).Out))))))))
noncomputable def bXb:Sg tG:=⟨[.st 26,.i .i64,.st 41,.st 141],.one (.st 2026),pS⟩
theorem cDu:Sok 215 bXb:=sgx [(194,.r aVa),(188,.r aUv),(126,.r aPi),(67,.r g67),(197,.r aUi),(213,.r bHi)] ⟨bAu,bBc,aUj,s67,bAc,bOu,trivial⟩ .o kr kr kr
noncomputable def oJ (x_h:DHost)(x_g:Int)(x_b:DBare)(x_i:DIns):Option DHost:=
 cond (decide (x_i.Op=(3:Int)))
  (Option.bind (rQ x_h x_g x_b x_i) λv1=>
  some v1)
  (cond (decide (x_i.Op=(4:Int)))
   (Option.bind (pS x_h x_g x_b x_i) λv2=>
   some v2)
   (Option.bind (lI x_b x_i) λv3=>
   Option.bind (bW x_h x_g v3) λv4=>
   some v4))
noncomputable def bYq:Sg tG:=⟨[.st 26,.i .i64,.st 41,.st 141],.one (.st 2026),oJ⟩
theorem cDp:Sok 189 bYq:=sgx [(214,.r bYe),(215,.r bXb),(168,.r bTf),(67,.r g67)] ⟨cFa,cDu,bZc,s67,trivial⟩ .o kr kr kr
noncomputable def zV (x_h:DHost)(x_g:Int):Option DHost:=
 Option.bind (lD x_h x_g) λv1=>
 cond v1.C.Stopped
  (Option.bind (cB x_h) λv2=>
  some v2)
  (Option.bind (gK v1.C) λv3=>
  Option.bind (eL v3) λv4=>
  cond v4
   (Option.bind (mJ v3) λv5=>
   Option.bind (bW x_h x_g (DBare.mk v5 v1.Mem v1.In v1.Out)) λv6=>
   some v6)
   (Option.bind (dJ x_h x_g v3.Pc false) λv7=>
   cond (!decide (v7.2=(0:Int)))
    (Option.bind (fL (DBare.mk v3 v1.Mem v1.In v1.Out) v3.Pc) λv8=>
    Option.bind (bW x_h x_g v8) λv9=>
    some v9)
    (grd ((0:Int)<=v7.1/\v7.1<((x_h.Words.length:Nat):Int)) (Option.bind (kM (x_h.Words.getD v7.1.toNat default)) λv10=>
     Option.bind (oJ x_h x_g (DBare.mk (DCore.mk v3.Regs v3.Pc v3.Root v3.Vector v3.Saved v3.SavedUser v3.Cause v3.Bad v3.Timer v3.Waits v3.User v3.On v3.Stopped) v1.Mem v1.In v1.Out) v10) λv11=>
     some v11))))
noncomputable def cAs:Sg tG:=⟨[.st 26,.i .i64],.one (.st 2026),zV⟩
theorem cEj:Sok 149 cAs:=sgx [(68,.r g68),(131,.r aOe),(122,.r bIh),(123,.r bJg),(124,.r bRj),(67,.r g67),(188,.r aUv),(126,.r aPi),(128,.r bJd),(189,.r bYq)] ⟨s68,aPy,bPj,bOx,bXe,s67,bBc,aUj,bRg,cDp,trivial⟩ .o kr kr kr
noncomputable def pI (x_h:DHost)(x_g:Int):Option (DHost×Bool):=
 Option.bind (cL x_h x_g) λv1=>
 cond (!v1)
  (some ((DHost.mk ([]:List Int) ([]:List DGuest)),false))
  (Option.bind (rP x_h x_g) λv2=>
  cond (!v2.2)
   (Option.bind (cB x_h) λv3=>
   some (v3,false))
   (Option.bind (zV v2.1 x_g) λv4=>
   some (v4,true)))
noncomputable def g98:Sg tG:=⟨[.st 26,.i .i64],.two (.st 2026) .b,pI⟩
theorem s98:Sok 98 g98:=sgx [(56,.r g56),(148,.r cBq),(131,.r aOe),(149,.r cAs)] ⟨s56,cEz,aPy,cEj,trivial⟩ .o kr kr kr
noncomputable def mT  (s1:(List Int)×(List DGuest)):Option (DHost×Bool):=some ((DHost.mk s1.1 s1.2),true)
noncomputable def jW (s2:(List Int)×(List DGuest)×Int)(s4:(List Int)×(List DGuest)×Bool):Option (LO ((List Int)×(List DGuest)×Int) (JO ((List Int)×(List DGuest)) (DHost×Bool))):=
 cond (!s4.2.2)
  (some (.ret (.out ((DHost.mk s4.1 s4.2.1),false))))
  (some (.next (s4.1,s4.2.1,w64 (s2.2.2+(1:Int)))))
noncomputable def dS (x_g:Int)(s2:(List Int)×(List DGuest)×Int):Option (LO ((List Int)×(List DGuest)×Int) (JO ((List Int)×(List DGuest)) (DHost×Bool))):=
 cond (decide (s2.2.2<(4:Int)))
  (Option.bind (kX (DHost.mk s2.1 s2.2.1) x_g) λv3=>
  Option.bind (cond (decide (v3.Why=(2:Int)))
   (Option.bind (fW (DHost.mk s2.1 s2.2.1) x_g v3.Page) λv5=>
   some (.go (v5.1.Words,v5.1.Guests,v5.2)))
   (cond (decide (v3.Why=(3:Int)))
    (Option.bind (fZ (DHost.mk s2.1 s2.2.1) x_g v3.Page) λv6=>
    some (.go (v6.1.Words,v6.1.Guests,v6.2)))
    (some (.out (.ret (.out ((DHost.mk s2.1 s2.2.1),true))))))) λj4=>
   JO.run j4 (jW s2))
  (some (.ret (.go (s2.1,s2.2.1))))
noncomputable def kS (x_h:DHost)(x_g:Int):Option (DHost×Bool):=
 Option.bind (Option.bind (iter (dS x_g) (x_h.Words,x_h.Guests,(0:Int))) LO.val) λj1=>
  JO.run j1 mT
noncomputable def cBl:Sw tG:=⟨[.os 2026,.v (.i .i64)],.two (.st 2026) .b,kS⟩
theorem cFd:Sjk 104 cBl:=sgy [(156,.r bZf),(53,.r g53),(54,.r g54)] ⟨cDe,s53,s54,trivial⟩ (.s .o (.j ⟨[2,4],[],[(.c 2 0,.ro 3),(.c 2 1,.ro 1094)]⟩ (.s .o (.k (.l ⟨[1,2,4],[],[(.c 2 0,.ro 3),(.c 2 1,.ro 1094),(.s 6,.i .i64)]⟩ (.s .o (.s (.k (.s .o (.s .o (.j ⟨[1,2,4,6],[],[(.c 2 0,.ro 3),(.c 2 1,.ro 1094),(.s 8,.b)]⟩ .o .o)))) .o))))) .o)) kr kr kr
noncomputable def pC (x_g:Int)(v3:DHost×Bool)(v5:DCore×Bool)(v6:List DShade)(v9:DIns)(s10:Unit):Option (DHost×Bool):=
 grd ((0:Int)<=(Int.tmod v9.N (4:Int))/\(Int.tmod v9.N (4:Int))<((v5.1.Regs.length:Nat):Int)) (let z0:=v3.1.Guests.set x_g.toNat (DGuest.mk (v3.1.Guests.getD x_g.toNat default).Live v5.1 (v3.1.Guests.getD x_g.toNat default).Pages (v3.1.Guests.getD x_g.toNat default).In (v3.1.Guests.getD x_g.toNat default).Out);Option.bind (cS v6 (Int.tmod (List.getD ((z0.getD x_g.toNat default).C).Regs (Int.toNat (Int.tmod v9.N (4:Int))) default) (64:Int)) v5.1.User (decide (v9.Op=(4:Int)))) λv11=>
  cond (decide (v11.1<(0:Int)))
   (Option.bind (jO (DCore.mk ((z0.getD x_g.toNat default).C).Regs v5.1.Pc v5.1.Root v5.1.Vector v5.1.Saved v5.1.SavedUser v5.1.Cause v5.1.Bad v5.1.Timer v5.1.Waits v5.1.User v5.1.On v5.1.Stopped) v5.1.Pc (2:Int) (Int.tmod (List.getD ((z0.getD x_g.toNat default).C).Regs (Int.toNat (Int.tmod v9.N (4:Int))) default) (64:Int))) λv12=>
   grd ((0:Int)<=x_g/\x_g<((v3.1.Guests.length:Nat):Int)) (grd (x_g.toNat=x_g.toNat) (some ((DHost.mk v3.1.Words (z0.set x_g.toNat (DGuest.mk (z0.getD x_g.toNat default).Live v12 (z0.getD x_g.toNat default).Pages (z0.getD x_g.toNat default).In (z0.getD x_g.toNat default).Out))),true))))
   (cond (decide (v9.Op=(3:Int)))
    (grd ((0:Int)<=v11.1/\v11.1<((v3.1.Words.length:Nat):Int)) (grd ((0:Int)<=v9.A/\v9.A<((v5.1.Regs.length:Nat):Int)) (grd ((0:Int)<=x_g/\x_g<((v3.1.Guests.length:Nat):Int)) (grd (x_g.toNat=x_g.toNat) (some ((DHost.mk v3.1.Words (let z1:=List.set ((z0.getD x_g.toNat default).C).Regs v9.A.toNat (v3.1.Words.getD v11.1.toNat default);let z2:=z0.set x_g.toNat (DGuest.mk (z0.getD x_g.toNat default).Live (DCore.mk z1 ((z0.getD x_g.toNat default).C).Pc ((z0.getD x_g.toNat default).C).Root ((z0.getD x_g.toNat default).C).Vector ((z0.getD x_g.toNat default).C).Saved ((z0.getD x_g.toNat default).C).SavedUser ((z0.getD x_g.toNat default).C).Cause ((z0.getD x_g.toNat default).C).Bad ((z0.getD x_g.toNat default).C).Timer ((z0.getD x_g.toNat default).C).Waits ((z0.getD x_g.toNat default).C).User ((z0.getD x_g.toNat default).C).On ((z0.getD x_g.toNat default).C).Stopped) (z0.getD x_g.toNat default).Pages (z0.getD x_g.toNat default).In (z0.getD x_g.toNat default).Out);z2.set x_g.toNat (DGuest.mk (z2.getD x_g.toNat default).Live (DCore.mk ((z2.getD x_g.toNat default).C).Regs (Int.tmod (w64 (v5.1.Pc+(1:Int))) (64:Int)) v5.1.Root v5.1.Vector v5.1.Saved v5.1.SavedUser v5.1.Cause v5.1.Bad v5.1.Timer v5.1.Waits v5.1.User v5.1.On v5.1.Stopped) (z2.getD x_g.toNat default).Pages (z2.getD x_g.toNat default).In (z2.getD x_g.toNat default).Out))),true))))))
    (grd ((0:Int)<=v9.A/\v9.A<((v5.1.Regs.length:Nat):Int)) (grd ((0:Int)<=v11.1/\v11.1<((v3.1.Words.length:Nat):Int)) (grd ((0:Int)<=x_g/\x_g<((v3.1.Guests.length:Nat):Int)) (grd ((0:Int)<=(w64 (Int.tdiv (Int.tmod (List.getD ((z0.getD x_g.toNat default).C).Regs (Int.toNat (Int.tmod v9.N (4:Int))) default) (64:Int)) (8:Int)))/\(w64 (Int.tdiv (Int.tmod (List.getD ((z0.getD x_g.toNat default).C).Regs (Int.toNat (Int.tmod v9.N (4:Int))) default) (64:Int)) (8:Int)))<((v6.length:Nat):Int)) (grd ((0:Int)<=(v6.getD (Int.toNat (w64 (Int.tdiv (Int.tmod (List.getD ((z0.getD x_g.toNat default).C).Regs (Int.toNat (Int.tmod v9.N (4:Int))) default) (64:Int)) (8:Int)))) default).Page/\(v6.getD (Int.toNat (w64 (Int.tdiv (Int.tmod (List.getD ((z0.getD x_g.toNat default).C).Regs (Int.toNat (Int.tmod v9.N (4:Int))) default) (64:Int)) (8:Int)))) default).Page<((List.length (z0.getD x_g.toNat default).Pages:Nat):Int)) (grd ((0:Int)<=x_g/\x_g<((v3.1.Guests.length:Nat):Int)) (grd (x_g.toNat=x_g.toNat) (some ((DHost.mk (v3.1.Words.set v11.1.toNat (List.getD ((z0.getD x_g.toNat default).C).Regs v9.A.toNat default)) (let z3:=List.set (z0.getD x_g.toNat default).Pages (Int.toNat (v6.getD (Int.toNat (w64 (Int.tdiv (Int.tmod (List.getD ((z0.getD x_g.toNat default).C).Regs (Int.toNat (Int.tmod v9.N (4:Int))) default) (64:Int)) (8:Int)))) default).Page) (DSlot.mk (List.getD (z0.getD x_g.toNat default).Pages (Int.toNat (v6.getD (Int.toNat (w64 (Int.tdiv (Int.tmod (List.getD ((z0.getD x_g.toNat default).C).Regs (Int.toNat (Int.tmod v9.N (4:Int))) default) (64:Int)) (8:Int)))) default).Page) default).Frame (List.getD (z0.getD x_g.toNat default).Pages (Int.toNat (v6.getD (Int.toNat (w64 (Int.tdiv (Int.tmod (List.getD ((z0.getD x_g.toNat default).C).Regs (Int.toNat (Int.tmod v9.N (4:Int))) default) (64:Int)) (8:Int)))) default).Page) default).Write true);let z4:=z0.set x_g.toNat (DGuest.mk (z0.getD x_g.toNat default).Live (DCore.mk ((z0.getD x_g.toNat default).C).Regs ((z0.getD x_g.toNat default).C).Pc ((z0.getD x_g.toNat default).C).Root ((z0.getD x_g.toNat default).C).Vector ((z0.getD x_g.toNat default).C).Saved ((z0.getD x_g.toNat default).C).SavedUser ((z0.getD x_g.toNat default).C).Cause ((z0.getD x_g.toNat default).C).Bad ((z0.getD x_g.toNat default).C).Timer ((z0.getD x_g.toNat default).C).Waits ((z0.getD x_g.toNat default).C).User ((z0.getD x_g.toNat default).C).On ((z0.getD x_g.toNat default).C).Stopped) z3 (z0.getD x_g.toNat default).In (z0.getD x_g.toNat default).Out);z4.set x_g.toNat (DGuest.mk (z4.getD x_g.toNat default).Live (DCore.mk ((z4.getD x_g.toNat default).C).Regs (Int.tmod (w64 (v5.1.Pc+(1:Int))) (64:Int)) v5.1.Root v5.1.Vector v5.1.Saved v5.1.SavedUser v5.1.Cause v5.1.Bad v5.1.Timer v5.1.Waits v5.1.User v5.1.On v5.1.Stopped) (z4.getD x_g.toNat default).Pages (z4.getD x_g.toNat default).In (z4.getD x_g.toNat default).Out))),true)))))))))))
noncomputable def pQ (x_h:DHost)(x_g:Int):Option (DHost×Bool):=
 Option.bind (cY x_h x_g) λv1=>
 cond (!v1)
  (some ((DHost.mk ([]:List Int) ([]:List DGuest)),false))
  (Option.bind (cR x_h) λv2=>
  Option.bind (kS v2 x_g) λv3=>
  cond (!v3.2)
   (Option.bind (cR x_h) λv4=>
   some (v4,false))
   (grd ((0:Int)<=x_g/\x_g<((v3.1.Guests.length:Nat):Int)) (cond ((v3.1.Guests.getD x_g.toNat default).C).Stopped
    (some (v3.1,true))
    (Option.bind (jB (DCore.mk ((v3.1.Guests.getD x_g.toNat default).C).Regs ((v3.1.Guests.getD x_g.toNat default).C).Pc ((v3.1.Guests.getD x_g.toNat default).C).Root ((v3.1.Guests.getD x_g.toNat default).C).Vector ((v3.1.Guests.getD x_g.toNat default).C).Saved ((v3.1.Guests.getD x_g.toNat default).C).SavedUser ((v3.1.Guests.getD x_g.toNat default).C).Cause ((v3.1.Guests.getD x_g.toNat default).C).Bad ((v3.1.Guests.getD x_g.toNat default).C).Timer ((v3.1.Guests.getD x_g.toNat default).C).Waits ((v3.1.Guests.getD x_g.toNat default).C).User ((v3.1.Guests.getD x_g.toNat default).C).On ((v3.1.Guests.getD x_g.toNat default).C).Stopped)) λv5=>
    grd ((0:Int)<=x_g/\x_g<((v3.1.Guests.length:Nat):Int)) (grd (x_g.toNat=x_g.toNat) (let z0:=v3.1.Guests.set x_g.toNat (DGuest.mk (v3.1.Guests.getD x_g.toNat default).Live v5.1 (v3.1.Guests.getD x_g.toNat default).Pages (v3.1.Guests.getD x_g.toNat default).In (v3.1.Guests.getD x_g.toNat default).Out);cond v5.2
     (some ((DHost.mk v3.1.Words z0),true))
     (Option.bind (jA (DHost.mk v3.1.Words z0) x_g) λv6=>
     Option.bind (cS v6 v5.1.Pc v5.1.User false) λv7=>
     cond (decide (v7.1<(0:Int)))
      (Option.bind (jO (DCore.mk ((z0.getD x_g.toNat default).C).Regs v5.1.Pc v5.1.Root v5.1.Vector v5.1.Saved v5.1.SavedUser v5.1.Cause v5.1.Bad v5.1.Timer v5.1.Waits v5.1.User v5.1.On v5.1.Stopped) v5.1.Pc (2:Int) v5.1.Pc) λv8=>
      grd ((0:Int)<=x_g/\x_g<((v3.1.Guests.length:Nat):Int)) (grd (x_g.toNat=x_g.toNat) (some ((DHost.mk v3.1.Words (z0.set x_g.toNat (DGuest.mk (z0.getD x_g.toNat default).Live v8 (z0.getD x_g.toNat default).Pages (z0.getD x_g.toNat default).In (z0.getD x_g.toNat default).Out))),true))))
      (grd ((0:Int)<=v7.1/\v7.1<((v3.1.Words.length:Nat):Int)) (Option.bind (nI (v3.1.Words.getD v7.1.toNat default)) λv9=>
       Option.bind (Option.bind (cN v9) λv13=>
        cond v13
         (cond v5.1.User
          (Option.bind (jO (DCore.mk ((z0.getD x_g.toNat default).C).Regs v5.1.Pc v5.1.Root v5.1.Vector v5.1.Saved v5.1.SavedUser v5.1.Cause v5.1.Bad v5.1.Timer v5.1.Waits v5.1.User v5.1.On v5.1.Stopped) v5.1.Pc (3:Int) (0:Int)) λv14=>
          grd ((0:Int)<=x_g/\x_g<((v3.1.Guests.length:Nat):Int)) (grd (x_g.toNat=x_g.toNat) (some (.out ((DHost.mk v3.1.Words (z0.set x_g.toNat (DGuest.mk (z0.getD x_g.toNat default).Live v14 (z0.getD x_g.toNat default).Pages (z0.getD x_g.toNat default).In (z0.getD x_g.toNat default).Out))),true)))))
          (Option.bind (cN v9) λv15=>
          cond v15
           (Option.bind (fM (DHost.mk v3.1.Words z0) x_g v9) λv16=>
           some (.out (v16.1,v16.2)))
           (cond (!decide (v9.Op=(3:Int)))
            (cond (!decide (v9.Op=(4:Int)))
             (Option.bind (kQ (DCore.mk ((z0.getD x_g.toNat default).C).Regs v5.1.Pc v5.1.Root v5.1.Vector v5.1.Saved v5.1.SavedUser v5.1.Cause v5.1.Bad v5.1.Timer v5.1.Waits v5.1.User v5.1.On v5.1.Stopped) v9) λv17=>
             grd ((0:Int)<=x_g/\x_g<((v3.1.Guests.length:Nat):Int)) (grd (x_g.toNat=x_g.toNat) (some (.out ((DHost.mk v3.1.Words (z0.set x_g.toNat (DGuest.mk (z0.getD x_g.toNat default).Live v17 (z0.getD x_g.toNat default).Pages (z0.getD x_g.toNat default).In (z0.getD x_g.toNat default).Out))),true)))))
             (some (.go ())))
            (some (.go ())))))
         (Option.bind (cN v9) λv18=>
         cond v18
          (Option.bind (fM (DHost.mk v3.1.Words z0) x_g v9) λv19=>
          some (.out (v19.1,v19.2)))
          (cond (!decide (v9.Op=(3:Int)))
           (cond (!decide (v9.Op=(4:Int)))
            (Option.bind (kQ (DCore.mk ((z0.getD x_g.toNat default).C).Regs v5.1.Pc v5.1.Root v5.1.Vector v5.1.Saved v5.1.SavedUser v5.1.Cause v5.1.Bad v5.1.Timer v5.1.Waits v5.1.User v5.1.On v5.1.Stopped) v9) λv20=>
            grd ((0:Int)<=x_g/\x_g<((v3.1.Guests.length:Nat):Int)) (grd (x_g.toNat=x_g.toNat) (some (.out ((DHost.mk v3.1.Words (z0.set x_g.toNat (DGuest.mk (z0.getD x_g.toNat default).Live v20 (z0.getD x_g.toNat default).Pages (z0.getD x_g.toNat default).In (z0.getD x_g.toNat default).Out))),true)))))
            (some (.go ())))
           (some (.go ()))))) λj10=>
        JO.run j10 (pC x_g v3 v5 v6 v9))))))))))
noncomputable def g50:Sg tG:=⟨[.st 26,.i .i64],.two (.st 2026) .b,pQ⟩
theorem s50:Sok 50 g50:=sgx [(102,.r aFk),(103,.r aKf),(104,.w cBl),(105,.w bPi),(106,.r bTe),(107,.r bPe),(108,.w bIf),(109,.r bTi),(110,.r bIe),(111,.r cBb),(112,.w cAm)] ⟨aJm,aOb,cFd,cBc,cAo,bYp,bPz,cAa,bSf,cEr,cDx,trivial⟩ (.s .o (.s .o (.s .o (.s .o (.s .o (.s .o (.s (.g [.uf (.c 8 1) 0 1] [] []) (.s (.g [] [] [.fo (.c 6 1) 0]) (.s .o (.s .o (.s .o (.s (.s .o (.c (.s (.g [.uf (.c 9 0) 0 1] [13] [.fo (.c 6 1) 0]) .o) .o)) (.s .o (.j ⟨[1,4,6,9,11,14],[],[]⟩ (.k (.s .o (.c (.s (.g [.uf (.c 9 0) 0 1] [14] [.fo (.c 6 1) 0]) .o) (.s .o (.c .o (.s .o (.c (.s (.g [.uf (.c 9 0) 0 1] [14] [.fo (.c 6 1) 0]) .o) .o))))))) (.s .o (.s .o (.s (.s .o (.c (.s (.g [.uf (.c 9 0) 0 1] [14] [.fo (.c 6 1) 0]) .o) .o)) (.s .o (.s .o (.s (.g [.uf (.c 9 0) 0 1] [] [.fo (.c 6 1) 0]) .o)))))))))))))))))))) kr kr kr
noncomputable def pJ (x_b:DBare):Option DBare:=
 Option.bind (sU x_b) λv1=>
 cond (!v1)
  (some (DBare.mk (DCore.mk ([]:List Int) (0:Int) (0:Int) (0:Int) (0:Int) false (0:Int) (0:Int) (0:Int) false false false false) ([]:List Int) ([]:List Int) ([]:List Int)))
  (Option.bind (qZ x_b) λv2=>
  Option.bind (dR v2) λv3=>
  some v3)
noncomputable def g14:Sg tG:=⟨[.st 41],.one (.st 41),pJ⟩
theorem s14:Sok 14 g14:=sgx [(59,.r g59),(60,.r g60),(57,.r g57)] ⟨s59,s60,s57,trivial⟩ .o kr kr kr
noncomputable def aHt  (s1:Unit):Option Bool:=some true
noncomputable def lL (x_a:List Int)(x_b:List Int)(s2:Int):Option (LO Int (JO Unit Bool)):=
 cond (decide (s2<((x_a.length:Nat):Int)))
  (grd ((0:Int)<=s2/\s2<((x_a.length:Nat):Int)) (grd ((0:Int)<=s2/\s2<((x_b.length:Nat):Int)) (cond (!decide ((x_a.getD s2.toNat default)=(x_b.getD s2.toNat default)))
   (some (.ret (.out false)))
   (some (.next (w64 (s2+(1:Int))))))))
  (some (.ret (.go ())))
noncomputable def nZ (x_a:List Int)(x_b:List Int):Option Bool:=
 Option.bind (Option.bind (iter (lL x_a x_b) (0:Int)) LO.val) λj1=>
  JO.run j1 aHt
noncomputable def bZy:Sg tG:=⟨[.row 3,.row 3],.one .b,nZ⟩
theorem cFc:Sok 129 bZy:=sgx [] trivial (.s .o (.j ⟨[],[],[]⟩ (.s .o (.k (.l ⟨[1,7,8],[],[(.s 9,.i .i64)]⟩ .o))) .o)) kr kr kr
noncomputable def aMd  (s1:List Int):Option (List Int):=some s1
noncomputable def jV (x_h:DHost)(x_g:Int)(x_page:Int)(s2:(List Int)×Int):Option (LO ((List Int)×Int) (JO (List Int) (List Int))):=
 cond (decide (s2.2<(8:Int)))
  (Option.bind (oH x_h x_g (w64 ((w64 (x_page*(8:Int)))+s2.2))) λv3=>
  grd ((s2.1.length+List.length ([v3]:List Int))*8<=2^47/\s2.1.length+List.length ([v3]:List Int)<=2^47) (some (.next ((s2.1++([v3]:List Int)),w64 (s2.2+(1:Int))))))
  (some (.ret (.go s2.1)))
noncomputable def kR (x_h:DHost)(x_g:Int)(x_page:Int):Option (List Int):=
 Option.bind (Option.bind (iter (jV x_h x_g x_page) (([]:List Int),(0:Int))) LO.val) λj1=>
  JO.run j1 aMd
noncomputable def g52:Sg tG:=⟨[.st 26,.i .i64,.i .i64],.one (.row 3),kR⟩
theorem s52:Sok 52 g52:=sgx [(113,.r bSg)] ⟨bYj,trivial⟩ (.s .o (.s .o (.j ⟨[],[],[(.s 7,.ro 3)]⟩ (.s .o (.k (.l ⟨[1,2,3],[],[(.s 7,.ro 3),(.s 8,.i .i64)]⟩ .o))) .o))) kr kr kr
noncomputable def sQ (x_m:DMove)(x_page:Int):Option Bool:=
 grd ((0:Int)<=x_m.G/\x_m.G<((x_m.From.Guests.length:Nat):Int)) (grd ((0:Int)<=x_page/\x_page<((List.length (x_m.From.Guests.getD x_m.G.toNat default).Pages:Nat):Int)) (grd ((0:Int)<=x_m.N/\x_m.N<((x_m.To.Guests.length:Nat):Int)) (grd ((0:Int)<=x_page/\x_page<((List.length (x_m.To.Guests.getD x_m.N.toNat default).Pages:Nat):Int)) (Option.bind (bU x_m.From.Words (DSlot.mk (List.getD (x_m.From.Guests.getD x_m.G.toNat default).Pages x_page.toNat default).Frame (List.getD (x_m.From.Guests.getD x_m.G.toNat default).Pages x_page.toNat default).Write (List.getD (x_m.From.Guests.getD x_m.G.toNat default).Pages x_page.toNat default).Dirty)) λv1=>
  Option.bind (bU x_m.To.Words (DSlot.mk (List.getD (x_m.To.Guests.getD x_m.N.toNat default).Pages x_page.toNat default).Frame (List.getD (x_m.To.Guests.getD x_m.N.toNat default).Pages x_page.toNat default).Write (List.getD (x_m.To.Guests.getD x_m.N.toNat default).Pages x_page.toNat default).Dirty)) λv2=>
  Option.bind (nZ v1 v2) λv3=>
  some v3))))
noncomputable def g61:Sg tG:=⟨[.st 29,.i .i64],.one .b,sQ⟩
theorem s61:Sok 61 g61:=sgx [(100,.r bJp),(129,.r bZy)] ⟨bHe,cFc,trivial⟩ .o kr kr kr
noncomputable def aOf  (s3:Unit):Option Bool:=some true
noncomputable def tK (s4:Int)(s5:Unit):Option (LO Int (JO Unit Bool)):=some (.next (w64 (s4+(1:Int))))
noncomputable def oE (x_m:DMove)(s4:Int):Option (LO Int (JO Unit Bool)):=
 cond (decide (s4<((List.length (x_m.From.Guests.getD x_m.G.toNat default).Pages:Nat):Int)))
  (Option.bind (grd ((0:Int)<=s4/\s4<((List.length (x_m.From.Guests.getD x_m.G.toNat default).Pages:Nat):Int)) (cond (List.getD (x_m.From.Guests.getD x_m.G.toNat default).Pages s4.toNat default).Dirty
   (some (.out (.ret (.out false))))
   (grd ((0:Int)<=s4/\s4<((x_m.Left.length:Nat):Int)) (cond (!(x_m.Left.getD s4.toNat default))
    (Option.bind (sQ x_m s4) λv6=>
    cond (!v6)
     (some (.out (.ret (.out false))))
     (some (.go ())))
    (some (.go ())))))) λj5=>
   JO.run j5 (tK s4))
  (some (.ret (.go ())))
noncomputable def lT (x_m:DMove):Option Bool:=
 Option.bind (cL x_m.From x_m.G) λv1=>
 cond (!v1)
  (some false)
  (Option.bind (cL x_m.To x_m.N) λv2=>
  cond (!v2)
   (some false)
   (cond (!decide (((x_m.Left.length:Nat):Int)=(8:Int)))
    (some false)
    (Option.bind (grd ((0:Int)<=x_m.G/\x_m.G<((x_m.From.Guests.length:Nat):Int)) (Option.bind (iter (oE x_m) (0:Int)) LO.val)) λj3=>
     JO.run j3 aOf)))
noncomputable def g15:Sg tG:=⟨[.st 29],.one .b,lT⟩
theorem s15:Sok 15 g15:=sgx [(56,.r g56),(61,.r g61)] ⟨s56,s61,trivial⟩ (.s .o (.s .o (.j ⟨[],[],[]⟩ (.s .o (.k (.l ⟨[1,32,33],[],[(.s 34,.i .i64)]⟩ (.s .o (.s .o (.j ⟨[1,32,33,34],[],[]⟩ .o .o)))))) .o))) kr kr kr
noncomputable def aOn  (s3:Unit):Option Bool:=some true
noncomputable def aAu (s4:Int)(s5:Unit):Option (LO Int (JO Unit Bool)):=some (.next (w64 (s4+(1:Int))))
noncomputable def hM (x_m:DMove)(s4:Int)(v6:List Int)(v7:List Int)(s8:Int):Option (LO Int (JO Unit (LO Int (JO Unit Bool)))):=
 cond (decide (s8<(8:Int)))
  (grd ((0:Int)<=s4/\s4<((x_m.Left.length:Nat):Int)) (cond (!(x_m.Left.getD s4.toNat default))
   (grd ((0:Int)<=s8/\s8<((v6.length:Nat):Int)) (grd ((0:Int)<=s8/\s8<((v7.length:Nat):Int)) (cond (!decide ((v6.getD s8.toNat default)=(v7.getD s8.toNat default)))
    (some (.ret (.out (.ret (.out false)))))
    (some (.next (w64 (s8+(1:Int))))))))
   (some (.ret (.go ())))))
  (some (.ret (.go ())))
noncomputable def nV (x_m:DMove)(s4:Int):Option (LO Int (JO Unit Bool)):=
 cond (decide (s4<(8:Int)))
  (Option.bind (grd ((0:Int)<=x_m.G/\x_m.G<((x_m.From.Guests.length:Nat):Int)) (grd ((0:Int)<=s4/\s4<((List.length (x_m.From.Guests.getD x_m.G.toNat default).Pages:Nat):Int)) (cond (List.getD (x_m.From.Guests.getD x_m.G.toNat default).Pages s4.toNat default).Dirty
   (some (.out (.ret (.out false))))
   (Option.bind (kR x_m.From x_m.G s4) λv6=>
   Option.bind (kR x_m.To x_m.N s4) λv7=>
   Option.bind (iter (hM x_m s4 v6 v7) (0:Int)) LO.val)))) λj5=>
   JO.run j5 (aAu s4))
  (some (.ret (.go ())))
noncomputable def sT (x_m:DMove):Option Bool:=
 Option.bind (cY x_m.From x_m.G) λv1=>
 cond (!v1)
  (some false)
  (Option.bind (cY x_m.To x_m.N) λv2=>
  cond (!v2)
   (some false)
   (cond (!decide (((x_m.Left.length:Nat):Int)=(8:Int)))
    (some false)
    (Option.bind (Option.bind (iter (nV x_m) (0:Int)) LO.val) λj3=>
     JO.run j3 aOn)))
noncomputable def g48:Sg tG:=⟨[.st 29],.one .b,sT⟩
theorem s48:Sok 48 g48:=sgx [(102,.r aFk),(52,.r g52)] ⟨aJm,s52,trivial⟩ (.s .o (.s .o (.j ⟨[],[],[]⟩ (.s .o (.k (.l ⟨[1],[],[(.s 3,.i .i64)]⟩ (.s .o (.j ⟨[1,3],[],[]⟩ (.k (.s .o (.s .o (.s .o (.k (.l ⟨[1,3,4,5],[],[(.s 6,.i .i64)]⟩ .o)))))) .o))))) .o))) kr kr kr
noncomputable def jY (x_m:DMove):Option DMove:=
 grd ((0:Int)<=((x_m.Left.length:Nat):Int)/\((x_m.Left.length:Nat):Int)*1<=2^47/\((x_m.Left.length:Nat):Int)<=2^47) (Option.bind (cB x_m.From) λv1=>
  Option.bind (cB x_m.To) λv2=>
  some (DMove.mk v1 v2 x_m.G x_m.N (over (List.replicate (Int.toNat ((x_m.Left.length:Nat):Int)) false) 0 (List.length (List.replicate (Int.toNat ((x_m.Left.length:Nat):Int)) false)) x_m.Left)))
noncomputable def g97:Sg tG:=⟨[.st 29],.one (.st 2029),jY⟩
theorem s97:Sok 97 g97:=sgx [(131,.r aOe)] ⟨aPy,trivial⟩ .o kr kr kr
noncomputable def kP (x_m:DMove):Option DMove:=
 Option.bind (cR x_m.From) λv1=>
 Option.bind (cR x_m.To) λv2=>
 grd (x_m.Left.length*1<=2^47/\x_m.Left.length<=2^47) (some (DMove.mk v1 v2 x_m.G x_m.N x_m.Left))
noncomputable def g49:Sg tG:=⟨[.st 29],.one (.st 2029),kP⟩
theorem s49:Sok 49 g49:=sgx [(103,.r aKf)] ⟨aOb,trivial⟩ .o kr kr kr
noncomputable def wB (x_g:Int)(s3:Int)(v4:DHost)(v5:DHost)(v6:DGuest)(s7:(List DGuest)×(List Bool)×(List DSlot)):Option (DMove×Bool):=grd ((0:Int)<=s3/\s3<((v5.Guests.length:Nat):Int)) (some ((DMove.mk (DHost.mk v4.Words s7.1) (DHost.mk v5.Words (v5.Guests.set s3.toNat (DGuest.mk v6.Live v6.C s7.2.2 v6.In v6.Out))) x_g s3 s7.2.1),true))
noncomputable def gY (x_g:Int)(s8:(List DGuest)×(List Bool)×(List DSlot)×Int):Option (LO ((List DGuest)×(List Bool)×(List DSlot)×Int) (JO ((List DGuest)×(List Bool)×(List DSlot)) (DMove×Bool))):=
 cond (decide (s8.2.2.2<(8:Int)))
  (grd ((0:Int)<=x_g/\x_g<((s8.1.length:Nat):Int)) (grd ((0:Int)<=s8.2.2.2/\s8.2.2.2<((List.length (s8.1.getD x_g.toNat default).Pages:Nat):Int)) (grd ((0:Int)<=s8.2.2.2/\s8.2.2.2<((s8.2.2.1.length:Nat):Int)) (grd ((s8.2.1.length+List.length ([true]:List Bool))*1<=2^47/\s8.2.1.length+List.length ([true]:List Bool)<=2^47) (some (.next ((s8.1.set x_g.toNat (DGuest.mk (s8.1.getD x_g.toNat default).Live (DCore.mk ((s8.1.getD x_g.toNat default).C).Regs ((s8.1.getD x_g.toNat default).C).Pc ((s8.1.getD x_g.toNat default).C).Root ((s8.1.getD x_g.toNat default).C).Vector ((s8.1.getD x_g.toNat default).C).Saved ((s8.1.getD x_g.toNat default).C).SavedUser ((s8.1.getD x_g.toNat default).C).Cause ((s8.1.getD x_g.toNat default).C).Bad ((s8.1.getD x_g.toNat default).C).Timer ((s8.1.getD x_g.toNat default).C).Waits ((s8.1.getD x_g.toNat default).C).User ((s8.1.getD x_g.toNat default).C).On ((s8.1.getD x_g.toNat default).C).Stopped) (List.set (s8.1.getD x_g.toNat default).Pages s8.2.2.2.toNat (DSlot.mk (List.getD (s8.1.getD x_g.toNat default).Pages s8.2.2.2.toNat default).Frame (List.getD (s8.1.getD x_g.toNat default).Pages s8.2.2.2.toNat default).Write false)) (s8.1.getD x_g.toNat default).In (s8.1.getD x_g.toNat default).Out)),s8.2.1++([true]:List Bool),s8.2.2.1.set s8.2.2.2.toNat (DSlot.mk (-1:Int) false false),w64 (s8.2.2.2+(1:Int)))))))))
  (some (.ret (.go (s8.1,s8.2.1,s8.2.2.1))))
noncomputable def vY (x_from:DHost)(x_to:DHost)(x_g:Int)(s3:Int):Option (DMove×Bool):=
 cond (decide (s3<(0:Int)))
  (some ((DMove.mk (DHost.mk ([]:List Int) ([]:List DGuest)) (DHost.mk ([]:List Int) ([]:List DGuest)) (0:Int) (0:Int) ([]:List Bool)),false))
  (Option.bind (cR x_from) λv4=>
  Option.bind (cR x_to) λv5=>
  grd ((0:Int)<=x_g/\x_g<((x_from.Guests.length:Nat):Int)) (Option.bind (hZ (DGuest.mk (x_from.Guests.getD x_g.toNat default).Live (DCore.mk ((x_from.Guests.getD x_g.toNat default).C).Regs ((x_from.Guests.getD x_g.toNat default).C).Pc ((x_from.Guests.getD x_g.toNat default).C).Root ((x_from.Guests.getD x_g.toNat default).C).Vector ((x_from.Guests.getD x_g.toNat default).C).Saved ((x_from.Guests.getD x_g.toNat default).C).SavedUser ((x_from.Guests.getD x_g.toNat default).C).Cause ((x_from.Guests.getD x_g.toNat default).C).Bad ((x_from.Guests.getD x_g.toNat default).C).Timer ((x_from.Guests.getD x_g.toNat default).C).Waits ((x_from.Guests.getD x_g.toNat default).C).User ((x_from.Guests.getD x_g.toNat default).C).On ((x_from.Guests.getD x_g.toNat default).C).Stopped) (x_from.Guests.getD x_g.toNat default).Pages (x_from.Guests.getD x_g.toNat default).In (x_from.Guests.getD x_g.toNat default).Out)) λv6=>
   Option.bind (Option.bind (iter (gY x_g) (v4.Guests,([]:List Bool),v6.Pages,(0:Int))) LO.val) λj7=>
    JO.run j7 (wB x_g s3 v4 v5 v6)))
noncomputable def vR (s9:Int×Int)(s10:Int):Option (LO (Int×Int) (JO Int (DMove×Bool))):=some (.next (s10,w64 (s9.2-(1:Int))))
noncomputable def eU (x_to:DHost)(s9:Int×Int):Option (LO (Int×Int) (JO Int (DMove×Bool))):=
 cond (decide ((0:Int)<=s9.2))
  (Option.bind (grd ((0:Int)<=s9.2/\s9.2<((x_to.Guests.length:Nat):Int)) (cond (!(x_to.Guests.getD s9.2.toNat default).Live)
   (some (.go s9.2))
   (some (.go s9.1)))) λj10=>
   JO.run j10 (vR s9))
  (some (.ret (.go s9.1)))
noncomputable def nS (x_from:DHost)(x_to:DHost)(x_g:Int):Option (DMove×Bool):=
 Option.bind (cY x_from x_g) λv1=>
 cond (!v1)
  (some ((DMove.mk (DHost.mk ([]:List Int) ([]:List DGuest)) (DHost.mk ([]:List Int) ([]:List DGuest)) (0:Int) (0:Int) ([]:List Bool)),false))
  (Option.bind (jK x_to) λv2=>
  cond (!v2)
   (some ((DMove.mk (DHost.mk ([]:List Int) ([]:List DGuest)) (DHost.mk ([]:List Int) ([]:List DGuest)) (0:Int) (0:Int) ([]:List Bool)),false))
   (Option.bind (Option.bind (iter (eU x_to) ((-1:Int),(2:Int))) LO.val) λj3=>
    JO.run j3 (vY x_from x_to x_g)))
noncomputable def g79:Sg tG:=⟨[.st 26,.st 26,.i .i64],.two (.st 2029) .b,nS⟩
theorem s79:Sok 79 g79:=sgx [(102,.r aFk),(142,.r aXi),(103,.r aKf),(69,.r g69)] ⟨aJm,bIu,aOb,s69,trivial⟩ (.s .o (.s .o (.s .o (.j ⟨[2,3,4,6],[],[(.s 8,.i .i64)]⟩ (.s .o (.k (.l ⟨[2,3,4,6],[],[(.s 8,.i .i64),(.s 9,.i .i64)]⟩ (.s .o (.j ⟨[2,3,4,6,9],[],[(.s 8,.i .i64)]⟩ .o .o))))) (.s .o (.s .o (.s .o (.j ⟨[6,8,10,11],[],[(.c 10 1,.ro 1094),(.c 10 6,.ro 4),(.c 11 14,.ro 91)]⟩ (.s .o (.k (.l ⟨[2,6,8,10,11],[],[(.c 10 1,.ro 1094),(.c 10 6,.ro 4),(.c 11 14,.ro 91),(.s 12,.i .i64)]⟩ .o))) (.s (.g [] [] [.fo (.c 10 3) 0]) .o))))))))) kr kr kr
noncomputable def aMb  (s1:List DAct):Option (List DAct):=some s1
noncomputable def aLy (s2:(List DAct)×Int)(s3:List DAct):Option (LO ((List DAct)×Int) (JO (List DAct) (List DAct))):=some (.next (s3,w64 (s2.2+(1:Int))))
noncomputable def aMg (x_left:List Bool)(s2:(List DAct)×Int):Option (LO ((List DAct)×Int) (JO (List DAct) (List DAct))):=
 cond (decide (s2.2<((x_left.length:Nat):Int)))
  (Option.bind (grd ((0:Int)<=s2.2/\s2.2<((x_left.length:Nat):Int)) (cond (x_left.getD s2.2.toNat default)
   (grd ((s2.1.length+List.length ([DAct.mk (2:Int) s2.2]:List DAct))*16<=2^47/\s2.1.length+List.length ([DAct.mk (2:Int) s2.2]:List DAct)<=2^47) (some (.go (s2.1++([DAct.mk (2:Int) s2.2]:List DAct)))))
   (some (.go s2.1)))) λj3=>
   JO.run j3 (aLy s2))
  (some (.ret (.go s2.1)))
noncomputable def aDz (x_left:List Bool):Option (List DAct):=
 Option.bind (Option.bind (iter (aMg x_left) (([]:List DAct),(0:Int))) LO.val) λj1=>
  JO.run j1 aMb
noncomputable def g65:Sg tG:=⟨[.row 4],.one (.row 31),aDz⟩
theorem s65:Sok 65 g65:=sgx [] trivial (.s .o (.s .o (.j ⟨[],[],[(.s 3,.ro 31)]⟩ (.s .o (.k (.l ⟨[7,8],[],[(.s 3,.ro 31),(.s 9,.i .i64)]⟩ (.s .o (.s .o (.j ⟨[7,8,9],[],[(.s 3,.ro 31)]⟩ .o .o)))))) .o))) kr kr kr
noncomputable def aVb (x_m:DMove):Option (DHost×DHost×Bool):=
 Option.bind (lT x_m) λv1=>
 cond (!v1)
  (some ((DHost.mk ([]:List Int) ([]:List DGuest)),DHost.mk ([]:List Int) ([]:List DGuest),false))
  (Option.bind (aDz x_m.Left) λv2=>
  cond (decide ((0:Int)<((v2.length:Nat):Int)))
   (some ((DHost.mk ([]:List Int) ([]:List DGuest)),DHost.mk ([]:List Int) ([]:List DGuest),false))
   (Option.bind (pN x_m.From x_m.G) λv3=>
   Option.bind (lD x_m.From x_m.G) λv4=>
   Option.bind (bW x_m.To x_m.N v4) λv5=>
   some (v3.1,v5,true)))
noncomputable def g19:Sg tG:=⟨[.st 29],.three (.st 2026) (.st 2026) .b,aVb⟩
theorem s19:Sok 19 g19:=sgx [(15,.r g15),(65,.r g65),(66,.r g66),(68,.r g68),(67,.r g67)] ⟨s15,s65,s66,s68,s67,trivial⟩ .o kr kr kr
noncomputable def aMa  (s1:Unit):Option Bool:=some true
noncomputable def jR (x_pages:List Int)(s2:Int):Option (LO Int (JO Unit Bool)):=
 cond (decide (s2<((x_pages.length:Nat):Int)))
  (grd ((0:Int)<=s2/\s2<((x_pages.length:Nat):Int)) (Option.bind (fC (x_pages.getD s2.toNat default)) λv3=>
   cond (!v3)
    (some (.ret (.out false)))
    (some (.next (w64 (s2+(1:Int)))))))
  (some (.ret (.go ())))
noncomputable def qV (x_pages:List Int):Option Bool:=
 Option.bind (Option.bind (iter (jR x_pages) (0:Int)) LO.val) λj1=>
  JO.run j1 aMa
noncomputable def bYd:Sg tG:=⟨[.row 3],.one .b,qV⟩
theorem cEt:Sok 190 bYd:=sgx [(46,.r g46)] ⟨s46,trivial⟩ (.s .o (.j ⟨[],[],[]⟩ (.s .o (.k (.l ⟨[5,6],[],[(.s 7,.i .i64)]⟩ .o))) .o)) kr kr kr
noncomputable def aKl (v3:DHost)(s4:List DGuest):Option (DHost×Bool):=some ((DHost.mk v3.Words s4),true)
noncomputable def iU (x_g:Int)(x_pages:List Int)(s5:(List DGuest)×Int):Option (LO ((List DGuest)×Int) (JO (List DGuest) (DHost×Bool))):=
 cond (decide (s5.2<((x_pages.length:Nat):Int)))
  (grd ((0:Int)<=s5.2/\s5.2<((x_pages.length:Nat):Int)) (grd ((0:Int)<=x_g/\x_g<((s5.1.length:Nat):Int)) (grd ((0:Int)<=(x_pages.getD s5.2.toNat default)/\(x_pages.getD s5.2.toNat default)<((List.length (s5.1.getD x_g.toNat default).Pages:Nat):Int)) (some (.next ((s5.1.set x_g.toNat (DGuest.mk (s5.1.getD x_g.toNat default).Live (DCore.mk ((s5.1.getD x_g.toNat default).C).Regs ((s5.1.getD x_g.toNat default).C).Pc ((s5.1.getD x_g.toNat default).C).Root ((s5.1.getD x_g.toNat default).C).Vector ((s5.1.getD x_g.toNat default).C).Saved ((s5.1.getD x_g.toNat default).C).SavedUser ((s5.1.getD x_g.toNat default).C).Cause ((s5.1.getD x_g.toNat default).C).Bad ((s5.1.getD x_g.toNat default).C).Timer ((s5.1.getD x_g.toNat default).C).Waits ((s5.1.getD x_g.toNat default).C).User ((s5.1.getD x_g.toNat default).C).On ((s5.1.getD x_g.toNat default).C).Stopped) (List.set (s5.1.getD x_g.toNat default).Pages (Int.toNat (x_pages.getD s5.2.toNat default)) (DSlot.mk (-1:Int) false false)) (s5.1.getD x_g.toNat default).In (s5.1.getD x_g.toNat default).Out)),w64 (s5.2+(1:Int))))))))
  (some (.ret (.go s5.1)))
noncomputable def mB (x_h:DHost)(x_g:Int)(x_pages:List Int):Option (DHost×Bool):=
 Option.bind (cL x_h x_g) λv1=>
 cond (!v1)
  (some ((DHost.mk ([]:List Int) ([]:List DGuest)),false))
  (Option.bind (qV x_pages) λv2=>
  cond (!v2)
   (some ((DHost.mk ([]:List Int) ([]:List DGuest)),false))
   (Option.bind (cB x_h) λv3=>
   Option.bind (Option.bind (iter (iU x_g x_pages) (v3.Guests,(0:Int))) LO.val) λj4=>
    JO.run j4 (aKl v3)))
noncomputable def cEi:Sg tG:=⟨[.st 26,.i .i64,.row 3],.two (.st 2026) .b,mB⟩
theorem cEs:Sok 153 cEi:=sgx [(56,.r g56),(190,.r bYd),(131,.r aOe)] ⟨s56,cEt,aPy,trivial⟩ (.s .o (.s .o (.s .o (.j ⟨[6,8],[],[(.c 8 1,.ro 1094)]⟩ (.s .o (.k (.l ⟨[1,6,8,23,24],[],[(.c 8 1,.ro 1094),(.s 25,.i .i64)]⟩ .o))) .o)))) kr kr kr
theorem aPm{x_h:DHost}{x_g:Int}{x_pages:List Int}{R_:DHost×Bool}(hh:mB x_h x_g x_pages=some R_):Fn Tryz.prog 153 [.agg (hG x_h),.int .i64 x_g,bo (eI .i64) x_pages] (.tup [.agg [.own 3 1 R_.1.Words.length (fl (eI .i64) R_.1.Words),.own 94 17 R_.1.Guests.length (fl fG R_.1.Guests)],.bool R_.2]):=kc (cEs x_h x_g x_pages R_ hh)
noncomputable def uF (x_m:DMove)(v1:DMove)(v2:DHost×Bool)(s3:List Bool):Option (DMove×Bool):=
 grd ((0:Int)<=x_m.G/\x_m.G<((v2.1.Guests.length:Nat):Int)) (Option.bind (pM (v2.1.Guests.getD x_m.G.toNat default).Pages) λv4=>
  grd ((0:Int)<=x_m.G/\x_m.G<((v2.1.Guests.length:Nat):Int)) (some ((DMove.mk (DHost.mk v2.1.Words (v2.1.Guests.set x_m.G.toNat (DGuest.mk (v2.1.Guests.getD x_m.G.toNat default).Live (DCore.mk ((v2.1.Guests.getD x_m.G.toNat default).C).Regs ((v2.1.Guests.getD x_m.G.toNat default).C).Pc ((v2.1.Guests.getD x_m.G.toNat default).C).Root ((v2.1.Guests.getD x_m.G.toNat default).C).Vector ((v2.1.Guests.getD x_m.G.toNat default).C).Saved ((v2.1.Guests.getD x_m.G.toNat default).C).SavedUser ((v2.1.Guests.getD x_m.G.toNat default).C).Cause ((v2.1.Guests.getD x_m.G.toNat default).C).Bad ((v2.1.Guests.getD x_m.G.toNat default).C).Timer ((v2.1.Guests.getD x_m.G.toNat default).C).Waits ((v2.1.Guests.getD x_m.G.toNat default).C).User ((v2.1.Guests.getD x_m.G.toNat default).C).On ((v2.1.Guests.getD x_m.G.toNat default).C).Stopped) v4 (v2.1.Guests.getD x_m.G.toNat default).In (v2.1.Guests.getD x_m.G.toNat default).Out))) v1.To v1.G v1.N s3),true)))
noncomputable def nB (s5:(List Bool)×Int)(s6:List Bool):Option (LO ((List Bool)×Int) (JO (List Bool) (DMove×Bool))):=some (.next (s6,w64 (s5.2+(1:Int))))
noncomputable def fN (x_m:DMove)(v2:DHost×Bool)(s5:(List Bool)×Int):Option (LO ((List Bool)×Int) (JO (List Bool) (DMove×Bool))):=
 cond (decide (s5.2<((List.length (v2.1.Guests.getD x_m.G.toNat default).Pages:Nat):Int)))
  (Option.bind (grd ((0:Int)<=s5.2/\s5.2<((List.length (v2.1.Guests.getD x_m.G.toNat default).Pages:Nat):Int)) (grd ((0:Int)<=s5.2/\s5.2<((s5.1.length:Nat):Int)) (cond (s5.1.getD s5.2.toNat default)
   (grd ((0:Int)<=s5.2/\s5.2<((s5.1.length:Nat):Int)) (some (.go (s5.1.set s5.2.toNat true))))
   (grd ((0:Int)<=s5.2/\s5.2<((s5.1.length:Nat):Int)) (some (.go (s5.1.set s5.2.toNat (List.getD (v2.1.Guests.getD x_m.G.toNat default).Pages s5.2.toNat default).Dirty))))))) λj6=>
   JO.run j6 (nB s5))
  (some (.ret (.go s5.1)))
noncomputable def mE (x_m:DMove):Option (DMove×Bool):=
 Option.bind (jY x_m) λv1=>
 Option.bind (pI x_m.From x_m.G) λv2=>
 cond (!v2.2)
  (some (v1,false))
  (Option.bind (grd ((0:Int)<=x_m.G/\x_m.G<((v2.1.Guests.length:Nat):Int)) (Option.bind (iter (fN x_m v2) (v1.Left,(0:Int))) LO.val)) λj3=>
   JO.run j3 (uF x_m v1 v2))
noncomputable def g45:Sg tG:=⟨[.st 29],.two (.st 2029) .b,mE⟩
theorem s45:Sok 45 g45:=sgx [(97,.r g97),(98,.r g98),(99,.r g99)] ⟨s97,s98,s99,trivial⟩ (.s .o (.s .o (.s .o (.s .o (.j ⟨[1,2,4,5],[],[(.c 4 6,.ro 4)]⟩ (.s .o (.k (.l ⟨[1,2,4,5,28,29],[],[(.c 4 6,.ro 4),(.s 30,.i .i64)]⟩ (.s .o (.s .o (.j ⟨[1,2,4,5,28,29,30],[],[(.c 4 6,.ro 4)]⟩ .o .o)))))) (.s (.g [] [] [.fo (.c 5 1) 0]) .o)))))) kr kr kr
theorem aJw:LW 101 ⟨58,[.cell 8 true 2,.tmp 9],.seq (.reg false (rg 101 0)) (.seq (.seq (.reg false (rg 101 1)) (.cond (.t 14) (.seq (.reg false (rg 101 2)) .ret) .skip)) (.seq (.reg false (rg 101 3)) (.seq (.seq (.reg false (rg 101 4)) (.cond (.t 30) (.seq (.reg false (rg 101 5)) .ret) .skip)) (.seq (.reg false (rg 101 6)) (.seq (.seq (.reg false (rg 101 7)) (.cond (.t 40) (.seq (.reg false (rg 101 8)) .ret) .skip)) (.seq (.regd (rg 101 9) (rg 101 10)) (.seq (.reg false (rg 101 11)) .ret)))))))⟩:=kr
noncomputable def iC (x_h:DHost)(x_g:Int)(x_page:Int)(x_words:List Int):Option (DHost×Bool):=
 Option.bind (mF x_words) λv1=>
 cond v1
  (Option.bind (mB x_h x_g ([x_page]:List Int)) λv2=>
  some (v2.1,v2.2))
  (Option.bind (jG x_h x_g x_page) λv3=>
  cond (!v3.2)
   (some ((DHost.mk ([]:List Int) ([]:List DGuest)),false))
   (Option.bind (iY v3.1 x_g x_page) λv4=>
   cond (!v4.2)
    (some ((DHost.mk ([]:List Int) ([]:List DGuest)),false))
    (grd ((0:Int)<=x_g/\x_g<((v4.1.Guests.length:Nat):Int)) (grd ((0:Int)<=x_page/\x_page<((List.length (v4.1.Guests.getD x_g.toNat default).Pages:Nat):Int)) (Option.bind (fY v4.1.Words (List.getD (v4.1.Guests.getD x_g.toNat default).Pages x_page.toNat default).Frame) λv5=>
     grd (v5.1.length=v4.1.Words.length) (grd (v5.2.1+v5.2.2<=v5.1.length) (some ((DHost.mk (over v5.1 v5.2.1 v5.2.2 x_words) v4.1.Guests),true))))))))
theorem aMe{x_h:DHost}{x_g:Int}{x_page:Int}{x_words:List Int}{R_:DHost×Bool}(hh:iC x_h x_g x_page x_words=some R_):Fn Tryz.prog 101 [.agg (hG x_h),.int .i64 x_g,.int .i64 x_page,bo (eI .i64) x_words] (.tup [.agg [.own 3 1 R_.1.Words.length (fl (eI .i64) R_.1.Words),.own 94 17 R_.1.Guests.length (fl fG R_.1.Guests)],.bool R_.2]):=by let z3:EH:=(0,some (rB26 x_h));let z4:=(1,ii x_g);let z5:EH:=(1,some ⟨26,[.nil,.nil]⟩);let z6:=(12,pp 7);let z7:=(2,ii x_page);let z8:=(3,bo (eI .i64) x_words);let z9:EV:=(47,.ptr 6 [] (0+x_g.toNat*17));let z10:EV:=(48,.ptr 6 [] (0+x_g.toNat*17+14));let z11:EV:=(51,.ptr 6 [0+x_g.toNat*17+14+0] (0+x_page.toNat*3));let z12:EV:=(52,.ptr 6 [0+x_g.toNat*17+14+0] (0+x_page.toNat*3+0));let z13:=(8,pp 1);unfold iC at hh;refine Fn.start aJw [0,1,2,3] (E:=sp 58 [(0,.agg (hG x_h)),z4,z7,z8]) kr (v:= .tup [.agg [sw 0 R_.1.Words,.sref 1 [] 0 R_.1.Guests.length 17],bb R_.2]) (Hr:=[(1,some (rO94 R_.1.Guests)),(0,some (rI_3 R_.1.Words))]) (k:=2) kr (sy [1,2,3,4,8] [0,1] (sp 58 [z4,z7,z8,(4,pp 0),z13]) [z3,z5] 2 (Aw.seq (Aw.sreg [1,2,3,4,8,14] [0,1] (yj 1  (sp 58 [z4,z7,z8,(4,pp 0),z13,(13,bo (eI .i64) x_words)]) [z3,z5] 2 ?_))));obtain⟨v1,hv1,hh⟩:=bind_some hh;refine ys (.call 152 [.t 13]) (some 14) (oc (aOg hv1) ?_);refine yt (sp 58 [z4,z7,z8,(4,pp 0),z13,(14,bb v1)]) [z3,z5] 2 ?_;rcases xE hh with⟨hb,hh⟩|⟨hb,hh⟩;{refine cT hb (Aw.sreg [8,9] [1,3,4] (yu 4 [(15,.agg (hG x_h)),(16,ii x_g),(17,ii x_page),(18,.sref 2 [] 0 1 1)] [(2,some ⟨3,[ii x_page]⟩),z3,z5] 3 ?_));obtain⟨v2,hv2,hh⟩:=bind_some hh;let q1:Root:=(rO94 v2.1.Guests);let q2:Root:=(rI_3 v2.1.Words);refine ys (.call 153 [.t 15,.t 16,.t 18]) (some 19) (uK (r:= .tup [.agg [.own 3 1 v2.1.Words.length (fl (eI .i64) v2.1.Words),.own 94 17 v2.1.Guests.length (fl fG v2.1.Guests)],bb v2.2]) (v:= .tup [.agg [sw 3 v2.1.Words,.sref 4 [] 0 v2.1.Guests.length 17],bb v2.2]) (Hr:=[(4,some q1),(3,some q2)]) (n':=5) (aPm hv2) (zT (vs:=[.agg (hG x_h),ii x_g,.sref 2 [] 0 1 1]) kr (lK (aF (aCt (aAi _))) (cz1 (lK (eJ (c:=(eI .i64)) (xs:=([x_page]:List Int)) (e:=3) eqn cD dG cX kr) rL)))) nrr nrr kr ?_);refine yt (sp 58 [z13,(9,bb v2.2)]) [(1,some ⟨26,[sw 3 v2.1.Words,.sref 4 [] 0 v2.1.Guests.length 17]⟩),(3,some q2),(4,some q1)] 5 (Aw.ret (aTb ?_));rw[cU hh];exact sR (r':= .tup [.agg [sw 3 v2.1.Words,.sref 4 [] 0 v2.1.Guests.length 17],bb v2.2]) kr (Ent.list [some 3,some 4] rfl rfl (Nat.zero_le _) (nD (kN rz)) (hn kL (hn bK dB)))};refine cF hb (Aw.xskip (λ_ _ _ hq=>aKk hq) (Aw.sreg [1,2,3,8,10,11] [1,2,3,4] (yj 3  (sp 58 [z4,z7,z8,(4,pp 0),z13,(14,bb v1),(23,.agg (hG x_h)),(24,ii x_g),(25,ii x_page)]) [z3,z5] 2 ?_)));obtain⟨v3,hv3,hh⟩:=bind_some hh;let q3:Root:=(rO94 v3.1.Guests);let q4:Root:=(rI_3 v3.1.Words);refine ys (.call 154 [.t 23,.t 24,.t 25]) (some 26) (uK (r:= .tup [.agg [.own 3 1 v3.1.Words.length (fl (eI .i64) v3.1.Words),.own 94 17 v3.1.Guests.length (fl fG v3.1.Guests)],bb v3.2]) (v:= .tup [.agg [sw 2 v3.1.Words,.sref 3 [] 0 v3.1.Guests.length 17],bb v3.2]) (Hr:=[(3,some q3),(2,some q4)]) (n':=4) (aOy hv3) (zT (vs:=[.agg (hG x_h),ii x_g,ii x_page]) kr (lK (aF (aCt (aAi _))) (cz1 (cz1 rL)))) nrr nrr kr ?_);let q5:Root:=⟨26,[sw 2 v3.1.Words,.sref 3 [] 0 v3.1.Guests.length 17]⟩;refine yt (sp 58 [z4,z7,z8,z13,(10,pp 4),(11,bb v3.2)]) [z5,(2,some q4),(3,some q3),(4,some q5)] 5 (Aw.seq (sy [1,2,3,8,10,30] [1,2,3,4] (sp 58 [z4,z7,z8,z13,(10,pp 4),(30,bb (!v3.2))]) [z5,(2,some q4),(3,some q3),(4,some q5)] 5 ?_));rcases xE hh with⟨hb,hh⟩|⟨hb,hh⟩;{refine cT hb (sy [8,9] [1] (sp 58 [z13,(9,bb false)]) [z5] 5 (Aw.ret (aTb ?_)));rw[cU hh];exact sR (r':= .tup [.agg [.nil,.nil],bb false]) kr (Ent.list [none,none] rfl rfl (Nat.zero_le _) (nD (kN rz)) (aLb dd rfl rfl (aLb dd rfl rfl dB)))};refine cF hb (Aw.xskip (λ_ _ _ hq=>aKk hq) (Aw.sreg [1,2,3,8,11,12] [1,5,6,7] (yj 3  (sp 58 [z4,z7,z8,z13,(10,pp 4),(30,bb (!v3.2)),(33,.agg [sw 2 v3.1.Words,.sref 3 [] 0 v3.1.Guests.length 17]),(34,ii x_g),(35,ii x_page)]) [z5,(2,some q4),(3,some q3),(4,some q5)] 5 ?_)));obtain⟨v4,hv4,hh⟩:=bind_some hh;let z14:=(40,bb (!v4.2));let z15:=(43,sw 5 v4.1.Words);let z16:EV:=(45,.sref 6 [] 0 v4.1.Guests.length 17);let z1:=v4.1.Guests.getD x_g.toNat default;let z17:EV:=(49,.sref 6 [0+x_g.toNat*17+14+0] 0 (List.length z1.Pages) 3);let z2:=List.getD z1.Pages x_page.toNat default;let q6:Root:=(rO94 v4.1.Guests);let z18:=(6,some q6);let q7:Root:=(rI_3 v4.1.Words);let z19:=(5,some q7);refine ys (.call 155 [.t 33,.t 34,.t 35]) (some 36) (uK (r:= .tup [.agg [.own 3 1 v4.1.Words.length (fl (eI .i64) v4.1.Words),.own 94 17 v4.1.Guests.length (fl fG v4.1.Guests)],bb v4.2]) (v:= .tup [.agg [sw 5 v4.1.Words,.sref 6 [] 0 v4.1.Guests.length 17],bb v4.2]) (Hr:=[z18,z19]) (n':=7) (aPh hv4) (zT (vs:=[.agg [sw 2 v3.1.Words,.sref 3 [] 0 v3.1.Guests.length 17],ii x_g,ii x_page]) kr (lK (bVz (aI (eJ (c:=(eI .i64)) (xs:=v3.1.Words) (e:=3) eqn cD dG cX kr) (aI (bFg (B:=iJ) (xs:=v3.1.Guests) (e:=94) bFy wQ eqn kr) aAw))) (cz1 (cz1 rL)))) nrr nrr kr ?_);let q8:Root:=⟨26,[sw 5 v4.1.Words,.sref 6 [] 0 v4.1.Guests.length 17]⟩;let z20:=(7,some q8);refine yt (sp 58 [z4,z7,z8,z13,(11,bb v4.2),z6]) [z5,z19,z18,z20] 8 (Aw.seq (sy [1,2,3,8,12,40] [1,5,6,7] (sp 58 [z4,z7,z8,z13,z6,z14]) [z5,z19,z18,z20] 8 ?_));rcases xE hh with⟨hb,hh⟩|⟨hb,hh⟩;{refine cT hb (sy [8,9] [1] (sp 58 [z13,(9,bb false)]) [z5] 8 (Aw.ret (aTb ?_)));rw[cU hh];exact sR (r':= .tup [.agg [.nil,.nil],bb false]) kr (Ent.list [none,none] rfl rfl (Nat.zero_le _) (nD (kN rz)) (aLb dd rfl rfl (aLb dd rfl rfl dB)))};refine cF hb (Aw.xskip (λ_ _ _ hq=>aKk hq) (Aw.sregd [8,12] [1,5,6,7] [5] kr ?_));obtain⟨hg8,hh⟩:=bE hh;refine dc (cs:=[(0:Int)<=x_g/\x_g<((v4.1.Guests.length:Nat):Int)]) (E':=(sp 58 [z4,z7,z8,z13,z6,z14,(42,pp 7),z15,(44,.ptr 7 [] 1),z16,(46,ii x_g),z9,z10])) (H':=[z5,z19,z18,z20]) (n':=8) (fs':=none) (pre:=(List.take 7 (rg 101 9))) (L':=(List.drop 7 (rg 101 9))) kr (λK=>by kernel_rfl) (.cons hg8 .nil) (ds (.load false 1 (.t 48)) (some 49) (bTo rfl kr (aTm (c:=fG) (xs:=v4.1.Guests) (e:=94) (r:=6) (π:=[]) (o:=0+x_g.toNat*17+14) (i:=x_g.toNat) (off:=14) (v:= .sref 6 [0+x_g.toNat*17+14+0] 0 (List.length z1.Pages) 3) wQ kr kr ltn ltn dd kr ?_)));obtain⟨hg7,hh⟩:=bE hh;refine dc (cs:=[(0:Int)<=x_page/\x_page<((List.length z1.Pages:Nat):Int)]) (E':=(sp 58 [z4,z7,z8,z13,z6,z14,(42,pp 7),z15,(44,.ptr 7 [] 1),z16,(46,ii x_g),z9,z10,z17,(50,ii x_page),z11,z12])) (H':=[z5,z19,z18,z20]) (n':=8) (fs':=none) (pre:=(List.take 3 (List.drop 8 (rg 101 9)))) (L':=(List.drop 11 (rg 101 9))) kr (λK=>by kernel_rfl) (.cons hg7 .nil) (ds (.load false 1 (.t 52)) (some 53) (bTo rfl kr (aTm (c:=gL) (xs:=z1.Pages) (e:=91) (r:=6) (π:=[0+x_g.toNat*17+14+0]) (o:=0+x_page.toNat*3+0) (i:=x_page.toNat) (off:=0) (v:=ii z2.Frame) qH kr (aEl (e:=94) (e':=91) (sz':=3) (m':=(List.length z1.Pages)) (cs':=(fl gL z1.Pages)) (c:=fG) (xs:=v4.1.Guests) (i:=x_g.toNat) (off:=14) wQ kr ltn ltn dd rfl kr) ltn ltn dd kr ?_)));obtain⟨v5,hv5,hh⟩:=bind_some hh;let z21:EH:=(5,some (rI_3 v5.1));obtain⟨hg5,hh⟩:=bE hh;obtain⟨hg6,hh⟩:=bE hh;refine ds (.call 151 [.t 43,.t 53]) (some 54) (aWt rfl (cf (.sref 5 [] (0+v5.2.1*1) v5.2.2 1) [z21] 8 [5] (tI hv5) [sw 5 v4.1.Words,ii z2.Frame] rz (hn bK dB) yN (hn bK dB) ⟨⟨⟨by decide,aIq rfl rfl⟩,Hld.un ?_⟩⟩));refine dt (sp 58 [z4,z7,z8,z13,z6,z14,(42,pp 7),z15,(44,.ptr 7 [] 1),z16,(46,ii x_g),z9,z10,z17,(50,ii x_page),z11,z12,(53,ii z2.Frame),(54,.sref 5 [] (0+v5.2.1*1) v5.2.2 1),(55,bo (eI .i64) x_words)]) [z21,(5,none),z5,z19,z18,z20] 8 ?_;let q9:Root:=(rI_3 (over v5.1 v5.2.1 v5.2.2 x_words));refine ys (.cpy 1 (.t 54) (.t 55)) (some 56) (aJr (c:=(eI .i64)) (xs:=v5.1) (ys:=x_words) (e:=3) (r:=5) (π:=[]) (o:=0+v5.2.1*1) (k:=v5.2.2) (i:=v5.2.1) (H':=[(5,some q9),z21,(5,none),z5,z19,z18,z20]) cD (rpv kr (aRe (c:=(eI .i64)) (xs:=x_words) cD)) kr kr ltn ltn kr ?_);refine yt (sp 58 [z13,z6]) [z5,(5,some q9),z18,z20] 8 (sy [8,9] [1,5,6] (sp 58 [z13,(9,bb true)]) [(1,some q8),(5,some q9),z18] 8 (Aw.ret ?_));rw[cU hh];exact sR (r':= .tup [.agg [sw 5 v4.1.Words,.sref 6 [] 0 v4.1.Guests.length 17],bb true]) kr (Ent.list [some 5,some 6] rfl rfl (Nat.zero_le _) (nD (kN rz)) (hn kL (hn bK dB)))
noncomputable def bYo:Sg tG:=⟨[.st 26,.i .i64,.i .i64,.row 3],.two (.st 2026) .b,iC⟩
theorem cEe:Sok 101 bYo:=λx_h x_g x_page x_words R_ hh=>kc (aMe (x_h:=x_h) (x_g:=x_g) (x_page:=x_page) (x_words:=x_words) hh)
noncomputable def pL (x_m:DMove)(x_page:Int):Option (DMove×Bool):=
 Option.bind (jY x_m) λv1=>
 grd ((0:Int)<=x_m.G/\x_m.G<((x_m.From.Guests.length:Nat):Int)) (grd ((0:Int)<=x_page/\x_page<((List.length (x_m.From.Guests.getD x_m.G.toNat default).Pages:Nat):Int)) (Option.bind (bU x_m.From.Words (DSlot.mk (List.getD (x_m.From.Guests.getD x_m.G.toNat default).Pages x_page.toNat default).Frame (List.getD (x_m.From.Guests.getD x_m.G.toNat default).Pages x_page.toNat default).Write (List.getD (x_m.From.Guests.getD x_m.G.toNat default).Pages x_page.toNat default).Dirty)) λv2=>
  Option.bind (iC x_m.To x_m.N x_page v2) λv3=>
  cond (!v3.2)
   (some (v1,false))
   (grd ((0:Int)<=x_page/\x_page<((v1.Left.length:Nat):Int)) (some ((DMove.mk v1.From v3.1 v1.G v1.N (v1.Left.set x_page.toNat false)),true)))))
noncomputable def g47:Sg tG:=⟨[.st 29,.i .i64],.two (.st 2029) .b,pL⟩
theorem s47:Sok 47 g47:=sgx [(97,.r g97),(100,.r bJp),(101,.r bYo)] ⟨s97,bHe,cEe,trivial⟩ .o kr kr kr
noncomputable def aOc  (s2:Unit):Option (DMove×Bool):=some ((DMove.mk (DHost.mk ([]:List Int) ([]:List DGuest)) (DHost.mk ([]:List Int) ([]:List DGuest)) (0:Int) (0:Int) ([]:List Bool)),false)
noncomputable def tH (x_m:DMove)(x_a:DAct):Option (DMove×Bool):=
 Option.bind (lT x_m) λv1=>
 cond (!v1)
  (some ((DMove.mk (DHost.mk ([]:List Int) ([]:List DGuest)) (DHost.mk ([]:List Int) ([]:List DGuest)) (0:Int) (0:Int) ([]:List Bool)),false))
  (Option.bind (cond (decide (x_a.Kind=(1:Int)))
   (Option.bind (mE x_m) λv3=>
   some (.out (v3.1,v3.2)))
   (cond (decide (x_a.Kind=(2:Int)))
    (Option.bind (fC x_a.Page) λv4=>
    cond v4
     (Option.bind (pL x_m x_a.Page) λv5=>
     some (.out (v5.1,v5.2)))
     (some (.go ())))
    (some (.go ())))) λj2=>
   JO.run j2 aOc)
noncomputable def g9:Sg tG:=⟨[.st 29,.st 31],.two (.st 2029) .b,tH⟩
theorem s9:Sok 9 g9:=sgx [(15,.r g15),(45,.r g45),(46,.r g46),(47,.r g47)] ⟨s15,s45,s46,s47,trivial⟩ (.s .o (.s .o (.j ⟨[4],[],[]⟩ .o .o))) kr kr kr
noncomputable def tX (x_m:DMove)(x_a:DAct)(v2:DMove)(v5:List Int)(s8:(List Int)×(List DGuest)×Bool):Option (DMove×Bool):=
 cond (!s8.2.2)
  (Option.bind (kP x_m) λv9=>
  some (v9,false))
  (grd ((0:Int)<=x_m.N/\x_m.N<((s8.2.1.length:Nat):Int)) (grd ((0:Int)<=x_a.Page/\x_a.Page<((List.length (s8.2.1.getD x_m.N.toNat default).Pages:Nat):Int)) (grd ((0:Int)<=(w64 ((List.getD (s8.2.1.getD x_m.N.toNat default).Pages x_a.Page.toNat default).Frame*(8:Int)))/\(w64 ((List.getD (s8.2.1.getD x_m.N.toNat default).Pages x_a.Page.toNat default).Frame*(8:Int)))<=((s8.1.length:Nat):Int)/\((s8.1.length:Nat):Int)<=((s8.1.length:Nat):Int)) (some ((DMove.mk v2.From (DHost.mk (over s8.1 (Int.toNat (w64 ((List.getD (s8.2.1.getD x_m.N.toNat default).Pages x_a.Page.toNat default).Frame*(8:Int)))) (Int.toNat ((s8.1.length:Nat):Int)-Int.toNat (w64 ((List.getD (s8.2.1.getD x_m.N.toNat default).Pages x_a.Page.toNat default).Frame*(8:Int)))) v5) s8.2.1) v2.G v2.N (v2.Left.set x_a.Page.toNat false)),true)))))
noncomputable def aBn (x_m:DMove)(x_a:DAct)(v2:DMove)(v5:List Int)(s6:Bool):Option (DMove×Bool):=
 grd ((0:Int)<=x_a.Page/\x_a.Page<((v2.Left.length:Nat):Int)) (cond s6
  (grd ((0:Int)<=x_m.N/\x_m.N<((v2.To.Guests.length:Nat):Int)) (grd ((0:Int)<=x_a.Page/\x_a.Page<((List.length (v2.To.Guests.getD x_m.N.toNat default).Pages:Nat):Int)) (some ((DMove.mk v2.From (DHost.mk v2.To.Words (v2.To.Guests.set x_m.N.toNat (DGuest.mk (v2.To.Guests.getD x_m.N.toNat default).Live (DCore.mk ((v2.To.Guests.getD x_m.N.toNat default).C).Regs ((v2.To.Guests.getD x_m.N.toNat default).C).Pc ((v2.To.Guests.getD x_m.N.toNat default).C).Root ((v2.To.Guests.getD x_m.N.toNat default).C).Vector ((v2.To.Guests.getD x_m.N.toNat default).C).Saved ((v2.To.Guests.getD x_m.N.toNat default).C).SavedUser ((v2.To.Guests.getD x_m.N.toNat default).C).Cause ((v2.To.Guests.getD x_m.N.toNat default).C).Bad ((v2.To.Guests.getD x_m.N.toNat default).C).Timer ((v2.To.Guests.getD x_m.N.toNat default).C).Waits ((v2.To.Guests.getD x_m.N.toNat default).C).User ((v2.To.Guests.getD x_m.N.toNat default).C).On ((v2.To.Guests.getD x_m.N.toNat default).C).Stopped) (List.set (v2.To.Guests.getD x_m.N.toNat default).Pages x_a.Page.toNat (DSlot.mk (-1:Int) false false)) (v2.To.Guests.getD x_m.N.toNat default).In (v2.To.Guests.getD x_m.N.toNat default).Out))) v2.G v2.N (v2.Left.set x_a.Page.toNat false)),true))))
  (Option.bind (fW v2.To x_m.N x_a.Page) λv7=>
  Option.bind (cond v7.2
   (Option.bind (fZ v7.1 x_m.N x_a.Page) λv10=>
   some (.go (v10.1.Words,v10.1.Guests,v10.2)))
   (some (.go (v7.1.Words,v7.1.Guests,v7.2)))) λj8=>
   JO.run j8 (tX x_m x_a v2 v5)))
noncomputable def sE (s11:Bool×Int)(s12:Bool):Option (LO (Bool×Int) (JO Bool (DMove×Bool))):=some (.next (s12,w64 (s11.2+(1:Int))))
noncomputable def jX (v5:List Int)(s11:Bool×Int):Option (LO (Bool×Int) (JO Bool (DMove×Bool))):=
 cond (decide (s11.2<(8:Int)))
  (Option.bind (cond s11.1
   (grd ((0:Int)<=s11.2/\s11.2<((v5.length:Nat):Int)) (some (.go (decide ((v5.getD s11.2.toNat default)=(0:Int))))))
   (some (.go false))) λj12=>
   JO.run j12 (sE s11))
  (some (.ret (.go s11.1)))
noncomputable def aBe (x_m:DMove)(x_a:DAct)(v2:DMove)(s3:Unit):Option (DMove×Bool):=
 cond (!decide (x_a.Kind=(2:Int)))
  (some ((DMove.mk (DHost.mk ([]:List Int) ([]:List DGuest)) (DHost.mk ([]:List Int) ([]:List DGuest)) (0:Int) (0:Int) ([]:List Bool)),false))
  (Option.bind (bO x_a.Page (0:Int) (7:Int)) λv4=>
  cond (!v4)
   (some ((DMove.mk (DHost.mk ([]:List Int) ([]:List DGuest)) (DHost.mk ([]:List Int) ([]:List DGuest)) (0:Int) (0:Int) ([]:List Bool)),false))
   (Option.bind (kR x_m.From x_m.G x_a.Page) λv5=>
   Option.bind (Option.bind (iter (jX v5) (true,(0:Int))) LO.val) λj6=>
    JO.run j6 (aBn x_m x_a v2 v5)))
noncomputable def zG (v2:DMove)(v13:DHost×Bool)(s15:(List Bool)×(List DGuest)):Option (JO Unit (DMove×Bool)):=some (.out ((DMove.mk (DHost.mk v13.1.Words s15.2) v2.To v2.G v2.N s15.1),true))
noncomputable def rV (s16:(List Bool)×(List DGuest)×Int)(s17:(List Bool)×(List DGuest)):Option (LO ((List Bool)×(List DGuest)×Int) (JO ((List Bool)×(List DGuest)) (JO Unit (DMove×Bool)))):=some (.next (s17.1,s17.2,w64 (s16.2.2+(1:Int))))
noncomputable def jU (x_m:DMove)(s16:(List Bool)×(List DGuest)×Int):Option (LO ((List Bool)×(List DGuest)×Int) (JO ((List Bool)×(List DGuest)) (JO Unit (DMove×Bool)))):=
 cond (decide (s16.2.2<(8:Int)))
  (Option.bind (grd ((0:Int)<=x_m.G/\x_m.G<((s16.2.1.length:Nat):Int)) (grd ((0:Int)<=s16.2.2/\s16.2.2<((List.length (s16.2.1.getD x_m.G.toNat default).Pages:Nat):Int)) (cond (List.getD (s16.2.1.getD x_m.G.toNat default).Pages s16.2.2.toNat default).Dirty
   (grd ((0:Int)<=x_m.G/\x_m.G<((s16.2.1.length:Nat):Int)) (grd ((0:Int)<=s16.2.2/\s16.2.2<((List.length (s16.2.1.getD x_m.G.toNat default).Pages:Nat):Int)) (grd ((0:Int)<=s16.2.2/\s16.2.2<((s16.1.length:Nat):Int)) (some (.go ((s16.1.set s16.2.2.toNat true),s16.2.1.set x_m.G.toNat (DGuest.mk (s16.2.1.getD x_m.G.toNat default).Live (DCore.mk ((s16.2.1.getD x_m.G.toNat default).C).Regs ((s16.2.1.getD x_m.G.toNat default).C).Pc ((s16.2.1.getD x_m.G.toNat default).C).Root ((s16.2.1.getD x_m.G.toNat default).C).Vector ((s16.2.1.getD x_m.G.toNat default).C).Saved ((s16.2.1.getD x_m.G.toNat default).C).SavedUser ((s16.2.1.getD x_m.G.toNat default).C).Cause ((s16.2.1.getD x_m.G.toNat default).C).Bad ((s16.2.1.getD x_m.G.toNat default).C).Timer ((s16.2.1.getD x_m.G.toNat default).C).Waits ((s16.2.1.getD x_m.G.toNat default).C).User ((s16.2.1.getD x_m.G.toNat default).C).On ((s16.2.1.getD x_m.G.toNat default).C).Stopped) (List.set (s16.2.1.getD x_m.G.toNat default).Pages s16.2.2.toNat (DSlot.mk (List.getD (s16.2.1.getD x_m.G.toNat default).Pages s16.2.2.toNat default).Frame (List.getD (s16.2.1.getD x_m.G.toNat default).Pages s16.2.2.toNat default).Write false)) (s16.2.1.getD x_m.G.toNat default).In (s16.2.1.getD x_m.G.toNat default).Out)))))))
   (some (.go (s16.1,s16.2.1)))))) λj17=>
   JO.run j17 (rV s16))
  (some (.ret (.go (s16.1,s16.2.1))))
noncomputable def oP (x_m:DMove)(x_a:DAct):Option (DMove×Bool):=
 Option.bind (sT x_m) λv1=>
 cond (!v1)
  (some ((DMove.mk (DHost.mk ([]:List Int) ([]:List DGuest)) (DHost.mk ([]:List Int) ([]:List DGuest)) (0:Int) (0:Int) ([]:List Bool)),false))
  (Option.bind (kP x_m) λv2=>
  Option.bind (cond (decide (x_a.Kind=(1:Int)))
   (Option.bind (pQ v2.From x_m.G) λv13=>
   cond (!v13.2)
    (Option.bind (kP x_m) λv14=>
    some (.out (v14,false)))
    (Option.bind (Option.bind (iter (jU x_m) (v2.Left,v13.1.Guests,(0:Int))) LO.val) λj15=>
     JO.run j15 (zG v2 v13)))
   (some (.go ()))) λj3=>
   JO.run j3 (aBe x_m x_a v2))
noncomputable def g10:Sg tG:=⟨[.st 29,.st 31],.two (.st 2029) .b,oP⟩
theorem s10:Sok 10 g10:=sgx [(48,.r g48),(49,.r g49),(50,.r g50),(51,.r g51),(52,.r g52),(53,.r g53),(54,.r g54)] ⟨s48,s49,s50,s51,s52,s53,s54,trivial⟩ (.s .o (.s .o (.s .o (.j ⟨[2,3,4,6],[],[]⟩ (.s .o (.c (.s .o (.s .o (.j ⟨[4,6,7],[],[(.c 6 6,.ro 4),(.c 7 1,.ro 1094)]⟩ (.s .o (.k (.l ⟨[2,4,6,7],[],[(.c 6 6,.ro 4),(.c 7 1,.ro 1094),(.s 9,.i .i64)]⟩ (.s .o (.j ⟨[2,4,6,7,9],[],[(.c 6 6,.ro 4),(.c 7 1,.ro 1094)]⟩ .o .o))))) .o))) .o)) (.s .o (.s .o (.s .o (.j ⟨[2,3,4,6,10],[],[(.s 11,.b)]⟩ (.s .o (.k (.l ⟨[2,3,4,6,10],[],[(.s 11,.b),(.s 12,.i .i64)]⟩ (.s .o (.j ⟨[2,3,4,6,10,12],[],[(.s 11,.b)]⟩ .o .o))))) (.s .o (.s .o (.s .o (.j ⟨[2,3,4,6,10,13],[],[(.c 13 0,.ro 3),(.c 13 1,.ro 1094),(.s 14,.b)]⟩ .o .o)))))))))))) kr kr kr
noncomputable def oL (x_r:Dl20Rd)(x_n:Int):Option (Dl20Rd×DAct):=
 Option.bind (bL x_r x_n) λv1=>
 cond v1.2
  (Option.bind (aA v1.1 (4:Int)) λv2=>
  Option.bind (aA v2.1 (10:Int)) λv3=>
  some (v3.1,DAct.mk v2.2 (w64 (v3.2-(1:Int)))))
  (Option.bind (aA v1.1 (3:Int)) λv4=>
  cond (decide (v4.2=(0:Int)))
   (Option.bind (aA v4.1 (8:Int)) λv5=>
   some (v5.1,DAct.mk (2:Int) v5.2))
   (some (v4.1,DAct.mk (1:Int) (0:Int))))
noncomputable def g44:Sw tG:=⟨[.pt 128,.v (.i .i64)],.one (.st 31),oL⟩
theorem s44:Sjk 44 g44:=sgy [(96,.w g96),(64,.w g64)] ⟨s96,s64,trivial⟩ .o kr kr kr
noncomputable def wA (s5:(List Int)×Int×(List Int)×(List DGuest)×(List Int)×(List DGuest)×Int×Int×(List Bool))(s6:(List Bool)×(List Int)×Int×Int):Option (Dl20Rd×DMove):=some ((Dl20Rd.mk s6.2.1 s6.2.2.1),DMove.mk (DHost.mk s5.2.2.1 s5.2.2.2.1) (DHost.mk s5.2.2.2.2.1 s5.2.2.2.2.2.1) s5.2.2.2.2.2.2.1 s6.2.2.2 s6.1)
noncomputable def vZ (x_n:Int)(s5:(List Int)×Int×(List Int)×(List DGuest)×(List Int)×(List DGuest)×Int×Int×(List Bool)):Option (Dl20Rd×DMove):=
 Option.bind (cond (decide (((s5.2.2.2.2.2.2.2.2.length:Nat):Int)=(8:Int)))
  (Option.bind (bL (Dl20Rd.mk s5.1 s5.2.1) x_n) λv7=>
  cond v7.2
   (Option.bind (aA v7.1 (3:Int)) λv8=>
   cond (decide (v8.2=(0:Int)))
    (Option.bind (aA v8.1 (8:Int)) λv9=>
    Option.bind (aA v9.1 (2:Int)) λv10=>
    grd ((0:Int)<=v9.2/\v9.2<((s5.2.2.2.2.2.2.2.2.length:Nat):Int)) (some (.go ((s5.2.2.2.2.2.2.2.2.set v9.2.toNat (decide (v10.2=(0:Int)))),v10.1.b,v10.1.p,s5.2.2.2.2.2.2.2.1))))
    (cond (decide (v8.2=(1:Int)))
     (grd ((0:Int)<=(0:Int)/\(0:Int)<=(7:Int)/\(7:Int)<=((s5.2.2.2.2.2.2.2.2.length:Nat):Int)) (some (.go ((List.take (Int.toNat (7:Int)-Int.toNat (0:Int)) s5.2.2.2.2.2.2.2.2),v8.1.b,v8.1.p,s5.2.2.2.2.2.2.2.1))))
     (Option.bind (aA v8.1 (4:Int)) λv11=>
     some (.go (s5.2.2.2.2.2.2.2.2,v11.1.b,v11.1.p,v11.2)))))
   (some (.go (s5.2.2.2.2.2.2.2.2,v7.1.b,v7.1.p,s5.2.2.2.2.2.2.2.1))))
  (some (.go (s5.2.2.2.2.2.2.2.2,s5.1,s5.2.1,s5.2.2.2.2.2.2.2.1)))) λj6=>
  JO.run j6 (wA s5)
noncomputable def vB (s13:(List Int)×Int×(List Int)×(List DGuest)×(List Int)×(List DGuest)×Int×Int×(List Bool)×Int)(s14:(List Int)×Int×(List Int)×(List DGuest)×(List Int)×(List DGuest)×Int×Int×(List Bool)):Option (LO ((List Int)×Int×(List Int)×(List DGuest)×(List Int)×(List DGuest)×Int×Int×(List Bool)×Int) (JO ((List Int)×Int×(List Int)×(List DGuest)×(List Int)×(List DGuest)×Int×Int×(List Bool)) (Dl20Rd×DMove))):=some (.next (s14.1,s14.2.1,s14.2.2.1,s14.2.2.2.1,s14.2.2.2.2.1,s14.2.2.2.2.2.1,s14.2.2.2.2.2.2.1,s14.2.2.2.2.2.2.2.1,s14.2.2.2.2.2.2.2.2,w64 (s13.2.2.2.2.2.2.2.2.2-(1:Int))))
noncomputable def nY  (s13:(List Int)×Int×(List Int)×(List DGuest)×(List Int)×(List DGuest)×Int×Int×(List Bool)×Int):Option (LO ((List Int)×Int×(List Int)×(List DGuest)×(List Int)×(List DGuest)×Int×Int×(List Bool)×Int) (JO ((List Int)×Int×(List Int)×(List DGuest)×(List Int)×(List DGuest)×Int×Int×(List Bool)) (Dl20Rd×DMove))):=
 cond (decide ((0:Int)<s13.2.2.2.2.2.2.2.2.2))
  (Option.bind (Option.bind (oL (Dl20Rd.mk s13.1 s13.2.1) (0:Int)) λv15=>
   Option.bind (oP (DMove.mk (DHost.mk s13.2.2.1 s13.2.2.2.1) (DHost.mk s13.2.2.2.2.1 s13.2.2.2.2.2.1) s13.2.2.2.2.2.2.1 s13.2.2.2.2.2.2.2.1 s13.2.2.2.2.2.2.2.2.1) v15.2) λv16=>
   cond v16.2
    (some (.go (v15.1.b,v15.1.p,v16.1.From.Words,v16.1.From.Guests,v16.1.To.Words,v16.1.To.Guests,v16.1.G,v16.1.N,v16.1.Left)))
    (some (.go (v15.1.b,v15.1.p,s13.2.2.1,s13.2.2.2.1,s13.2.2.2.2.1,s13.2.2.2.2.2.1,s13.2.2.2.2.2.2.1,s13.2.2.2.2.2.2.2.1,s13.2.2.2.2.2.2.2.2.1)))) λj14=>
   JO.run j14 (vB s13))
  (some (.ret (.go (s13.1,s13.2.1,s13.2.2.1,s13.2.2.2.1,s13.2.2.2.2.1,s13.2.2.2.2.2.1,s13.2.2.2.2.2.2.1,s13.2.2.2.2.2.2.2.1,s13.2.2.2.2.2.2.2.2.1))))
noncomputable def oG (x_r:Dl20Rd)(x_n:Int):Option (Dl20Rd×DMove):=
 Option.bind (nE x_r (0:Int)) λv1=>
 Option.bind (sW v1.1) λv2=>
 Option.bind (vT v2.1 v1.2) λv3=>
 Option.bind (nS v1.2 v2.2 v3.2) λv4=>
 Option.bind (Option.bind (aA v3.1 (14:Int)) λv12=>
  Option.bind (iter nY (v12.1.b,v12.1.p,v4.1.From.Words,v4.1.From.Guests,v4.1.To.Words,v4.1.To.Guests,v4.1.G,v4.1.N,v4.1.Left,v12.2)) LO.val) λj5=>
  JO.run j5 (vZ x_n)
noncomputable def g43:Sw tG:=⟨[.pt 128,.v (.i .i64)],.one (.st 2029),oG⟩
theorem s43:Sjk 43 g43:=sgy [(74,.w g74),(75,.w g75),(76,.w g76),(79,.r g79),(64,.w g64),(44,.w g44),(10,.r g10),(96,.w g96)] ⟨s74,s75,s76,s79,s64,s44,s10,s96,trivial⟩ (.s .o (.s .o (.s (.g [.fr (.c 5 0) 0,.fr (.c 5 1) 0] [0] []) (.j ⟨[0,1,4,6],[],[(.c 0 0,.rb 5),(.c 0 1,.i .i64),(.c 6 0,.ro 3),(.c 6 1,.ro 1094),(.c 6 2,.ro 3),(.c 6 3,.ro 1094),(.c 6 4,.i .i64),(.c 6 5,.i .i64),(.c 6 6,.ro 4)]⟩ (.s .o (.k (.l ⟨[0,1,4,6],[],[(.c 0 0,.rb 5),(.c 0 1,.i .i64),(.c 6 0,.ro 3),(.c 6 1,.ro 1094),(.c 6 2,.ro 3),(.c 6 3,.ro 1094),(.c 6 4,.i .i64),(.c 6 5,.i .i64),(.c 6 6,.ro 4),(.s 8,.i .i64)]⟩ (.s .o (.j ⟨[0,1,4,6,8],[],[(.c 0 0,.rb 5),(.c 0 1,.i .i64),(.c 6 0,.ro 3),(.c 6 1,.ro 1094),(.c 6 2,.ro 3),(.c 6 3,.ro 1094),(.c 6 4,.i .i64),(.c 6 5,.i .i64),(.c 6 6,.ro 4)]⟩ (.k (.s (.m [0]) .o)) .o))))) (.j ⟨[4,6],[0],[(.c 6 6,.ro 4),(.d 0 0,.rb 5),(.d 0 1,.i .i64),(.c 6 5,.i .i64)]⟩ (.s .o (.c (.s .o (.k (.s .o (.c (.m [0]) .o)))) .o)) .o))))) kr kr kr
noncomputable def aIp  (s3:Unit):Option Bool:=some true
noncomputable def mK (x_a:DMove)(x_b:DMove)(s4:Int):Option (LO Int (JO Unit Bool)):=
 cond (decide (s4<((x_a.Left.length:Nat):Int)))
  (grd ((0:Int)<=s4/\s4<((x_a.Left.length:Nat):Int)) (grd ((0:Int)<=s4/\s4<((x_b.Left.length:Nat):Int)) (cond (!((x_a.Left.getD s4.toNat default)==(x_b.Left.getD s4.toNat default)))
   (some (.ret (.out false)))
   (some (.next (w64 (s4+(1:Int))))))))
  (some (.ret (.go ())))
noncomputable def pO (x_a:DMove)(x_b:DMove):Option Bool:=
 cond (!decide (x_a.G=x_b.G))
  (some false)
  (cond (!decide (x_a.N=x_b.N))
   (some false)
   (cond (!decide (((x_a.Left.length:Nat):Int)=((x_b.Left.length:Nat):Int)))
    (some false)
    (Option.bind (lV x_a.From x_b.From) λv1=>
    cond (!v1)
     (some false)
     (Option.bind (lV x_a.To x_b.To) λv2=>
     cond (!v2)
      (some false)
      (Option.bind (Option.bind (iter (mK x_a x_b) (0:Int)) LO.val) λj3=>
       JO.run j3 aIp)))))
noncomputable def g11:Sg tG:=⟨[.st 29,.st 29],.one .b,pO⟩
theorem s11:Sok 11 g11:=sgx [(21,.r g21)] ⟨s21,trivial⟩ (.s .o (.s .o (.j ⟨[],[],[]⟩ (.s .o (.k (.l ⟨[2,3],[],[(.s 5,.i .i64)]⟩ .o))) .o))) kr kr kr
noncomputable def mU (x_code:List Int):Option (DMove×DAct):=
 Option.bind (kO x_code) λv1=>
 Option.bind (oG v1 (15:Int)) λv2=>
 Option.bind (oL v2.1 (9:Int)) λv3=>
 some (v2.2,v3.2)
noncomputable def g8:Sg tG:=⟨[.row 5],.two (.st 2029) (.st 31),mU⟩
theorem s8:Sok 8 g8:=sgx [(42,.o g42),(43,.w g43),(44,.w g44)] ⟨s42,s43,s44,trivial⟩ .o kr kr kr
noncomputable def qN (v1:DMove×DAct)(v2:DMove×Bool)(v7:DBare×Bool)(s8:(List Int)×Int×Int×Int×Int×Bool×Int×Int×Int×Bool×Bool×Bool×Bool×(List Int)×(List Int)×(List Int)):Option Bool:=
 Option.bind (lT v2.1) λv9=>
 cond v9
  (Option.bind (jF (DBare.mk (DCore.mk s8.1 s8.2.1 s8.2.2.1 s8.2.2.2.1 s8.2.2.2.2.1 s8.2.2.2.2.2.1 s8.2.2.2.2.2.2.1 s8.2.2.2.2.2.2.2.1 s8.2.2.2.2.2.2.2.2.1 s8.2.2.2.2.2.2.2.2.2.1 s8.2.2.2.2.2.2.2.2.2.2.1 s8.2.2.2.2.2.2.2.2.2.2.2.1 s8.2.2.2.2.2.2.2.2.2.2.2.2.1) s8.2.2.2.2.2.2.2.2.2.2.2.2.2.1 s8.2.2.2.2.2.2.2.2.2.2.2.2.2.2.1 s8.2.2.2.2.2.2.2.2.2.2.2.2.2.2.2) v7.1) λv10=>
  cond v10
   (Option.bind (lC v1.1.From v2.1.From v1.1.G) λv11=>
   cond v11
    (Option.bind (lC v1.1.To v2.1.To v1.1.N) λv12=>
    some v12)
    (some false))
   (some false))
  (some false)
noncomputable def mC (x_code:List Int):Option Bool:=
 cond (decide ((1048576:Int)<((x_code.length:Nat):Int)))
  (some true)
  (Option.bind (mU x_code) λv1=>
  Option.bind (tH v1.1 v1.2) λv2=>
  Option.bind (oP v1.1 v1.2) λv3=>
  cond (!(v2.2==v3.2))
   (some false)
   (Option.bind (pO v2.1 v3.1) λv4=>
   cond (!v4)
    (some false)
    (cond (!v2.2)
     (Option.bind qC  λv5=>
     some v5)
     (Option.bind (fV v1.1.From v1.1.G) λv6=>
     Option.bind (fV v2.1.From v1.1.G) λv7=>
     Option.bind (cond (decide (v1.2.Kind=(1:Int)))
      (Option.bind (pJ v6.1) λv13=>
      some (.go (v13.C.Regs,v13.C.Pc,v13.C.Root,v13.C.Vector,v13.C.Saved,v13.C.SavedUser,v13.C.Cause,v13.C.Bad,v13.C.Timer,v13.C.Waits,v13.C.User,v13.C.On,v13.C.Stopped,v13.Mem,v13.In,v13.Out)))
      (some (.go (v6.1.C.Regs,v6.1.C.Pc,v6.1.C.Root,v6.1.C.Vector,v6.1.C.Saved,v6.1.C.SavedUser,v6.1.C.Cause,v6.1.C.Bad,v6.1.C.Timer,v6.1.C.Waits,v6.1.C.User,v6.1.C.On,v6.1.C.Stopped,v6.1.Mem,v6.1.In,v6.1.Out)))) λj8=>
      JO.run j8 (qN v1 v2 v7)))))
noncomputable def g3:Sg tG:=⟨[.row 5],.one .b,mC⟩
theorem s3:Sok 3 g3:=sgx [(8,.r g8),(9,.r g9),(10,.r g10),(11,.r g11),(12,.r g12),(13,.r g13),(14,.r g14),(15,.r g15),(16,.r g16),(17,.r g17)] ⟨s8,s9,s10,s11,s12,s13,s14,s15,s16,s17,trivial⟩ (.s .o (.s .o (.s .o (.s .o (.s .o (.s .o (.s .o (.s .o (.s .o (.j ⟨[3,5,9,11],[],[(.c 9 0,.ro 3),(.c 9 1,.i .i64),(.c 9 2,.i .i64),(.c 9 3,.i .i64),(.c 9 4,.i .i64),(.c 9 5,.b),(.c 9 6,.i .i64),(.c 9 7,.i .i64),(.c 9 8,.i .i64),(.c 9 9,.b),(.c 9 10,.b),(.c 9 11,.b),(.c 9 12,.b),(.c 9 13,.ro 3),(.c 9 14,.ro 3),(.c 9 15,.ro 3)]⟩ .o .o)))))))))) kr kr kr
theorem aNz{x_code:List Int}{R_:Bool}(hh:mC x_code=some R_):Fn Tryz.prog 3 [bo (eI .u8) x_code] (.bool R_):=kc (s3 x_code R_ hh)
end Go.Proofs.YtcgggihjcelmhaaGreat
