/- Plain functions of the program, and that it hands back what they say. Made by program. -/
import Derived.Test.YtcgggihjcelmhaaGreatWTD
import Derived.Test.YtcgggihjcelmhaaGreatProg
import Derived.Test.YtcgggihjcelmhaaGreatWKC1
namespace Go.Proofs.YtcgggihjcelmhaaGreat
open Go.RowKit
set_option maxRecDepth 100000
set_option linter.all false
set_option maxHeartbeats 0
noncomputable def xJ (x_c:DCore)(s1:(List Int)×Int):Option DCore:=some (DCore.mk s1.1 s1.2 x_c.Root x_c.Vector x_c.Saved x_c.SavedUser x_c.Cause x_c.Bad x_c.Timer x_c.Waits x_c.User x_c.On x_c.Stopped)
noncomputable def jL (x_c:DCore)(x_i:DIns):Option DCore:=
 Option.bind (cond (decide (x_i.Op=(1:Int)))
  (grd ((0:Int)<=x_i.A/\x_i.A<((List.length x_c.Regs:Nat):Int)) (some (.go ((List.set x_c.Regs (Int.toNat x_i.A) x_i.N),Int.tmod (w64 (x_c.Pc+(1:Int))) (64:Int)))))
  (cond (decide (x_i.Op=(2:Int)))
   (grd ((0:Int)<=x_i.A/\x_i.A<((List.length x_c.Regs:Nat):Int)) (grd ((0:Int)<=(Int.tmod x_i.N (4:Int))/\(Int.tmod x_i.N (4:Int))<((List.length x_c.Regs:Nat):Int)) (grd ((0:Int)<=x_i.A/\x_i.A<((List.length x_c.Regs:Nat):Int)) (some (.go ((List.set x_c.Regs (Int.toNat x_i.A) (Int.tmod (w64 ((List.getD x_c.Regs (Int.toNat x_i.A) default)+(List.getD x_c.Regs (Int.toNat (Int.tmod x_i.N (4:Int))) default))) (4096:Int))),Int.tmod (w64 (x_c.Pc+(1:Int))) (64:Int)))))))
   (cond (decide (x_i.Op=(15:Int)))
    (grd ((0:Int)<=x_i.A/\x_i.A<((List.length x_c.Regs:Nat):Int)) (grd ((0:Int)<=(Int.tmod x_i.N (4:Int))/\(Int.tmod x_i.N (4:Int))<((List.length x_c.Regs:Nat):Int)) (grd ((0:Int)<=x_i.A/\x_i.A<((List.length x_c.Regs:Nat):Int)) (some (.go ((List.set x_c.Regs (Int.toNat x_i.A) (Int.tmod (w64 ((w64 ((List.getD x_c.Regs (Int.toNat x_i.A) default)+(4096:Int)))-(List.getD x_c.Regs (Int.toNat (Int.tmod x_i.N (4:Int))) default))) (4096:Int))),Int.tmod (w64 (x_c.Pc+(1:Int))) (64:Int)))))))
    (cond (decide (x_i.Op=(5:Int)))
     (some (.go (x_c.Regs,x_i.N)))
     (cond (decide (x_i.Op=(6:Int)))
      (grd ((0:Int)<=x_i.A/\x_i.A<((List.length x_c.Regs:Nat):Int)) (cond (!decide ((List.getD x_c.Regs (Int.toNat x_i.A) default)=(0:Int)))
       (some (.go (x_c.Regs,x_i.N)))
       (some (.go (x_c.Regs,Int.tmod (w64 (x_c.Pc+(1:Int))) (64:Int))))))
      (cond (decide (x_i.Op=(7:Int)))
       (Option.bind (iL x_c (Int.tmod (w64 (x_c.Pc+(1:Int))) (64:Int)) (1:Int) (0:Int)) λv2=>
       some (.out v2))
       (some (.go (x_c.Regs,Int.tmod (w64 (x_c.Pc+(1:Int))) (64:Int)))))))))) λj1=>
  JO.run j1 (xJ x_c)
noncomputable def bXq:Sw tG:=⟨[.os 39,.v (.st 141)],.one (.st 39),jL⟩
theorem cBv:Sjk 112 bXq:=sgy [(108,.w bHp)] ⟨bPm,trivial⟩ (.s .o (.s .o (.j ⟨[2,4],[],[(.c 2 0,.ro 3),(.s 5,.i .i64)]⟩ .o .o))) kr kr kr
noncomputable def oO (x_c:DCore):Option DCore:=
 Option.bind (lY (DCore.mk x_c.Regs x_c.Pc x_c.Root x_c.Vector x_c.Saved x_c.SavedUser x_c.Cause x_c.Bad x_c.Timer false x_c.User x_c.On x_c.Stopped) (4:Int) (0:Int) x_c.Pc) λv1=>
 some v1
noncomputable def bOr:Sg tG:=⟨[.st 39],.one (.sb 39),oO⟩
theorem bYr:Sok 124 bOr:=sgx [(163,.r aWd)] ⟨bFp,trivial⟩ .o kr kr kr
noncomputable def gX (x_b:DBare)(x_addr:Int):Option DBare:=
 Option.bind (lY x_b.C (2:Int) x_addr x_b.C.Pc) λv1=>
 some (DBare.mk v1 x_b.Mem x_b.In x_b.Out)
noncomputable def aNs:Sg tG:=⟨[.st 41,.i .i64],.one (.sb 41),gX⟩
theorem aRt:Sok 126 aNs:=sgx [(163,.r aWd)] ⟨bFp,trivial⟩ .o kr kr kr
noncomputable def aFw (x_b:DBare)(x_i:DIns):Option DBare:=
 Option.bind (gM x_b.C x_i) λv1=>
 Option.bind (vA x_b.Mem x_b.C.Root v1 x_b.C.User false) λv2=>
 cond (decide (v2=(-1:Int)))
  (Option.bind (gX x_b v1) λv3=>
  some v3)
  (grd ((0:Int)<=v2/\v2<((List.length x_b.Mem:Nat):Int)) (Option.bind (kC x_b x_i.A (List.getD x_b.Mem (Int.toNat v2) default)) λv4=>
   some v4))
noncomputable def bWb:Sg tG:=⟨[.st 41,.st 141],.one (.sb 41),aFw⟩
theorem cCt:Sok 166 bWb:=sgx [(194,.r aSc),(125,.r bHw),(126,.r aNs),(195,.r bFl)] ⟨bAf,bNk,aRt,bNd,trivial⟩ .o kr kr kr
noncomputable def aGc (x_b:DBare)(x_i:DIns):Option DBare:=
 Option.bind (gM x_b.C x_i) λv1=>
 Option.bind (vA x_b.Mem x_b.C.Root v1 x_b.C.User true) λv2=>
 cond (decide (v2=(-1:Int)))
  (Option.bind (gX x_b v1) λv3=>
  some v3)
  (grd ((0:Int)<=x_i.A/\x_i.A<((List.length x_b.C.Regs:Nat):Int)) (Option.bind (pN x_b.Mem v2 (List.getD x_b.C.Regs (Int.toNat x_i.A) default)) λv4=>
   Option.bind (kJ (DBare.mk x_b.C v4 x_b.In x_b.Out)) λv5=>
   some v5))
noncomputable def bZb:Sg tG:=⟨[.st 41,.st 141],.one (.sb 41),aGc⟩
theorem cBb:Sok 167 bZb:=sgx [(194,.r aSc),(125,.r bHw),(126,.r aNs),(196,.r bFt),(197,.r aRz)] ⟨bAf,bNk,aRt,bOu,aXe,trivial⟩ (.s .o (.s .o (.s .o (.s .o (.s .o (.s (.g [.fr (.c 2 13) 0] [] []) .o)))))) kr kr kr
noncomputable def aOn (x_b:DBare)(x_i:DIns):Option DBare:=
 cond (decide (x_i.Op=(3:Int)))
  (Option.bind (aFw x_b x_i) λv1=>
  some v1)
  (cond (decide (x_i.Op=(4:Int)))
   (Option.bind (aGc x_b x_i) λv2=>
   some v2)
   (Option.bind (rT x_b x_i) λv3=>
   some v3))
noncomputable def bXv:Sg tG:=⟨[.st 41,.st 141],.one (.sb 41),aOn⟩
theorem cBr:Sok 127 bXv:=sgx [(166,.r bWb),(167,.r bZb),(168,.r bQq)] ⟨cCt,cBb,bWx,trivial⟩ .o kr kr kr
noncomputable def aCg (x_b:DBare):Option DBare:=
 cond x_b.C.Stopped
  (some x_b)
  (Option.bind (rA x_b.C) λv1=>
  Option.bind (jB v1) λv2=>
  cond v2
   (Option.bind (oO v1) λv3=>
   some (DBare.mk v3 x_b.Mem x_b.In x_b.Out))
   (Option.bind (vA x_b.Mem v1.Root v1.Pc v1.User false) λv4=>
   cond (decide (v4=(-1:Int)))
    (Option.bind (gX (DBare.mk v1 x_b.Mem x_b.In x_b.Out) v1.Pc) λv5=>
    some v5)
    (grd ((0:Int)<=v4/\v4<((List.length x_b.Mem:Nat):Int)) (Option.bind (pZ (List.getD x_b.Mem (Int.toNat v4) default)) λv6=>
     Option.bind (aOn (DBare.mk (DCore.mk v1.Regs v1.Pc v1.Root v1.Vector v1.Saved v1.SavedUser v1.Cause v1.Bad v1.Timer v1.Waits v1.User v1.On v1.Stopped) x_b.Mem x_b.In x_b.Out) v6) λv7=>
     some v7))))
noncomputable def g60:Sg tG:=⟨[.st 41],.one (.sb 41),aCg⟩
theorem s60:Sok 60 g60:=sgx [(122,.r bGc),(123,.r bFx),(124,.r bOr),(125,.r bHw),(126,.r aNs),(128,.r bHo),(127,.r bXv)] ⟨bOk,bOy,bYr,bNk,aRt,bMx,cBr,trivial⟩ .o kr kr kr
noncomputable def xQ (x_e:DExit):Option Bool:=
 cond (decide (x_e.Why=(2:Int)))
  (some true)
  (some (decide (x_e.Why=(3:Int))))
noncomputable def bUw:Sg tG:=⟨[.st 178],.one .b,xQ⟩
theorem cDn:Sok 186 bUw:=sgx [] trivial .o kr kr kr
noncomputable def aAq (x_h:DHost)(x_g:Int)(x_e:DExit):Option (DHost×Bool):=
 cond (decide (x_e.Why=(2:Int)))
  (Option.bind (oE x_h x_g x_e.Page) λv1=>
  some (v1.1,v1.2))
  (Option.bind (nW x_h x_g x_e.Page) λv2=>
  some (v2.1,v2.2))
noncomputable def bVp:Sg tG:=⟨[.st 26,.i .i64,.st 178],.two (.st 2026) .b,aAq⟩
theorem cAz:Sok 187 bVp:=sgx [(154,.r bYj),(155,.r bYf)] ⟨bZh,bXo,trivial⟩ .o kr kr kr
noncomputable def aKj  (s2:(List Int)×(List DGuest)):Option (DHost×Bool):=some ((DHost.mk s2.1 s2.2),true)
noncomputable def aKk (x_g:Int)(s3:(List Int)×(List DGuest)×Int×Int×Int×Int×Int×Int):Option (LO ((List Int)×(List DGuest)×Int×Int×Int×Int×Int×Int) (JO ((List Int)×(List DGuest)) (DHost×Bool))):=
 cond (decide (s3.2.2.2.2.2.2.2<(8:Int)))
  (Option.bind (xQ (DExit.mk s3.2.2.1 s3.2.2.2.1 (DIns.mk s3.2.2.2.2.1 s3.2.2.2.2.2.1 s3.2.2.2.2.2.2.1))) λv4=>
  cond v4
   (Option.bind (aAq (DHost.mk s3.1 s3.2.1) x_g (DExit.mk s3.2.2.1 s3.2.2.2.1 (DIns.mk s3.2.2.2.2.1 s3.2.2.2.2.2.1 s3.2.2.2.2.2.2.1))) λv5=>
   cond (!v5.2)
    (some (.ret (.out ((DHost.mk ([]:List Int) ([]:List DGuest)),false))))
    (Option.bind (wY v5.1 x_g) λv6=>
    some (.next (v5.1.Words,v5.1.Guests,v6.Why,v6.Page,v6.What.Op,v6.What.A,v6.What.N,w64 (s3.2.2.2.2.2.2.2+(1:Int))))))
   (some (.ret (.go (s3.1,s3.2.1)))))
  (some (.ret (.go (s3.1,s3.2.1))))
noncomputable def aCt (x_h:DHost)(x_g:Int):Option (DHost×Bool):=
 Option.bind (wY x_h x_g) λv1=>
 Option.bind (Option.bind (iter (aKk x_g) (x_h.Words,x_h.Guests,v1.Why,v1.Page,v1.What.Op,v1.What.A,v1.What.N,(0:Int))) LO.val) λj2=>
  JO.run j2 aKj
noncomputable def bYy:Sg tG:=⟨[.st 26,.i .i64],.two (.sb 26) .b,aCt⟩
theorem cCd:Sok 148 bYy:=sgx [(185,.r bVl),(186,.r bUw),(187,.r bVp)] ⟨cDe,cDn,cAz,trivial⟩ (.s .o (.s .o (.j ⟨[2,4],[],[(.c 2 0,.rb 3),(.c 2 1,.rb 94)]⟩ (.s .o (.k (.l ⟨[1,2,4,6],[],[(.c 2 0,.rb 3),(.c 2 1,.rb 94),(.c 6 0,.i .i64),(.c 6 1,.i .i64),(.c 6 2,.i .i64),(.c 6 3,.i .i64),(.c 6 4,.i .i64),(.s 7,.i .i64)]⟩ (.s .o (.s (.k (.s .o (.s .o (.s .o (.g [.fr (.c 2 0) 0,.fr (.c 2 1) 0] [] []))))) .o))))) .o))) kr kr kr
noncomputable def aDb (x_h:DHost)(x_g:Int)(x_b:DBare)(x_i:DIns):Option DHost:=
 Option.bind (gM x_b.C x_i) λv1=>
 Option.bind (gK x_h x_g v1 false) λv2=>
 cond (!decide (v2.2=(0:Int)))
  (Option.bind (gX x_b v1) λv3=>
  Option.bind (cB x_h x_g v3) λv4=>
  some v4)
  (grd ((0:Int)<=v2.1/\v2.1<((List.length x_h.Words:Nat):Int)) (Option.bind (kC x_b x_i.A (List.getD x_h.Words (Int.toNat v2.1) default)) λv5=>
   Option.bind (cB x_h x_g v5) λv6=>
   some v6))
noncomputable def bYe:Sg tG:=⟨[.st 26,.i .i64,.st 41,.st 141],.one (.st 2026),aDb⟩
theorem cDd:Sok 214 bYe:=sgx [(194,.r aSc),(188,.r aRn),(126,.r aNs),(67,.r g67),(195,.r bFl)] ⟨bAf,bAk,aRt,s67,bNd,trivial⟩ .o kr kr kr
noncomputable def aAo (x_h:DHost)(x_g:Int)(x_b:DBare)(x_i:DIns):Option DHost:=
 Option.bind (gM x_b.C x_i) λv1=>
 Option.bind (gK x_h x_g v1 true) λv2=>
 cond (!decide (v2.2=(0:Int)))
  (Option.bind (gX x_b v1) λv3=>
  Option.bind (cB x_h x_g v3) λv4=>
  some v4)
  (Option.bind (kJ x_b) λv5=>
  Option.bind (cB x_h x_g v5) λv6=>
  grd ((0:Int)<=x_i.A/\x_i.A<((List.length x_b.C.Regs:Nat):Int)) (grd ((0:Int)<=v2.1/\v2.1<((List.length v6.Words:Nat):Int)) (grd ((0:Int)<=x_g/\x_g<((List.length v6.Guests:Nat):Int)) (Option.bind (lR x_h x_g v1) λv7=>
   grd ((0:Int)<=v7.Page/\v7.Page<((List.length (List.getD v6.Guests (Int.toNat x_g) default).Pages:Nat):Int)) (some (DHost.mk (List.set v6.Words (Int.toNat v2.1) (List.getD x_b.C.Regs (Int.toNat x_i.A) default)) (List.set v6.Guests (Int.toNat x_g) (DGuest.mk (List.getD v6.Guests (Int.toNat x_g) default).Live (DCore.mk ((List.getD v6.Guests (Int.toNat x_g) default).C).Regs ((List.getD v6.Guests (Int.toNat x_g) default).C).Pc ((List.getD v6.Guests (Int.toNat x_g) default).C).Root ((List.getD v6.Guests (Int.toNat x_g) default).C).Vector ((List.getD v6.Guests (Int.toNat x_g) default).C).Saved ((List.getD v6.Guests (Int.toNat x_g) default).C).SavedUser ((List.getD v6.Guests (Int.toNat x_g) default).C).Cause ((List.getD v6.Guests (Int.toNat x_g) default).C).Bad ((List.getD v6.Guests (Int.toNat x_g) default).C).Timer ((List.getD v6.Guests (Int.toNat x_g) default).C).Waits ((List.getD v6.Guests (Int.toNat x_g) default).C).User ((List.getD v6.Guests (Int.toNat x_g) default).C).On ((List.getD v6.Guests (Int.toNat x_g) default).C).Stopped) (List.set (List.getD v6.Guests (Int.toNat x_g) default).Pages (Int.toNat v7.Page) (DSlot.mk (List.getD (List.getD v6.Guests (Int.toNat x_g) default).Pages (Int.toNat v7.Page) default).Frame (List.getD (List.getD v6.Guests (Int.toNat x_g) default).Pages (Int.toNat v7.Page) default).Write true)) (List.getD v6.Guests (Int.toNat x_g) default).In (List.getD v6.Guests (Int.toNat x_g) default).Out))))))))
noncomputable def bVv:Sg tG:=⟨[.st 26,.i .i64,.st 41,.st 141],.one (.st 2026),aAo⟩
theorem cDi:Sok 215 bVv:=sgx [(194,.r aSc),(188,.r aRn),(126,.r aNs),(67,.r g67),(197,.r aRz),(213,.r bIf)] ⟨bAf,bAk,aRt,s67,aXe,bPw,trivial⟩ .o kr kr kr
noncomputable def aGg (x_h:DHost)(x_g:Int)(x_b:DBare)(x_i:DIns):Option DHost:=
 cond (decide (x_i.Op=(3:Int)))
  (Option.bind (aDb x_h x_g x_b x_i) λv1=>
  some v1)
  (cond (decide (x_i.Op=(4:Int)))
   (Option.bind (aAo x_h x_g x_b x_i) λv2=>
   some v2)
   (Option.bind (rT x_b x_i) λv3=>
   Option.bind (cB x_h x_g v3) λv4=>
   some v4))
noncomputable def bWh:Sg tG:=⟨[.st 26,.i .i64,.st 41,.st 141],.one (.st 2026),aGg⟩
theorem cCf:Sok 189 bWh:=sgx [(214,.r bYe),(215,.r bVv),(168,.r bQq),(67,.r g67)] ⟨cDd,cDi,bWx,s67,trivial⟩ .o kr kr kr
noncomputable def aPm (x_h:DHost)(x_g:Int):Option DHost:=
 Option.bind (jV x_h x_g) λv1=>
 cond v1.C.Stopped
  (Option.bind (cA x_h) λv2=>
  some v2)
  (Option.bind (rA v1.C) λv3=>
  Option.bind (jB v3) λv4=>
  cond v4
   (Option.bind (oO v3) λv5=>
   Option.bind (cB x_h x_g (DBare.mk v5 v1.Mem v1.In v1.Out)) λv6=>
   some v6)
   (Option.bind (gK x_h x_g v3.Pc false) λv7=>
   cond (!decide (v7.2=(0:Int)))
    (Option.bind (gX (DBare.mk v3 v1.Mem v1.In v1.Out) v3.Pc) λv8=>
    Option.bind (cB x_h x_g v8) λv9=>
    some v9)
    (grd ((0:Int)<=v7.1/\v7.1<((List.length x_h.Words:Nat):Int)) (Option.bind (pZ (List.getD x_h.Words (Int.toNat v7.1) default)) λv10=>
     Option.bind (aGg x_h x_g (DBare.mk (DCore.mk v3.Regs v3.Pc v3.Root v3.Vector v3.Saved v3.SavedUser v3.Cause v3.Bad v3.Timer v3.Waits v3.User v3.On v3.Stopped) v1.Mem v1.In v1.Out) v10) λv11=>
     some v11))))
noncomputable def bYv:Sg tG:=⟨[.st 26,.i .i64],.one (.st 2026),aPm⟩
theorem cCg:Sok 149 bYv:=sgx [(68,.r g68),(131,.r aMb),(122,.r bGc),(123,.r bFx),(124,.r bOr),(67,.r g67),(188,.r aRn),(126,.r aNs),(128,.r bHo),(189,.r bWh)] ⟨s68,aMn,bOk,bOy,bYr,s67,bAk,aRt,bMx,cCf,trivial⟩ .o kr kr kr
noncomputable def aBa (x_h:DHost)(x_g:Int):Option (DHost×Bool):=
 Option.bind (cM x_h x_g) λv1=>
 cond (!v1)
  (some ((DHost.mk ([]:List Int) ([]:List DGuest)),false))
  (Option.bind (aCt x_h x_g) λv2=>
  cond (!v2.2)
   (Option.bind (cA x_h) λv3=>
   some (v3,false))
   (Option.bind (aPm v2.1 x_g) λv4=>
   some (v4,true)))
noncomputable def g98:Sg tG:=⟨[.st 26,.i .i64],.two (.st 2026) .b,aBa⟩
theorem s98:Sok 98 g98:=sgx [(56,.r g56),(148,.r bYy),(131,.r aMb),(149,.r bYv)] ⟨s56,cCd,aMn,cCg,trivial⟩ .o kr kr kr
noncomputable def lM  (s1:(List Int)×(List DGuest)):Option (DHost×Bool):=some ((DHost.mk s1.1 s1.2),true)
noncomputable def iW (s2:(List Int)×(List DGuest)×Int)(s4:(List Int)×(List DGuest)×Bool):Option (LO ((List Int)×(List DGuest)×Int) (JO ((List Int)×(List DGuest)) (DHost×Bool))):=
 cond (!s4.2.2)
  (some (.ret (.out ((DHost.mk s4.1 s4.2.1),false))))
  (some (.next (s4.1,s4.2.1,w64 (s2.2.2+(1:Int)))))
noncomputable def dR (x_g:Int)(s2:(List Int)×(List DGuest)×Int):Option (LO ((List Int)×(List DGuest)×Int) (JO ((List Int)×(List DGuest)) (DHost×Bool))):=
 cond (decide (s2.2.2<(4:Int)))
  (Option.bind (jT (DHost.mk s2.1 s2.2.1) x_g) λv3=>
  Option.bind (cond (decide (v3.Why=(2:Int)))
   (Option.bind (fO (DHost.mk s2.1 s2.2.1) x_g v3.Page) λv5=>
   some (.go (v5.1.Words,v5.1.Guests,v5.2)))
   (cond (decide (v3.Why=(3:Int)))
    (Option.bind (fT (DHost.mk s2.1 s2.2.1) x_g v3.Page) λv6=>
    some (.go (v6.1.Words,v6.1.Guests,v6.2)))
    (some (.out (.ret (.out ((DHost.mk s2.1 s2.2.1),true))))))) λj4=>
   JO.run j4 (iW s2))
  (some (.ret (.go (s2.1,s2.2.1))))
noncomputable def jO (x_h:DHost)(x_g:Int):Option (DHost×Bool):=
 Option.bind (Option.bind (iter (dR x_g) (x_h.Words,x_h.Guests,(0:Int))) LO.val) λj1=>
  JO.run j1 lM
noncomputable def bYu:Sw tG:=⟨[.os 2026,.v (.i .i64)],.two (.st 2026) .b,jO⟩
theorem cAw:Sjk 104 bYu:=sgy [(156,.r bUx),(53,.r g53),(54,.r g54)] ⟨cBi,s53,s54,trivial⟩ (.s .o (.j ⟨[2,4],[],[(.c 2 0,.ro 3),(.c 2 1,.ro 1094)]⟩ (.s .o (.k (.l ⟨[1,2,4],[],[(.c 2 0,.ro 3),(.c 2 1,.ro 1094),(.s 6,.i .i64)]⟩ (.s .o (.s (.k (.s .o (.s .o (.j ⟨[1,2,4,6],[],[(.c 2 0,.ro 3),(.c 2 1,.ro 1094),(.s 8,.b)]⟩ .o .o)))) .o))))) .o)) kr kr kr
noncomputable def nT (x_g:Int)(v3:DHost×Bool)(v5:DCore×Bool)(v6:List DShade)(v9:DIns)(s10:Unit):Option (DHost×Bool):=
 grd ((0:Int)<=(Int.tmod v9.N (4:Int))/\(Int.tmod v9.N (4:Int))<((List.length v5.1.Regs:Nat):Int)) (let z0:=List.set v3.1.Guests (Int.toNat x_g) (DGuest.mk (List.getD v3.1.Guests (Int.toNat x_g) default).Live v5.1 (List.getD v3.1.Guests (Int.toNat x_g) default).Pages (List.getD v3.1.Guests (Int.toNat x_g) default).In (List.getD v3.1.Guests (Int.toNat x_g) default).Out);Option.bind (cS v6 (Int.tmod (List.getD ((List.getD z0 (Int.toNat x_g) default).C).Regs (Int.toNat (Int.tmod v9.N (4:Int))) default) (64:Int)) v5.1.User (decide (v9.Op=(4:Int)))) λv11=>
  cond (decide (v11.1<(0:Int)))
   (Option.bind (iL (DCore.mk ((List.getD z0 (Int.toNat x_g) default).C).Regs v5.1.Pc v5.1.Root v5.1.Vector v5.1.Saved v5.1.SavedUser v5.1.Cause v5.1.Bad v5.1.Timer v5.1.Waits v5.1.User v5.1.On v5.1.Stopped) v5.1.Pc (2:Int) (Int.tmod (List.getD ((List.getD z0 (Int.toNat x_g) default).C).Regs (Int.toNat (Int.tmod v9.N (4:Int))) default) (64:Int))) λv12=>
   grd ((0:Int)<=x_g/\x_g<((List.length v3.1.Guests:Nat):Int)) (grd ((Int.toNat x_g)=(Int.toNat x_g)) (some ((DHost.mk v3.1.Words (List.set z0 (Int.toNat x_g) (DGuest.mk (List.getD z0 (Int.toNat x_g) default).Live v12 (List.getD z0 (Int.toNat x_g) default).Pages (List.getD z0 (Int.toNat x_g) default).In (List.getD z0 (Int.toNat x_g) default).Out))),true))))
   (cond (decide (v9.Op=(3:Int)))
    (grd ((0:Int)<=v11.1/\v11.1<((List.length v3.1.Words:Nat):Int)) (grd ((0:Int)<=v9.A/\v9.A<((List.length v5.1.Regs:Nat):Int)) (grd ((0:Int)<=x_g/\x_g<((List.length v3.1.Guests:Nat):Int)) (grd ((Int.toNat x_g)=(Int.toNat x_g)) (some ((DHost.mk v3.1.Words (let z1:=List.set ((List.getD z0 (Int.toNat x_g) default).C).Regs (Int.toNat v9.A) (List.getD v3.1.Words (Int.toNat v11.1) default);let z2:=List.set z0 (Int.toNat x_g) (DGuest.mk (List.getD z0 (Int.toNat x_g) default).Live (DCore.mk z1 ((List.getD z0 (Int.toNat x_g) default).C).Pc ((List.getD z0 (Int.toNat x_g) default).C).Root ((List.getD z0 (Int.toNat x_g) default).C).Vector ((List.getD z0 (Int.toNat x_g) default).C).Saved ((List.getD z0 (Int.toNat x_g) default).C).SavedUser ((List.getD z0 (Int.toNat x_g) default).C).Cause ((List.getD z0 (Int.toNat x_g) default).C).Bad ((List.getD z0 (Int.toNat x_g) default).C).Timer ((List.getD z0 (Int.toNat x_g) default).C).Waits ((List.getD z0 (Int.toNat x_g) default).C).User ((List.getD z0 (Int.toNat x_g) default).C).On ((List.getD z0 (Int.toNat x_g) default).C).Stopped) (List.getD z0 (Int.toNat x_g) default).Pages (List.getD z0 (Int.toNat x_g) default).In (List.getD z0 (Int.toNat x_g) default).Out);List.set z2 (Int.toNat x_g) (DGuest.mk (List.getD z2 (Int.toNat x_g) default).Live (DCore.mk ((List.getD z2 (Int.toNat x_g) default).C).Regs (Int.tmod (w64 (v5.1.Pc+(1:Int))) (64:Int)) v5.1.Root v5.1.Vector v5.1.Saved v5.1.SavedUser v5.1.Cause v5.1.Bad v5.1.Timer v5.1.Waits v5.1.User v5.1.On v5.1.Stopped) (List.getD z2 (Int.toNat x_g) default).Pages (List.getD z2 (Int.toNat x_g) default).In (List.getD z2 (Int.toNat x_g) default).Out))),true))))))
    (grd ((0:Int)<=v9.A/\v9.A<((List.length v5.1.Regs:Nat):Int)) (grd ((0:Int)<=v11.1/\v11.1<((List.length v3.1.Words:Nat):Int)) (grd ((0:Int)<=x_g/\x_g<((List.length v3.1.Guests:Nat):Int)) (grd ((0:Int)<=(w64 (Int.tdiv (Int.tmod (List.getD ((List.getD z0 (Int.toNat x_g) default).C).Regs (Int.toNat (Int.tmod v9.N (4:Int))) default) (64:Int)) (8:Int)))/\(w64 (Int.tdiv (Int.tmod (List.getD ((List.getD z0 (Int.toNat x_g) default).C).Regs (Int.toNat (Int.tmod v9.N (4:Int))) default) (64:Int)) (8:Int)))<((List.length v6:Nat):Int)) (grd ((0:Int)<=(List.getD v6 (Int.toNat (w64 (Int.tdiv (Int.tmod (List.getD ((List.getD z0 (Int.toNat x_g) default).C).Regs (Int.toNat (Int.tmod v9.N (4:Int))) default) (64:Int)) (8:Int)))) default).Page/\(List.getD v6 (Int.toNat (w64 (Int.tdiv (Int.tmod (List.getD ((List.getD z0 (Int.toNat x_g) default).C).Regs (Int.toNat (Int.tmod v9.N (4:Int))) default) (64:Int)) (8:Int)))) default).Page<((List.length (List.getD z0 (Int.toNat x_g) default).Pages:Nat):Int)) (grd ((0:Int)<=x_g/\x_g<((List.length v3.1.Guests:Nat):Int)) (grd ((Int.toNat x_g)=(Int.toNat x_g)) (some ((DHost.mk (List.set v3.1.Words (Int.toNat v11.1) (List.getD ((List.getD z0 (Int.toNat x_g) default).C).Regs (Int.toNat v9.A) default)) (let z3:=List.set (List.getD z0 (Int.toNat x_g) default).Pages (Int.toNat (List.getD v6 (Int.toNat (w64 (Int.tdiv (Int.tmod (List.getD ((List.getD z0 (Int.toNat x_g) default).C).Regs (Int.toNat (Int.tmod v9.N (4:Int))) default) (64:Int)) (8:Int)))) default).Page) (DSlot.mk (List.getD (List.getD z0 (Int.toNat x_g) default).Pages (Int.toNat (List.getD v6 (Int.toNat (w64 (Int.tdiv (Int.tmod (List.getD ((List.getD z0 (Int.toNat x_g) default).C).Regs (Int.toNat (Int.tmod v9.N (4:Int))) default) (64:Int)) (8:Int)))) default).Page) default).Frame (List.getD (List.getD z0 (Int.toNat x_g) default).Pages (Int.toNat (List.getD v6 (Int.toNat (w64 (Int.tdiv (Int.tmod (List.getD ((List.getD z0 (Int.toNat x_g) default).C).Regs (Int.toNat (Int.tmod v9.N (4:Int))) default) (64:Int)) (8:Int)))) default).Page) default).Write true);let z4:=List.set z0 (Int.toNat x_g) (DGuest.mk (List.getD z0 (Int.toNat x_g) default).Live (DCore.mk ((List.getD z0 (Int.toNat x_g) default).C).Regs ((List.getD z0 (Int.toNat x_g) default).C).Pc ((List.getD z0 (Int.toNat x_g) default).C).Root ((List.getD z0 (Int.toNat x_g) default).C).Vector ((List.getD z0 (Int.toNat x_g) default).C).Saved ((List.getD z0 (Int.toNat x_g) default).C).SavedUser ((List.getD z0 (Int.toNat x_g) default).C).Cause ((List.getD z0 (Int.toNat x_g) default).C).Bad ((List.getD z0 (Int.toNat x_g) default).C).Timer ((List.getD z0 (Int.toNat x_g) default).C).Waits ((List.getD z0 (Int.toNat x_g) default).C).User ((List.getD z0 (Int.toNat x_g) default).C).On ((List.getD z0 (Int.toNat x_g) default).C).Stopped) z3 (List.getD z0 (Int.toNat x_g) default).In (List.getD z0 (Int.toNat x_g) default).Out);List.set z4 (Int.toNat x_g) (DGuest.mk (List.getD z4 (Int.toNat x_g) default).Live (DCore.mk ((List.getD z4 (Int.toNat x_g) default).C).Regs (Int.tmod (w64 (v5.1.Pc+(1:Int))) (64:Int)) v5.1.Root v5.1.Vector v5.1.Saved v5.1.SavedUser v5.1.Cause v5.1.Bad v5.1.Timer v5.1.Waits v5.1.User v5.1.On v5.1.Stopped) (List.getD z4 (Int.toNat x_g) default).Pages (List.getD z4 (Int.toNat x_g) default).In (List.getD z4 (Int.toNat x_g) default).Out))),true)))))))))))
noncomputable def nY (x_h:DHost)(x_g:Int):Option (DHost×Bool):=
 Option.bind (cY x_h x_g) λv1=>
 cond (!v1)
  (some ((DHost.mk ([]:List Int) ([]:List DGuest)),false))
  (Option.bind (cU x_h) λv2=>
  Option.bind (jO v2 x_g) λv3=>
  cond (!v3.2)
   (Option.bind (cU x_h) λv4=>
   some (v4,false))
   (grd ((0:Int)<=x_g/\x_g<((List.length v3.1.Guests:Nat):Int)) (cond ((List.getD v3.1.Guests (Int.toNat x_g) default).C).Stopped
    (some (v3.1,true))
    (Option.bind (iF (DCore.mk ((List.getD v3.1.Guests (Int.toNat x_g) default).C).Regs ((List.getD v3.1.Guests (Int.toNat x_g) default).C).Pc ((List.getD v3.1.Guests (Int.toNat x_g) default).C).Root ((List.getD v3.1.Guests (Int.toNat x_g) default).C).Vector ((List.getD v3.1.Guests (Int.toNat x_g) default).C).Saved ((List.getD v3.1.Guests (Int.toNat x_g) default).C).SavedUser ((List.getD v3.1.Guests (Int.toNat x_g) default).C).Cause ((List.getD v3.1.Guests (Int.toNat x_g) default).C).Bad ((List.getD v3.1.Guests (Int.toNat x_g) default).C).Timer ((List.getD v3.1.Guests (Int.toNat x_g) default).C).Waits ((List.getD v3.1.Guests (Int.toNat x_g) default).C).User ((List.getD v3.1.Guests (Int.toNat x_g) default).C).On ((List.getD v3.1.Guests (Int.toNat x_g) default).C).Stopped)) λv5=>
    grd ((0:Int)<=x_g/\x_g<((List.length v3.1.Guests:Nat):Int)) (grd ((Int.toNat x_g)=(Int.toNat x_g)) (let z0:=List.set v3.1.Guests (Int.toNat x_g) (DGuest.mk (List.getD v3.1.Guests (Int.toNat x_g) default).Live v5.1 (List.getD v3.1.Guests (Int.toNat x_g) default).Pages (List.getD v3.1.Guests (Int.toNat x_g) default).In (List.getD v3.1.Guests (Int.toNat x_g) default).Out);cond v5.2
     (some ((DHost.mk v3.1.Words z0),true))
     (Option.bind (iC (DHost.mk v3.1.Words z0) x_g) λv6=>
     Option.bind (cS v6 v5.1.Pc v5.1.User false) λv7=>
     cond (decide (v7.1<(0:Int)))
      (Option.bind (iL (DCore.mk ((List.getD z0 (Int.toNat x_g) default).C).Regs v5.1.Pc v5.1.Root v5.1.Vector v5.1.Saved v5.1.SavedUser v5.1.Cause v5.1.Bad v5.1.Timer v5.1.Waits v5.1.User v5.1.On v5.1.Stopped) v5.1.Pc (2:Int) v5.1.Pc) λv8=>
      grd ((0:Int)<=x_g/\x_g<((List.length v3.1.Guests:Nat):Int)) (grd ((Int.toNat x_g)=(Int.toNat x_g)) (some ((DHost.mk v3.1.Words (List.set z0 (Int.toNat x_g) (DGuest.mk (List.getD z0 (Int.toNat x_g) default).Live v8 (List.getD z0 (Int.toNat x_g) default).Pages (List.getD z0 (Int.toNat x_g) default).In (List.getD z0 (Int.toNat x_g) default).Out))),true))))
      (grd ((0:Int)<=v7.1/\v7.1<((List.length v3.1.Words:Nat):Int)) (Option.bind (lZ (List.getD v3.1.Words (Int.toNat v7.1) default)) λv9=>
       Option.bind (Option.bind (cO v9) λv13=>
        cond v13
         (cond v5.1.User
          (Option.bind (iL (DCore.mk ((List.getD z0 (Int.toNat x_g) default).C).Regs v5.1.Pc v5.1.Root v5.1.Vector v5.1.Saved v5.1.SavedUser v5.1.Cause v5.1.Bad v5.1.Timer v5.1.Waits v5.1.User v5.1.On v5.1.Stopped) v5.1.Pc (3:Int) (0:Int)) λv14=>
          grd ((0:Int)<=x_g/\x_g<((List.length v3.1.Guests:Nat):Int)) (grd ((Int.toNat x_g)=(Int.toNat x_g)) (some (.out ((DHost.mk v3.1.Words (List.set z0 (Int.toNat x_g) (DGuest.mk (List.getD z0 (Int.toNat x_g) default).Live v14 (List.getD z0 (Int.toNat x_g) default).Pages (List.getD z0 (Int.toNat x_g) default).In (List.getD z0 (Int.toNat x_g) default).Out))),true)))))
          (Option.bind (cO v9) λv15=>
          cond v15
           (Option.bind (fF (DHost.mk v3.1.Words z0) x_g v9) λv16=>
           some (.out (v16.1,v16.2)))
           (cond (!decide (v9.Op=(3:Int)))
            (cond (!decide (v9.Op=(4:Int)))
             (Option.bind (jL (DCore.mk ((List.getD z0 (Int.toNat x_g) default).C).Regs v5.1.Pc v5.1.Root v5.1.Vector v5.1.Saved v5.1.SavedUser v5.1.Cause v5.1.Bad v5.1.Timer v5.1.Waits v5.1.User v5.1.On v5.1.Stopped) v9) λv17=>
             grd ((0:Int)<=x_g/\x_g<((List.length v3.1.Guests:Nat):Int)) (grd ((Int.toNat x_g)=(Int.toNat x_g)) (some (.out ((DHost.mk v3.1.Words (List.set z0 (Int.toNat x_g) (DGuest.mk (List.getD z0 (Int.toNat x_g) default).Live v17 (List.getD z0 (Int.toNat x_g) default).Pages (List.getD z0 (Int.toNat x_g) default).In (List.getD z0 (Int.toNat x_g) default).Out))),true)))))
             (some (.go ())))
            (some (.go ())))))
         (Option.bind (cO v9) λv18=>
         cond v18
          (Option.bind (fF (DHost.mk v3.1.Words z0) x_g v9) λv19=>
          some (.out (v19.1,v19.2)))
          (cond (!decide (v9.Op=(3:Int)))
           (cond (!decide (v9.Op=(4:Int)))
            (Option.bind (jL (DCore.mk ((List.getD z0 (Int.toNat x_g) default).C).Regs v5.1.Pc v5.1.Root v5.1.Vector v5.1.Saved v5.1.SavedUser v5.1.Cause v5.1.Bad v5.1.Timer v5.1.Waits v5.1.User v5.1.On v5.1.Stopped) v9) λv20=>
            grd ((0:Int)<=x_g/\x_g<((List.length v3.1.Guests:Nat):Int)) (grd ((Int.toNat x_g)=(Int.toNat x_g)) (some (.out ((DHost.mk v3.1.Words (List.set z0 (Int.toNat x_g) (DGuest.mk (List.getD z0 (Int.toNat x_g) default).Live v20 (List.getD z0 (Int.toNat x_g) default).Pages (List.getD z0 (Int.toNat x_g) default).In (List.getD z0 (Int.toNat x_g) default).Out))),true)))))
            (some (.go ())))
           (some (.go ()))))) λj10=>
        JO.run j10 (nT x_g v3 v5 v6 v9))))))))))
noncomputable def g50:Sg tG:=⟨[.st 26,.i .i64],.two (.st 2026) .b,nY⟩
theorem s50:Sok 50 g50:=sgx [(102,.r aEm),(103,.r aGw),(104,.w bYu),(105,.w bQi),(106,.r bRb),(107,.r bOa),(108,.w bHp),(109,.r bNv),(110,.r bIk),(111,.r bZa),(112,.w bXq)] ⟨aHo,aNl,cAw,bVo,bZp,bZo,bPm,bZz,bQw,cBl,cBv,trivial⟩ (.s .o (.s .o (.s .o (.s .o (.s .o (.s .o (.s (.g [.uf (.c 8 1) 0 1] [] []) (.s (.g [] [] [.fo (.c 6 1) 0]) (.s .o (.s .o (.s .o (.s (.s .o (.c (.s (.g [.uf (.c 9 0) 0 1] [13] [.fo (.c 6 1) 0]) .o) .o)) (.s .o (.j ⟨[1,4,6,9,11,14],[],[]⟩ (.k (.s .o (.c (.s (.g [.uf (.c 9 0) 0 1] [14] [.fo (.c 6 1) 0]) .o) (.s .o (.c .o (.s .o (.c (.s (.g [.uf (.c 9 0) 0 1] [14] [.fo (.c 6 1) 0]) .o) .o))))))) (.s .o (.s .o (.s (.s .o (.c (.s (.g [.uf (.c 9 0) 0 1] [14] [.fo (.c 6 1) 0]) .o) .o)) (.s .o (.s .o (.s (.g [.uf (.c 9 0) 0 1] [] [.fo (.c 6 1) 0]) .o)))))))))))))))))))) kr kr kr
noncomputable def aRk (x_b:DBare):Option DBare:=
 Option.bind (aFv x_b) λv1=>
 cond (!v1)
  (some (DBare.mk (DCore.mk ([]:List Int) (0:Int) (0:Int) (0:Int) (0:Int) false (0:Int) (0:Int) (0:Int) false false false false) ([]:List Int) ([]:List Int) ([]:List Int)))
  (Option.bind (aCg x_b) λv2=>
  Option.bind (fV v2) λv3=>
  some v3)
noncomputable def g14:Sg tG:=⟨[.st 41],.one (.st 41),aRk⟩
theorem s14:Sok 14 g14:=sgx [(59,.r g59),(60,.r g60),(57,.r g57)] ⟨s59,s60,s57,trivial⟩ .o kr kr kr
noncomputable def aGo  (s1:Unit):Option Bool:=some true
noncomputable def kD (x_a:List Int)(x_b:List Int)(s2:Int):Option (LO Int (JO Unit Bool)):=
 cond (decide (s2<((List.length x_a:Nat):Int)))
  (grd ((0:Int)<=s2/\s2<((List.length x_a:Nat):Int)) (grd ((0:Int)<=s2/\s2<((List.length x_b:Nat):Int)) (cond (!decide ((List.getD x_a (Int.toNat s2) default)=(List.getD x_b (Int.toNat s2) default)))
   (some (.ret (.out false)))
   (some (.next (w64 (s2+(1:Int))))))))
  (some (.ret (.go ())))
noncomputable def mU (x_a:List Int)(x_b:List Int):Option Bool:=
 Option.bind (Option.bind (iter (kD x_a x_b) (0:Int)) LO.val) λj1=>
  JO.run j1 aGo
noncomputable def bXt:Sg tG:=⟨[.row 3,.row 3],.one .b,mU⟩
theorem cBy:Sok 129 bXt:=sgx [] trivial (.s .o (.j ⟨[],[],[]⟩ (.s .o (.k (.l ⟨[1,7,8],[],[(.s 9,.i .i64)]⟩ .o))) .o)) kr kr kr
noncomputable def aKo  (s1:List Int):Option (List Int):=some s1
noncomputable def jA (x_h:DHost)(x_g:Int)(x_page:Int)(s2:(List Int)×Int):Option (LO ((List Int)×Int) (JO (List Int) (List Int))):=
 cond (decide (s2.2<(8:Int)))
  (Option.bind (nE x_h x_g (w64 ((w64 (x_page*(8:Int)))+s2.2))) λv3=>
  grd ((List.length s2.1+List.length ([v3]:List Int))*8<=2^47/\List.length s2.1+List.length ([v3]:List Int)<=2^47) (some (.next ((s2.1++([v3]:List Int)),w64 (s2.2+(1:Int))))))
  (some (.ret (.go s2.1)))
noncomputable def jK (x_h:DHost)(x_g:Int)(x_page:Int):Option (List Int):=
 Option.bind (Option.bind (iter (jA x_h x_g x_page) (([]:List Int),(0:Int))) LO.val) λj1=>
  JO.run j1 aKo
noncomputable def g52:Sg tG:=⟨[.st 26,.i .i64,.i .i64],.one (.row 3),jK⟩
theorem s52:Sok 52 g52:=sgx [(113,.r bQm)] ⟨bXx,trivial⟩ (.s .o (.s .o (.j ⟨[],[],[(.s 7,.ro 3)]⟩ (.s .o (.k (.l ⟨[1,2,3],[],[(.s 7,.ro 3),(.s 8,.i .i64)]⟩ .o))) .o))) kr kr kr
noncomputable def rD (x_m:DMove)(x_page:Int):Option Bool:=
 grd ((0:Int)<=x_m.G/\x_m.G<((List.length x_m.From.Guests:Nat):Int)) (grd ((0:Int)<=x_page/\x_page<((List.length (List.getD x_m.From.Guests (Int.toNat x_m.G) default).Pages:Nat):Int)) (grd ((0:Int)<=x_m.N/\x_m.N<((List.length x_m.To.Guests:Nat):Int)) (grd ((0:Int)<=x_page/\x_page<((List.length (List.getD x_m.To.Guests (Int.toNat x_m.N) default).Pages:Nat):Int)) (Option.bind (cN x_m.From.Words (DSlot.mk (List.getD (List.getD x_m.From.Guests (Int.toNat x_m.G) default).Pages (Int.toNat x_page) default).Frame (List.getD (List.getD x_m.From.Guests (Int.toNat x_m.G) default).Pages (Int.toNat x_page) default).Write (List.getD (List.getD x_m.From.Guests (Int.toNat x_m.G) default).Pages (Int.toNat x_page) default).Dirty)) λv1=>
  Option.bind (cN x_m.To.Words (DSlot.mk (List.getD (List.getD x_m.To.Guests (Int.toNat x_m.N) default).Pages (Int.toNat x_page) default).Frame (List.getD (List.getD x_m.To.Guests (Int.toNat x_m.N) default).Pages (Int.toNat x_page) default).Write (List.getD (List.getD x_m.To.Guests (Int.toNat x_m.N) default).Pages (Int.toNat x_page) default).Dirty)) λv2=>
  Option.bind (mU v1 v2) λv3=>
  some v3))))
noncomputable def g61:Sg tG:=⟨[.st 29,.i .i64],.one .b,rD⟩
theorem s61:Sok 61 g61:=sgx [(100,.r bFn),(129,.r bXt)] ⟨bHd,cBy,trivial⟩ .o kr kr kr
noncomputable def aMi  (s3:Unit):Option Bool:=some true
noncomputable def rX (s4:Int)(s5:Unit):Option (LO Int (JO Unit Bool)):=some (.next (w64 (s4+(1:Int))))
noncomputable def mO (x_m:DMove)(s4:Int):Option (LO Int (JO Unit Bool)):=
 cond (decide (s4<((List.length (List.getD x_m.From.Guests (Int.toNat x_m.G) default).Pages:Nat):Int)))
  (Option.bind (grd ((0:Int)<=s4/\s4<((List.length (List.getD x_m.From.Guests (Int.toNat x_m.G) default).Pages:Nat):Int)) (cond (List.getD (List.getD x_m.From.Guests (Int.toNat x_m.G) default).Pages (Int.toNat s4) default).Dirty
   (some (.out (.ret (.out false))))
   (grd ((0:Int)<=s4/\s4<((List.length x_m.Left:Nat):Int)) (cond (!(List.getD x_m.Left (Int.toNat s4) default))
    (Option.bind (rD x_m s4) λv6=>
    cond (!v6)
     (some (.out (.ret (.out false))))
     (some (.go ())))
    (some (.go ())))))) λj5=>
   JO.run j5 (rX s4))
  (some (.ret (.go ())))
noncomputable def nD (x_m:DMove):Option Bool:=
 Option.bind (cM x_m.From x_m.G) λv1=>
 cond (!v1)
  (some false)
  (Option.bind (cM x_m.To x_m.N) λv2=>
  cond (!v2)
   (some false)
   (cond (!decide (((List.length x_m.Left:Nat):Int)=(8:Int)))
    (some false)
    (Option.bind (grd ((0:Int)<=x_m.G/\x_m.G<((List.length x_m.From.Guests:Nat):Int)) (Option.bind (iter (mO x_m) (0:Int)) LO.val)) λj3=>
     JO.run j3 aMi)))
noncomputable def g15:Sg tG:=⟨[.st 29],.one .b,nD⟩
theorem s15:Sok 15 g15:=sgx [(56,.r g56),(61,.r g61)] ⟨s56,s61,trivial⟩ (.s .o (.s .o (.j ⟨[],[],[]⟩ (.s .o (.k (.l ⟨[1,32,33],[],[(.s 34,.i .i64)]⟩ (.s .o (.s .o (.j ⟨[1,32,33,34],[],[]⟩ .o .o)))))) .o))) kr kr kr
noncomputable def aMd  (s3:Unit):Option Bool:=some true
noncomputable def zA (s4:Int)(s5:Unit):Option (LO Int (JO Unit Bool)):=some (.next (w64 (s4+(1:Int))))
noncomputable def gJ (x_m:DMove)(s4:Int)(v6:List Int)(v7:List Int)(s8:Int):Option (LO Int (JO Unit (LO Int (JO Unit Bool)))):=
 cond (decide (s8<(8:Int)))
  (grd ((0:Int)<=s4/\s4<((List.length x_m.Left:Nat):Int)) (cond (!(List.getD x_m.Left (Int.toNat s4) default))
   (grd ((0:Int)<=s8/\s8<((List.length v6:Nat):Int)) (grd ((0:Int)<=s8/\s8<((List.length v7:Nat):Int)) (cond (!decide ((List.getD v6 (Int.toNat s8) default)=(List.getD v7 (Int.toNat s8) default)))
    (some (.ret (.out (.ret (.out false)))))
    (some (.next (w64 (s8+(1:Int))))))))
   (some (.ret (.go ())))))
  (some (.ret (.go ())))
noncomputable def mT (x_m:DMove)(s4:Int):Option (LO Int (JO Unit Bool)):=
 cond (decide (s4<(8:Int)))
  (Option.bind (grd ((0:Int)<=x_m.G/\x_m.G<((List.length x_m.From.Guests:Nat):Int)) (grd ((0:Int)<=s4/\s4<((List.length (List.getD x_m.From.Guests (Int.toNat x_m.G) default).Pages:Nat):Int)) (cond (List.getD (List.getD x_m.From.Guests (Int.toNat x_m.G) default).Pages (Int.toNat s4) default).Dirty
   (some (.out (.ret (.out false))))
   (Option.bind (jK x_m.From x_m.G s4) λv6=>
   Option.bind (jK x_m.To x_m.N s4) λv7=>
   Option.bind (iter (gJ x_m s4 v6 v7) (0:Int)) LO.val)))) λj5=>
   JO.run j5 (zA s4))
  (some (.ret (.go ())))
noncomputable def nG (x_m:DMove):Option Bool:=
 Option.bind (cY x_m.From x_m.G) λv1=>
 cond (!v1)
  (some false)
  (Option.bind (cY x_m.To x_m.N) λv2=>
  cond (!v2)
   (some false)
   (cond (!decide (((List.length x_m.Left:Nat):Int)=(8:Int)))
    (some false)
    (Option.bind (Option.bind (iter (mT x_m) (0:Int)) LO.val) λj3=>
     JO.run j3 aMd)))
noncomputable def g48:Sg tG:=⟨[.st 29],.one .b,nG⟩
theorem s48:Sok 48 g48:=sgx [(102,.r aEm),(52,.r g52)] ⟨aHo,s52,trivial⟩ (.s .o (.s .o (.j ⟨[],[],[]⟩ (.s .o (.k (.l ⟨[1],[],[(.s 3,.i .i64)]⟩ (.s .o (.j ⟨[1,3],[],[]⟩ (.k (.s .o (.s .o (.s .o (.k (.l ⟨[1,3,4,5],[],[(.s 6,.i .i64)]⟩ .o)))))) .o))))) .o))) kr kr kr
noncomputable def qB (x_m:DMove):Option DMove:=
 grd ((0:Int)<=((List.length x_m.Left:Nat):Int)/\((List.length x_m.Left:Nat):Int)*1<=2^47/\((List.length x_m.Left:Nat):Int)<=2^47) (Option.bind (cA x_m.From) λv1=>
  Option.bind (cA x_m.To) λv2=>
  some (DMove.mk v1 v2 x_m.G x_m.N (over (List.replicate (Int.toNat ((List.length x_m.Left:Nat):Int)) false) 0 (List.length (List.replicate (Int.toNat ((List.length x_m.Left:Nat):Int)) false)) x_m.Left)))
noncomputable def g97:Sg tG:=⟨[.st 29],.one (.st 2029),qB⟩
theorem s97:Sok 97 g97:=sgx [(131,.r aMb)] ⟨aMn,trivial⟩ .o kr kr kr
noncomputable def gS (x_m:DMove):Option DMove:=
 Option.bind (cU x_m.From) λv1=>
 Option.bind (cU x_m.To) λv2=>
 grd (List.length x_m.Left*1<=2^47/\List.length x_m.Left<=2^47) (some (DMove.mk v1 v2 x_m.G x_m.N x_m.Left))
noncomputable def g49:Sg tG:=⟨[.st 29],.one (.st 2029),gS⟩
theorem s49:Sok 49 g49:=sgx [(103,.r aGw)] ⟨aNl,trivial⟩ .o kr kr kr
noncomputable def uF (x_g:Int)(s3:Int)(v4:DHost)(v5:DHost)(v6:DGuest)(s7:(List DGuest)×(List Bool)×(List DSlot)):Option (DMove×Bool):=grd ((0:Int)<=s3/\s3<((List.length v5.Guests:Nat):Int)) (some ((DMove.mk (DHost.mk v4.Words s7.1) (DHost.mk v5.Words (List.set v5.Guests (Int.toNat s3) (DGuest.mk v6.Live v6.C s7.2.2 v6.In v6.Out))) x_g s3 s7.2.1),true))
noncomputable def gC (x_g:Int)(s8:(List DGuest)×(List Bool)×(List DSlot)×Int):Option (LO ((List DGuest)×(List Bool)×(List DSlot)×Int) (JO ((List DGuest)×(List Bool)×(List DSlot)) (DMove×Bool))):=
 cond (decide (s8.2.2.2<(8:Int)))
  (grd ((0:Int)<=x_g/\x_g<((List.length s8.1:Nat):Int)) (grd ((0:Int)<=s8.2.2.2/\s8.2.2.2<((List.length (List.getD s8.1 (Int.toNat x_g) default).Pages:Nat):Int)) (grd ((0:Int)<=s8.2.2.2/\s8.2.2.2<((List.length s8.2.2.1:Nat):Int)) (grd ((List.length s8.2.1+List.length ([true]:List Bool))*1<=2^47/\List.length s8.2.1+List.length ([true]:List Bool)<=2^47) (some (.next ((List.set s8.1 (Int.toNat x_g) (DGuest.mk (List.getD s8.1 (Int.toNat x_g) default).Live (DCore.mk ((List.getD s8.1 (Int.toNat x_g) default).C).Regs ((List.getD s8.1 (Int.toNat x_g) default).C).Pc ((List.getD s8.1 (Int.toNat x_g) default).C).Root ((List.getD s8.1 (Int.toNat x_g) default).C).Vector ((List.getD s8.1 (Int.toNat x_g) default).C).Saved ((List.getD s8.1 (Int.toNat x_g) default).C).SavedUser ((List.getD s8.1 (Int.toNat x_g) default).C).Cause ((List.getD s8.1 (Int.toNat x_g) default).C).Bad ((List.getD s8.1 (Int.toNat x_g) default).C).Timer ((List.getD s8.1 (Int.toNat x_g) default).C).Waits ((List.getD s8.1 (Int.toNat x_g) default).C).User ((List.getD s8.1 (Int.toNat x_g) default).C).On ((List.getD s8.1 (Int.toNat x_g) default).C).Stopped) (List.set (List.getD s8.1 (Int.toNat x_g) default).Pages (Int.toNat s8.2.2.2) (DSlot.mk (List.getD (List.getD s8.1 (Int.toNat x_g) default).Pages (Int.toNat s8.2.2.2) default).Frame (List.getD (List.getD s8.1 (Int.toNat x_g) default).Pages (Int.toNat s8.2.2.2) default).Write false)) (List.getD s8.1 (Int.toNat x_g) default).In (List.getD s8.1 (Int.toNat x_g) default).Out)),s8.2.1++([true]:List Bool),List.set s8.2.2.1 (Int.toNat s8.2.2.2) (DSlot.mk (-1:Int) false false),w64 (s8.2.2.2+(1:Int)))))))))
  (some (.ret (.go (s8.1,s8.2.1,s8.2.2.1))))
noncomputable def uD (x_from:DHost)(x_to:DHost)(x_g:Int)(s3:Int):Option (DMove×Bool):=
 cond (decide (s3<(0:Int)))
  (some ((DMove.mk (DHost.mk ([]:List Int) ([]:List DGuest)) (DHost.mk ([]:List Int) ([]:List DGuest)) (0:Int) (0:Int) ([]:List Bool)),false))
  (Option.bind (cU x_from) λv4=>
  Option.bind (cU x_to) λv5=>
  grd ((0:Int)<=x_g/\x_g<((List.length x_from.Guests:Nat):Int)) (Option.bind (eL (DGuest.mk (List.getD x_from.Guests (Int.toNat x_g) default).Live (DCore.mk ((List.getD x_from.Guests (Int.toNat x_g) default).C).Regs ((List.getD x_from.Guests (Int.toNat x_g) default).C).Pc ((List.getD x_from.Guests (Int.toNat x_g) default).C).Root ((List.getD x_from.Guests (Int.toNat x_g) default).C).Vector ((List.getD x_from.Guests (Int.toNat x_g) default).C).Saved ((List.getD x_from.Guests (Int.toNat x_g) default).C).SavedUser ((List.getD x_from.Guests (Int.toNat x_g) default).C).Cause ((List.getD x_from.Guests (Int.toNat x_g) default).C).Bad ((List.getD x_from.Guests (Int.toNat x_g) default).C).Timer ((List.getD x_from.Guests (Int.toNat x_g) default).C).Waits ((List.getD x_from.Guests (Int.toNat x_g) default).C).User ((List.getD x_from.Guests (Int.toNat x_g) default).C).On ((List.getD x_from.Guests (Int.toNat x_g) default).C).Stopped) (List.getD x_from.Guests (Int.toNat x_g) default).Pages (List.getD x_from.Guests (Int.toNat x_g) default).In (List.getD x_from.Guests (Int.toNat x_g) default).Out)) λv6=>
   Option.bind (Option.bind (iter (gC x_g) (v4.Guests,([]:List Bool),v6.Pages,(0:Int))) LO.val) λj7=>
    JO.run j7 (uF x_g s3 v4 v5 v6)))
noncomputable def tI (s9:Int×Int)(s10:Int):Option (LO (Int×Int) (JO Int (DMove×Bool))):=some (.next (s10,w64 (s9.2-(1:Int))))
noncomputable def eS (x_to:DHost)(s9:Int×Int):Option (LO (Int×Int) (JO Int (DMove×Bool))):=
 cond (decide ((0:Int)<=s9.2))
  (Option.bind (grd ((0:Int)<=s9.2/\s9.2<((List.length x_to.Guests:Nat):Int)) (cond (!(List.getD x_to.Guests (Int.toNat s9.2) default).Live)
   (some (.go s9.2))
   (some (.go s9.1)))) λj10=>
   JO.run j10 (tI s9))
  (some (.ret (.go s9.1)))
noncomputable def mK (x_from:DHost)(x_to:DHost)(x_g:Int):Option (DMove×Bool):=
 Option.bind (cY x_from x_g) λv1=>
 cond (!v1)
  (some ((DMove.mk (DHost.mk ([]:List Int) ([]:List DGuest)) (DHost.mk ([]:List Int) ([]:List DGuest)) (0:Int) (0:Int) ([]:List Bool)),false))
  (Option.bind (iO x_to) λv2=>
  cond (!v2)
   (some ((DMove.mk (DHost.mk ([]:List Int) ([]:List DGuest)) (DHost.mk ([]:List Int) ([]:List DGuest)) (0:Int) (0:Int) ([]:List Bool)),false))
   (Option.bind (Option.bind (iter (eS x_to) ((-1:Int),(2:Int))) LO.val) λj3=>
    JO.run j3 (uD x_from x_to x_g)))
noncomputable def g79:Sg tG:=⟨[.st 26,.st 26,.i .i64],.two (.st 2029) .b,mK⟩
theorem s79:Sok 79 g79:=sgx [(102,.r aEm),(142,.r aYz),(103,.r aGw),(69,.r g69)] ⟨aHo,bGu,aNl,s69,trivial⟩ (.s .o (.s .o (.s .o (.j ⟨[2,3,4,6],[],[(.s 8,.i .i64)]⟩ (.s .o (.k (.l ⟨[2,3,4,6],[],[(.s 8,.i .i64),(.s 9,.i .i64)]⟩ (.s .o (.j ⟨[2,3,4,6,9],[],[(.s 8,.i .i64)]⟩ .o .o))))) (.s .o (.s .o (.s .o (.j ⟨[6,8,10,11],[],[(.c 10 1,.ro 1094),(.c 10 6,.ro 4),(.c 11 14,.ro 91)]⟩ (.s .o (.k (.l ⟨[2,6,8,10,11],[],[(.c 10 1,.ro 1094),(.c 10 6,.ro 4),(.c 11 14,.ro 91),(.s 12,.i .i64)]⟩ .o))) (.s (.g [] [] [.fo (.c 10 3) 0]) .o))))))))) kr kr kr
noncomputable def aKx  (s1:List DAct):Option (List DAct):=some s1
noncomputable def qI (s2:(List DAct)×Int)(s3:List DAct):Option (LO ((List DAct)×Int) (JO (List DAct) (List DAct))):=some (.next (s3,w64 (s2.2+(1:Int))))
noncomputable def iZ (x_left:List Bool)(s2:(List DAct)×Int):Option (LO ((List DAct)×Int) (JO (List DAct) (List DAct))):=
 cond (decide (s2.2<((List.length x_left:Nat):Int)))
  (Option.bind (grd ((0:Int)<=s2.2/\s2.2<((List.length x_left:Nat):Int)) (cond (List.getD x_left (Int.toNat s2.2) default)
   (grd ((List.length s2.1+List.length ([DAct.mk (2:Int) s2.2]:List DAct))*16<=2^47/\List.length s2.1+List.length ([DAct.mk (2:Int) s2.2]:List DAct)<=2^47) (some (.go (s2.1++([DAct.mk (2:Int) s2.2]:List DAct)))))
   (some (.go s2.1)))) λj3=>
   JO.run j3 (qI s2))
  (some (.ret (.go s2.1)))
noncomputable def pR (x_left:List Bool):Option (List DAct):=
 Option.bind (Option.bind (iter (iZ x_left) (([]:List DAct),(0:Int))) LO.val) λj1=>
  JO.run j1 aKx
noncomputable def g65:Sg tG:=⟨[.row 4],.one (.row 31),pR⟩
theorem s65:Sok 65 g65:=sgx [] trivial (.s .o (.s .o (.j ⟨[],[],[(.s 3,.ro 31)]⟩ (.s .o (.k (.l ⟨[7,8],[],[(.s 3,.ro 31),(.s 9,.i .i64)]⟩ (.s .o (.s .o (.j ⟨[7,8,9],[],[(.s 3,.ro 31)]⟩ .o .o)))))) .o))) kr kr kr
noncomputable def pJ (x_m:DMove):Option (DHost×DHost×Bool):=
 Option.bind (nD x_m) λv1=>
 cond (!v1)
  (some ((DHost.mk ([]:List Int) ([]:List DGuest)),DHost.mk ([]:List Int) ([]:List DGuest),false))
  (Option.bind (pR x_m.Left) λv2=>
  cond (decide ((0:Int)<((List.length v2:Nat):Int)))
   (some ((DHost.mk ([]:List Int) ([]:List DGuest)),DHost.mk ([]:List Int) ([]:List DGuest),false))
   (Option.bind (iE x_m.From x_m.G) λv3=>
   Option.bind (jV x_m.From x_m.G) λv4=>
   Option.bind (cB x_m.To x_m.N v4) λv5=>
   some (v3.1,v5,true)))
noncomputable def g19:Sg tG:=⟨[.st 29],.three (.st 2026) (.st 2026) .b,pJ⟩
theorem s19:Sok 19 g19:=sgx [(15,.r g15),(65,.r g65),(66,.r g66),(68,.r g68),(67,.r g67)] ⟨s15,s65,s66,s68,s67,trivial⟩ .o kr kr kr
noncomputable def xO (x_m:DMove)(s2:Unit):Option (DHost×DHost×Bool):=
 Option.bind (gS x_m) λv3=>
 grd ((0:Int)<=x_m.G/\x_m.G<((List.length x_m.From.Guests:Nat):Int)) (Option.bind (eL (DGuest.mk (List.getD x_m.From.Guests (Int.toNat x_m.G) default).Live (DCore.mk ((List.getD x_m.From.Guests (Int.toNat x_m.G) default).C).Regs ((List.getD x_m.From.Guests (Int.toNat x_m.G) default).C).Pc ((List.getD x_m.From.Guests (Int.toNat x_m.G) default).C).Root ((List.getD x_m.From.Guests (Int.toNat x_m.G) default).C).Vector ((List.getD x_m.From.Guests (Int.toNat x_m.G) default).C).Saved ((List.getD x_m.From.Guests (Int.toNat x_m.G) default).C).SavedUser ((List.getD x_m.From.Guests (Int.toNat x_m.G) default).C).Cause ((List.getD x_m.From.Guests (Int.toNat x_m.G) default).C).Bad ((List.getD x_m.From.Guests (Int.toNat x_m.G) default).C).Timer ((List.getD x_m.From.Guests (Int.toNat x_m.G) default).C).Waits ((List.getD x_m.From.Guests (Int.toNat x_m.G) default).C).User ((List.getD x_m.From.Guests (Int.toNat x_m.G) default).C).On ((List.getD x_m.From.Guests (Int.toNat x_m.G) default).C).Stopped) (List.getD x_m.From.Guests (Int.toNat x_m.G) default).Pages (List.getD x_m.From.Guests (Int.toNat x_m.G) default).In (List.getD x_m.From.Guests (Int.toNat x_m.G) default).Out)) λv4=>
  grd ((0:Int)<=x_m.N/\x_m.N<((List.length x_m.To.Guests:Nat):Int)) (grd ((List.length ([]:List DSlot)+List.length (List.getD x_m.To.Guests (Int.toNat x_m.N) default).Pages)*16<=2^47/\List.length ([]:List DSlot)+List.length (List.getD x_m.To.Guests (Int.toNat x_m.N) default).Pages<=2^47) (grd ((0:Int)<=x_m.N/\x_m.N<((List.length v3.To.Guests:Nat):Int)) (grd ((0:Int)<=x_m.G/\x_m.G<((List.length v3.From.Guests:Nat):Int)) (some ((DHost.mk v3.From.Words (List.set v3.From.Guests (Int.toNat x_m.G) (DGuest.mk false (DCore.mk ([]:List Int) (0:Int) (0:Int) (0:Int) (0:Int) false (0:Int) (0:Int) (0:Int) false false false false) ([]:List DSlot) ([]:List Int) ([]:List Int)))),DHost.mk v3.To.Words (List.set v3.To.Guests (Int.toNat x_m.N) (DGuest.mk v4.Live v4.C (([]:List DSlot)++(List.getD x_m.To.Guests (Int.toNat x_m.N) default).Pages) v4.In v4.Out)),true))))))
noncomputable def lQ (x_m:DMove)(s5:Int):Option (LO Int (JO Unit (DHost×DHost×Bool))):=
 cond (decide (s5<(8:Int)))
  (grd ((0:Int)<=s5/\s5<((List.length x_m.Left:Nat):Int)) (cond (List.getD x_m.Left (Int.toNat s5) default)
   (some (.ret (.out ((DHost.mk ([]:List Int) ([]:List DGuest)),DHost.mk ([]:List Int) ([]:List DGuest),false))))
   (some (.next (w64 (s5+(1:Int)))))))
  (some (.ret (.go ())))
noncomputable def pK (x_m:DMove):Option (DHost×DHost×Bool):=
 Option.bind (nG x_m) λv1=>
 cond (!v1)
  (some ((DHost.mk ([]:List Int) ([]:List DGuest)),DHost.mk ([]:List Int) ([]:List DGuest),false))
  (Option.bind (Option.bind (iter (lQ x_m) (0:Int)) LO.val) λj2=>
   JO.run j2 (xO x_m))
noncomputable def g20:Sg tG:=⟨[.st 29],.three (.st 2026) (.st 2026) .b,pK⟩
theorem s20:Sok 20 g20:=sgx [(48,.r g48),(49,.r g49),(69,.r g69)] ⟨s48,s49,s69,trivial⟩ (.s .o (.s .o (.j ⟨[1,2,3],[],[]⟩ (.s .o (.k (.l ⟨[1,2,3],[],[(.s 5,.i .i64)]⟩ .o))) (.s .o (.s .o (.s .o (.s (.g [] [] [.fo (.c 6 3) 0]) (.s (.g [] [] [.fo (.c 6 1) 0]) (.s (.m [1]) .o))))))))) kr kr kr
noncomputable def aKi  (s1:Unit):Option Bool:=some true
noncomputable def aKv (x_pages:List Int)(s2:Int):Option (LO Int (JO Unit Bool)):=
 cond (decide (s2<((List.length x_pages:Nat):Int)))
  (grd ((0:Int)<=s2/\s2<((List.length x_pages:Nat):Int)) (Option.bind (fB (List.getD x_pages (Int.toNat s2) default)) λv3=>
   cond (!v3)
    (some (.ret (.out false)))
    (some (.next (w64 (s2+(1:Int)))))))
  (some (.ret (.go ())))
noncomputable def aCc (x_pages:List Int):Option Bool:=
 Option.bind (Option.bind (iter (aKv x_pages) (0:Int)) LO.val) λj1=>
  JO.run j1 aKi
noncomputable def bWw:Sg tG:=⟨[.row 3],.one .b,aCc⟩
theorem cBp:Sok 190 bWw:=sgx [(46,.r g46)] ⟨s46,trivial⟩ (.s .o (.j ⟨[],[],[]⟩ (.s .o (.k (.l ⟨[5,6],[],[(.s 7,.i .i64)]⟩ .o))) .o)) kr kr kr
noncomputable def aIt (v3:DHost)(s4:List DGuest):Option (DHost×Bool):=some ((DHost.mk v3.Words s4),true)
noncomputable def aHh (x_g:Int)(x_pages:List Int)(s5:(List DGuest)×Int):Option (LO ((List DGuest)×Int) (JO (List DGuest) (DHost×Bool))):=
 cond (decide (s5.2<((List.length x_pages:Nat):Int)))
  (grd ((0:Int)<=s5.2/\s5.2<((List.length x_pages:Nat):Int)) (grd ((0:Int)<=x_g/\x_g<((List.length s5.1:Nat):Int)) (grd ((0:Int)<=(List.getD x_pages (Int.toNat s5.2) default)/\(List.getD x_pages (Int.toNat s5.2) default)<((List.length (List.getD s5.1 (Int.toNat x_g) default).Pages:Nat):Int)) (some (.next ((List.set s5.1 (Int.toNat x_g) (DGuest.mk (List.getD s5.1 (Int.toNat x_g) default).Live (DCore.mk ((List.getD s5.1 (Int.toNat x_g) default).C).Regs ((List.getD s5.1 (Int.toNat x_g) default).C).Pc ((List.getD s5.1 (Int.toNat x_g) default).C).Root ((List.getD s5.1 (Int.toNat x_g) default).C).Vector ((List.getD s5.1 (Int.toNat x_g) default).C).Saved ((List.getD s5.1 (Int.toNat x_g) default).C).SavedUser ((List.getD s5.1 (Int.toNat x_g) default).C).Cause ((List.getD s5.1 (Int.toNat x_g) default).C).Bad ((List.getD s5.1 (Int.toNat x_g) default).C).Timer ((List.getD s5.1 (Int.toNat x_g) default).C).Waits ((List.getD s5.1 (Int.toNat x_g) default).C).User ((List.getD s5.1 (Int.toNat x_g) default).C).On ((List.getD s5.1 (Int.toNat x_g) default).C).Stopped) (List.set (List.getD s5.1 (Int.toNat x_g) default).Pages (Int.toNat (List.getD x_pages (Int.toNat s5.2) default)) (DSlot.mk (-1:Int) false false)) (List.getD s5.1 (Int.toNat x_g) default).In (List.getD s5.1 (Int.toNat x_g) default).Out)),w64 (s5.2+(1:Int))))))))
  (some (.ret (.go s5.1)))
noncomputable def tH (x_h:DHost)(x_g:Int)(x_pages:List Int):Option (DHost×Bool):=
 Option.bind (cM x_h x_g) λv1=>
 cond (!v1)
  (some ((DHost.mk ([]:List Int) ([]:List DGuest)),false))
  (Option.bind (aCc x_pages) λv2=>
  cond (!v2)
   (some ((DHost.mk ([]:List Int) ([]:List DGuest)),false))
   (Option.bind (cA x_h) λv3=>
   Option.bind (Option.bind (iter (aHh x_g x_pages) (v3.Guests,(0:Int))) LO.val) λj4=>
    JO.run j4 (aIt v3)))
noncomputable def cBf:Sg tG:=⟨[.st 26,.i .i64,.row 3],.two (.st 2026) .b,tH⟩
theorem cCr:Sok 153 cBf:=sgx [(56,.r g56),(190,.r bWw),(131,.r aMb)] ⟨s56,cBp,aMn,trivial⟩ (.s .o (.s .o (.s .o (.j ⟨[6,8],[],[(.c 8 1,.ro 1094)]⟩ (.s .o (.k (.l ⟨[1,6,8,23,24],[],[(.c 8 1,.ro 1094),(.s 25,.i .i64)]⟩ .o))) .o)))) kr kr kr
theorem aNk{x_h:DHost}{x_g:Int}{x_pages:List Int}{R_:DHost×Bool}(hh:tH x_h x_g x_pages=some R_):Fn Tryz.prog 153 [.agg (gW x_h),.int .i64 x_g,bo (eI .i64) x_pages] (.tup [.agg [.own 3 1 (List.length R_.1.Words) (fl (eI .i64) R_.1.Words),.own 94 17 (List.length R_.1.Guests) (fl fD R_.1.Guests)],.bool R_.2]):=kc (cCr x_h x_g x_pages R_ hh)
noncomputable def aDe (x_m:DMove)(v1:DMove)(v2:DHost×Bool)(s3:List Bool):Option (DMove×Bool):=
 grd ((0:Int)<=x_m.G/\x_m.G<((List.length v2.1.Guests:Nat):Int)) (Option.bind (aBb (List.getD v2.1.Guests (Int.toNat x_m.G) default).Pages) λv4=>
  grd ((0:Int)<=x_m.G/\x_m.G<((List.length v2.1.Guests:Nat):Int)) (some ((DMove.mk (DHost.mk v2.1.Words (List.set v2.1.Guests (Int.toNat x_m.G) (DGuest.mk (List.getD v2.1.Guests (Int.toNat x_m.G) default).Live (DCore.mk ((List.getD v2.1.Guests (Int.toNat x_m.G) default).C).Regs ((List.getD v2.1.Guests (Int.toNat x_m.G) default).C).Pc ((List.getD v2.1.Guests (Int.toNat x_m.G) default).C).Root ((List.getD v2.1.Guests (Int.toNat x_m.G) default).C).Vector ((List.getD v2.1.Guests (Int.toNat x_m.G) default).C).Saved ((List.getD v2.1.Guests (Int.toNat x_m.G) default).C).SavedUser ((List.getD v2.1.Guests (Int.toNat x_m.G) default).C).Cause ((List.getD v2.1.Guests (Int.toNat x_m.G) default).C).Bad ((List.getD v2.1.Guests (Int.toNat x_m.G) default).C).Timer ((List.getD v2.1.Guests (Int.toNat x_m.G) default).C).Waits ((List.getD v2.1.Guests (Int.toNat x_m.G) default).C).User ((List.getD v2.1.Guests (Int.toNat x_m.G) default).C).On ((List.getD v2.1.Guests (Int.toNat x_m.G) default).C).Stopped) v4 (List.getD v2.1.Guests (Int.toNat x_m.G) default).In (List.getD v2.1.Guests (Int.toNat x_m.G) default).Out))) v1.To v1.G v1.N s3),true)))
noncomputable def aBy (s5:(List Bool)×Int)(s6:List Bool):Option (LO ((List Bool)×Int) (JO (List Bool) (DMove×Bool))):=some (.next (s6,w64 (s5.2+(1:Int))))
noncomputable def aCd (x_m:DMove)(v2:DHost×Bool)(s5:(List Bool)×Int):Option (LO ((List Bool)×Int) (JO (List Bool) (DMove×Bool))):=
 cond (decide (s5.2<((List.length (List.getD v2.1.Guests (Int.toNat x_m.G) default).Pages:Nat):Int)))
  (Option.bind (grd ((0:Int)<=s5.2/\s5.2<((List.length (List.getD v2.1.Guests (Int.toNat x_m.G) default).Pages:Nat):Int)) (grd ((0:Int)<=s5.2/\s5.2<((List.length s5.1:Nat):Int)) (cond (List.getD s5.1 (Int.toNat s5.2) default)
   (grd ((0:Int)<=s5.2/\s5.2<((List.length s5.1:Nat):Int)) (some (.go (List.set s5.1 (Int.toNat s5.2) true))))
   (grd ((0:Int)<=s5.2/\s5.2<((List.length s5.1:Nat):Int)) (some (.go (List.set s5.1 (Int.toNat s5.2) (List.getD (List.getD v2.1.Guests (Int.toNat x_m.G) default).Pages (Int.toNat s5.2) default).Dirty))))))) λj6=>
   JO.run j6 (aBy s5))
  (some (.ret (.go s5.1)))
noncomputable def vV (x_m:DMove):Option (DMove×Bool):=
 Option.bind (qB x_m) λv1=>
 Option.bind (aBa x_m.From x_m.G) λv2=>
 cond (!v2.2)
  (some (v1,false))
  (Option.bind (grd ((0:Int)<=x_m.G/\x_m.G<((List.length v2.1.Guests:Nat):Int)) (Option.bind (iter (aCd x_m v2) (v1.Left,(0:Int))) LO.val)) λj3=>
   JO.run j3 (aDe x_m v1 v2))
noncomputable def g45:Sg tG:=⟨[.st 29],.two (.st 2029) .b,vV⟩
theorem s45:Sok 45 g45:=sgx [(97,.r g97),(98,.r g98),(99,.r g99)] ⟨s97,s98,s99,trivial⟩ (.s .o (.s .o (.s .o (.s .o (.j ⟨[1,2,4,5],[],[(.c 4 6,.ro 4)]⟩ (.s .o (.k (.l ⟨[1,2,4,5,28,29],[],[(.c 4 6,.ro 4),(.s 30,.i .i64)]⟩ (.s .o (.s .o (.j ⟨[1,2,4,5,28,29,30],[],[(.c 4 6,.ro 4)]⟩ .o .o)))))) (.s (.g [] [] [.fo (.c 5 1) 0]) .o)))))) kr kr kr
theorem aHx:LW 101 ⟨58,[.cell 8 true 2,.tmp 9],.seq (.reg false (rg 101 0)) (.seq (.seq (.reg false (rg 101 1)) (.cond (.t 14) (.seq (.reg false (rg 101 2)) .ret) .skip)) (.seq (.reg false (rg 101 3)) (.seq (.seq (.reg false (rg 101 4)) (.cond (.t 30) (.seq (.reg false (rg 101 5)) .ret) .skip)) (.seq (.reg false (rg 101 6)) (.seq (.seq (.reg false (rg 101 7)) (.cond (.t 40) (.seq (.reg false (rg 101 8)) .ret) .skip)) (.seq (.regd (rg 101 9) (rg 101 10)) (.seq (.reg false (rg 101 11)) .ret)))))))⟩:=kr
noncomputable def mN (x_h:DHost)(x_g:Int)(x_page:Int)(x_words:List Int):Option (DHost×Bool):=
 Option.bind (sZ x_words) λv1=>
 cond v1
  (Option.bind (tH x_h x_g ([x_page]:List Int)) λv2=>
  some (v2.1,v2.2))
  (Option.bind (oE x_h x_g x_page) λv3=>
  cond (!v3.2)
   (some ((DHost.mk ([]:List Int) ([]:List DGuest)),false))
   (Option.bind (nW v3.1 x_g x_page) λv4=>
   cond (!v4.2)
    (some ((DHost.mk ([]:List Int) ([]:List DGuest)),false))
    (grd ((0:Int)<=x_g/\x_g<((List.length v4.1.Guests:Nat):Int)) (grd ((0:Int)<=x_page/\x_page<((List.length (List.getD v4.1.Guests (Int.toNat x_g) default).Pages:Nat):Int)) (Option.bind (fU v4.1.Words (List.getD (List.getD v4.1.Guests (Int.toNat x_g) default).Pages (Int.toNat x_page) default).Frame) λv5=>
     grd (List.length v5.1=(List.length v4.1.Words)) (grd (v5.2.1+v5.2.2<=List.length v5.1) (some ((DHost.mk (over v5.1 v5.2.1 v5.2.2 x_words) v4.1.Guests),true))))))))
theorem aKy{x_h:DHost}{x_g:Int}{x_page:Int}{x_words:List Int}{R_:DHost×Bool}(hh:mN x_h x_g x_page x_words=some R_):Fn Tryz.prog 101 [.agg (gW x_h),.int .i64 x_g,.int .i64 x_page,bo (eI .i64) x_words] (.tup [.agg [.own 3 1 (List.length R_.1.Words) (fl (eI .i64) R_.1.Words),.own 94 17 (List.length R_.1.Guests) (fl fD R_.1.Guests)],.bool R_.2]):=by let z3:EH:=(0,some (rB26 x_h));let z4:=(1,ii x_g);let z5:EH:=(1,some ⟨26,[.nil,.nil]⟩);let z6:=(12,pp 7);let z7:=(2,ii x_page);let z8:=(3,bo (eI .i64) x_words);let z9:EV:=(47,.ptr 6 [] (0+(Int.toNat x_g)*17));let z10:EV:=(48,.ptr 6 [] (0+(Int.toNat x_g)*17+14));let z11:EV:=(51,.ptr 6 [0+(Int.toNat x_g)*17+14+0] (0+(Int.toNat x_page)*3));let z12:EV:=(52,.ptr 6 [0+(Int.toNat x_g)*17+14+0] (0+(Int.toNat x_page)*3+0));let z13:=(8,pp 1);unfold mN at hh;refine Fn.start aHx [0,1,2,3] (E:=sp 58 [(0,.agg (gW x_h)),z4,z7,z8]) kr (v:= .tup [.agg [sw 0 R_.1.Words,.sref 1 [] 0 (List.length R_.1.Guests) 17],bb R_.2]) (Hr:=[(1,some (rO94 R_.1.Guests)),(0,some (rI_3 R_.1.Words))]) (k:=2) kr (sy [1,2,3,4,8] [0,1] (sp 58 [z4,z7,z8,(4,pp 0),z13]) [z3,z5] 2 (Aw.seq (Aw.sreg [1,2,3,4,8,14] [0,1] (yj 1  (sp 58 [z4,z7,z8,(4,pp 0),z13,(13,bo (eI .i64) x_words)]) [z3,z5] 2 ?_))));obtain⟨v1,hv1,hh⟩:=bind_some hh;refine ys (.call 152 [.t 13]) (some 14) (oc (aNz hv1) ?_);refine yt (sp 58 [z4,z7,z8,(4,pp 0),z13,(14,bb v1)]) [z3,z5] 2 ?_;rcases wP hh with⟨hb,hh⟩|⟨hb,hh⟩;{refine cT hb (Aw.sreg [8,9] [1,3,4] (yu 4 [(15,.agg (gW x_h)),(16,ii x_g),(17,ii x_page),(18,.sref 2 [] 0 1 1)] [(2,some ⟨3,[ii x_page]⟩),z3,z5] 3 ?_));obtain⟨v2,hv2,hh⟩:=bind_some hh;let q1:Root:=(rO94 v2.1.Guests);let q2:Root:=(rI_3 v2.1.Words);refine ys (.call 153 [.t 15,.t 16,.t 18]) (some 19) (sL (r:= .tup [.agg [.own 3 1 (List.length v2.1.Words) (fl (eI .i64) v2.1.Words),.own 94 17 (List.length v2.1.Guests) (fl fD v2.1.Guests)],bb v2.2]) (v:= .tup [.agg [sw 3 v2.1.Words,.sref 4 [] 0 (List.length v2.1.Guests) 17],bb v2.2]) (Hr:=[(4,some q1),(3,some q2)]) (n':=5) (aNk hv2) (xZ (vs:=[.agg (gW x_h),ii x_g,.sref 2 [] 0 1 1]) kr (kG (aF (aBf (yR _))) (cz1 (kG (eJ (c:=(eI .i64)) (xs:=([x_page]:List Int)) (e:=3) eqn cC dD cX kr) pQ)))) nrr nrr kr ?_);refine yt (sp 58 [z13,(9,bb v2.2)]) [(1,some ⟨26,[sw 3 v2.1.Words,.sref 4 [] 0 (List.length v2.1.Guests) 17]⟩),(3,some q2),(4,some q1)] 5 (Aw.ret (aQk ?_));rw[cW hh];exact qZ (r':= .tup [.agg [sw 3 v2.1.Words,.sref 4 [] 0 (List.length v2.1.Guests) 17],bb v2.2]) kr (Ent.list [some 3,some 4] rfl rfl (Nat.zero_le _) (mB (jQ rz)) (hn jJ (hn bK dC)))};refine cF hb (Aw.xskip (λ_ _ _ hq=>aIk hq) (Aw.sreg [1,2,3,8,10,11] [1,2,3,4] (yj 3  (sp 58 [z4,z7,z8,(4,pp 0),z13,(14,bb v1),(23,.agg (gW x_h)),(24,ii x_g),(25,ii x_page)]) [z3,z5] 2 ?_)));obtain⟨v3,hv3,hh⟩:=bind_some hh;let q3:Root:=(rO94 v3.1.Guests);let q4:Root:=(rI_3 v3.1.Words);refine ys (.call 154 [.t 23,.t 24,.t 25]) (some 26) (sL (r:= .tup [.agg [.own 3 1 (List.length v3.1.Words) (fl (eI .i64) v3.1.Words),.own 94 17 (List.length v3.1.Guests) (fl fD v3.1.Guests)],bb v3.2]) (v:= .tup [.agg [sw 2 v3.1.Words,.sref 3 [] 0 (List.length v3.1.Guests) 17],bb v3.2]) (Hr:=[(3,some q3),(2,some q4)]) (n':=4) (aMy hv3) (xZ (vs:=[.agg (gW x_h),ii x_g,ii x_page]) kr (kG (aF (aBf (yR _))) (cz1 (cz1 pQ)))) nrr nrr kr ?_);let q5:Root:=⟨26,[sw 2 v3.1.Words,.sref 3 [] 0 (List.length v3.1.Guests) 17]⟩;refine yt (sp 58 [z4,z7,z8,z13,(10,pp 4),(11,bb v3.2)]) [z5,(2,some q4),(3,some q3),(4,some q5)] 5 (Aw.seq (sy [1,2,3,8,10,30] [1,2,3,4] (sp 58 [z4,z7,z8,z13,(10,pp 4),(30,bb (!v3.2))]) [z5,(2,some q4),(3,some q3),(4,some q5)] 5 ?_));rcases wP hh with⟨hb,hh⟩|⟨hb,hh⟩;{refine cT hb (sy [8,9] [1] (sp 58 [z13,(9,bb false)]) [z5] 5 (Aw.ret (aQk ?_)));rw[cW hh];exact qZ (r':= .tup [.agg [.nil,.nil],bb false]) kr (Ent.list [none,none] rfl rfl (Nat.zero_le _) (mB (jQ rz)) (aJq dd rfl rfl (aJq dd rfl rfl dC)))};refine cF hb (Aw.xskip (λ_ _ _ hq=>aIk hq) (Aw.sreg [1,2,3,8,11,12] [1,5,6,7] (yj 3  (sp 58 [z4,z7,z8,z13,(10,pp 4),(30,bb (!v3.2)),(33,.agg [sw 2 v3.1.Words,.sref 3 [] 0 (List.length v3.1.Guests) 17]),(34,ii x_g),(35,ii x_page)]) [z5,(2,some q4),(3,some q3),(4,some q5)] 5 ?_)));obtain⟨v4,hv4,hh⟩:=bind_some hh;let z14:=(40,bb (!v4.2));let z15:=(43,sw 5 v4.1.Words);let z16:EV:=(45,.sref 6 [] 0 (List.length v4.1.Guests) 17);let z1:=List.getD v4.1.Guests (Int.toNat x_g) default;let z17:EV:=(49,.sref 6 [0+(Int.toNat x_g)*17+14+0] 0 (List.length z1.Pages) 3);let z2:=List.getD z1.Pages (Int.toNat x_page) default;let q6:Root:=(rO94 v4.1.Guests);let z18:=(6,some q6);let q7:Root:=(rI_3 v4.1.Words);let z19:=(5,some q7);refine ys (.call 155 [.t 33,.t 34,.t 35]) (some 36) (sL (r:= .tup [.agg [.own 3 1 (List.length v4.1.Words) (fl (eI .i64) v4.1.Words),.own 94 17 (List.length v4.1.Guests) (fl fD v4.1.Guests)],bb v4.2]) (v:= .tup [.agg [sw 5 v4.1.Words,.sref 6 [] 0 (List.length v4.1.Guests) 17],bb v4.2]) (Hr:=[z18,z19]) (n':=7) (aMz hv4) (xZ (vs:=[.agg [sw 2 v3.1.Words,.sref 3 [] 0 (List.length v3.1.Guests) 17],ii x_g,ii x_page]) kr (kG (bUf (aI (eJ (c:=(eI .i64)) (xs:=v3.1.Words) (e:=3) eqn cC dD cX kr) (aI (bCc (B:=hC) (xs:=v3.1.Guests) (e:=94) bDr uK eqn kr) zU))) (cz1 (cz1 pQ)))) nrr nrr kr ?_);let q8:Root:=⟨26,[sw 5 v4.1.Words,.sref 6 [] 0 (List.length v4.1.Guests) 17]⟩;let z20:=(7,some q8);refine yt (sp 58 [z4,z7,z8,z13,(11,bb v4.2),z6]) [z5,z19,z18,z20] 8 (Aw.seq (sy [1,2,3,8,12,40] [1,5,6,7] (sp 58 [z4,z7,z8,z13,z6,z14]) [z5,z19,z18,z20] 8 ?_));rcases wP hh with⟨hb,hh⟩|⟨hb,hh⟩;{refine cT hb (sy [8,9] [1] (sp 58 [z13,(9,bb false)]) [z5] 8 (Aw.ret (aQk ?_)));rw[cW hh];exact qZ (r':= .tup [.agg [.nil,.nil],bb false]) kr (Ent.list [none,none] rfl rfl (Nat.zero_le _) (mB (jQ rz)) (aJq dd rfl rfl (aJq dd rfl rfl dC)))};refine cF hb (Aw.xskip (λ_ _ _ hq=>aIk hq) (Aw.sregd [8,12] [1,5,6,7] [5] kr ?_));obtain⟨hg8,hh⟩:=bG hh;refine dc (cs:=[(0:Int)<=x_g/\x_g<((List.length v4.1.Guests:Nat):Int)]) (E':=(sp 58 [z4,z7,z8,z13,z6,z14,(42,pp 7),z15,(44,.ptr 7 [] 1),z16,(46,ii x_g),z9,z10])) (H':=[z5,z19,z18,z20]) (n':=8) (fs':=none) (pre:=(List.take 7 (rg 101 9))) (L':=(List.drop 7 (rg 101 9))) kr (λK=>by kernel_rfl) (.cons hg8 .nil) (ds (.load false 1 (.t 48)) (some 49) (bSf rfl kr (aRy (c:=fD) (xs:=v4.1.Guests) (e:=94) (r:=6) (π:=[]) (o:=0+(Int.toNat x_g)*17+14) (i:=(Int.toNat x_g)) (off:=14) (v:= .sref 6 [0+(Int.toNat x_g)*17+14+0] 0 (List.length z1.Pages) 3) uK kr kr ltn ltn dd kr ?_)));obtain⟨hg7,hh⟩:=bG hh;refine dc (cs:=[(0:Int)<=x_page/\x_page<((List.length z1.Pages:Nat):Int)]) (E':=(sp 58 [z4,z7,z8,z13,z6,z14,(42,pp 7),z15,(44,.ptr 7 [] 1),z16,(46,ii x_g),z9,z10,z17,(50,ii x_page),z11,z12])) (H':=[z5,z19,z18,z20]) (n':=8) (fs':=none) (pre:=(List.take 3 (List.drop 8 (rg 101 9)))) (L':=(List.drop 11 (rg 101 9))) kr (λK=>by kernel_rfl) (.cons hg7 .nil) (ds (.load false 1 (.t 52)) (some 53) (bSf rfl kr (aRy (c:=fX) (xs:=z1.Pages) (e:=91) (r:=6) (π:=[0+(Int.toNat x_g)*17+14+0]) (o:=0+(Int.toNat x_page)*3+0) (i:=(Int.toNat x_page)) (off:=0) (v:=ii z2.Frame) oP kr (aBu (e:=94) (e':=91) (sz':=3) (m':=(List.length z1.Pages)) (cs':=(fl fX z1.Pages)) (c:=fD) (xs:=v4.1.Guests) (i:=(Int.toNat x_g)) (off:=14) uK kr ltn ltn dd rfl kr) ltn ltn dd kr ?_)));obtain⟨v5,hv5,hh⟩:=bind_some hh;let z21:EH:=(5,some (rI_3 v5.1));obtain⟨hg5,hh⟩:=bG hh;obtain⟨hg6,hh⟩:=bG hh;refine ds (.call 151 [.t 43,.t 53]) (some 54) (aVj rfl (cf (.sref 5 [] (0+v5.2.1*1) v5.2.2 1) [z21] 8 [5] (rP hv5) [sw 5 v4.1.Words,ii z2.Frame] rz (hn bK dC) vI (hn bK dC) ⟨⟨⟨by decide,aHj rfl rfl⟩,Hld.un ?_⟩⟩));refine dt (sp 58 [z4,z7,z8,z13,z6,z14,(42,pp 7),z15,(44,.ptr 7 [] 1),z16,(46,ii x_g),z9,z10,z17,(50,ii x_page),z11,z12,(53,ii z2.Frame),(54,.sref 5 [] (0+v5.2.1*1) v5.2.2 1),(55,bo (eI .i64) x_words)]) [z21,(5,none),z5,z19,z18,z20] 8 ?_;let q9:Root:=(rI_3 (over v5.1 v5.2.1 v5.2.2 x_words));refine ys (.cpy 1 (.t 54) (.t 55)) (some 56) (aIi (c:=(eI .i64)) (xs:=v5.1) (ys:=x_words) (e:=3) (r:=5) (π:=[]) (o:=0+v5.2.1*1) (k:=v5.2.2) (i:=v5.2.1) (H':=[(5,some q9),z21,(5,none),z5,z19,z18,z20]) cC (rpv kr (aQx (c:=(eI .i64)) (xs:=x_words) cC)) kr kr ltn ltn kr ?_);refine yt (sp 58 [z13,z6]) [z5,(5,some q9),z18,z20] 8 (sy [8,9] [1,5,6] (sp 58 [z13,(9,bb true)]) [(1,some q8),(5,some q9),z18] 8 (Aw.ret ?_));rw[cW hh];exact qZ (r':= .tup [.agg [sw 5 v4.1.Words,.sref 6 [] 0 (List.length v4.1.Guests) 17],bb true]) kr (Ent.list [some 5,some 6] rfl rfl (Nat.zero_le _) (mB (jQ rz)) (hn jJ (hn bK dC)))
noncomputable def bZj:Sg tG:=⟨[.st 26,.i .i64,.i .i64,.row 3],.two (.st 2026) .b,mN⟩
theorem cCe:Sok 101 bZj:=λx_h x_g x_page x_words R_ hh=>kc (aKy (x_h:=x_h) (x_g:=x_g) (x_page:=x_page) (x_words:=x_words) hh)
noncomputable def aAv (x_m:DMove)(x_page:Int):Option (DMove×Bool):=
 Option.bind (qB x_m) λv1=>
 grd ((0:Int)<=x_m.G/\x_m.G<((List.length x_m.From.Guests:Nat):Int)) (grd ((0:Int)<=x_page/\x_page<((List.length (List.getD x_m.From.Guests (Int.toNat x_m.G) default).Pages:Nat):Int)) (Option.bind (cN x_m.From.Words (DSlot.mk (List.getD (List.getD x_m.From.Guests (Int.toNat x_m.G) default).Pages (Int.toNat x_page) default).Frame (List.getD (List.getD x_m.From.Guests (Int.toNat x_m.G) default).Pages (Int.toNat x_page) default).Write (List.getD (List.getD x_m.From.Guests (Int.toNat x_m.G) default).Pages (Int.toNat x_page) default).Dirty)) λv2=>
  Option.bind (mN x_m.To x_m.N x_page v2) λv3=>
  cond (!v3.2)
   (some (v1,false))
   (grd ((0:Int)<=x_page/\x_page<((List.length v1.Left:Nat):Int)) (some ((DMove.mk v1.From v3.1 v1.G v1.N (List.set v1.Left (Int.toNat x_page) false)),true)))))
noncomputable def g47:Sg tG:=⟨[.st 29,.i .i64],.two (.st 2029) .b,aAv⟩
theorem s47:Sok 47 g47:=sgx [(97,.r g97),(100,.r bFn),(101,.r bZj)] ⟨s97,bHd,cCe,trivial⟩ .o kr kr kr
noncomputable def aNe  (s2:Unit):Option (DMove×Bool):=some ((DMove.mk (DHost.mk ([]:List Int) ([]:List DGuest)) (DHost.mk ([]:List Int) ([]:List DGuest)) (0:Int) (0:Int) ([]:List Bool)),false)
noncomputable def aUv (x_m:DMove)(x_a:DAct):Option (DMove×Bool):=
 Option.bind (nD x_m) λv1=>
 cond (!v1)
  (some ((DMove.mk (DHost.mk ([]:List Int) ([]:List DGuest)) (DHost.mk ([]:List Int) ([]:List DGuest)) (0:Int) (0:Int) ([]:List Bool)),false))
  (Option.bind (cond (decide (x_a.Kind=(1:Int)))
   (Option.bind (vV x_m) λv3=>
   some (.out (v3.1,v3.2)))
   (cond (decide (x_a.Kind=(2:Int)))
    (Option.bind (fB x_a.Page) λv4=>
    cond v4
     (Option.bind (aAv x_m x_a.Page) λv5=>
     some (.out (v5.1,v5.2)))
     (some (.go ())))
    (some (.go ())))) λj2=>
   JO.run j2 aNe)
noncomputable def g9:Sg tG:=⟨[.st 29,.st 31],.two (.st 2029) .b,aUv⟩
theorem s9:Sok 9 g9:=sgx [(15,.r g15),(45,.r g45),(46,.r g46),(47,.r g47)] ⟨s15,s45,s46,s47,trivial⟩ (.s .o (.s .o (.j ⟨[4],[],[]⟩ .o .o))) kr kr kr
noncomputable def rM (x_m:DMove)(x_a:DAct)(v2:DMove)(v5:List Int)(s8:(List Int)×(List DGuest)×Bool):Option (DMove×Bool):=
 cond (!s8.2.2)
  (Option.bind (gS x_m) λv9=>
  some (v9,false))
  (grd ((0:Int)<=x_m.N/\x_m.N<((List.length s8.2.1:Nat):Int)) (grd ((0:Int)<=x_a.Page/\x_a.Page<((List.length (List.getD s8.2.1 (Int.toNat x_m.N) default).Pages:Nat):Int)) (grd ((0:Int)<=(w64 ((List.getD (List.getD s8.2.1 (Int.toNat x_m.N) default).Pages (Int.toNat x_a.Page) default).Frame*(8:Int)))/\(w64 ((List.getD (List.getD s8.2.1 (Int.toNat x_m.N) default).Pages (Int.toNat x_a.Page) default).Frame*(8:Int)))<=((List.length s8.1:Nat):Int)/\((List.length s8.1:Nat):Int)<=((List.length s8.1:Nat):Int)) (some ((DMove.mk v2.From (DHost.mk (over s8.1 (Int.toNat (w64 ((List.getD (List.getD s8.2.1 (Int.toNat x_m.N) default).Pages (Int.toNat x_a.Page) default).Frame*(8:Int)))) (Int.toNat ((List.length s8.1:Nat):Int)-Int.toNat (w64 ((List.getD (List.getD s8.2.1 (Int.toNat x_m.N) default).Pages (Int.toNat x_a.Page) default).Frame*(8:Int)))) v5) s8.2.1) v2.G v2.N (List.set v2.Left (Int.toNat x_a.Page) false)),true)))))
noncomputable def zF (x_m:DMove)(x_a:DAct)(v2:DMove)(v5:List Int)(s6:Bool):Option (DMove×Bool):=
 grd ((0:Int)<=x_a.Page/\x_a.Page<((List.length v2.Left:Nat):Int)) (cond s6
  (grd ((0:Int)<=x_m.N/\x_m.N<((List.length v2.To.Guests:Nat):Int)) (grd ((0:Int)<=x_a.Page/\x_a.Page<((List.length (List.getD v2.To.Guests (Int.toNat x_m.N) default).Pages:Nat):Int)) (some ((DMove.mk v2.From (DHost.mk v2.To.Words (List.set v2.To.Guests (Int.toNat x_m.N) (DGuest.mk (List.getD v2.To.Guests (Int.toNat x_m.N) default).Live (DCore.mk ((List.getD v2.To.Guests (Int.toNat x_m.N) default).C).Regs ((List.getD v2.To.Guests (Int.toNat x_m.N) default).C).Pc ((List.getD v2.To.Guests (Int.toNat x_m.N) default).C).Root ((List.getD v2.To.Guests (Int.toNat x_m.N) default).C).Vector ((List.getD v2.To.Guests (Int.toNat x_m.N) default).C).Saved ((List.getD v2.To.Guests (Int.toNat x_m.N) default).C).SavedUser ((List.getD v2.To.Guests (Int.toNat x_m.N) default).C).Cause ((List.getD v2.To.Guests (Int.toNat x_m.N) default).C).Bad ((List.getD v2.To.Guests (Int.toNat x_m.N) default).C).Timer ((List.getD v2.To.Guests (Int.toNat x_m.N) default).C).Waits ((List.getD v2.To.Guests (Int.toNat x_m.N) default).C).User ((List.getD v2.To.Guests (Int.toNat x_m.N) default).C).On ((List.getD v2.To.Guests (Int.toNat x_m.N) default).C).Stopped) (List.set (List.getD v2.To.Guests (Int.toNat x_m.N) default).Pages (Int.toNat x_a.Page) (DSlot.mk (-1:Int) false false)) (List.getD v2.To.Guests (Int.toNat x_m.N) default).In (List.getD v2.To.Guests (Int.toNat x_m.N) default).Out))) v2.G v2.N (List.set v2.Left (Int.toNat x_a.Page) false)),true))))
  (Option.bind (fO v2.To x_m.N x_a.Page) λv7=>
  Option.bind (cond v7.2
   (Option.bind (fT v7.1 x_m.N x_a.Page) λv10=>
   some (.go (v10.1.Words,v10.1.Guests,v10.2)))
   (some (.go (v7.1.Words,v7.1.Guests,v7.2)))) λj8=>
   JO.run j8 (rM x_m x_a v2 v5)))
noncomputable def qO (s11:Bool×Int)(s12:Bool):Option (LO (Bool×Int) (JO Bool (DMove×Bool))):=some (.next (s12,w64 (s11.2+(1:Int))))
noncomputable def iX (v5:List Int)(s11:Bool×Int):Option (LO (Bool×Int) (JO Bool (DMove×Bool))):=
 cond (decide (s11.2<(8:Int)))
  (Option.bind (cond s11.1
   (grd ((0:Int)<=s11.2/\s11.2<((List.length v5:Nat):Int)) (some (.go (decide ((List.getD v5 (Int.toNat s11.2) default)=(0:Int))))))
   (some (.go false))) λj12=>
   JO.run j12 (qO s11))
  (some (.ret (.go s11.1)))
noncomputable def zR (x_m:DMove)(x_a:DAct)(v2:DMove)(s3:Unit):Option (DMove×Bool):=
 cond (!decide (x_a.Kind=(2:Int)))
  (some ((DMove.mk (DHost.mk ([]:List Int) ([]:List DGuest)) (DHost.mk ([]:List Int) ([]:List DGuest)) (0:Int) (0:Int) ([]:List Bool)),false))
  (Option.bind (bO x_a.Page (0:Int) (7:Int)) λv4=>
  cond (!v4)
   (some ((DMove.mk (DHost.mk ([]:List Int) ([]:List DGuest)) (DHost.mk ([]:List Int) ([]:List DGuest)) (0:Int) (0:Int) ([]:List Bool)),false))
   (Option.bind (jK x_m.From x_m.G x_a.Page) λv5=>
   Option.bind (Option.bind (iter (iX v5) (true,(0:Int))) LO.val) λj6=>
    JO.run j6 (zF x_m x_a v2 v5)))
noncomputable def xG (v2:DMove)(v13:DHost×Bool)(s15:(List Bool)×(List DGuest)):Option (JO Unit (DMove×Bool)):=some (.out ((DMove.mk (DHost.mk v13.1.Words s15.2) v2.To v2.G v2.N s15.1),true))
noncomputable def qD (s16:(List Bool)×(List DGuest)×Int)(s17:(List Bool)×(List DGuest)):Option (LO ((List Bool)×(List DGuest)×Int) (JO ((List Bool)×(List DGuest)) (JO Unit (DMove×Bool)))):=some (.next (s17.1,s17.2,w64 (s16.2.2+(1:Int))))
noncomputable def iV (x_m:DMove)(s16:(List Bool)×(List DGuest)×Int):Option (LO ((List Bool)×(List DGuest)×Int) (JO ((List Bool)×(List DGuest)) (JO Unit (DMove×Bool)))):=
 cond (decide (s16.2.2<(8:Int)))
  (Option.bind (grd ((0:Int)<=x_m.G/\x_m.G<((List.length s16.2.1:Nat):Int)) (grd ((0:Int)<=s16.2.2/\s16.2.2<((List.length (List.getD s16.2.1 (Int.toNat x_m.G) default).Pages:Nat):Int)) (cond (List.getD (List.getD s16.2.1 (Int.toNat x_m.G) default).Pages (Int.toNat s16.2.2) default).Dirty
   (grd ((0:Int)<=x_m.G/\x_m.G<((List.length s16.2.1:Nat):Int)) (grd ((0:Int)<=s16.2.2/\s16.2.2<((List.length (List.getD s16.2.1 (Int.toNat x_m.G) default).Pages:Nat):Int)) (grd ((0:Int)<=s16.2.2/\s16.2.2<((List.length s16.1:Nat):Int)) (some (.go ((List.set s16.1 (Int.toNat s16.2.2) true),List.set s16.2.1 (Int.toNat x_m.G) (DGuest.mk (List.getD s16.2.1 (Int.toNat x_m.G) default).Live (DCore.mk ((List.getD s16.2.1 (Int.toNat x_m.G) default).C).Regs ((List.getD s16.2.1 (Int.toNat x_m.G) default).C).Pc ((List.getD s16.2.1 (Int.toNat x_m.G) default).C).Root ((List.getD s16.2.1 (Int.toNat x_m.G) default).C).Vector ((List.getD s16.2.1 (Int.toNat x_m.G) default).C).Saved ((List.getD s16.2.1 (Int.toNat x_m.G) default).C).SavedUser ((List.getD s16.2.1 (Int.toNat x_m.G) default).C).Cause ((List.getD s16.2.1 (Int.toNat x_m.G) default).C).Bad ((List.getD s16.2.1 (Int.toNat x_m.G) default).C).Timer ((List.getD s16.2.1 (Int.toNat x_m.G) default).C).Waits ((List.getD s16.2.1 (Int.toNat x_m.G) default).C).User ((List.getD s16.2.1 (Int.toNat x_m.G) default).C).On ((List.getD s16.2.1 (Int.toNat x_m.G) default).C).Stopped) (List.set (List.getD s16.2.1 (Int.toNat x_m.G) default).Pages (Int.toNat s16.2.2) (DSlot.mk (List.getD (List.getD s16.2.1 (Int.toNat x_m.G) default).Pages (Int.toNat s16.2.2) default).Frame (List.getD (List.getD s16.2.1 (Int.toNat x_m.G) default).Pages (Int.toNat s16.2.2) default).Write false)) (List.getD s16.2.1 (Int.toNat x_m.G) default).In (List.getD s16.2.1 (Int.toNat x_m.G) default).Out)))))))
   (some (.go (s16.1,s16.2.1)))))) λj17=>
   JO.run j17 (qD s16))
  (some (.ret (.go (s16.1,s16.2.1))))
noncomputable def mZ (x_m:DMove)(x_a:DAct):Option (DMove×Bool):=
 Option.bind (nG x_m) λv1=>
 cond (!v1)
  (some ((DMove.mk (DHost.mk ([]:List Int) ([]:List DGuest)) (DHost.mk ([]:List Int) ([]:List DGuest)) (0:Int) (0:Int) ([]:List Bool)),false))
  (Option.bind (gS x_m) λv2=>
  Option.bind (cond (decide (x_a.Kind=(1:Int)))
   (Option.bind (nY v2.From x_m.G) λv13=>
   cond (!v13.2)
    (Option.bind (gS x_m) λv14=>
    some (.out (v14,false)))
    (Option.bind (Option.bind (iter (iV x_m) (v2.Left,v13.1.Guests,(0:Int))) LO.val) λj15=>
     JO.run j15 (xG v2 v13)))
   (some (.go ()))) λj3=>
   JO.run j3 (zR x_m x_a v2))
noncomputable def g10:Sg tG:=⟨[.st 29,.st 31],.two (.st 2029) .b,mZ⟩
theorem s10:Sok 10 g10:=sgx [(48,.r g48),(49,.r g49),(50,.r g50),(51,.r g51),(52,.r g52),(53,.r g53),(54,.r g54)] ⟨s48,s49,s50,s51,s52,s53,s54,trivial⟩ (.s .o (.s .o (.s .o (.j ⟨[2,3,4,6],[],[]⟩ (.s .o (.c (.s .o (.s .o (.j ⟨[4,6,7],[],[(.c 6 6,.ro 4),(.c 7 1,.ro 1094)]⟩ (.s .o (.k (.l ⟨[2,4,6,7],[],[(.c 6 6,.ro 4),(.c 7 1,.ro 1094),(.s 9,.i .i64)]⟩ (.s .o (.j ⟨[2,4,6,7,9],[],[(.c 6 6,.ro 4),(.c 7 1,.ro 1094)]⟩ .o .o))))) .o))) .o)) (.s .o (.s .o (.s .o (.j ⟨[2,3,4,6,10],[],[(.s 11,.b)]⟩ (.s .o (.k (.l ⟨[2,3,4,6,10],[],[(.s 11,.b),(.s 12,.i .i64)]⟩ (.s .o (.j ⟨[2,3,4,6,10,12],[],[(.s 11,.b)]⟩ .o .o))))) (.s .o (.s .o (.s .o (.j ⟨[2,3,4,6,10,13],[],[(.c 13 0,.ro 3),(.c 13 1,.ro 1094),(.s 14,.b)]⟩ .o .o)))))))))))) kr kr kr
noncomputable def rE (x_r:Dl20Rd)(x_n:Int):Option (Dl20Rd×DAct):=
 Option.bind (bL x_r x_n) λv1=>
 cond v1.2
  (Option.bind (aA v1.1 (4:Int)) λv2=>
  Option.bind (aA v2.1 (10:Int)) λv3=>
  some (v3.1,DAct.mk v2.2 (w64 (v3.2-(1:Int)))))
  (Option.bind (aA v1.1 (3:Int)) λv4=>
  cond (decide (v4.2=(0:Int)))
   (Option.bind (aA v4.1 (8:Int)) λv5=>
   some (v5.1,DAct.mk (2:Int) v5.2))
   (some (v4.1,DAct.mk (1:Int) (0:Int))))
noncomputable def g44:Sw tG:=⟨[.pt 128,.v (.i .i64)],.one (.st 31),rE⟩
theorem s44:Sjk 44 g44:=sgy [(96,.w g96),(64,.w g64)] ⟨s96,s64,trivial⟩ .o kr kr kr
noncomputable def uE (s5:(List Int)×Int×(List Int)×(List DGuest)×(List Int)×(List DGuest)×Int×Int×(List Bool))(s6:(List Bool)×(List Int)×Int×Int):Option (Dl20Rd×DMove):=some ((Dl20Rd.mk s6.2.1 s6.2.2.1),DMove.mk (DHost.mk s5.2.2.1 s5.2.2.2.1) (DHost.mk s5.2.2.2.2.1 s5.2.2.2.2.2.1) s5.2.2.2.2.2.2.1 s6.2.2.2 s6.1)
noncomputable def uC (x_n:Int)(s5:(List Int)×Int×(List Int)×(List DGuest)×(List Int)×(List DGuest)×Int×Int×(List Bool)):Option (Dl20Rd×DMove):=
 Option.bind (cond (decide (((List.length s5.2.2.2.2.2.2.2.2:Nat):Int)=(8:Int)))
  (Option.bind (bL (Dl20Rd.mk s5.1 s5.2.1) x_n) λv7=>
  cond v7.2
   (Option.bind (aA v7.1 (3:Int)) λv8=>
   cond (decide (v8.2=(0:Int)))
    (Option.bind (aA v8.1 (8:Int)) λv9=>
    Option.bind (aA v9.1 (2:Int)) λv10=>
    grd ((0:Int)<=v9.2/\v9.2<((List.length s5.2.2.2.2.2.2.2.2:Nat):Int)) (some (.go ((List.set s5.2.2.2.2.2.2.2.2 (Int.toNat v9.2) (decide (v10.2=(0:Int)))),v10.1.b,v10.1.p,s5.2.2.2.2.2.2.2.1))))
    (cond (decide (v8.2=(1:Int)))
     (grd ((0:Int)<=(0:Int)/\(0:Int)<=(7:Int)/\(7:Int)<=((List.length s5.2.2.2.2.2.2.2.2:Nat):Int)) (some (.go ((List.take (Int.toNat (7:Int)-Int.toNat (0:Int)) s5.2.2.2.2.2.2.2.2),v8.1.b,v8.1.p,s5.2.2.2.2.2.2.2.1))))
     (Option.bind (aA v8.1 (4:Int)) λv11=>
     some (.go (s5.2.2.2.2.2.2.2.2,v11.1.b,v11.1.p,v11.2)))))
   (some (.go (s5.2.2.2.2.2.2.2.2,v7.1.b,v7.1.p,s5.2.2.2.2.2.2.2.1))))
  (some (.go (s5.2.2.2.2.2.2.2.2,s5.1,s5.2.1,s5.2.2.2.2.2.2.2.1)))) λj6=>
  JO.run j6 (uE s5)
noncomputable def tE (s13:(List Int)×Int×(List Int)×(List DGuest)×(List Int)×(List DGuest)×Int×Int×(List Bool)×Int)(s14:(List Int)×Int×(List Int)×(List DGuest)×(List Int)×(List DGuest)×Int×Int×(List Bool)):Option (LO ((List Int)×Int×(List Int)×(List DGuest)×(List Int)×(List DGuest)×Int×Int×(List Bool)×Int) (JO ((List Int)×Int×(List Int)×(List DGuest)×(List Int)×(List DGuest)×Int×Int×(List Bool)) (Dl20Rd×DMove))):=some (.next (s14.1,s14.2.1,s14.2.2.1,s14.2.2.2.1,s14.2.2.2.2.1,s14.2.2.2.2.2.1,s14.2.2.2.2.2.2.1,s14.2.2.2.2.2.2.2.1,s14.2.2.2.2.2.2.2.2,w64 (s13.2.2.2.2.2.2.2.2.2-(1:Int))))
noncomputable def mQ  (s13:(List Int)×Int×(List Int)×(List DGuest)×(List Int)×(List DGuest)×Int×Int×(List Bool)×Int):Option (LO ((List Int)×Int×(List Int)×(List DGuest)×(List Int)×(List DGuest)×Int×Int×(List Bool)×Int) (JO ((List Int)×Int×(List Int)×(List DGuest)×(List Int)×(List DGuest)×Int×Int×(List Bool)) (Dl20Rd×DMove))):=
 cond (decide ((0:Int)<s13.2.2.2.2.2.2.2.2.2))
  (Option.bind (Option.bind (rE (Dl20Rd.mk s13.1 s13.2.1) (0:Int)) λv15=>
   Option.bind (mZ (DMove.mk (DHost.mk s13.2.2.1 s13.2.2.2.1) (DHost.mk s13.2.2.2.2.1 s13.2.2.2.2.2.1) s13.2.2.2.2.2.2.1 s13.2.2.2.2.2.2.2.1 s13.2.2.2.2.2.2.2.2.1) v15.2) λv16=>
   cond v16.2
    (some (.go (v15.1.b,v15.1.p,v16.1.From.Words,v16.1.From.Guests,v16.1.To.Words,v16.1.To.Guests,v16.1.G,v16.1.N,v16.1.Left)))
    (some (.go (v15.1.b,v15.1.p,s13.2.2.1,s13.2.2.2.1,s13.2.2.2.2.1,s13.2.2.2.2.2.1,s13.2.2.2.2.2.2.1,s13.2.2.2.2.2.2.2.1,s13.2.2.2.2.2.2.2.2.1)))) λj14=>
   JO.run j14 (tE s13))
  (some (.ret (.go (s13.1,s13.2.1,s13.2.2.1,s13.2.2.2.1,s13.2.2.2.2.1,s13.2.2.2.2.2.1,s13.2.2.2.2.2.2.1,s13.2.2.2.2.2.2.2.1,s13.2.2.2.2.2.2.2.2.1))))
noncomputable def mV (x_r:Dl20Rd)(x_n:Int):Option (Dl20Rd×DMove):=
 Option.bind (lX x_r (0:Int)) λv1=>
 Option.bind (rB v1.1) λv2=>
 Option.bind (tJ v2.1 v1.2) λv3=>
 Option.bind (mK v1.2 v2.2 v3.2) λv4=>
 Option.bind (Option.bind (aA v3.1 (14:Int)) λv12=>
  Option.bind (iter mQ (v12.1.b,v12.1.p,v4.1.From.Words,v4.1.From.Guests,v4.1.To.Words,v4.1.To.Guests,v4.1.G,v4.1.N,v4.1.Left,v12.2)) LO.val) λj5=>
  JO.run j5 (uC x_n)
noncomputable def g43:Sw tG:=⟨[.pt 128,.v (.i .i64)],.one (.st 2029),mV⟩
theorem s43:Sjk 43 g43:=sgy [(74,.w g74),(75,.w g75),(76,.w g76),(79,.r g79),(64,.w g64),(44,.w g44),(10,.r g10),(96,.w g96)] ⟨s74,s75,s76,s79,s64,s44,s10,s96,trivial⟩ (.s .o (.s .o (.s (.g [.fr (.c 5 0) 0,.fr (.c 5 1) 0] [0] []) (.j ⟨[0,1,4,6],[],[(.c 0 0,.rb 5),(.c 0 1,.i .i64),(.c 6 0,.ro 3),(.c 6 1,.ro 1094),(.c 6 2,.ro 3),(.c 6 3,.ro 1094),(.c 6 4,.i .i64),(.c 6 5,.i .i64),(.c 6 6,.ro 4)]⟩ (.s .o (.k (.l ⟨[0,1,4,6],[],[(.c 0 0,.rb 5),(.c 0 1,.i .i64),(.c 6 0,.ro 3),(.c 6 1,.ro 1094),(.c 6 2,.ro 3),(.c 6 3,.ro 1094),(.c 6 4,.i .i64),(.c 6 5,.i .i64),(.c 6 6,.ro 4),(.s 8,.i .i64)]⟩ (.s .o (.j ⟨[0,1,4,6,8],[],[(.c 0 0,.rb 5),(.c 0 1,.i .i64),(.c 6 0,.ro 3),(.c 6 1,.ro 1094),(.c 6 2,.ro 3),(.c 6 3,.ro 1094),(.c 6 4,.i .i64),(.c 6 5,.i .i64),(.c 6 6,.ro 4)]⟩ (.k (.s (.m [0]) .o)) .o))))) (.j ⟨[4,6],[0],[(.c 6 6,.ro 4),(.d 0 0,.rb 5),(.d 0 1,.i .i64),(.c 6 5,.i .i64)]⟩ (.s .o (.c (.s .o (.k (.s .o (.c (.m [0]) .o)))) .o)) .o))))) kr kr kr
noncomputable def aIc  (s3:Unit):Option Bool:=some true
noncomputable def aGz (x_a:DMove)(x_b:DMove)(s4:Int):Option (LO Int (JO Unit Bool)):=
 cond (decide (s4<((List.length x_a.Left:Nat):Int)))
  (grd ((0:Int)<=s4/\s4<((List.length x_a.Left:Nat):Int)) (grd ((0:Int)<=s4/\s4<((List.length x_b.Left:Nat):Int)) (cond (!((List.getD x_a.Left (Int.toNat s4) default)==(List.getD x_b.Left (Int.toNat s4) default)))
   (some (.ret (.out false)))
   (some (.next (w64 (s4+(1:Int))))))))
  (some (.ret (.go ())))
noncomputable def aRd (x_a:DMove)(x_b:DMove):Option Bool:=
 cond (!decide (x_a.G=x_b.G))
  (some false)
  (cond (!decide (x_a.N=x_b.N))
   (some false)
   (cond (!decide (((List.length x_a.Left:Nat):Int)=((List.length x_b.Left:Nat):Int)))
    (some false)
    (Option.bind (fM x_a.From x_b.From) λv1=>
    cond (!v1)
     (some false)
     (Option.bind (fM x_a.To x_b.To) λv2=>
     cond (!v2)
      (some false)
      (Option.bind (Option.bind (iter (aGz x_a x_b) (0:Int)) LO.val) λj3=>
       JO.run j3 aIc)))))
noncomputable def g11:Sg tG:=⟨[.st 29,.st 29],.one .b,aRd⟩
theorem s11:Sok 11 g11:=sgx [(21,.r g21)] ⟨s21,trivial⟩ (.s .o (.s .o (.j ⟨[],[],[]⟩ (.s .o (.k (.l ⟨[2,3],[],[(.s 5,.i .i64)]⟩ .o))) .o))) kr kr kr
noncomputable def aDa  (s3:(List Int)×(List DGuest)×(List Int)×(List DGuest)×Int×Int×(List Bool)):Option DMove:=some (DMove.mk (DHost.mk s3.1 s3.2.1) (DHost.mk s3.2.2.1 s3.2.2.2.1) s3.2.2.2.2.1 s3.2.2.2.2.2.1 s3.2.2.2.2.2.2)
noncomputable def sQ (s4:(List Int)×Int×(List Int)×(List DGuest)×(List Int)×(List DGuest)×Int×Int×(List Bool)×Int)(v5:Dl20Rd×Int)(s6:(List Int)×(List DGuest)×(List Int)×(List DGuest)×Int×Int×(List Bool)):Option (LO ((List Int)×Int×(List Int)×(List DGuest)×(List Int)×(List DGuest)×Int×Int×(List Bool)×Int) (JO ((List Int)×(List DGuest)×(List Int)×(List DGuest)×Int×Int×(List Bool)) DMove)):=some (.next (v5.1.b,v5.1.p,s6.1,s6.2.1,s6.2.2.1,s6.2.2.2.1,s6.2.2.2.2.1,s6.2.2.2.2.2.1,s6.2.2.2.2.2.2,w64 (s4.2.2.2.2.2.2.2.2.2+(1:Int))))
noncomputable def mC  (s4:(List Int)×Int×(List Int)×(List DGuest)×(List Int)×(List DGuest)×Int×Int×(List Bool)×Int):Option (LO ((List Int)×Int×(List Int)×(List DGuest)×(List Int)×(List DGuest)×Int×Int×(List Bool)×Int) (JO ((List Int)×(List DGuest)×(List Int)×(List DGuest)×Int×Int×(List Bool)) DMove)):=
 cond (decide (s4.2.2.2.2.2.2.2.2.2<(8:Int)))
  (Option.bind (aA (Dl20Rd.mk s4.1 s4.2.1) (12:Int)) λv5=>
  cond (decide ((0:Int)<v5.2))
   (Option.bind (Option.bind (mZ (DMove.mk (DHost.mk s4.2.2.1 s4.2.2.2.1) (DHost.mk s4.2.2.2.2.1 s4.2.2.2.2.2.1) s4.2.2.2.2.2.2.1 s4.2.2.2.2.2.2.2.1 s4.2.2.2.2.2.2.2.2.1) (DAct.mk (2:Int) s4.2.2.2.2.2.2.2.2.2)) λv7=>
    cond v7.2
     (some (.go (v7.1.From.Words,v7.1.From.Guests,v7.1.To.Words,v7.1.To.Guests,v7.1.G,v7.1.N,v7.1.Left)))
     (some (.go (s4.2.2.1,s4.2.2.2.1,s4.2.2.2.2.1,s4.2.2.2.2.2.1,s4.2.2.2.2.2.2.1,s4.2.2.2.2.2.2.2.1,s4.2.2.2.2.2.2.2.2.1)))) λj6=>
    JO.run j6 (sQ s4 v5))
   (some (.ret (.go (s4.2.2.1,s4.2.2.2.1,s4.2.2.2.2.1,s4.2.2.2.2.2.1,s4.2.2.2.2.2.2.1,s4.2.2.2.2.2.2.2.1,s4.2.2.2.2.2.2.2.2.1)))))
  (some (.ret (.go (s4.2.2.1,s4.2.2.2.1,s4.2.2.2.2.1,s4.2.2.2.2.2.1,s4.2.2.2.2.2.2.1,s4.2.2.2.2.2.2.2.1,s4.2.2.2.2.2.2.2.2.1))))
noncomputable def kR (x_code:List Int):Option DMove:=
 Option.bind (jN x_code) λv1=>
 Option.bind (mV v1 (15:Int)) λv2=>
 Option.bind (Option.bind (iter mC (v2.1.b,v2.1.p,v2.2.From.Words,v2.2.From.Guests,v2.2.To.Words,v2.2.To.Guests,v2.2.G,v2.2.N,v2.2.Left,(0:Int))) LO.val) λj3=>
  JO.run j3 aDa
noncomputable def g18:Sg tG:=⟨[.row 5],.one (.st 2029),kR⟩
theorem s18:Sok 18 g18:=sgx [(42,.o g42),(43,.w g43),(64,.w g64),(10,.r g10)] ⟨s42,s43,s64,s10,trivial⟩ (.s .o (.s .o (.s .o (.j ⟨[2,4],[],[(.c 4 0,.ro 3),(.c 4 1,.ro 1094),(.c 4 2,.ro 3),(.c 4 3,.ro 1094),(.c 4 4,.i .i64),(.c 4 5,.i .i64),(.c 4 6,.ro 4)]⟩ (.s .o (.k (.l ⟨[2,3,4],[],[(.c 3 0,.rb 5),(.c 3 1,.i .i64),(.c 4 0,.ro 3),(.c 4 1,.ro 1094),(.c 4 2,.ro 3),(.c 4 3,.ro 1094),(.c 4 4,.i .i64),(.c 4 5,.i .i64),(.c 4 6,.ro 4),(.s 5,.i .i64)]⟩ (.s .o (.j ⟨[2,3,4,5],[],[(.c 4 0,.ro 3),(.c 4 1,.ro 1094),(.c 4 2,.ro 3),(.c 4 3,.ro 1094),(.c 4 4,.i .i64),(.c 4 5,.i .i64),(.c 4 6,.ro 4)]⟩ .o .o))))) .o)))) kr kr kr
noncomputable def kA (x_code:List Int):Option Bool:=
 cond (decide ((1048576:Int)<((List.length x_code:Nat):Int)))
  (some true)
  (Option.bind (kR x_code) λv1=>
  Option.bind (pJ v1) λv2=>
  Option.bind (pK v1) λv3=>
  cond (!(v2.2.2==v3.2.2))
   (some false)
   (Option.bind (fM v2.1 v3.1) λv4=>
   cond (!v4)
    (some false)
    (Option.bind (fM v2.2.1 v3.2.1) λv5=>
    cond (!v5)
     (some false)
     (cond (!v2.2.2)
      (Option.bind oU  λv6=>
      some v6)
      (Option.bind (eQ v1.From v1.G) λv7=>
      Option.bind (eQ v2.2.1 v1.N) λv8=>
      Option.bind (eQ v2.1 v1.G) λv9=>
      Option.bind (kK v2.1) λv10=>
      cond v10
       (Option.bind (kK v2.2.1) λv11=>
       cond v11
        (Option.bind (lD v7.1 v8.1) λv12=>
        cond v12
         (cond (!v9.2)
          (Option.bind (jY v1.From v2.1 v1.G) λv13=>
          cond v13
           (Option.bind (jY v1.To v2.2.1 v1.N) λv14=>
           some v14)
           (some false))
          (some false))
         (some false))
        (some false))
       (some false))))))
noncomputable def g4:Sg tG:=⟨[.row 5],.one .b,kA⟩
theorem s4:Sok 4 g4:=sgx [(18,.r g18),(19,.r g19),(20,.r g20),(21,.r g21),(12,.r g12),(13,.r g13),(22,.r g22),(16,.r g16),(17,.r g17)] ⟨s18,s19,s20,s21,s12,s13,s22,s16,s17,trivial⟩ .o kr kr kr
theorem aKm{x_code:List Int}{R_:Bool}(hh:kA x_code=some R_):Fn Tryz.prog 4 [bo (eI .u8) x_code] (.bool R_):=kc (s4 x_code R_ hh)
end Go.Proofs.YtcgggihjcelmhaaGreat
