/- Plain functions of the program, and that it hands back what they say. Made by program. -/
import Derived.Test.YtkjabgefacfpfaaWTD
import Derived.Test.YtkjabgefacfpfaaProg
import Derived.Test.YtkjabgefacfpfaaWO1
namespace Go.Proofs.Ytkjabgefacfpfaa
open Go.RowKit
set_option maxRecDepth 100000
set_option linter.all false
set_option maxHeartbeats 0
noncomputable def oJ (x_c:DCore):Option Bool:=
 cond (decide (x_c.Pc=(0:Int)))
  (cond (decide (x_c.Root=(0:Int)))
   (cond (decide (x_c.Vector=(0:Int)))
    (cond (decide (x_c.Saved=(0:Int)))
     (cond x_c.SavedUser
      (cond (decide (((List.length x_c.Regs:Nat):Int)=(0:Int)))
       (cond (decide (x_c.Bad=(0:Int)))
        (cond (decide (x_c.Cause=(0:Int)))
         (cond (decide (x_c.Timer=(0:Int)))
          (some false)
          (some false))
         (some false))
        (some false))
       (some false))
      (cond x_c.Waits
       (cond (decide (((List.length x_c.Regs:Nat):Int)=(0:Int)))
        (cond (decide (x_c.Bad=(0:Int)))
         (cond (decide (x_c.Cause=(0:Int)))
          (cond (decide (x_c.Timer=(0:Int)))
           (some false)
           (some false))
          (some false))
         (some false))
        (some false))
       (cond x_c.User
        (cond (decide (((List.length x_c.Regs:Nat):Int)=(0:Int)))
         (cond (decide (x_c.Bad=(0:Int)))
          (cond (decide (x_c.Cause=(0:Int)))
           (cond (decide (x_c.Timer=(0:Int)))
            (some false)
            (some false))
           (some false))
          (some false))
         (some false))
        (cond x_c.On
         (cond (decide (((List.length x_c.Regs:Nat):Int)=(0:Int)))
          (cond (decide (x_c.Bad=(0:Int)))
           (cond (decide (x_c.Cause=(0:Int)))
            (cond (decide (x_c.Timer=(0:Int)))
             (some false)
             (some false))
            (some false))
           (some false))
          (some false))
         (cond (decide (((List.length x_c.Regs:Nat):Int)=(0:Int)))
          (cond (decide (x_c.Bad=(0:Int)))
           (cond (decide (x_c.Cause=(0:Int)))
            (cond (decide (x_c.Timer=(0:Int)))
             (some (!x_c.Stopped))
             (some false))
            (some false))
           (some false))
          (some false))))))
     (cond x_c.SavedUser
      (cond (decide (((List.length x_c.Regs:Nat):Int)=(0:Int)))
       (some false)
       (some false))
      (cond x_c.Waits
       (cond (decide (((List.length x_c.Regs:Nat):Int)=(0:Int)))
        (some false)
        (some false))
       (cond x_c.User
        (cond (decide (((List.length x_c.Regs:Nat):Int)=(0:Int)))
         (some false)
         (some false))
        (cond x_c.On
         (cond (decide (((List.length x_c.Regs:Nat):Int)=(0:Int)))
          (some false)
          (some false))
         (cond (decide (((List.length x_c.Regs:Nat):Int)=(0:Int)))
          (some false)
          (some false)))))))
    (cond x_c.SavedUser
     (cond (decide (((List.length x_c.Regs:Nat):Int)=(0:Int)))
      (some false)
      (some false))
     (cond x_c.Waits
      (cond (decide (((List.length x_c.Regs:Nat):Int)=(0:Int)))
       (some false)
       (some false))
      (cond x_c.User
       (cond (decide (((List.length x_c.Regs:Nat):Int)=(0:Int)))
        (some false)
        (some false))
       (cond x_c.On
        (cond (decide (((List.length x_c.Regs:Nat):Int)=(0:Int)))
         (some false)
         (some false))
        (cond (decide (((List.length x_c.Regs:Nat):Int)=(0:Int)))
         (some false)
         (some false)))))))
   (cond x_c.SavedUser
    (cond (decide (((List.length x_c.Regs:Nat):Int)=(0:Int)))
     (some false)
     (some false))
    (cond x_c.Waits
     (cond (decide (((List.length x_c.Regs:Nat):Int)=(0:Int)))
      (some false)
      (some false))
     (cond x_c.User
      (cond (decide (((List.length x_c.Regs:Nat):Int)=(0:Int)))
       (some false)
       (some false))
      (cond x_c.On
       (cond (decide (((List.length x_c.Regs:Nat):Int)=(0:Int)))
        (some false)
        (some false))
       (cond (decide (((List.length x_c.Regs:Nat):Int)=(0:Int)))
        (some false)
        (some false)))))))
  (cond x_c.SavedUser
   (cond (decide (((List.length x_c.Regs:Nat):Int)=(0:Int)))
    (some false)
    (some false))
   (cond x_c.Waits
    (cond (decide (((List.length x_c.Regs:Nat):Int)=(0:Int)))
     (some false)
     (some false))
    (cond x_c.User
     (cond (decide (((List.length x_c.Regs:Nat):Int)=(0:Int)))
      (some false)
      (some false))
     (cond x_c.On
      (cond (decide (((List.length x_c.Regs:Nat):Int)=(0:Int)))
       (some false)
       (some false))
      (cond (decide (((List.length x_c.Regs:Nat):Int)=(0:Int)))
       (some false)
       (some false))))))
noncomputable def bMc:Sg tG:=⟨[.st 38],.one .b,oJ⟩
theorem bPb:Sok 136 bMc:=sgx [] trivial .o kr kr kr
noncomputable def mC (x_guest:DGuest):Option Bool:=
 Option.bind (oJ x_guest.C) λv1=>
 cond v1
  (cond (decide (((List.length x_guest.Pages:Nat):Int)=(0:Int)))
   (cond (decide (((List.length x_guest.In:Nat):Int)=(0:Int)))
    (some (decide (((List.length x_guest.Out:Nat):Int)=(0:Int))))
    (some false))
   (some false))
  (some false)
noncomputable def bMh:Sg tG:=⟨[.st 41],.one .b,mC⟩
theorem bOk:Sok 119 bMh:=sgx [(136,.r bMc)] ⟨bPb,trivial⟩ .o kr kr kr
noncomputable def rO (x_s:DSlot):Option Bool:=
 cond (decide (x_s.Frame=(-1:Int)))
  (cond (!x_s.Write)
   (some (!x_s.Dirty))
   (some false))
  (cond (decide ((0:Int)<=x_s.Frame))
   (some (decide (x_s.Frame<(20:Int))))
   (some false))
noncomputable def bNc:Sg tG:=⟨[.st 43],.one .b,rO⟩
theorem bPl:Sok 138 bNc:=sgx [] trivial .o kr kr kr
noncomputable def aIo  (s1:Unit):Option Bool:=some true
noncomputable def wW (x_pages:List DSlot)(s2:Int):Option (LO Int (JO Unit Bool)):=
 cond (decide (s2<((List.length x_pages:Nat):Int)))
  (grd ((0:Int)<=s2/\s2<((List.length x_pages:Nat):Int)) (Option.bind (rO (DSlot.mk (List.getD x_pages (Int.toNat s2) default).Frame (List.getD x_pages (Int.toNat s2) default).Write (List.getD x_pages (Int.toNat s2) default).Dirty)) λv3=>
   cond (!v3)
    (some (.ret (.out false)))
    (some (.next (w64 (s2+(1:Int)))))))
  (some (.ret (.go ())))
noncomputable def qB (x_pages:List DSlot):Option Bool:=
 cond (!decide (((List.length x_pages:Nat):Int)=(8:Int)))
  (some false)
  (Option.bind (Option.bind (iter (wW x_pages) (0:Int)) LO.val) λj1=>
   JO.run j1 aIo)
noncomputable def bKu:Sg tG:=⟨[.row 43],.one .b,qB⟩
theorem bOs:Sok 121 bKu:=sgx [(138,.r bNc)] ⟨bPl,trivial⟩ (.s .o (.s .o (.j ⟨[],[],[]⟩ (.s .o (.k (.l ⟨[8,9],[],[(.s 10,.i .i64)]⟩ .o))) .o))) kr kr kr
noncomputable def mM (x_guest:DGuest):Option Bool:=
 cond (!x_guest.Live)
  (Option.bind (mC x_guest) λv1=>
  some v1)
  (Option.bind (rV x_guest.C) λv2=>
  cond v2
   (Option.bind (qB x_guest.Pages) λv3=>
   cond v3
    (Option.bind (pR x_guest.In) λv4=>
    cond v4
     (Option.bind (pR x_guest.Out) λv5=>
     some v5)
     (some false))
    (some false))
   (some false))
noncomputable def g94:Sg tG:=⟨[.st 41],.one .b,mM⟩
theorem s94:Sok 94 g94:=sgx [(119,.r bMh),(120,.r bNb),(121,.r bKu),(122,.r bMy)] ⟨bOk,bOm,bOs,bOo,trivial⟩ .o kr kr kr
noncomputable def aHf  (s1:Unit):Option Bool:=some true
noncomputable def lE (x_guests:List DGuest)(s2:Int):Option (LO Int (JO Unit Bool)):=
 cond (decide (s2<((List.length x_guests:Nat):Int)))
  (grd ((0:Int)<=s2/\s2<((List.length x_guests:Nat):Int)) (Option.bind (mM (DGuest.mk (List.getD x_guests (Int.toNat s2) default).Live (DCore.mk ((List.getD x_guests (Int.toNat s2) default).C).Regs ((List.getD x_guests (Int.toNat s2) default).C).Pc ((List.getD x_guests (Int.toNat s2) default).C).Root ((List.getD x_guests (Int.toNat s2) default).C).Vector ((List.getD x_guests (Int.toNat s2) default).C).Saved ((List.getD x_guests (Int.toNat s2) default).C).SavedUser ((List.getD x_guests (Int.toNat s2) default).C).Cause ((List.getD x_guests (Int.toNat s2) default).C).Bad ((List.getD x_guests (Int.toNat s2) default).C).Timer ((List.getD x_guests (Int.toNat s2) default).C).Waits ((List.getD x_guests (Int.toNat s2) default).C).User ((List.getD x_guests (Int.toNat s2) default).C).On ((List.getD x_guests (Int.toNat s2) default).C).Stopped) (List.getD x_guests (Int.toNat s2) default).Pages (List.getD x_guests (Int.toNat s2) default).In (List.getD x_guests (Int.toNat s2) default).Out)) λv3=>
   cond (!v3)
    (some (.ret (.out false)))
    (some (.next (w64 (s2+(1:Int)))))))
  (some (.ret (.go ())))
noncomputable def oQ (x_guests:List DGuest):Option Bool:=
 cond (!decide (((List.length x_guests:Nat):Int)=(3:Int)))
  (some false)
  (Option.bind (Option.bind (iter (lE x_guests) (0:Int)) LO.val) λj1=>
   JO.run j1 aHf)
noncomputable def g50:Sg tG:=⟨[.row 41],.one .b,oQ⟩
theorem s50:Sok 50 g50:=sgx [(94,.r g94)] ⟨s94,trivial⟩ (.s .o (.s .o (.j ⟨[],[],[]⟩ (.s .o (.k (.l ⟨[8,9],[],[(.s 10,.i .i64)]⟩ .o))) .o))) kr kr kr
noncomputable def tF  (s1:List Int):Option (List Int):=some s1
noncomputable def tC (s2:(List Int)×Int)(s3:List Int):Option (LO ((List Int)×Int) (JO (List Int) (List Int))):=some (.next (s3,w64 (s2.2+(1:Int))))
noncomputable def tA (s4:(List Int)×Int)(s5:List Int):Option (LO ((List Int)×Int) (JO (List Int) (LO ((List Int)×Int) (JO (List Int) (List Int))))):=some (.next (s5,w64 (s4.2+(1:Int))))
noncomputable def fJ (x_guests:List DGuest)(s2:(List Int)×Int)(s4:(List Int)×Int):Option (LO ((List Int)×Int) (JO (List Int) (LO ((List Int)×Int) (JO (List Int) (List Int))))):=
 cond (decide (s4.2<((List.length (List.getD x_guests (Int.toNat s2.2) default).Pages:Nat):Int)))
  (Option.bind (grd ((0:Int)<=s4.2/\s4.2<((List.length (List.getD x_guests (Int.toNat s2.2) default).Pages:Nat):Int)) (cond (!decide ((List.getD (List.getD x_guests (Int.toNat s2.2) default).Pages (Int.toNat s4.2) default).Frame=(-1:Int)))
   (grd ((0:Int)<=(List.getD (List.getD x_guests (Int.toNat s2.2) default).Pages (Int.toNat s4.2) default).Frame/\(List.getD (List.getD x_guests (Int.toNat s2.2) default).Pages (Int.toNat s4.2) default).Frame<((List.length s4.1:Nat):Int)) (grd ((0:Int)<=(List.getD (List.getD x_guests (Int.toNat s2.2) default).Pages (Int.toNat s4.2) default).Frame/\(List.getD (List.getD x_guests (Int.toNat s2.2) default).Pages (Int.toNat s4.2) default).Frame<((List.length s4.1:Nat):Int)) (some (.go (List.set s4.1 (Int.toNat (List.getD (List.getD x_guests (Int.toNat s2.2) default).Pages (Int.toNat s4.2) default).Frame) (w64 ((List.getD s4.1 (Int.toNat (List.getD (List.getD x_guests (Int.toNat s2.2) default).Pages (Int.toNat s4.2) default).Frame) default)+(1:Int))))))))
   (some (.go s4.1)))) λj5=>
   JO.run j5 (tA s4))
  (some (.ret (.go s4.1)))
noncomputable def iM (x_guests:List DGuest)(s2:(List Int)×Int):Option (LO ((List Int)×Int) (JO (List Int) (List Int))):=
 cond (decide (s2.2<((List.length x_guests:Nat):Int)))
  (Option.bind (grd ((0:Int)<=s2.2/\s2.2<((List.length x_guests:Nat):Int)) (Option.bind (iter (fJ x_guests s2) (s2.1,(0:Int))) LO.val)) λj3=>
   JO.run j3 (tC s2))
  (some (.ret (.go s2.1)))
noncomputable def eJ (x_guests:List DGuest):Option (List Int):=
 Option.bind (Option.bind (iter (iM x_guests) ((List.replicate (Int.toNat (20:Int)) (0:Int)),(0:Int))) LO.val) λj1=>
  JO.run j1 tF
noncomputable def g86:Sg tG:=⟨[.row 41],.one (.row 3),eJ⟩
theorem s86:Sok 86 g86:=sgx [] trivial (.s .o (.s .o (.j ⟨[],[],[(.s 3,.ro 3)]⟩ (.s .o (.k (.l ⟨[9,10],[],[(.s 3,.ro 3),(.s 11,.i .i64)]⟩ (.s .o (.s .o (.j ⟨[9,10,11],[],[(.s 3,.ro 3)]⟩ (.k (.s .o (.s .o (.k (.l ⟨[9,10,11,16,17],[],[(.s 3,.ro 3),(.s 18,.i .i64)]⟩ (.s .o (.s .o (.j ⟨[9,10,11,16,17,18],[],[(.s 3,.ro 3)]⟩ .o .o)))))))) .o)))))) .o))) kr kr kr
noncomputable def xR  (s2:Unit):Option Bool:=some true
noncomputable def oO (s3:Int)(s4:Unit):Option (LO Int (JO Unit Bool)):=some (.next (w64 (s3+(1:Int))))
noncomputable def jF (s5:Int)(s6:Unit):Option (LO Int (JO Unit (LO Int (JO Unit Bool)))):=some (.next (w64 (s5+(1:Int))))
noncomputable def eC (x_guests:List DGuest)(v1:List Int)(s3:Int)(s5:Int):Option (LO Int (JO Unit (LO Int (JO Unit Bool)))):=
 cond (decide (s5<((List.length (List.getD x_guests (Int.toNat s3) default).Pages:Nat):Int)))
  (Option.bind (grd ((0:Int)<=s5/\s5<((List.length (List.getD x_guests (Int.toNat s3) default).Pages:Nat):Int)) (cond (List.getD (List.getD x_guests (Int.toNat s3) default).Pages (Int.toNat s5) default).Write
   (grd ((0:Int)<=(List.getD (List.getD x_guests (Int.toNat s3) default).Pages (Int.toNat s5) default).Frame/\(List.getD (List.getD x_guests (Int.toNat s3) default).Pages (Int.toNat s5) default).Frame<((List.length v1:Nat):Int)) (cond (decide ((1:Int)<(List.getD v1 (Int.toNat (List.getD (List.getD x_guests (Int.toNat s3) default).Pages (Int.toNat s5) default).Frame) default)))
    (some (.out (.ret (.out (.ret (.out false))))))
    (some (.go ()))))
   (some (.go ())))) λj6=>
   JO.run j6 (jF s5))
  (some (.ret (.go ())))
noncomputable def fR (x_guests:List DGuest)(v1:List Int)(s3:Int):Option (LO Int (JO Unit Bool)):=
 cond (decide (s3<((List.length x_guests:Nat):Int)))
  (Option.bind (grd ((0:Int)<=s3/\s3<((List.length x_guests:Nat):Int)) (Option.bind (iter (eC x_guests v1 s3) (0:Int)) LO.val)) λj4=>
   JO.run j4 (oO s3))
  (some (.ret (.go ())))
noncomputable def hY (x_guests:List DGuest):Option Bool:=
 Option.bind (eJ x_guests) λv1=>
 Option.bind (Option.bind (iter (fR x_guests v1) (0:Int)) LO.val) λj2=>
  JO.run j2 xR
noncomputable def g51:Sg tG:=⟨[.row 41],.one .b,hY⟩
theorem s51:Sok 51 g51:=sgx [(86,.r g86)] ⟨s86,trivial⟩ (.s .o (.s .o (.j ⟨[],[],[]⟩ (.s .o (.k (.l ⟨[3,10,11],[],[(.s 12,.i .i64)]⟩ (.s .o (.s .o (.j ⟨[3,10,11,12],[],[]⟩ (.k (.s .o (.s .o (.k (.l ⟨[3,10,11,12,17,18],[],[(.s 19,.i .i64)]⟩ (.s .o (.s .o (.j ⟨[3,10,11,12,17,18,19],[],[]⟩ .o .o)))))))) .o)))))) .o))) kr kr kr
noncomputable def dT (x_h:DHost):Option Bool:=
 cond (decide (((List.length x_h.Words:Nat):Int)=(160:Int)))
  (Option.bind (jW x_h.Words) λv1=>
  cond v1
   (Option.bind (oQ x_h.Guests) λv2=>
   cond v2
    (Option.bind (hY x_h.Guests) λv3=>
    some v3)
    (some false))
   (some false))
  (some false)
noncomputable def g14:Sg tG:=⟨[.st 26],.one .b,dT⟩
theorem s14:Sok 14 g14:=sgx [(49,.r g49),(50,.r g50),(51,.r g51)] ⟨s49,s50,s51,trivial⟩ .o kr kr kr
noncomputable def nV (x_g:DGuest):Option Bool:=
 cond (decide (((List.length x_g.C.Regs:Nat):Int)=(0:Int)))
  (cond (decide (x_g.C.Pc=(0:Int)))
   (cond (decide (x_g.C.Root=(0:Int)))
    (cond (decide (x_g.C.Vector=(0:Int)))
     (cond (decide (x_g.C.Saved=(0:Int)))
      (cond (!x_g.C.SavedUser)
       (cond (decide (x_g.C.Cause=(0:Int)))
        (cond (decide (x_g.C.Bad=(0:Int)))
         (cond (decide (x_g.C.Timer=(0:Int)))
          (cond (!x_g.C.Waits)
           (cond (!x_g.C.User)
            (cond (!x_g.C.On)
             (cond (!x_g.C.Stopped)
              (cond (decide (((List.length x_g.Pages:Nat):Int)=(0:Int)))
               (cond (decide (((List.length x_g.In:Nat):Int)=(0:Int)))
                (some (decide (((List.length x_g.Out:Nat):Int)=(0:Int))))
                (some false))
               (some false))
              (some false))
             (some false))
            (some false))
           (some false))
          (some false))
         (some false))
        (some false))
       (some false))
      (some false))
     (some false))
    (some false))
   (some false))
  (some false)
noncomputable def g91:Sg tG:=⟨[.st 41],.one .b,nV⟩
theorem s91:Sok 91 g91:=sgx [] trivial .o kr kr kr
noncomputable def aJs  (s3:Unit):Option Bool:=some true
noncomputable def sJ (s4:Int)(s5:Unit):Option (LO Int (JO Unit Bool)):=some (.next (w64 (s4+(1:Int))))
noncomputable def nA (s2:(List Int)×(List Bool))(s4:Int):Option (LO Int (JO Unit Bool)):=
 cond (decide (s4<(20:Int)))
  (Option.bind (grd ((0:Int)<=s4/\s4<((List.length s2.1:Nat):Int)) (cond (decide ((1:Int)<(List.getD s2.1 (Int.toNat s4) default)))
   (grd ((0:Int)<=s4/\s4<((List.length s2.2:Nat):Int)) (cond (List.getD s2.2 (Int.toNat s4) default)
    (some (.out (.ret (.out false))))
    (some (.go ()))))
   (some (.go ())))) λj5=>
   JO.run j5 (sJ s4))
  (some (.ret (.go ())))
noncomputable def zG  (s2:(List Int)×(List Bool)):Option Bool:=
 Option.bind (Option.bind (iter (nA s2) (0:Int)) LO.val) λj3=>
  JO.run j3 aJs
noncomputable def sC (s6:(List Int)×(List Bool)×Int)(s7:(List Int)×(List Bool)):Option (LO ((List Int)×(List Bool)×Int) (JO ((List Int)×(List Bool)) Bool)):=some (.next (s7.1,s7.2,w64 (s6.2.2+(1:Int))))
noncomputable def rC (s12:(List Int)×(List Bool)×Int)(s13:(List Bool)×(List Int)):Option (LO ((List Int)×(List Bool)×Int) (JO ((List Int)×(List Bool)) (LO ((List Int)×(List Bool)×Int) (JO ((List Int)×(List Bool)) Bool)))):=some (.next (s13.2,s13.1,w64 (s12.2.2+(1:Int))))
noncomputable def rD (x_h:DHost)(s6:(List Int)×(List Bool)×Int)(s12:(List Int)×(List Bool)×Int)(s14:Unit):Option (JO ((List Bool)×(List Int)) (LO ((List Int)×(List Bool)×Int) (JO ((List Int)×(List Bool)) (LO ((List Int)×(List Bool)×Int) (JO ((List Int)×(List Bool)) Bool))))):=
 cond (decide ((0:Int)<=(List.getD (List.getD x_h.Guests (Int.toNat s6.2.2) default).Pages (Int.toNat s12.2.2) default).Frame))
  (grd ((0:Int)<=(List.getD (List.getD x_h.Guests (Int.toNat s6.2.2) default).Pages (Int.toNat s12.2.2) default).Frame/\(List.getD (List.getD x_h.Guests (Int.toNat s6.2.2) default).Pages (Int.toNat s12.2.2) default).Frame<((List.length s12.1:Nat):Int)) (grd ((0:Int)<=(List.getD (List.getD x_h.Guests (Int.toNat s6.2.2) default).Pages (Int.toNat s12.2.2) default).Frame/\(List.getD (List.getD x_h.Guests (Int.toNat s6.2.2) default).Pages (Int.toNat s12.2.2) default).Frame<((List.length s12.1:Nat):Int)) (grd ((0:Int)<=(List.getD (List.getD x_h.Guests (Int.toNat s6.2.2) default).Pages (Int.toNat s12.2.2) default).Frame/\(List.getD (List.getD x_h.Guests (Int.toNat s6.2.2) default).Pages (Int.toNat s12.2.2) default).Frame<((List.length s12.2.1:Nat):Int)) (cond (List.getD s12.2.1 (Int.toNat (List.getD (List.getD x_h.Guests (Int.toNat s6.2.2) default).Pages (Int.toNat s12.2.2) default).Frame) default)
   (grd ((0:Int)<=(List.getD (List.getD x_h.Guests (Int.toNat s6.2.2) default).Pages (Int.toNat s12.2.2) default).Frame/\(List.getD (List.getD x_h.Guests (Int.toNat s6.2.2) default).Pages (Int.toNat s12.2.2) default).Frame<((List.length s12.2.1:Nat):Int)) (some (.go ((List.set s12.2.1 (Int.toNat (List.getD (List.getD x_h.Guests (Int.toNat s6.2.2) default).Pages (Int.toNat s12.2.2) default).Frame) true),List.set s12.1 (Int.toNat (List.getD (List.getD x_h.Guests (Int.toNat s6.2.2) default).Pages (Int.toNat s12.2.2) default).Frame) (w64 ((List.getD s12.1 (Int.toNat (List.getD (List.getD x_h.Guests (Int.toNat s6.2.2) default).Pages (Int.toNat s12.2.2) default).Frame) default)+(1:Int)))))))
   (grd ((0:Int)<=(List.getD (List.getD x_h.Guests (Int.toNat s6.2.2) default).Pages (Int.toNat s12.2.2) default).Frame/\(List.getD (List.getD x_h.Guests (Int.toNat s6.2.2) default).Pages (Int.toNat s12.2.2) default).Frame<((List.length s12.2.1:Nat):Int)) (some (.go ((List.set s12.2.1 (Int.toNat (List.getD (List.getD x_h.Guests (Int.toNat s6.2.2) default).Pages (Int.toNat s12.2.2) default).Frame) (List.getD (List.getD x_h.Guests (Int.toNat s6.2.2) default).Pages (Int.toNat s12.2.2) default).Write),List.set s12.1 (Int.toNat (List.getD (List.getD x_h.Guests (Int.toNat s6.2.2) default).Pages (Int.toNat s12.2.2) default).Frame) (w64 ((List.getD s12.1 (Int.toNat (List.getD (List.getD x_h.Guests (Int.toNat s6.2.2) default).Pages (Int.toNat s12.2.2) default).Frame) default)+(1:Int)))))))))))
  (some (.go (s12.2.1,s12.1)))
noncomputable def iV (x_h:DHost)(s6:(List Int)×(List Bool)×Int)(s12:(List Int)×(List Bool)×Int):Option (LO ((List Int)×(List Bool)×Int) (JO ((List Int)×(List Bool)) (LO ((List Int)×(List Bool)×Int) (JO ((List Int)×(List Bool)) Bool)))):=
 cond (decide (s12.2.2<((List.length (List.getD x_h.Guests (Int.toNat s6.2.2) default).Pages:Nat):Int)))
  (Option.bind (grd ((0:Int)<=s12.2.2/\s12.2.2<((List.length (List.getD x_h.Guests (Int.toNat s6.2.2) default).Pages:Nat):Int)) (Option.bind (Option.bind (cS (List.getD (List.getD x_h.Guests (Int.toNat s6.2.2) default).Pages (Int.toNat s12.2.2) default).Frame (-1:Int) (19:Int)) λv15=>
   cond (!v15)
    (some (.out (.out (.ret (.out (.ret (.out false)))))))
    (cond (decide ((List.getD (List.getD x_h.Guests (Int.toNat s6.2.2) default).Pages (Int.toNat s12.2.2) default).Frame=(-1:Int)))
     (cond (List.getD (List.getD x_h.Guests (Int.toNat s6.2.2) default).Pages (Int.toNat s12.2.2) default).Write
      (some (.out (.out (.ret (.out (.ret (.out false)))))))
      (cond (List.getD (List.getD x_h.Guests (Int.toNat s6.2.2) default).Pages (Int.toNat s12.2.2) default).Dirty
       (some (.out (.out (.ret (.out (.ret (.out false)))))))
       (some (.go ()))))
     (some (.go ())))) λj14=>
   JO.run j14 (rD x_h s6 s12))) λj13=>
   JO.run j13 (rC s12))
  (some (.ret (.go (s12.1,s12.2.1))))
noncomputable def kG (x_h:DHost)(s6:(List Int)×(List Bool)×Int):Option (LO ((List Int)×(List Bool)×Int) (JO ((List Int)×(List Bool)) Bool)):=
 cond (decide (s6.2.2<((List.length x_h.Guests:Nat):Int)))
  (Option.bind (grd ((0:Int)<=s6.2.2/\s6.2.2<((List.length x_h.Guests:Nat):Int)) (cond (!(List.getD x_h.Guests (Int.toNat s6.2.2) default).Live)
   (Option.bind (nV (DGuest.mk (List.getD x_h.Guests (Int.toNat s6.2.2) default).Live (DCore.mk ((List.getD x_h.Guests (Int.toNat s6.2.2) default).C).Regs ((List.getD x_h.Guests (Int.toNat s6.2.2) default).C).Pc ((List.getD x_h.Guests (Int.toNat s6.2.2) default).C).Root ((List.getD x_h.Guests (Int.toNat s6.2.2) default).C).Vector ((List.getD x_h.Guests (Int.toNat s6.2.2) default).C).Saved ((List.getD x_h.Guests (Int.toNat s6.2.2) default).C).SavedUser ((List.getD x_h.Guests (Int.toNat s6.2.2) default).C).Cause ((List.getD x_h.Guests (Int.toNat s6.2.2) default).C).Bad ((List.getD x_h.Guests (Int.toNat s6.2.2) default).C).Timer ((List.getD x_h.Guests (Int.toNat s6.2.2) default).C).Waits ((List.getD x_h.Guests (Int.toNat s6.2.2) default).C).User ((List.getD x_h.Guests (Int.toNat s6.2.2) default).C).On ((List.getD x_h.Guests (Int.toNat s6.2.2) default).C).Stopped) (List.getD x_h.Guests (Int.toNat s6.2.2) default).Pages (List.getD x_h.Guests (Int.toNat s6.2.2) default).In (List.getD x_h.Guests (Int.toNat s6.2.2) default).Out)) λv8=>
   cond (!v8)
    (some (.out (.ret (.out false))))
    (some (.go (s6.1,s6.2.1))))
   (Option.bind (kZ (DCore.mk ((List.getD x_h.Guests (Int.toNat s6.2.2) default).C).Regs ((List.getD x_h.Guests (Int.toNat s6.2.2) default).C).Pc ((List.getD x_h.Guests (Int.toNat s6.2.2) default).C).Root ((List.getD x_h.Guests (Int.toNat s6.2.2) default).C).Vector ((List.getD x_h.Guests (Int.toNat s6.2.2) default).C).Saved ((List.getD x_h.Guests (Int.toNat s6.2.2) default).C).SavedUser ((List.getD x_h.Guests (Int.toNat s6.2.2) default).C).Cause ((List.getD x_h.Guests (Int.toNat s6.2.2) default).C).Bad ((List.getD x_h.Guests (Int.toNat s6.2.2) default).C).Timer ((List.getD x_h.Guests (Int.toNat s6.2.2) default).C).Waits ((List.getD x_h.Guests (Int.toNat s6.2.2) default).C).User ((List.getD x_h.Guests (Int.toNat s6.2.2) default).C).On ((List.getD x_h.Guests (Int.toNat s6.2.2) default).C).Stopped)) λv9=>
   cond (!v9)
    (some (.out (.ret (.out false))))
    (cond (!decide (((List.length (List.getD x_h.Guests (Int.toNat s6.2.2) default).Pages:Nat):Int)=(8:Int)))
     (some (.out (.ret (.out false))))
     (Option.bind (dW (List.getD x_h.Guests (Int.toNat s6.2.2) default).In (30:Int)) λv10=>
     cond (!v10)
      (some (.out (.ret (.out false))))
      (Option.bind (dW (List.getD x_h.Guests (Int.toNat s6.2.2) default).Out (30:Int)) λv11=>
      cond (!v11)
       (some (.out (.ret (.out false))))
       (Option.bind (iter (iV x_h s6) (s6.1,s6.2.1,(0:Int))) LO.val))))))) λj7=>
   JO.run j7 (sC s6))
  (some (.ret (.go (s6.1,s6.2.1))))
noncomputable def gH (x_h:DHost):Option Bool:=
 Option.bind (dW x_h.Words (160:Int)) λv1=>
 cond (!v1)
  (some false)
  (cond (!decide (((List.length x_h.Words:Nat):Int)=(160:Int)))
   (some false)
   (cond (!decide (((List.length x_h.Guests:Nat):Int)=(3:Int)))
    (some false)
    (Option.bind (Option.bind (iter (kG x_h) ((List.replicate (Int.toNat (20:Int)) (0:Int)),List.replicate (Int.toNat (20:Int)) false,(0:Int))) LO.val) λj2=>
     JO.run j2 zG)))
noncomputable def g45:Sg tG:=⟨[.st 26],.one .b,gH⟩
theorem s45:Sok 45 g45:=sgx [(90,.r g90),(91,.r g91),(92,.r g92),(73,.r g73)] ⟨s90,s91,s92,s73,trivial⟩ (.s .o (.s .o (.s .o (.s .o (.j ⟨[],[],[(.s 3,.ro 3),(.s 4,.ro 4)]⟩ (.s .o (.k (.l ⟨[1],[],[(.s 3,.ro 3),(.s 4,.ro 4),(.s 5,.i .i64)]⟩ (.s .o (.j ⟨[1,5],[],[(.s 3,.ro 3),(.s 4,.ro 4)]⟩ (.k (.s .o (.s .o (.s .o (.s .o (.k (.l ⟨[1,5,6],[],[(.s 3,.ro 3),(.s 4,.ro 4),(.s 7,.i .i64)]⟩ (.s .o (.j ⟨[1,5,6,7],[],[(.s 4,.ro 4),(.s 3,.ro 3)]⟩ (.k (.s .o (.j ⟨[1,3,4,5,6,7,8],[],[]⟩ .o .o))) .o))))))))) .o))))) (.j ⟨[],[],[]⟩ (.s .o (.k (.l ⟨[3,4],[],[(.s 9,.i .i64)]⟩ (.s .o (.j ⟨[3,4,9],[],[]⟩ .o .o))))) .o)))))) kr kr kr
end Go.Proofs.Ytkjabgefacfpfaa
