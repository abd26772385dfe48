/- Plain functions of the program, and that it hands back what they say. Made by program. -/
import Derived.Test.YtkjabgefacfpfaaGreatWTD
import Derived.Test.YtkjabgefacfpfaaGreatProg
namespace Go.Proofs.YtkjabgefacfpfaaGreat
open Go.RowKit
set_option maxRecDepth 100000
set_option linter.all false
set_option maxHeartbeats 0
noncomputable def fO (x_n:Int):Option Bool:=
 cond (decide ((0:Int)<=x_n))
  (some (decide (x_n<=(4095:Int))))
  (some false)
noncomputable def g55:Sg tG:=⟨[.i .i64],.one .b,fO⟩
theorem s55:Sok 55 g55:=sgx [] trivial .o kr kr kr
noncomputable def aMj  (s1:Unit):Option Bool:=some true
noncomputable def yI (x_list:List Int)(s2:Int):Option (LO Int (JO Unit Bool)):=
 cond (decide (s2<((List.length x_list:Nat):Int)))
  (grd ((0:Int)<=s2/\s2<((List.length x_list:Nat):Int)) (Option.bind (fO (List.getD x_list (Int.toNat s2) default)) λv3=>
   cond (!v3)
    (some (.ret (.out false)))
    (some (.next (w64 (s2+(1:Int)))))))
  (some (.ret (.go ())))
noncomputable def iE (x_list:List Int):Option Bool:=
 Option.bind (Option.bind (iter (yI x_list) (0:Int)) LO.val) λj1=>
  JO.run j1 aMj
noncomputable def g52:Sg tG:=⟨[.row 3],.one .b,iE⟩
theorem s52:Sok 52 g52:=sgx [(55,.r g55)] ⟨s55,trivial⟩ (.s .o (.j ⟨[],[],[]⟩ (.s .o (.k (.l ⟨[5,6],[],[(.s 7,.i .i64)]⟩ .o))) .o)) kr kr kr
noncomputable def cQ (x_addr:Int):Option Bool:=
 cond (decide ((0:Int)<=x_addr))
  (some (decide (x_addr<(64:Int))))
  (some false)
noncomputable def bNl:Sg tG:=⟨[.i .i64],.one .b,cQ⟩
theorem bTq:Sok 157 bNl:=sgx [] trivial .o kr kr kr
noncomputable def jI (x_page:Int):Option Bool:=
 cond (decide ((0:Int)<=x_page))
  (some (decide (x_page<(8:Int))))
  (some false)
noncomputable def bAz:Sg tG:=⟨[.i .i64],.one .b,jI⟩
theorem bIi:Sok 138 bAz:=sgx [] trivial .o kr kr kr
noncomputable def lN (x_root:Int):Option Bool:=
 cond (decide (x_root=(-1:Int)))
  (some true)
  (Option.bind (jI x_root) λv1=>
  some v1)
noncomputable def bOz:Sg tG:=⟨[.i .i64],.one .b,lN⟩
theorem bXh:Sok 158 bOz:=sgx [(138,.r bAz)] ⟨bIi,trivial⟩ .o kr kr kr
noncomputable def oO (x_c:DCore):Option Bool:=
 cond (decide (((List.length x_c.Regs:Nat):Int)=(4:Int)))
  (Option.bind (iE x_c.Regs) λv1=>
  Option.bind (cQ x_c.Pc) λv2=>
  cond v2
   (Option.bind (cQ x_c.Vector) λv3=>
   cond v3
    (Option.bind (cQ x_c.Saved) λv4=>
    cond v4
     (Option.bind (cQ x_c.Bad) λv5=>
     cond (decide ((0:Int)<=x_c.Cause))
      (cond v1
       (cond v5
        (Option.bind (lN x_c.Root) λv6=>
        cond v6
         (cond (decide (x_c.Cause<=(4:Int)))
          (Option.bind (fO x_c.Timer) λv7=>
          some v7)
          (some false))
         (some false))
        (some false))
       (some false))
      (cond v1
       (cond v5
        (Option.bind (lN x_c.Root) λv8=>
        cond v8
         (some false)
         (some false))
        (some false))
       (some false)))
     (cond (decide ((0:Int)<=x_c.Cause))
      (cond v1
       (some false)
       (some false))
      (cond v1
       (some false)
       (some false))))
    (cond (decide ((0:Int)<=x_c.Cause))
     (cond v1
      (some false)
      (some false))
     (cond v1
      (some false)
      (some false))))
   (cond (decide ((0:Int)<=x_c.Cause))
    (cond v1
     (some false)
     (some false))
    (cond v1
     (some false)
     (some false))))
  (Option.bind (cQ x_c.Pc) λv9=>
  cond v9
   (Option.bind (cQ x_c.Vector) λv10=>
   cond v10
    (Option.bind (cQ x_c.Saved) λv11=>
    cond v11
     (Option.bind (cQ x_c.Bad) λv12=>
     cond (decide ((0:Int)<=x_c.Cause))
      (some false)
      (some false))
     (cond (decide ((0:Int)<=x_c.Cause))
      (some false)
      (some false)))
    (cond (decide ((0:Int)<=x_c.Cause))
     (some false)
     (some false)))
   (cond (decide ((0:Int)<=x_c.Cause))
    (some false)
    (some false)))
noncomputable def bNr:Sg tG:=⟨[.st 35],.one .b,oO⟩
theorem bUu:Sok 123 bNr:=sgx [(52,.r g52),(157,.r bNl),(158,.r bOz),(55,.r g55)] ⟨s52,bTq,bXh,s55,trivial⟩ .o kr kr kr
noncomputable def aBo (x_mem:List Int):Option Bool:=
 cond (decide (((List.length x_mem:Nat):Int)=(64:Int)))
  (Option.bind (iE x_mem) λv1=>
  some v1)
  (some false)
noncomputable def bMx:Sg tG:=⟨[.row 3],.one .b,aBo⟩
theorem bUe:Sok 124 bMx:=sgx [(52,.r g52)] ⟨s52,trivial⟩ .o kr kr kr
noncomputable def kV (x_words:List Int):Option Bool:=
 cond (decide (((List.length x_words:Nat):Int)<=(30:Int)))
  (Option.bind (iE x_words) λv1=>
  some v1)
  (some false)
noncomputable def bMt:Sg tG:=⟨[.row 3],.one .b,kV⟩
theorem bTc:Sok 125 bMt:=sgx [(52,.r g52)] ⟨s52,trivial⟩ .o kr kr kr
noncomputable def aHz (x_b:DBare):Option Bool:=
 Option.bind (oO x_b.C) λv1=>
 cond v1
  (Option.bind (aBo x_b.Mem) λv2=>
  cond v2
   (Option.bind (kV x_b.In) λv3=>
   cond v3
    (Option.bind (kV x_b.Out) λv4=>
    some v4)
    (some false))
   (some false))
  (some false)
noncomputable def g77:Sg tG:=⟨[.st 47],.one .b,aHz⟩
theorem s77:Sok 77 g77:=sgx [(123,.r bNr),(124,.r bMx),(125,.r bMt)] ⟨bUu,bUe,bTc,trivial⟩ .o kr kr kr
noncomputable def bZ (x_n:Int)(x_low:Int)(x_high:Int):Option Bool:=
 cond (decide (x_low<=x_n))
  (some (decide (x_n<=x_high)))
  (some false)
noncomputable def g97:Sg tG:=⟨[.i .i64,.i .i64,.i .i64],.one .b,bZ⟩
theorem s97:Sok 97 g97:=sgx [] trivial .o kr kr kr
noncomputable def fK (x_n:Int):Option Bool:=
 Option.bind (bZ x_n (0:Int) (4095:Int)) λv1=>
 some v1
noncomputable def aTo:Sg tG:=⟨[.i .i64],.one .b,fK⟩
theorem aXj:Sok 120 aTo:=sgx [(97,.r g97)] ⟨s97,trivial⟩ .o kr kr kr
noncomputable def sG (x_list:List Int)(x_most:Int)(s1:Unit):Option Bool:=some (decide (((List.length x_list:Nat):Int)<=x_most))
noncomputable def sN (x_list:List Int)(s2:Int):Option (LO Int (JO Unit Bool)):=
 cond (decide (s2<((List.length x_list:Nat):Int)))
  (grd ((0:Int)<=s2/\s2<((List.length x_list:Nat):Int)) (Option.bind (fK (List.getD x_list (Int.toNat s2) default)) λv3=>
   cond (!v3)
    (some (.ret (.out false)))
    (some (.next (w64 (s2+(1:Int)))))))
  (some (.ret (.go ())))
noncomputable def eC (x_list:List Int)(x_most:Int):Option Bool:=
 Option.bind (Option.bind (iter (sN x_list) (0:Int)) LO.val) λj1=>
  JO.run j1 (sG x_list x_most)
noncomputable def g94:Sg tG:=⟨[.row 3,.i .i64],.one .b,eC⟩
theorem s94:Sok 94 g94:=sgx [(120,.r aTo)] ⟨aXj,trivial⟩ (.s .o (.j ⟨[0,1],[],[]⟩ (.s .o (.k (.l ⟨[0,1],[],[(.s 5,.i .i64)]⟩ .o))) .o)) kr kr kr
noncomputable def aAk (x_c:DCore)(s1:Unit):Option Bool:=
 cond (decide (((List.length x_c.Regs:Nat):Int)=(4:Int)))
  (Option.bind (bZ x_c.Pc (0:Int) (63:Int)) λv2=>
  cond v2
   (Option.bind (bZ x_c.Vector (0:Int) (63:Int)) λv3=>
   cond v3
    (Option.bind (bZ x_c.Saved (0:Int) (63:Int)) λv4=>
    cond v4
     (Option.bind (bZ x_c.Bad (0:Int) (63:Int)) λv5=>
     cond v5
      (Option.bind (bZ x_c.Root (-1:Int) (7:Int)) λv6=>
      cond v6
       (Option.bind (bZ x_c.Cause (0:Int) (4:Int)) λv7=>
       cond v7
        (Option.bind (fK x_c.Timer) λv8=>
        some v8)
        (some false))
       (some false))
      (some false))
     (some false))
    (some false))
   (some false))
  (some false)
noncomputable def zW (x_c:DCore)(s9:Int):Option (LO Int (JO Unit Bool)):=
 cond (decide (s9<((List.length x_c.Regs:Nat):Int)))
  (grd ((0:Int)<=s9/\s9<((List.length x_c.Regs:Nat):Int)) (Option.bind (fK (List.getD x_c.Regs (Int.toNat s9) default)) λv10=>
   cond (!v10)
    (some (.ret (.out false)))
    (some (.next (w64 (s9+(1:Int)))))))
  (some (.ret (.go ())))
noncomputable def lQ (x_c:DCore):Option Bool:=
 Option.bind (Option.bind (iter (zW x_c) (0:Int)) LO.val) λj1=>
  JO.run j1 (aAk x_c)
noncomputable def g96:Sg tG:=⟨[.st 35],.one .b,lQ⟩
theorem s96:Sok 96 g96:=sgx [(120,.r aTo),(97,.r g97)] ⟨aXj,s97,trivial⟩ (.s .o (.j ⟨[1],[],[]⟩ (.s .o (.k (.l ⟨[1],[],[(.s 3,.i .i64)]⟩ .o))) .o)) kr kr kr
noncomputable def aCx (x_mem:List Int)(s1:Unit):Option Bool:=some (decide (((List.length x_mem:Nat):Int)=(64:Int)))
noncomputable def aCg (x_mem:List Int)(s2:Int):Option (LO Int (JO Unit Bool)):=
 cond (decide (s2<((List.length x_mem:Nat):Int)))
  (grd ((0:Int)<=s2/\s2<((List.length x_mem:Nat):Int)) (Option.bind (fK (List.getD x_mem (Int.toNat s2) default)) λv3=>
   cond (!v3)
    (some (.ret (.out false)))
    (some (.next (w64 (s2+(1:Int)))))))
  (some (.ret (.go ())))
noncomputable def uW (x_mem:List Int):Option Bool:=
 Option.bind (Option.bind (iter (aCg x_mem) (0:Int)) LO.val) λj1=>
  JO.run j1 (aCx x_mem)
noncomputable def bUn:Sg tG:=⟨[.row 3],.one .b,uW⟩
theorem bZm:Sok 190 bUn:=sgx [(120,.r aTo)] ⟨aXj,trivial⟩ (.s .o (.j ⟨[0],[],[]⟩ (.s .o (.k (.l ⟨[0],[],[(.s 3,.i .i64)]⟩ .o))) .o)) kr kr kr
noncomputable def tH (x_b:DBare):Option Bool:=
 Option.bind (lQ x_b.C) λv1=>
 cond v1
  (Option.bind (uW x_b.Mem) λv2=>
  cond v2
   (Option.bind (eC x_b.In (30:Int)) λv3=>
   cond v3
    (Option.bind (eC x_b.Out (30:Int)) λv4=>
    some v4)
    (some false))
   (some false))
  (some false)
noncomputable def bVy:Sg tG:=⟨[.st 47],.one .b,tH⟩
theorem bYt:Sok 172 bVy:=sgx [(96,.r g96),(190,.r bUn),(94,.r g94)] ⟨s96,bZm,s94,trivial⟩ .o kr kr kr
noncomputable def pQ (x_c:DCore):Option Bool:=
 cond (decide (x_c.Pc=(0:Int)))
  (cond (decide (x_c.Root=(0:Int)))
   (cond (decide (x_c.Vector=(0:Int)))
    (cond (decide (x_c.Saved=(0:Int)))
     (cond x_c.SavedUser
      (cond (decide (((List.length x_c.Regs:Nat):Int)=(0:Int)))
       (cond (decide (x_c.Bad=(0:Int)))
        (cond (decide (x_c.Cause=(0:Int)))
         (cond (decide (x_c.Timer=(0:Int)))
          (some false)
          (some false))
         (some false))
        (some false))
       (some false))
      (cond x_c.Waits
       (cond (decide (((List.length x_c.Regs:Nat):Int)=(0:Int)))
        (cond (decide (x_c.Bad=(0:Int)))
         (cond (decide (x_c.Cause=(0:Int)))
          (cond (decide (x_c.Timer=(0:Int)))
           (some false)
           (some false))
          (some false))
         (some false))
        (some false))
       (cond x_c.User
        (cond (decide (((List.length x_c.Regs:Nat):Int)=(0:Int)))
         (cond (decide (x_c.Bad=(0:Int)))
          (cond (decide (x_c.Cause=(0:Int)))
           (cond (decide (x_c.Timer=(0:Int)))
            (some false)
            (some false))
           (some false))
          (some false))
         (some false))
        (cond x_c.On
         (cond (decide (((List.length x_c.Regs:Nat):Int)=(0:Int)))
          (cond (decide (x_c.Bad=(0:Int)))
           (cond (decide (x_c.Cause=(0:Int)))
            (cond (decide (x_c.Timer=(0:Int)))
             (some false)
             (some false))
            (some false))
           (some false))
          (some false))
         (cond (decide (((List.length x_c.Regs:Nat):Int)=(0:Int)))
          (cond (decide (x_c.Bad=(0:Int)))
           (cond (decide (x_c.Cause=(0:Int)))
            (cond (decide (x_c.Timer=(0:Int)))
             (some (!x_c.Stopped))
             (some false))
            (some false))
           (some false))
          (some false))))))
     (cond x_c.SavedUser
      (cond (decide (((List.length x_c.Regs:Nat):Int)=(0:Int)))
       (some false)
       (some false))
      (cond x_c.Waits
       (cond (decide (((List.length x_c.Regs:Nat):Int)=(0:Int)))
        (some false)
        (some false))
       (cond x_c.User
        (cond (decide (((List.length x_c.Regs:Nat):Int)=(0:Int)))
         (some false)
         (some false))
        (cond x_c.On
         (cond (decide (((List.length x_c.Regs:Nat):Int)=(0:Int)))
          (some false)
          (some false))
         (cond (decide (((List.length x_c.Regs:Nat):Int)=(0:Int)))
          (some false)
          (some false)))))))
    (cond x_c.SavedUser
     (cond (decide (((List.length x_c.Regs:Nat):Int)=(0:Int)))
      (some false)
      (some false))
     (cond x_c.Waits
      (cond (decide (((List.length x_c.Regs:Nat):Int)=(0:Int)))
       (some false)
       (some false))
      (cond x_c.User
       (cond (decide (((List.length x_c.Regs:Nat):Int)=(0:Int)))
        (some false)
        (some false))
       (cond x_c.On
        (cond (decide (((List.length x_c.Regs:Nat):Int)=(0:Int)))
         (some false)
         (some false))
        (cond (decide (((List.length x_c.Regs:Nat):Int)=(0:Int)))
         (some false)
         (some false)))))))
   (cond x_c.SavedUser
    (cond (decide (((List.length x_c.Regs:Nat):Int)=(0:Int)))
     (some false)
     (some false))
    (cond x_c.Waits
     (cond (decide (((List.length x_c.Regs:Nat):Int)=(0:Int)))
      (some false)
      (some false))
     (cond x_c.User
      (cond (decide (((List.length x_c.Regs:Nat):Int)=(0:Int)))
       (some false)
       (some false))
      (cond x_c.On
       (cond (decide (((List.length x_c.Regs:Nat):Int)=(0:Int)))
        (some false)
        (some false))
       (cond (decide (((List.length x_c.Regs:Nat):Int)=(0:Int)))
        (some false)
        (some false)))))))
  (cond x_c.SavedUser
   (cond (decide (((List.length x_c.Regs:Nat):Int)=(0:Int)))
    (some false)
    (some false))
   (cond x_c.Waits
    (cond (decide (((List.length x_c.Regs:Nat):Int)=(0:Int)))
     (some false)
     (some false))
    (cond x_c.User
     (cond (decide (((List.length x_c.Regs:Nat):Int)=(0:Int)))
      (some false)
      (some false))
     (cond x_c.On
      (cond (decide (((List.length x_c.Regs:Nat):Int)=(0:Int)))
       (some false)
       (some false))
      (cond (decide (((List.length x_c.Regs:Nat):Int)=(0:Int)))
       (some false)
       (some false))))))
noncomputable def bUc:Sg tG:=⟨[.st 35],.one .b,pQ⟩
theorem bZg:Sok 176 bUc:=sgx [] trivial .o kr kr kr
noncomputable def mT (x_guest:DGuest):Option Bool:=
 Option.bind (pQ x_guest.C) λv1=>
 cond v1
  (cond (decide (((List.length x_guest.Pages:Nat):Int)=(0:Int)))
   (cond (decide (((List.length x_guest.In:Nat):Int)=(0:Int)))
    (some (decide (((List.length x_guest.Out:Nat):Int)=(0:Int))))
    (some false))
   (some false))
  (some false)
noncomputable def bTt:Sg tG:=⟨[.st 38],.one .b,mT⟩
theorem cAb:Sok 144 bTt:=sgx [(176,.r bUc)] ⟨bZg,trivial⟩ .o kr kr kr
noncomputable def tK (x_s:DSlot):Option Bool:=
 cond (decide (x_s.Frame=(-1:Int)))
  (cond (!x_s.Write)
   (some (!x_s.Dirty))
   (some false))
  (cond (decide ((0:Int)<=x_s.Frame))
   (some (decide (x_s.Frame<(20:Int))))
   (some false))
noncomputable def bTh:Sg tG:=⟨[.st 53],.one .b,tK⟩
theorem bYp:Sok 177 bTh:=sgx [] trivial .o kr kr kr
noncomputable def aMi  (s1:Unit):Option Bool:=some true
noncomputable def yE (x_pages:List DSlot)(s2:Int):Option (LO Int (JO Unit Bool)):=
 cond (decide (s2<((List.length x_pages:Nat):Int)))
  (grd ((0:Int)<=s2/\s2<((List.length x_pages:Nat):Int)) (Option.bind (tK (DSlot.mk (List.getD x_pages (Int.toNat s2) default).Frame (List.getD x_pages (Int.toNat s2) default).Write (List.getD x_pages (Int.toNat s2) default).Dirty)) λv3=>
   cond (!v3)
    (some (.ret (.out false)))
    (some (.next (w64 (s2+(1:Int)))))))
  (some (.ret (.go ())))
noncomputable def rD (x_pages:List DSlot):Option Bool:=
 cond (!decide (((List.length x_pages:Nat):Int)=(8:Int)))
  (some false)
  (Option.bind (Option.bind (iter (yE x_pages) (0:Int)) LO.val) λj1=>
   JO.run j1 aMi)
noncomputable def bWo:Sg tG:=⟨[.row 53],.one .b,rD⟩
theorem bZw:Sok 145 bWo:=sgx [(177,.r bTh)] ⟨bYp,trivial⟩ (.s .o (.s .o (.j ⟨[],[],[]⟩ (.s .o (.k (.l ⟨[8,9],[],[(.s 10,.i .i64)]⟩ .o))) .o))) kr kr kr
noncomputable def nC (x_guest:DGuest):Option Bool:=
 cond (!x_guest.Live)
  (Option.bind (mT x_guest) λv1=>
  some v1)
  (Option.bind (oO x_guest.C) λv2=>
  cond v2
   (Option.bind (rD x_guest.Pages) λv3=>
   cond v3
    (Option.bind (kV x_guest.In) λv4=>
    cond v4
     (Option.bind (kV x_guest.Out) λv5=>
     some v5)
     (some false))
    (some false))
   (some false))
noncomputable def g99:Sg tG:=⟨[.st 38],.one .b,nC⟩
theorem s99:Sok 99 g99:=sgx [(144,.r bTt),(123,.r bNr),(145,.r bWo),(125,.r bMt)] ⟨cAb,bUu,bZw,bTc,trivial⟩ .o kr kr kr
noncomputable def aKo  (s1:Unit):Option Bool:=some true
noncomputable def lU (x_guests:List DGuest)(s2:Int):Option (LO Int (JO Unit Bool)):=
 cond (decide (s2<((List.length x_guests:Nat):Int)))
  (grd ((0:Int)<=s2/\s2<((List.length x_guests:Nat):Int)) (Option.bind (nC (DGuest.mk (List.getD x_guests (Int.toNat s2) default).Live (DCore.mk ((List.getD x_guests (Int.toNat s2) default).C).Regs ((List.getD x_guests (Int.toNat s2) default).C).Pc ((List.getD x_guests (Int.toNat s2) default).C).Root ((List.getD x_guests (Int.toNat s2) default).C).Vector ((List.getD x_guests (Int.toNat s2) default).C).Saved ((List.getD x_guests (Int.toNat s2) default).C).SavedUser ((List.getD x_guests (Int.toNat s2) default).C).Cause ((List.getD x_guests (Int.toNat s2) default).C).Bad ((List.getD x_guests (Int.toNat s2) default).C).Timer ((List.getD x_guests (Int.toNat s2) default).C).Waits ((List.getD x_guests (Int.toNat s2) default).C).User ((List.getD x_guests (Int.toNat s2) default).C).On ((List.getD x_guests (Int.toNat s2) default).C).Stopped) (List.getD x_guests (Int.toNat s2) default).Pages (List.getD x_guests (Int.toNat s2) default).In (List.getD x_guests (Int.toNat s2) default).Out)) λv3=>
   cond (!v3)
    (some (.ret (.out false)))
    (some (.next (w64 (s2+(1:Int)))))))
  (some (.ret (.go ())))
noncomputable def pE (x_guests:List DGuest):Option Bool:=
 cond (!decide (((List.length x_guests:Nat):Int)=(3:Int)))
  (some false)
  (Option.bind (Option.bind (iter (lU x_guests) (0:Int)) LO.val) λj1=>
   JO.run j1 aKo)
noncomputable def g53:Sg tG:=⟨[.row 38],.one .b,pE⟩
theorem s53:Sok 53 g53:=sgx [(99,.r g99)] ⟨s99,trivial⟩ (.s .o (.s .o (.j ⟨[],[],[]⟩ (.s .o (.k (.l ⟨[8,9],[],[(.s 10,.i .i64)]⟩ .o))) .o))) kr kr kr
noncomputable def tY  (s1:List Int):Option (List Int):=some s1
noncomputable def uE (s2:(List Int)×Int)(s3:List Int):Option (LO ((List Int)×Int) (JO (List Int) (List Int))):=some (.next (s3,w64 (s2.2+(1:Int))))
noncomputable def uA (s4:(List Int)×Int)(s5:List Int):Option (LO ((List Int)×Int) (JO (List Int) (LO ((List Int)×Int) (JO (List Int) (List Int))))):=some (.next (s5,w64 (s4.2+(1:Int))))
noncomputable def fW (x_guests:List DGuest)(s2:(List Int)×Int)(s4:(List Int)×Int):Option (LO ((List Int)×Int) (JO (List Int) (LO ((List Int)×Int) (JO (List Int) (List Int))))):=
 cond (decide (s4.2<((List.length (List.getD x_guests (Int.toNat s2.2) default).Pages:Nat):Int)))
  (Option.bind (grd ((0:Int)<=s4.2/\s4.2<((List.length (List.getD x_guests (Int.toNat s2.2) default).Pages:Nat):Int)) (cond (!decide ((List.getD (List.getD x_guests (Int.toNat s2.2) default).Pages (Int.toNat s4.2) default).Frame=(-1:Int)))
   (grd ((0:Int)<=(List.getD (List.getD x_guests (Int.toNat s2.2) default).Pages (Int.toNat s4.2) default).Frame/\(List.getD (List.getD x_guests (Int.toNat s2.2) default).Pages (Int.toNat s4.2) default).Frame<((List.length s4.1:Nat):Int)) (grd ((0:Int)<=(List.getD (List.getD x_guests (Int.toNat s2.2) default).Pages (Int.toNat s4.2) default).Frame/\(List.getD (List.getD x_guests (Int.toNat s2.2) default).Pages (Int.toNat s4.2) default).Frame<((List.length s4.1:Nat):Int)) (some (.go (List.set s4.1 (Int.toNat (List.getD (List.getD x_guests (Int.toNat s2.2) default).Pages (Int.toNat s4.2) default).Frame) (w64 ((List.getD s4.1 (Int.toNat (List.getD (List.getD x_guests (Int.toNat s2.2) default).Pages (Int.toNat s4.2) default).Frame) default)+(1:Int))))))))
   (some (.go s4.1)))) λj5=>
   JO.run j5 (uA s4))
  (some (.ret (.go s4.1)))
noncomputable def jA (x_guests:List DGuest)(s2:(List Int)×Int):Option (LO ((List Int)×Int) (JO (List Int) (List Int))):=
 cond (decide (s2.2<((List.length x_guests:Nat):Int)))
  (Option.bind (grd ((0:Int)<=s2.2/\s2.2<((List.length x_guests:Nat):Int)) (Option.bind (iter (fW x_guests s2) (s2.1,(0:Int))) LO.val)) λj3=>
   JO.run j3 (uE s2))
  (some (.ret (.go s2.1)))
noncomputable def dL (x_guests:List DGuest):Option (List Int):=
 Option.bind (Option.bind (iter (jA x_guests) ((List.replicate (Int.toNat (20:Int)) (0:Int)),(0:Int))) LO.val) λj1=>
  JO.run j1 tY
noncomputable def g91:Sg tG:=⟨[.row 38],.one (.row 3),dL⟩
theorem s91:Sok 91 g91:=sgx [] trivial (.s .o (.s .o (.j ⟨[],[],[(.s 3,.ro 3)]⟩ (.s .o (.k (.l ⟨[9,10],[],[(.s 3,.ro 3),(.s 11,.i .i64)]⟩ (.s .o (.s .o (.j ⟨[9,10,11],[],[(.s 3,.ro 3)]⟩ (.k (.s .o (.s .o (.k (.l ⟨[9,10,11,16,17],[],[(.s 3,.ro 3),(.s 18,.i .i64)]⟩ (.s .o (.s .o (.j ⟨[9,10,11,16,17,18],[],[(.s 3,.ro 3)]⟩ .o .o)))))))) .o)))))) .o))) kr kr kr
noncomputable def zH  (s2:Unit):Option Bool:=some true
noncomputable def pK (s3:Int)(s4:Unit):Option (LO Int (JO Unit Bool)):=some (.next (w64 (s3+(1:Int))))
noncomputable def jY (s5:Int)(s6:Unit):Option (LO Int (JO Unit (LO Int (JO Unit Bool)))):=some (.next (w64 (s5+(1:Int))))
noncomputable def eN (x_guests:List DGuest)(v1:List Int)(s3:Int)(s5:Int):Option (LO Int (JO Unit (LO Int (JO Unit Bool)))):=
 cond (decide (s5<((List.length (List.getD x_guests (Int.toNat s3) default).Pages:Nat):Int)))
  (Option.bind (grd ((0:Int)<=s5/\s5<((List.length (List.getD x_guests (Int.toNat s3) default).Pages:Nat):Int)) (cond (List.getD (List.getD x_guests (Int.toNat s3) default).Pages (Int.toNat s5) default).Write
   (grd ((0:Int)<=(List.getD (List.getD x_guests (Int.toNat s3) default).Pages (Int.toNat s5) default).Frame/\(List.getD (List.getD x_guests (Int.toNat s3) default).Pages (Int.toNat s5) default).Frame<((List.length v1:Nat):Int)) (cond (decide ((1:Int)<(List.getD v1 (Int.toNat (List.getD (List.getD x_guests (Int.toNat s3) default).Pages (Int.toNat s5) default).Frame) default)))
    (some (.out (.ret (.out (.ret (.out false))))))
    (some (.go ()))))
   (some (.go ())))) λj6=>
   JO.run j6 (jY s5))
  (some (.ret (.go ())))
noncomputable def gC (x_guests:List DGuest)(v1:List Int)(s3:Int):Option (LO Int (JO Unit Bool)):=
 cond (decide (s3<((List.length x_guests:Nat):Int)))
  (Option.bind (grd ((0:Int)<=s3/\s3<((List.length x_guests:Nat):Int)) (Option.bind (iter (eN x_guests v1 s3) (0:Int)) LO.val)) λj4=>
   JO.run j4 (pK s3))
  (some (.ret (.go ())))
noncomputable def iF (x_guests:List DGuest):Option Bool:=
 Option.bind (dL x_guests) λv1=>
 Option.bind (Option.bind (iter (gC x_guests v1) (0:Int)) LO.val) λj2=>
  JO.run j2 zH
noncomputable def g54:Sg tG:=⟨[.row 38],.one .b,iF⟩
theorem s54:Sok 54 g54:=sgx [(91,.r g91)] ⟨s91,trivial⟩ (.s .o (.s .o (.j ⟨[],[],[]⟩ (.s .o (.k (.l ⟨[3,10,11],[],[(.s 12,.i .i64)]⟩ (.s .o (.s .o (.j ⟨[3,10,11,12],[],[]⟩ (.k (.s .o (.s .o (.k (.l ⟨[3,10,11,12,17,18],[],[(.s 19,.i .i64)]⟩ (.s .o (.s .o (.j ⟨[3,10,11,12,17,18,19],[],[]⟩ .o .o)))))))) .o)))))) .o))) kr kr kr
noncomputable def jE (x_h:DHost):Option Bool:=
 cond (decide (((List.length x_h.Words:Nat):Int)=(160:Int)))
  (Option.bind (iE x_h.Words) λv1=>
  cond v1
   (Option.bind (pE x_h.Guests) λv2=>
   cond v2
    (Option.bind (iF x_h.Guests) λv3=>
    some v3)
    (some false))
   (some false))
  (some false)
noncomputable def g15:Sg tG:=⟨[.st 26],.one .b,jE⟩
theorem s15:Sok 15 g15:=sgx [(52,.r g52),(53,.r g53),(54,.r g54)] ⟨s52,s53,s54,trivial⟩ .o kr kr kr
noncomputable def oH (x_g:DGuest):Option Bool:=
 cond (decide (((List.length x_g.C.Regs:Nat):Int)=(0:Int)))
  (cond (decide (x_g.C.Pc=(0:Int)))
   (cond (decide (x_g.C.Root=(0:Int)))
    (cond (decide (x_g.C.Vector=(0:Int)))
     (cond (decide (x_g.C.Saved=(0:Int)))
      (cond (!x_g.C.SavedUser)
       (cond (decide (x_g.C.Cause=(0:Int)))
        (cond (decide (x_g.C.Bad=(0:Int)))
         (cond (decide (x_g.C.Timer=(0:Int)))
          (cond (!x_g.C.Waits)
           (cond (!x_g.C.User)
            (cond (!x_g.C.On)
             (cond (!x_g.C.Stopped)
              (cond (decide (((List.length x_g.Pages:Nat):Int)=(0:Int)))
               (cond (decide (((List.length x_g.In:Nat):Int)=(0:Int)))
                (some (decide (((List.length x_g.Out:Nat):Int)=(0:Int))))
                (some false))
               (some false))
              (some false))
             (some false))
            (some false))
           (some false))
          (some false))
         (some false))
        (some false))
       (some false))
      (some false))
     (some false))
    (some false))
   (some false))
  (some false)
noncomputable def g95:Sg tG:=⟨[.st 38],.one .b,oH⟩
theorem s95:Sok 95 g95:=sgx [] trivial .o kr kr kr
noncomputable def aOq  (s3:Unit):Option Bool:=some true
noncomputable def tM (s4:Int)(s5:Unit):Option (LO Int (JO Unit Bool)):=some (.next (w64 (s4+(1:Int))))
noncomputable def nQ (s2:(List Int)×(List Bool))(s4:Int):Option (LO Int (JO Unit Bool)):=
 cond (decide (s4<(20:Int)))
  (Option.bind (grd ((0:Int)<=s4/\s4<((List.length s2.1:Nat):Int)) (cond (decide ((1:Int)<(List.getD s2.1 (Int.toNat s4) default)))
   (grd ((0:Int)<=s4/\s4<((List.length s2.2:Nat):Int)) (cond (List.getD s2.2 (Int.toNat s4) default)
    (some (.out (.ret (.out false))))
    (some (.go ()))))
   (some (.go ())))) λj5=>
   JO.run j5 (tM s4))
  (some (.ret (.go ())))
noncomputable def aBf  (s2:(List Int)×(List Bool)):Option Bool:=
 Option.bind (Option.bind (iter (nQ s2) (0:Int)) LO.val) λj3=>
  JO.run j3 aOq
noncomputable def tX (s6:(List Int)×(List Bool)×Int)(s7:(List Int)×(List Bool)):Option (LO ((List Int)×(List Bool)×Int) (JO ((List Int)×(List Bool)) Bool)):=some (.next (s7.1,s7.2,w64 (s6.2.2+(1:Int))))
noncomputable def sH (s12:(List Int)×(List Bool)×Int)(s13:(List Bool)×(List Int)):Option (LO ((List Int)×(List Bool)×Int) (JO ((List Int)×(List Bool)) (LO ((List Int)×(List Bool)×Int) (JO ((List Int)×(List Bool)) Bool)))):=some (.next (s13.2,s13.1,w64 (s12.2.2+(1:Int))))
noncomputable def sR (x_h:DHost)(s6:(List Int)×(List Bool)×Int)(s12:(List Int)×(List Bool)×Int)(s14:Unit):Option (JO ((List Bool)×(List Int)) (LO ((List Int)×(List Bool)×Int) (JO ((List Int)×(List Bool)) (LO ((List Int)×(List Bool)×Int) (JO ((List Int)×(List Bool)) Bool))))):=
 cond (decide ((0:Int)<=(List.getD (List.getD x_h.Guests (Int.toNat s6.2.2) default).Pages (Int.toNat s12.2.2) default).Frame))
  (grd ((0:Int)<=(List.getD (List.getD x_h.Guests (Int.toNat s6.2.2) default).Pages (Int.toNat s12.2.2) default).Frame/\(List.getD (List.getD x_h.Guests (Int.toNat s6.2.2) default).Pages (Int.toNat s12.2.2) default).Frame<((List.length s12.1:Nat):Int)) (grd ((0:Int)<=(List.getD (List.getD x_h.Guests (Int.toNat s6.2.2) default).Pages (Int.toNat s12.2.2) default).Frame/\(List.getD (List.getD x_h.Guests (Int.toNat s6.2.2) default).Pages (Int.toNat s12.2.2) default).Frame<((List.length s12.1:Nat):Int)) (grd ((0:Int)<=(List.getD (List.getD x_h.Guests (Int.toNat s6.2.2) default).Pages (Int.toNat s12.2.2) default).Frame/\(List.getD (List.getD x_h.Guests (Int.toNat s6.2.2) default).Pages (Int.toNat s12.2.2) default).Frame<((List.length s12.2.1:Nat):Int)) (cond (List.getD s12.2.1 (Int.toNat (List.getD (List.getD x_h.Guests (Int.toNat s6.2.2) default).Pages (Int.toNat s12.2.2) default).Frame) default)
   (grd ((0:Int)<=(List.getD (List.getD x_h.Guests (Int.toNat s6.2.2) default).Pages (Int.toNat s12.2.2) default).Frame/\(List.getD (List.getD x_h.Guests (Int.toNat s6.2.2) default).Pages (Int.toNat s12.2.2) default).Frame<((List.length s12.2.1:Nat):Int)) (some (.go ((List.set s12.2.1 (Int.toNat (List.getD (List.getD x_h.Guests (Int.toNat s6.2.2) default).Pages (Int.toNat s12.2.2) default).Frame) true),List.set s12.1 (Int.toNat (List.getD (List.getD x_h.Guests (Int.toNat s6.2.2) default).Pages (Int.toNat s12.2.2) default).Frame) (w64 ((List.getD s12.1 (Int.toNat (List.getD (List.getD x_h.Guests (Int.toNat s6.2.2) default).Pages (Int.toNat s12.2.2) default).Frame) default)+(1:Int)))))))
   (grd ((0:Int)<=(List.getD (List.getD x_h.Guests (Int.toNat s6.2.2) default).Pages (Int.toNat s12.2.2) default).Frame/\(List.getD (List.getD x_h.Guests (Int.toNat s6.2.2) default).Pages (Int.toNat s12.2.2) default).Frame<((List.length s12.2.1:Nat):Int)) (some (.go ((List.set s12.2.1 (Int.toNat (List.getD (List.getD x_h.Guests (Int.toNat s6.2.2) default).Pages (Int.toNat s12.2.2) default).Frame) (List.getD (List.getD x_h.Guests (Int.toNat s6.2.2) default).Pages (Int.toNat s12.2.2) default).Write),List.set s12.1 (Int.toNat (List.getD (List.getD x_h.Guests (Int.toNat s6.2.2) default).Pages (Int.toNat s12.2.2) default).Frame) (w64 ((List.getD s12.1 (Int.toNat (List.getD (List.getD x_h.Guests (Int.toNat s6.2.2) default).Pages (Int.toNat s12.2.2) default).Frame) default)+(1:Int)))))))))))
  (some (.go (s12.2.1,s12.1)))
noncomputable def jO (x_h:DHost)(s6:(List Int)×(List Bool)×Int)(s12:(List Int)×(List Bool)×Int):Option (LO ((List Int)×(List Bool)×Int) (JO ((List Int)×(List Bool)) (LO ((List Int)×(List Bool)×Int) (JO ((List Int)×(List Bool)) Bool)))):=
 cond (decide (s12.2.2<((List.length (List.getD x_h.Guests (Int.toNat s6.2.2) default).Pages:Nat):Int)))
  (Option.bind (grd ((0:Int)<=s12.2.2/\s12.2.2<((List.length (List.getD x_h.Guests (Int.toNat s6.2.2) default).Pages:Nat):Int)) (Option.bind (Option.bind (bZ (List.getD (List.getD x_h.Guests (Int.toNat s6.2.2) default).Pages (Int.toNat s12.2.2) default).Frame (-1:Int) (19:Int)) λv15=>
   cond (!v15)
    (some (.out (.out (.ret (.out (.ret (.out false)))))))
    (cond (decide ((List.getD (List.getD x_h.Guests (Int.toNat s6.2.2) default).Pages (Int.toNat s12.2.2) default).Frame=(-1:Int)))
     (cond (List.getD (List.getD x_h.Guests (Int.toNat s6.2.2) default).Pages (Int.toNat s12.2.2) default).Write
      (some (.out (.out (.ret (.out (.ret (.out false)))))))
      (cond (List.getD (List.getD x_h.Guests (Int.toNat s6.2.2) default).Pages (Int.toNat s12.2.2) default).Dirty
       (some (.out (.out (.ret (.out (.ret (.out false)))))))
       (some (.go ()))))
     (some (.go ())))) λj14=>
   JO.run j14 (sR x_h s6 s12))) λj13=>
   JO.run j13 (sH s12))
  (some (.ret (.go (s12.1,s12.2.1))))
noncomputable def kW (x_h:DHost)(s6:(List Int)×(List Bool)×Int):Option (LO ((List Int)×(List Bool)×Int) (JO ((List Int)×(List Bool)) Bool)):=
 cond (decide (s6.2.2<((List.length x_h.Guests:Nat):Int)))
  (Option.bind (grd ((0:Int)<=s6.2.2/\s6.2.2<((List.length x_h.Guests:Nat):Int)) (cond (!(List.getD x_h.Guests (Int.toNat s6.2.2) default).Live)
   (Option.bind (oH (DGuest.mk (List.getD x_h.Guests (Int.toNat s6.2.2) default).Live (DCore.mk ((List.getD x_h.Guests (Int.toNat s6.2.2) default).C).Regs ((List.getD x_h.Guests (Int.toNat s6.2.2) default).C).Pc ((List.getD x_h.Guests (Int.toNat s6.2.2) default).C).Root ((List.getD x_h.Guests (Int.toNat s6.2.2) default).C).Vector ((List.getD x_h.Guests (Int.toNat s6.2.2) default).C).Saved ((List.getD x_h.Guests (Int.toNat s6.2.2) default).C).SavedUser ((List.getD x_h.Guests (Int.toNat s6.2.2) default).C).Cause ((List.getD x_h.Guests (Int.toNat s6.2.2) default).C).Bad ((List.getD x_h.Guests (Int.toNat s6.2.2) default).C).Timer ((List.getD x_h.Guests (Int.toNat s6.2.2) default).C).Waits ((List.getD x_h.Guests (Int.toNat s6.2.2) default).C).User ((List.getD x_h.Guests (Int.toNat s6.2.2) default).C).On ((List.getD x_h.Guests (Int.toNat s6.2.2) default).C).Stopped) (List.getD x_h.Guests (Int.toNat s6.2.2) default).Pages (List.getD x_h.Guests (Int.toNat s6.2.2) default).In (List.getD x_h.Guests (Int.toNat s6.2.2) default).Out)) λv8=>
   cond (!v8)
    (some (.out (.ret (.out false))))
    (some (.go (s6.1,s6.2.1))))
   (Option.bind (lQ (DCore.mk ((List.getD x_h.Guests (Int.toNat s6.2.2) default).C).Regs ((List.getD x_h.Guests (Int.toNat s6.2.2) default).C).Pc ((List.getD x_h.Guests (Int.toNat s6.2.2) default).C).Root ((List.getD x_h.Guests (Int.toNat s6.2.2) default).C).Vector ((List.getD x_h.Guests (Int.toNat s6.2.2) default).C).Saved ((List.getD x_h.Guests (Int.toNat s6.2.2) default).C).SavedUser ((List.getD x_h.Guests (Int.toNat s6.2.2) default).C).Cause ((List.getD x_h.Guests (Int.toNat s6.2.2) default).C).Bad ((List.getD x_h.Guests (Int.toNat s6.2.2) default).C).Timer ((List.getD x_h.Guests (Int.toNat s6.2.2) default).C).Waits ((List.getD x_h.Guests (Int.toNat s6.2.2) default).C).User ((List.getD x_h.Guests (Int.toNat s6.2.2) default).C).On ((List.getD x_h.Guests (Int.toNat s6.2.2) default).C).Stopped)) λv9=>
   cond (!v9)
    (some (.out (.ret (.out false))))
    (cond (!decide (((List.length (List.getD x_h.Guests (Int.toNat s6.2.2) default).Pages:Nat):Int)=(8:Int)))
     (some (.out (.ret (.out false))))
     (Option.bind (eC (List.getD x_h.Guests (Int.toNat s6.2.2) default).In (30:Int)) λv10=>
     cond (!v10)
      (some (.out (.ret (.out false))))
      (Option.bind (eC (List.getD x_h.Guests (Int.toNat s6.2.2) default).Out (30:Int)) λv11=>
      cond (!v11)
       (some (.out (.ret (.out false))))
       (Option.bind (iter (jO x_h s6) (s6.1,s6.2.1,(0:Int))) LO.val))))))) λj7=>
   JO.run j7 (tX s6))
  (some (.ret (.go (s6.1,s6.2.1))))
noncomputable def gU (x_h:DHost):Option Bool:=
 Option.bind (eC x_h.Words (160:Int)) λv1=>
 cond (!v1)
  (some false)
  (cond (!decide (((List.length x_h.Words:Nat):Int)=(160:Int)))
   (some false)
   (cond (!decide (((List.length x_h.Guests:Nat):Int)=(3:Int)))
    (some false)
    (Option.bind (Option.bind (iter (kW x_h) ((List.replicate (Int.toNat (20:Int)) (0:Int)),List.replicate (Int.toNat (20:Int)) false,(0:Int))) LO.val) λj2=>
     JO.run j2 aBf)))
noncomputable def g47:Sg tG:=⟨[.st 26],.one .b,gU⟩
theorem s47:Sok 47 g47:=sgx [(94,.r g94),(95,.r g95),(96,.r g96),(97,.r g97)] ⟨s94,s95,s96,s97,trivial⟩ (.s .o (.s .o (.s .o (.s .o (.j ⟨[],[],[(.s 3,.ro 3),(.s 4,.ro 4)]⟩ (.s .o (.k (.l ⟨[1],[],[(.s 3,.ro 3),(.s 4,.ro 4),(.s 5,.i .i64)]⟩ (.s .o (.j ⟨[1,5],[],[(.s 3,.ro 3),(.s 4,.ro 4)]⟩ (.k (.s .o (.s .o (.s .o (.s .o (.k (.l ⟨[1,5,6],[],[(.s 3,.ro 3),(.s 4,.ro 4),(.s 7,.i .i64)]⟩ (.s .o (.j ⟨[1,5,6,7],[],[(.s 4,.ro 4),(.s 3,.ro 3)]⟩ (.k (.s .o (.j ⟨[1,3,4,5,6,7,8],[],[]⟩ .o .o))) .o))))))))) .o))))) (.j ⟨[],[],[]⟩ (.s .o (.k (.l ⟨[3,4],[],[(.s 9,.i .i64)]⟩ (.s .o (.j ⟨[3,4,9],[],[]⟩ .o .o))))) .o)))))) kr kr kr
noncomputable def cW (x_list:List Int):Option (List Int):=grd ((0:Int)<=((List.length x_list:Nat):Int)/\((List.length x_list:Nat):Int)*8<=2^47/\((List.length x_list:Nat):Int)<=2^47) (some (over (List.replicate (Int.toNat ((List.length x_list:Nat):Int)) (0:Int)) 0 (List.length (List.replicate (Int.toNat ((List.length x_list:Nat):Int)) (0:Int))) x_list))
noncomputable def g42:Sg tG:=⟨[.row 3],.one (.row 3),cW⟩
theorem s42:Sok 42 g42:=sgx [] trivial .o kr kr kr
noncomputable def lO (x_c:DCore):Option DCore:=grd ((List.length ([]:List Int)+List.length x_c.Regs)*8<=2^47/\List.length ([]:List Int)+List.length x_c.Regs<=2^47) (some (DCore.mk (([]:List Int)++x_c.Regs) x_c.Pc x_c.Root x_c.Vector x_c.Saved x_c.SavedUser x_c.Cause x_c.Bad x_c.Timer x_c.Waits x_c.User x_c.On x_c.Stopped))
noncomputable def bHm:Sg tG:=⟨[.st 35],.one (.st 35),lO⟩
theorem bPj:Sok 143 bHm:=sgx [] trivial .o kr kr kr
noncomputable def rN (x_guests:List DGuest)(x_g:Int):Option Bool:=
 cond (decide ((0:Int)<=x_g))
  (cond (decide (x_g<(3:Int)))
   (grd ((0:Int)<=x_g/\x_g<((List.length x_guests:Nat):Int)) (some (List.getD x_guests (Int.toNat x_g) default).Live))
   (some false))
  (some false)
noncomputable def bVj:Sg tG:=⟨[.row 38,.i .i64],.one .b,rN⟩
theorem bYx:Sok 102 bVj:=sgx [] trivial .o kr kr kr
noncomputable def gF (x_h:DHost)(x_g:Int):Option Bool:=
 Option.bind (jE x_h) λv1=>
 cond v1
  (Option.bind (rN x_h.Guests x_g) λv2=>
  some v2)
  (some false)
noncomputable def g62:Sg tG:=⟨[.st 26,.i .i64],.one .b,gF⟩
theorem s62:Sok 62 g62:=sgx [(15,.r g15),(102,.r bVj)] ⟨s15,bYx,trivial⟩ .o kr kr kr
noncomputable def eS (x_h:DHost)(x_g:Int):Option Bool:=
 Option.bind (gU x_h) λv1=>
 cond v1
  (Option.bind (bZ x_g (0:Int) (2:Int)) λv2=>
  cond v2
   (grd ((0:Int)<=x_g/\x_g<((List.length x_h.Guests:Nat):Int)) (some (List.getD x_h.Guests (Int.toNat x_g) default).Live))
   (some false))
  (some false)
noncomputable def g58:Sg tG:=⟨[.st 26,.i .i64],.one .b,eS⟩
theorem s58:Sok 58 g58:=sgx [(47,.r g47),(97,.r g97)] ⟨s47,s97,trivial⟩ .o kr kr kr
theorem aEv{x_h:DHost}{x_g:Int}{R_:Bool}(hh:eS x_h x_g=some R_):Fn Tryz.prog 58 [.agg (fH x_h),.int .i64 x_g] (.bool R_):=kc (s58 x_h x_g R_ hh)
noncomputable def gS (x_b:DBare):Option DBare:=
 Option.bind (cW x_b.C.Regs) λv1=>
 Option.bind (cW x_b.Mem) λv2=>
 Option.bind (cW x_b.In) λv3=>
 Option.bind (cW x_b.Out) λv4=>
 some (DBare.mk (DCore.mk v1 x_b.C.Pc x_b.C.Root x_b.C.Vector x_b.C.Saved x_b.C.SavedUser x_b.C.Cause x_b.C.Bad x_b.C.Timer x_b.C.Waits x_b.C.User x_b.C.On x_b.C.Stopped) v2 v3 v4)
noncomputable def g74:Sg tG:=⟨[.st 47],.one (.st 47),gS⟩
theorem s74:Sok 74 g74:=sgx [(42,.r g42)] ⟨s42,trivial⟩ .o kr kr kr
theorem aQh:LW 142 ⟨12,[.tmp 4],.seq (.reg false (rg 142 0)) (.seq (.reg false (rg 142 1)) .ret)⟩:=kr
noncomputable def gX (x_words:List Int)(x_page:Int):Option (List Int):=grd ((0:Int)<=(w64 (x_page*(8:Int)))/\(w64 (x_page*(8:Int)))<=(w64 ((w64 (x_page+(1:Int)))*(8:Int)))/\(w64 ((w64 (x_page+(1:Int)))*(8:Int)))<=((List.length x_words:Nat):Int)) (some (List.take (Int.toNat (w64 ((w64 (x_page+(1:Int)))*(8:Int)))-Int.toNat (w64 (x_page*(8:Int)))) (List.drop (Int.toNat (w64 (x_page*(8:Int)))) x_words)))
noncomputable def bNk:Sg tG:=⟨[.row 3,.i .i64],.one (.rb 3),gX⟩
theorem bNs:Sok 142 bNk:=sgx [] trivial .o kr kr kr
theorem aSi{x_words:List Int}{x_page:Int}{R_:(List Int)}(hh:gX x_words x_page=some R_):Fn Tryz.prog 142 [bo (eI .i64) x_words,.int .i64 x_page] (bo (eI .i64) R_):=kc (bNs x_words x_page R_ hh)
noncomputable def jC (x_words:List Int)(x_page:Int):Option ((List Int)×(Nat×Nat)):=grd ((0:Int)<=(w64 (x_page*(8:Int)))/\(w64 (x_page*(8:Int)))<=(w64 ((w64 (x_page+(1:Int)))*(8:Int)))/\(w64 ((w64 (x_page+(1:Int)))*(8:Int)))<=((List.length x_words:Nat):Int)) (some (x_words,((Int.toNat (w64 (x_page*(8:Int)))),(Int.toNat (w64 ((w64 (x_page+(1:Int)))*(8:Int)))-Int.toNat (w64 (x_page*(8:Int)))))))
theorem aBd{x_words:List Int}{x_page:Int}{R_:(List Int)×(Nat×Nat)}(hh:jC x_words x_page=some R_):Inl Tryz.prog 142 [.sref 0 [] 0 (List.length x_words) 1,.int .i64 x_page] [(0,some (rI_3 x_words))] 1 (.sref 0 [] (0+R_.2.1*1) R_.2.2 1) [(0,some (rI_3 R_.1))] 1:=by unfold jC at hh;let q1:Root:=(rI_3 x_words);refine Inl.start aQh [0,1] [0] (E:=sp 12 [(0,sw 0 x_words),(1,ii x_page)]) (H1:=[(0,some q1)]) kr kr (sy [0,1] [0] (sp 12 [(0,sw 0 x_words),(1,ii x_page)]) [(0,some q1)] 1 (Aw.sreg [4] [0] (yu 6 [(5,sw 0 x_words),(6,ii x_page),(7,ii (w64 (x_page*(8:Int)))),(8,ii x_page),(9,ii (w64 (x_page+(1:Int)))),(10,ii (w64 ((w64 (x_page+(1:Int)))*(8:Int))))] [(0,some q1)] 1 ?_)));obtain⟨hg2,hh⟩:=aL hh;refine ys (.slc 1 (.t 5) (some (.t 7)) (some (.t 10))) (some 11) (aYq (r:=0) (π:=[]) (o:=0) (k:=(List.length x_words)) (sz:=1) (l:=(w64 (x_page*(8:Int)))) (h:=(w64 ((w64 (x_page+(1:Int)))*(8:Int)))) kr kr kr hg2 ?_);refine yt (sp 12 [(4,.sref 0 [] (0+Int.toNat (w64 (x_page*(8:Int)))*1) (Int.toNat (w64 ((w64 (x_page+(1:Int)))*(8:Int)))-Int.toNat (w64 (x_page*(8:Int)))) 1)]) [(0,some q1)] 1 (Aw.ret ?_);rw[aP hh];exact iH (r':= .sref 0 [] (0+Int.toNat (w64 (x_page*(8:Int)))*1) (Int.toNat (w64 ((w64 (x_page+(1:Int)))*(8:Int)))-Int.toNat (w64 (x_page*(8:Int)))) 1) kr (el [some 0] (sZ aBa) (hn aY aR))
theorem aOz:LW 122 ⟨29,[.tmp 4],.seq (.reg false (rg 122 0)) (.seq (.reg false (rg 122 1)) (.seq (.seq (.reg false (rg 122 2)) (.block 0 (.loop (.seq (.reg false (rg 122 3)) (.seq (.cond (.t 12) .skip (.exit 0)) (.seq (.block 1 (.seq (.reg false (rg 122 4)) (.seq (.reg false (rg 122 5)) (.cond (.t 18) (.regd (rg 122 6) (rg 122 7)) .skip)))) (.reg false (rg 122 8)))))))) (.seq (.reg false (rg 122 10)) .ret)))⟩:=kr
noncomputable def mQ  (s1:List Int):Option (List Int):=some s1
noncomputable def jN (s2:(List Int)×Int)(s3:List Int):Option (LO ((List Int)×Int) (JO (List Int) (List Int))):=some (.next (s3,w64 (s2.2+(1:Int))))
noncomputable def jK (x_words:List Int)(x_pages:List DSlot)(s2:(List Int)×Int):Option (LO ((List Int)×Int) (JO (List Int) (List Int))):=
 cond (decide (s2.2<((List.length x_pages:Nat):Int)))
  (Option.bind (grd ((0:Int)<=s2.2/\s2.2<((List.length x_pages:Nat):Int)) (cond (!decide ((List.getD x_pages (Int.toNat s2.2) default).Frame=(-1:Int)))
   (Option.bind (jC s2.1 s2.2) λv4=>
   grd (List.length v4.1=(List.length s2.1)) (grd (v4.2.1+v4.2.2<=List.length v4.1) (Option.bind (gX x_words (List.getD x_pages (Int.toNat s2.2) default).Frame) λv5=>
    some (.go (over v4.1 v4.2.1 v4.2.2 v5)))))
   (some (.go s2.1)))) λj3=>
   JO.run j3 (jN s2))
  (some (.ret (.go s2.1)))
noncomputable def kF (x_words:List Int)(x_pages:List DSlot):Option (List Int):=
 Option.bind (Option.bind (iter (jK x_words x_pages) ((List.replicate (Int.toNat (64:Int)) (0:Int)),(0:Int))) LO.val) λj1=>
  JO.run j1 mQ
theorem aQe{x_words:List Int}{x_pages:List DSlot}{R_:(List Int)}(hh:kF x_words x_pages=some R_):Fn Tryz.prog 122 [bo (eI .i64) x_words,bo gL x_pages] (.own 3 1 (List.length R_) (fl (eI .i64) R_)):=by let z2:=(0,bo (eI .i64) x_words);let z3:=(1,bo gL x_pages);let z4:=(10,ii ((List.length x_pages:Nat):Int));let z5:EV:=(5,.sref 0 [] 0 (List.length (List.replicate (Int.toNat (64:Int)) (0:Int))) 1);let z6:=(9,bo gL x_pages);unfold kF at hh;refine Fn.start aOz [0,1] (E:=sp 29 [z2,z3]) kr (v:=sw 0 R_) (Hr:=[(0,some (rI_3 R_))]) (k:=1) kr (sy [0,1] [] (sp 29 [z2,z3]) [] 0 (Aw.sreg [0,1,5] [0] (ys (.mk 3 1 8 [ii 0] (.c (ii 64))) (some 8) (aWd (c:=(eI .i64)) (d:=(0:Int)) (k:=(64:Int)) kr dd kr ?_))));let q1:Root:=(rI_3 (List.replicate (Int.toNat (64:Int)) (0:Int)));refine yt (sp 29 [z2,z3,z5]) [(0,some q1)] 1 ?_;obtain⟨j1,hh,hk1⟩:=bind_some hh;refine Aw.join (S:=(List Int)) (λs1=>sp 29 [(5,sw 0 s1)]) (λs1=>[(0,some (rI_3 s1))]) 1 (λs1=>mQ s1=some R_) ?_ ?_;{intro s1 hh;unfold mQ at hh;refine sy [4] [0] (sp 29 [(4,sw 0 s1)]) [(0,some (rI_3 s1))] 1 (Aw.ret ?_);rw[aP hh];exact iH (r':=sw 0 s1) kr (Ent.list [some 0] rfl rfl (Nat.zero_le _) (sZ aBa) (hn aY aR))};intro Q1 hN1 hR1 hE1;refine sy [0,5,9,10,11] [0] (sp 29 [z2,z5,z6,z4,(11,ii 0)]) [(0,some q1)] 1 (Aw.block ?_);obtain⟨o2,hi2,hk2⟩:=bind_some hh;refine Aw.iter (λ(s2:(List Int)×Int)=>sp 29 [(0,bo (eI .i64) x_words),(5,sw 0 s2.1),(9,bo gL x_pages),(10,ii ((List.length x_pages:Nat):Int)),(11,ii s2.2)]) (λ(s2:(List Int)×Int)=>[(0,some (rI_3 s2.1))]) 1 hi2 (el [some 0] (eE kr (ro aY (rs (.sref 0 [] 0 (List.length (List.replicate (Int.toNat (64:Int)) (0:Int))) 1) (ro oU (ri (ri mL)))))) (hn aY aR)) ?_;intro s2 u2 Q2 hh hN2 hX2 hR2;let z7:EH:=(0,some (rI_3 s2.1));let z8:=(11,ii s2.2);let z9:=(12,bb (decide (s2.2<((List.length x_pages:Nat):Int))));let z10:=(5,sw 0 s2.1);let z11:=(6,ii s2.2);let z1:=List.getD x_pages (Int.toNat s2.2) default;let z12:=(18,bb (!decide (z1.Frame=(-1:Int))));unfold jK at hh;refine sy [0,5,9,10,11,12] [0] (sp 29 [z2,z10,z6,z4,z8,z9]) [z7] 1 (Aw.seq ?_);rcases jB hh with⟨hb,hh⟩|⟨hb,hh⟩;{refine cF hb (Aw.exit (bVx (hX2 _ _ _ _ _ (aP hh) ?_)));intro hout;rw[hout]at hk2;refine bQh ?_;obtain rfl:=aP hk2;exact hN1 s2.1 _ _ _ hk1 (el [some 0] (eE kr (rs (sw 0 s2.1) mL)) (hn aY aR))};refine cT hb (Aw.xskip (λ_ _ _ hq=>aBb hq) ?_);obtain⟨j3,hh,hk3⟩:=bind_some hh;refine Aw.join (S:=(List Int)) (λs3=>sp 29 [(0,bo (eI .i64) x_words),(5,sw 0 s3),(9,bo gL x_pages),(10,ii ((List.length x_pages:Nat):Int)),(11,ii s2.2)]) (λs3=>[(0,some (rI_3 s3))]) 1 (λs3=>jN s2 s3=some u2) ?_ ?_;{intro s3 hh;unfold jN at hh;exact Aw.oreg (ye (sp 29 [z2,(5,sw 0 s3),z6,z4,(11,ii (w64 (s2.2+(1:Int)))),(27,ii (w64 (s2.2+(1:Int))))]) [(0,some (rI_3 s3))] 1 (hN2 (s3,w64 (s2.2+(1:Int))) _ _ _ (aP hh) (el [some 0] (eE kr (ro aY (rs (sw 0 s3) (ro oU (ri (ri mL)))))) (hn aY aR))))};intro Q3 hN3 hR3 hE3;refine Aw.block (Aw.sreg [0,5,6,7,9,10,11] [0,1] (yj 1  (sp 29 [z2,z10,z6,z4,z8,z9,(13,ii s2.2)]) [z7] 1 ?_));obtain⟨hg104,hh⟩:=aL hh;refine ys (.iadr 3 (.t 9) (.t 11)) (some 14) (aSq (kd:= .i64) (c:=gL) (xs:=x_pages) pY dd kr kr hg104 ?_);refine ys (.load true 3 (.t 14)) (some 15) (aVo (c:=gL) (xs:=x_pages) (o:=Int.toNat s2.2*3) (i:=(Int.toNat s2.2)) (off:=0) (v:= .agg [ii z1.Frame,bb z1.Write,bb z1.Dirty]) pY kr ltn ltn dd kr ?_);let q2:Root:=⟨53,[ii z1.Frame,bb z1.Write,bb z1.Dirty]⟩;let z13:=(1,some q2);refine yt (sp 29 [z2,z10,z11,(7,pp 1),z6,z4,z8]) [z7,z13] 2 (sy [0,5,6,7,9,10,11,18] [0,1] (sp 29 [z2,z10,z11,(7,pp 1),z6,z4,z8,z12]) [z7,z13] 2 ?_);rcases jB hh with⟨hb,hh⟩|⟨hb,hh⟩;{refine cF hb (Aw.skip (aGq ?_));obtain rfl:=aP hh;exact hN3 s2.1 _ _ _ hk3 (el [some 0] (eE kr (ro aY (rs (sw 0 s2.1) (ro oU (ri (ri mL)))))) (hn aY aR))};refine cT hb (Aw.oregd [0] kr (dj 2 (sp 29 [z2,z10,z11,(7,pp 1),z6,z4,z8,z12,(19,sw 0 s2.1),(20,ii s2.2)]) [z7,z13] 2 ?_));obtain⟨v4,hv4,hh⟩:=bind_some hh;let z14:EH:=(0,some (rI_3 v4.1));let z15:EV:=(21,.sref 0 [] (0+v4.2.1*1) v4.2.2 1);obtain⟨hg107,hh⟩:=aL hh;obtain⟨hg108,hh⟩:=aL hh;refine ds (.call 142 [.t 19,.t 20]) (some 21) (wI rfl (cf (.sref 0 [] (0+v4.2.1*1) v4.2.2 1) [z14] 2 [0] (aBd hv4) [sw 0 s2.1,ii s2.2] rz (hn aY aR) aBa (hn aY aR) ⟨⟨⟨by decide,nJ rfl rfl⟩,Hld.un ?_⟩⟩));refine dt (sp 29 [z2,z10,z11,(7,pp 1),z6,z4,z8,z12,(19,sw 0 s2.1),(20,ii s2.2),z15,(22,bo (eI .i64) x_words),(23,pp 1),(24,ii z1.Frame)]) [z14,(0,none),z7,z13] 2 ?_;obtain⟨v5,hv5,hh⟩:=bind_some hh;refine ys (.call 142 [.t 22,.t 24]) (some 25) (aBk (r:=bo (eI .i64) v5) (v:=bo (eI .i64) v5) (Hr:=[]) (n':=2) (aSi hv5) (nT (vs:=[bo (eI .i64) x_words,ii z1.Frame]) kr (dJ (aD (cY (bE cN))) (cz1 eK))) nrr kr ?_);let q3:Root:=(rI_3 (over v4.1 v4.2.1 v4.2.2 v5));refine ys (.cpy 1 (.t 21) (.t 25)) (some 26) (aQv (c:=(eI .i64)) (xs:=v4.1) (ys:=v5) (e:=3) (r:=0) (π:=[]) (o:=0+v4.2.1*1) (k:=v4.2.2) (i:=v4.2.1) (H':=[(0,some q3),z14,(0,none),z7,z13]) bH (rpv kr (bAj (c:=(eI .i64)) (xs:=v5) bH)) kr kr ltn ltn kr ?_);refine ye (sp 29 [z2,z10,z11,(7,pp 1),z6,z4,z8,z12,(19,sw 0 s2.1),(20,ii s2.2),z15,(22,bo (eI .i64) x_words),(23,pp 1),(24,ii z1.Frame),(25,bo (eI .i64) v5),(26,ii ((min v4.2.2 (List.length v5):Nat):Int))]) [(0,some q3),z14,(0,none),z7,z13] 2 (aGq ?_);obtain rfl:=aP hh;exact hN3 (over v4.1 v4.2.1 v4.2.2 v5) _ _ _ hk3 (el [some 0] (eE kr (ro aY (rs (sw 0 s2.1) (ro oU (ri (ri mL)))))) (hn aY aR))
noncomputable def bTm:Sg tG:=⟨[.row 3,.row 53],.one (.row 3),kF⟩
theorem cAt:Sok 122 bTm:=λx_words x_pages R_ hh=>kc (aQe (x_words:=x_words) (x_pages:=x_pages) hh)
noncomputable def tI (x_h:DHost)(x_g:Int):Option DBare:=
 grd ((0:Int)<=x_g/\x_g<((List.length x_h.Guests:Nat):Int)) (Option.bind (kF x_h.Words (List.getD x_h.Guests (Int.toNat x_g) default).Pages) λv1=>
  some (DBare.mk (DCore.mk ((List.getD x_h.Guests (Int.toNat x_g) default).C).Regs ((List.getD x_h.Guests (Int.toNat x_g) default).C).Pc ((List.getD x_h.Guests (Int.toNat x_g) default).C).Root ((List.getD x_h.Guests (Int.toNat x_g) default).C).Vector ((List.getD x_h.Guests (Int.toNat x_g) default).C).Saved ((List.getD x_h.Guests (Int.toNat x_g) default).C).SavedUser ((List.getD x_h.Guests (Int.toNat x_g) default).C).Cause ((List.getD x_h.Guests (Int.toNat x_g) default).C).Bad ((List.getD x_h.Guests (Int.toNat x_g) default).C).Timer ((List.getD x_h.Guests (Int.toNat x_g) default).C).Waits ((List.getD x_h.Guests (Int.toNat x_g) default).C).User ((List.getD x_h.Guests (Int.toNat x_g) default).C).On ((List.getD x_h.Guests (Int.toNat x_g) default).C).Stopped) v1 (List.getD x_h.Guests (Int.toNat x_g) default).In (List.getD x_h.Guests (Int.toNat x_g) default).Out))
noncomputable def g75:Sg tG:=⟨[.st 26,.i .i64],.one (.sb 47),tI⟩
theorem s75:Sok 75 g75:=sgx [(122,.r bTm)] ⟨cAt,trivial⟩ .o kr kr kr
noncomputable def lX (x_h:DHost)(x_g:Int):Option (DBare×Bool):=
 Option.bind (gF x_h x_g) λv1=>
 cond (!v1)
  (some ((DBare.mk (DCore.mk ([]:List Int) (0:Int) (0:Int) (0:Int) (0:Int) false (0:Int) (0:Int) (0:Int) false false false false) ([]:List Int) ([]:List Int) ([]:List Int)),false))
  (Option.bind (tI x_h x_g) λv2=>
  Option.bind (gS v2) λv3=>
  some (v3,true))
noncomputable def g22:Sg tG:=⟨[.st 26,.i .i64],.two (.st 47) .b,lX⟩
theorem s22:Sok 22 g22:=sgx [(62,.r g62),(75,.r g75),(74,.r g74)] ⟨s62,s75,s74,trivial⟩ .o kr kr kr
noncomputable def aAl (x_w:Int):Option DEntry:=
 Option.bind (fK x_w) λv1=>
 cond (!v1)
  (some (DEntry.mk false false false (0:Int)))
  (some (DEntry.mk (decide ((Int.tmod x_w (2:Int))=(1:Int))) (decide ((Int.tmod (w64 (Int.tdiv x_w (2:Int))) (2:Int))=(1:Int))) (decide ((Int.tmod (w64 (Int.tdiv x_w (4:Int))) (2:Int))=(1:Int))) (Int.tmod (w64 (Int.tdiv x_w (8:Int))) (8:Int))))
noncomputable def bTv:Sg tG:=⟨[.i .i64],.one (.st 139),aAl⟩
theorem bYn:Sok 118 bTv:=sgx [(120,.r aTo)] ⟨aXj,trivial⟩ .o kr kr kr
noncomputable def aHp (x_h:DHost)(x_g:Int)(x_at:Int):Option Int:=
 grd ((0:Int)<=x_g/\x_g<((List.length x_h.Guests:Nat):Int)) (grd ((0:Int)<=(w64 (Int.tdiv x_at (8:Int)))/\(w64 (Int.tdiv x_at (8:Int)))<((List.length (List.getD x_h.Guests (Int.toNat x_g) default).Pages:Nat):Int)) (cond (decide ((List.getD (List.getD x_h.Guests (Int.toNat x_g) default).Pages (Int.toNat (w64 (Int.tdiv x_at (8:Int)))) default).Frame<(0:Int)))
  (some (0:Int))
  (grd ((0:Int)<=(w64 ((w64 ((List.getD (List.getD x_h.Guests (Int.toNat x_g) default).Pages (Int.toNat (w64 (Int.tdiv x_at (8:Int)))) default).Frame*(8:Int)))+(Int.tmod x_at (8:Int))))/\(w64 ((w64 ((List.getD (List.getD x_h.Guests (Int.toNat x_g) default).Pages (Int.toNat (w64 (Int.tdiv x_at (8:Int)))) default).Frame*(8:Int)))+(Int.tmod x_at (8:Int))))<((List.length x_h.Words:Nat):Int)) (some (List.getD x_h.Words (Int.toNat (w64 ((w64 ((List.getD (List.getD x_h.Guests (Int.toNat x_g) default).Pages (Int.toNat (w64 (Int.tdiv x_at (8:Int)))) default).Frame*(8:Int)))+(Int.tmod x_at (8:Int))))) default)))))
noncomputable def bXd:Sg tG:=⟨[.st 26,.i .i64,.i .i64],.one (.i .i64),aHp⟩
theorem cAn:Sok 119 bXd:=sgx [] trivial .o kr kr kr
noncomputable def aKg  (s2:List DShade):Option (List DShade):=some s2
noncomputable def aJl (x_h:DHost)(x_g:Int)(s3:(List DShade)×Int)(s4:Bool×Bool×Bool×Int):Option (LO ((List DShade)×Int) (JO (List DShade) (List DShade))):=grd ((0:Int)<=x_g/\x_g<((List.length x_h.Guests:Nat):Int)) (grd ((0:Int)<=s4.2.2.2/\s4.2.2.2<((List.length (List.getD x_h.Guests (Int.toNat x_g) default).Pages:Nat):Int)) (grd ((List.length s3.1+List.length ([DShade.mk s4.1 s4.2.1 s4.2.2.1 s4.2.2.2 (List.getD (List.getD x_h.Guests (Int.toNat x_g) default).Pages (Int.toNat s4.2.2.2) default).Frame (List.getD (List.getD x_h.Guests (Int.toNat x_g) default).Pages (Int.toNat s4.2.2.2) default).Write]:List DShade))*32<=2^47/\List.length s3.1+List.length ([DShade.mk s4.1 s4.2.1 s4.2.2.1 s4.2.2.2 (List.getD (List.getD x_h.Guests (Int.toNat x_g) default).Pages (Int.toNat s4.2.2.2) default).Frame (List.getD (List.getD x_h.Guests (Int.toNat x_g) default).Pages (Int.toNat s4.2.2.2) default).Write]:List DShade)<=2^47) (some (.next ((s3.1++([DShade.mk s4.1 s4.2.1 s4.2.2.1 s4.2.2.2 (List.getD (List.getD x_h.Guests (Int.toNat x_g) default).Pages (Int.toNat s4.2.2.2) default).Frame (List.getD (List.getD x_h.Guests (Int.toNat x_g) default).Pages (Int.toNat s4.2.2.2) default).Write]:List DShade)),w64 (s3.2+(1:Int)))))))
noncomputable def aJu (x_h:DHost)(x_g:Int)(s3:(List DShade)×Int):Option (LO ((List DShade)×Int) (JO (List DShade) (List DShade))):=
 cond (decide (s3.2<(8:Int)))
  (Option.bind (grd ((0:Int)<=x_g/\x_g<((List.length x_h.Guests:Nat):Int)) (cond (decide ((0:Int)<=((List.getD x_h.Guests (Int.toNat x_g) default).C).Root))
   (Option.bind (aHp x_h x_g (w64 ((w64 (((List.getD x_h.Guests (Int.toNat x_g) default).C).Root*(8:Int)))+s3.2))) λv5=>
   Option.bind (aAl v5) λv6=>
   some (.go (v6.There,v6.Write,v6.User,v6.Page)))
   (some (.go (true,true,true,s3.2))))) λj4=>
   JO.run j4 (aJl x_h x_g s3))
  (some (.ret (.go s3.1)))
noncomputable def mI (x_h:DHost)(x_g:Int):Option (List DShade):=
 Option.bind (eS x_h x_g) λv1=>
 cond (!v1)
  (some ([]:List DShade))
  (Option.bind (Option.bind (iter (aJu x_h x_g) (([]:List DShade),(0:Int))) LO.val) λj2=>
   JO.run j2 aKg)
noncomputable def g67:Sg tG:=⟨[.st 26,.i .i64],.one (.row 103),mI⟩
theorem s67:Sok 67 g67:=sgx [(58,.r g58),(119,.r bXd),(118,.r bTv)] ⟨s58,cAn,bYn,trivial⟩ (.s .o (.s .o (.s .o (.j ⟨[],[],[(.s 5,.ro 103)]⟩ (.s .o (.k (.l ⟨[1,2],[],[(.s 5,.ro 103),(.s 6,.i .i64)]⟩ (.s .o (.s (.k (.s .o (.j ⟨[1,2,5,6,7],[],[(.c 7 0,.b),(.c 7 1,.b),(.c 7 2,.b),(.c 7 3,.i .i64)]⟩ .o .o))) .o))))) .o)))) kr kr kr
theorem aNs{x_h:DHost}{x_g:Int}{R_:(List DShade)}(hh:mI x_h x_g=some R_):Fn Tryz.prog 67 [.agg (fH x_h),.int .i64 x_g] (.own 103 6 (List.length R_) (fl pH R_)):=kc (s67 x_h x_g R_ hh)
noncomputable def kX (x_w:Int):Option DEntry:=
 Option.bind (fO x_w) λv1=>
 cond (!v1)
  (some (DEntry.mk false false false (0:Int)))
  (some (DEntry.mk (decide ((Int.tmod (w64 (Int.tdiv x_w (1:Int))) (2:Int))=(1:Int))) (decide ((Int.tmod (w64 (Int.tdiv x_w (2:Int))) (2:Int))=(1:Int))) (decide ((Int.tmod (w64 (Int.tdiv x_w (4:Int))) (2:Int))=(1:Int))) (Int.tmod (w64 (Int.tdiv x_w (8:Int))) (8:Int))))
noncomputable def bOl:Sg tG:=⟨[.i .i64],.one (.st 139),kX⟩
theorem bXp:Sok 159 bOl:=sgx [(55,.r g55)] ⟨s55,trivial⟩ .o kr kr kr
noncomputable def eP (x_words:List Int)(x_s:DSlot):Option (List Int):=
 cond (decide (x_s.Frame=(-1:Int)))
  (some (List.replicate (Int.toNat (8:Int)) (0:Int)))
  (Option.bind (gX x_words x_s.Frame) λv1=>
  some v1)
noncomputable def bTg:Sg tG:=⟨[.row 3,.st 53],.one (.rb 3),eP⟩
theorem bXl:Sok 191 bTg:=sgx [(142,.r bNk)] ⟨bNs,trivial⟩ .o kr kr kr
theorem aMk{x_words:List Int}{x_s:DSlot}{R_:(List Int)}(hh:eP x_words x_s=some R_):Fn Tryz.prog 191 [bo (eI .i64) x_words,.agg (gL x_s)] (bo (eI .i64) R_):=kc (bXl x_words x_s R_ hh)
noncomputable def rU (x_h:DHost)(x_g:Int)(x_number:Int):Option DEntry:=
 grd ((0:Int)<=x_g/\x_g<((List.length x_h.Guests:Nat):Int)) (cond (decide (((List.getD x_h.Guests (Int.toNat x_g) default).C).Root=(-1:Int)))
  (some (DEntry.mk true true true x_number))
  (grd ((0:Int)<=((List.getD x_h.Guests (Int.toNat x_g) default).C).Root/\((List.getD x_h.Guests (Int.toNat x_g) default).C).Root<((List.length (List.getD x_h.Guests (Int.toNat x_g) default).Pages:Nat):Int)) (Option.bind (eP x_h.Words (DSlot.mk (List.getD (List.getD x_h.Guests (Int.toNat x_g) default).Pages (Int.toNat ((List.getD x_h.Guests (Int.toNat x_g) default).C).Root) default).Frame (List.getD (List.getD x_h.Guests (Int.toNat x_g) default).Pages (Int.toNat ((List.getD x_h.Guests (Int.toNat x_g) default).C).Root) default).Write (List.getD (List.getD x_h.Guests (Int.toNat x_g) default).Pages (Int.toNat ((List.getD x_h.Guests (Int.toNat x_g) default).C).Root) default).Dirty)) λv1=>
   grd ((0:Int)<=x_number/\x_number<((List.length v1:Nat):Int)) (Option.bind (kX (List.getD v1 (Int.toNat x_number) default)) λv2=>
    some v2))))
noncomputable def bUw:Sg tG:=⟨[.st 26,.i .i64,.i .i64],.one (.st 139),rU⟩
theorem bZu:Sok 174 bUw:=sgx [(191,.r bTg),(159,.r bOl)] ⟨bXl,bXp,trivial⟩ .o kr kr kr
noncomputable def rJ (x_h:DHost)(x_g:Int)(x_number:Int):Option DShade:=
 Option.bind (rU x_h x_g x_number) λv1=>
 grd ((0:Int)<=x_g/\x_g<((List.length x_h.Guests:Nat):Int)) (grd ((0:Int)<=v1.Page/\v1.Page<((List.length (List.getD x_h.Guests (Int.toNat x_g) default).Pages:Nat):Int)) (some (DShade.mk v1.There v1.Write v1.User v1.Page (List.getD (List.getD x_h.Guests (Int.toNat x_g) default).Pages (Int.toNat v1.Page) default).Frame (List.getD (List.getD x_h.Guests (Int.toNat x_g) default).Pages (Int.toNat v1.Page) default).Write)))
noncomputable def bWz:Sg tG:=⟨[.st 26,.i .i64,.i .i64],.one (.st 103),rJ⟩
theorem bYl:Sok 139 bWz:=sgx [(174,.r bUw)] ⟨bZu,trivial⟩ .o kr kr kr
noncomputable def oA (x_e:DEntry)(x_user:Bool)(x_write:Bool):Option Bool:=
 cond x_e.There
  (cond x_e.Write
   (cond x_e.User
    (some true)
    (some (!x_user)))
   (cond (!x_write)
    (cond x_e.User
     (some true)
     (some (!x_user)))
    (some false)))
  (some false)
noncomputable def bPt:Sg tG:=⟨[.st 139,.b,.b],.one .b,oA⟩
theorem bVt:Sok 160 bPt:=sgx [] trivial .o kr kr kr
noncomputable def wP (x_mem:List Int)(x_root:Int)(x_addr:Int)(x_user:Bool)(x_write:Bool):Option Int:=
 Option.bind (aBo x_mem) λv1=>
 cond (!v1)
  (some (-1:Int))
  (Option.bind (lN x_root) λv2=>
  cond (!v2)
   (some (-1:Int))
   (Option.bind (cQ x_addr) λv3=>
   cond (!v3)
    (some (-1:Int))
    (cond (decide (x_root=(-1:Int)))
     (some x_addr)
     (grd ((0:Int)<=(w64 ((w64 (x_root*(8:Int)))+(w64 (Int.tdiv x_addr (8:Int)))))/\(w64 ((w64 (x_root*(8:Int)))+(w64 (Int.tdiv x_addr (8:Int)))))<((List.length x_mem:Nat):Int)) (Option.bind (kX (List.getD x_mem (Int.toNat (w64 ((w64 (x_root*(8:Int)))+(w64 (Int.tdiv x_addr (8:Int)))))) default)) λv4=>
      Option.bind (oA v4 x_user x_write) λv5=>
      cond (!v5)
       (some (-1:Int))
       (some (w64 ((w64 (v4.Page*(8:Int)))+(Int.tmod x_addr (8:Int))))))))))
noncomputable def bHn:Sg tG:=⟨[.row 3,.i .i64,.i .i64,.b,.b],.one (.i .i64),wP⟩
theorem bMg:Sok 126 bHn:=sgx [(124,.r bMx),(158,.r bOz),(157,.r bNl),(159,.r bOl),(160,.r bPt)] ⟨bUe,bXh,bTq,bXp,bVt,trivial⟩ .o kr kr kr
noncomputable def qF (x_i:DIns):Option Bool:=
 Option.bind (bZ x_i.Op (0:Int) (15:Int)) λv1=>
 cond v1
  (Option.bind (bZ x_i.A (0:Int) (3:Int)) λv2=>
  cond v2
   (Option.bind (bZ x_i.N (0:Int) (63:Int)) λv3=>
   some v3)
   (some false))
  (some false)
noncomputable def bMc:Sg tG:=⟨[.st 89],.one .b,qF⟩
theorem bWg:Sok 100 bMc:=sgx [(97,.r g97)] ⟨s97,trivial⟩ .o kr kr kr
noncomputable def vA (x_i:DIns):Option Bool:=
 cond (decide ((0:Int)<=x_i.Op))
  (cond (decide ((0:Int)<=x_i.A))
   (cond (decide ((0:Int)<=x_i.N))
    (cond (decide (x_i.Op<=(15:Int)))
     (cond (decide (x_i.A<(4:Int)))
      (some (decide (x_i.N<(64:Int))))
      (some false))
     (some false))
    (cond (decide (x_i.Op<=(15:Int)))
     (cond (decide (x_i.A<(4:Int)))
      (some false)
      (some false))
     (some false)))
   (cond (decide ((0:Int)<=x_i.N))
    (cond (decide (x_i.Op<=(15:Int)))
     (some false)
     (some false))
    (cond (decide (x_i.Op<=(15:Int)))
     (some false)
     (some false))))
  (cond (decide ((0:Int)<=x_i.A))
   (cond (decide ((0:Int)<=x_i.N))
    (some false)
    (some false))
   (cond (decide ((0:Int)<=x_i.N))
    (some false)
    (some false)))
noncomputable def bWu:Sg tG:=⟨[.st 89],.one .b,vA⟩
theorem bZe:Sok 192 bWu:=sgx [] trivial .o kr kr kr
noncomputable def aIg  (s2:Bool):Option Bool:=
 cond s2
  (some true)
  (some false)
noncomputable def kR (x_i:DIns):Option Bool:=
 Option.bind (vA x_i) λv1=>
 cond (!v1)
  (some false)
  (Option.bind (cond (decide (x_i.Op=(0:Int)))
   (some (.go (decide (x_i.Op=(0:Int)))))
   (cond (decide (x_i.Op=(8:Int)))
    (some (.go (decide (x_i.Op=(8:Int)))))
    (cond (decide (x_i.Op=(9:Int)))
     (some (.go (decide (x_i.Op=(9:Int)))))
     (cond (decide (x_i.Op=(10:Int)))
      (some (.go (decide (x_i.Op=(10:Int)))))
      (cond (decide (x_i.Op=(11:Int)))
       (some (.go (decide (x_i.Op=(11:Int)))))
       (cond (decide (x_i.Op=(12:Int)))
        (some (.go (decide (x_i.Op=(12:Int)))))
        (cond (decide (x_i.Op=(13:Int)))
         (some (.go (decide (x_i.Op=(13:Int)))))
         (some (.go (decide (x_i.Op=(14:Int)))))))))))) λj2=>
   JO.run j2 aIg)
noncomputable def bNy:Sg tG:=⟨[.st 89],.one .b,kR⟩
theorem bVi:Sok 178 bNy:=sgx [(192,.r bWu)] ⟨bZe,trivial⟩ (.s .o (.s .o (.s (.s .o (.k (.j ⟨[],[],[(.s 8,.b)]⟩ .o .o))) .o))) kr kr kr
noncomputable def kI (x_w:Int):Option DIns:=
 Option.bind (fO x_w) λv1=>
 cond (!v1)
  (some (DIns.mk (0:Int) (0:Int) (0:Int)))
  (some (DIns.mk (w64 (Int.tdiv x_w (256:Int))) (Int.tmod (w64 (Int.tdiv x_w (64:Int))) (4:Int)) (Int.tmod x_w (64:Int))))
noncomputable def bFt:Sg tG:=⟨[.i .i64],.one (.st 89),kI⟩
theorem bMu:Sok 114 bFt:=sgx [(55,.r g55)] ⟨s55,trivial⟩ .o kr kr kr
noncomputable def fQ (x_i:DIns):Option Bool:=
 Option.bind (qF x_i) λv1=>
 cond v1
  (cond (decide (x_i.Op=(0:Int)))
   (some true)
   (Option.bind (bZ x_i.Op (8:Int) (14:Int)) λv2=>
   some v2))
  (some false)
noncomputable def g71:Sg tG:=⟨[.st 89],.one .b,fQ⟩
theorem s71:Sok 71 g71:=sgx [(100,.r bMc),(97,.r g97)] ⟨bWg,s97,trivial⟩ .o kr kr kr
theorem sF{x_i:DIns}{R_:Bool}(hh:fQ x_i=some R_):Fn Tryz.prog 71 [.agg (dX x_i)] (.bool R_):=kc (s71 x_i R_ hh)
noncomputable def rV (x_w:Int):Option DIns:=
 Option.bind (fK x_w) λv1=>
 cond (!v1)
  (some (DIns.mk (0:Int) (0:Int) (0:Int)))
  (some (DIns.mk (w64 (Int.tdiv x_w (256:Int))) (Int.tmod (w64 (Int.tdiv x_w (64:Int))) (4:Int)) (Int.tmod x_w (64:Int))))
noncomputable def g70:Sg tG:=⟨[.i .i64],.one (.st 89),rV⟩
theorem s70:Sok 70 g70:=sgx [(120,.r aTo)] ⟨aXj,trivial⟩ .o kr kr kr
theorem aQp{x_w:Int}{R_:DIns}(hh:rV x_w=some R_):Fn Tryz.prog 70 [.int .i64 x_w] (.agg [.int .i64 R_.Op,.int .i64 R_.A,.int .i64 R_.N]):=kc (s70 x_w R_ hh)
noncomputable def aBq (x_c:DCore)(s1:Bool):Option DCore:=some (DCore.mk x_c.Regs x_c.Pc x_c.Root x_c.Vector x_c.Saved x_c.SavedUser x_c.Cause x_c.Bad (w64 (x_c.Timer-(1:Int))) s1 x_c.User x_c.On x_c.Stopped)
noncomputable def gW (x_c:DCore):Option DCore:=
 cond (decide (x_c.Timer=(0:Int)))
  (some x_c)
  (Option.bind (cond (decide ((w64 (x_c.Timer-(1:Int)))=(0:Int)))
   (some (.go true))
   (some (.go x_c.Waits))) λj1=>
   JO.run j1 (aBq x_c))
noncomputable def bFj:Sg tG:=⟨[.st 35],.one (.sb 35),gW⟩
theorem bQc:Sok 107 bFj:=sgx [] trivial (.s .o (.s .o (.s .o (.j ⟨[1,2],[],[(.c 1 9,.b)]⟩ .o .o)))) kr kr kr
noncomputable def eX (x_c:DCore):Option Bool:=
 cond x_c.Waits
  (some x_c.On)
  (some false)
noncomputable def bGd:Sg tG:=⟨[.st 35],.one .b,eX⟩
theorem bOi:Sok 108 bGd:=sgx [] trivial .o kr kr kr
noncomputable def jG (x_c:DCore)(x_from:Int)(x_cause:Int)(x_bad:Int):Option DCore:=some (DCore.mk x_c.Regs x_c.Vector x_c.Root x_c.Vector x_from x_c.User x_cause x_bad x_c.Timer x_c.Waits false false x_c.Stopped)
noncomputable def g69:Sw tG:=⟨[.os 35,.v (.i .i64),.v (.i .i64),.v (.i .i64)],.one (.st 35),jG⟩
theorem s69:Sjk 69 g69:=sgy [] trivial .o kr kr kr
theorem vW{x_c:DCore}{x_from:Int}{x_cause:Int}{x_bad:Int}{R_:DCore}(hh:jG x_c x_from x_cause x_bad=some R_):Inl Tryz.prog 69 [.agg [.sref 0 [] 0 (List.length x_c.Regs) 1,.int .i64 x_c.Pc,.int .i64 x_c.Root,.int .i64 x_c.Vector,.int .i64 x_c.Saved,.bool x_c.SavedUser,.int .i64 x_c.Cause,.int .i64 x_c.Bad,.int .i64 x_c.Timer,.bool x_c.Waits,.bool x_c.User,.bool x_c.On,.bool x_c.Stopped],.int .i64 x_from,.int .i64 x_cause,.int .i64 x_bad] [(0,some (rI_3 x_c.Regs))] 1 (.agg [.sref 1 [] 0 (List.length R_.Regs) 1,.int .i64 R_.Pc,.int .i64 R_.Root,.int .i64 R_.Vector,.int .i64 R_.Saved,.bool R_.SavedUser,.int .i64 R_.Cause,.int .i64 R_.Bad,.int .i64 R_.Timer,.bool R_.Waits,.bool R_.User,.bool R_.On,.bool R_.Stopped]) [(1,some (rI_3 R_.Regs))] 2:=kc (s69 x_c x_from x_cause x_bad R_ hh)
noncomputable def aKf (x_c:DCore)(s1:Bool×Int)(s2:Unit):Option (DCore×Bool):=some ((DCore.mk x_c.Regs x_c.Pc x_c.Root x_c.Vector x_c.Saved x_c.SavedUser x_c.Cause x_c.Bad s1.2 s1.1 x_c.User x_c.On x_c.Stopped),false)
noncomputable def aKm (x_c:DCore)(s1:Bool×Int):Option (DCore×Bool):=
 Option.bind (cond s1.1
  (cond x_c.On
   (Option.bind (jG (DCore.mk x_c.Regs x_c.Pc x_c.Root x_c.Vector x_c.Saved x_c.SavedUser x_c.Cause x_c.Bad s1.2 false x_c.User x_c.On x_c.Stopped) x_c.Pc (4:Int) (0:Int)) λv3=>
   some (.out (v3,true)))
   (some (.go ())))
  (some (.go ()))) λj2=>
  JO.run j2 (aKf x_c s1)
noncomputable def pS (x_c:DCore):Option (DCore×Bool):=
 Option.bind (cond (decide ((0:Int)<x_c.Timer))
  (cond (decide ((w64 (x_c.Timer-(1:Int)))=(0:Int)))
   (some (.go (true,w64 (x_c.Timer-(1:Int)))))
   (some (.go (x_c.Waits,w64 (x_c.Timer-(1:Int))))))
  (some (.go (x_c.Waits,x_c.Timer)))) λj1=>
  JO.run j1 (aKm x_c)
noncomputable def g66:Sw tG:=⟨[.os 35],.two (.st 35) .b,pS⟩
theorem s66:Sjk 66 g66:=sgy [(69,.w g69)] ⟨s69,trivial⟩ (.s .o (.j ⟨[1,2],[],[(.c 1 9,.b),(.c 1 8,.i .i64)]⟩ .o (.j ⟨[1,2],[],[]⟩ .o .o))) kr kr kr
theorem aPf{x_c:DCore}{R_:DCore×Bool}(hh:pS x_c=some R_):Inl Tryz.prog 66 [.agg [.sref 0 [] 0 (List.length x_c.Regs) 1,.int .i64 x_c.Pc,.int .i64 x_c.Root,.int .i64 x_c.Vector,.int .i64 x_c.Saved,.bool x_c.SavedUser,.int .i64 x_c.Cause,.int .i64 x_c.Bad,.int .i64 x_c.Timer,.bool x_c.Waits,.bool x_c.User,.bool x_c.On,.bool x_c.Stopped]] [(0,some (rI_3 x_c.Regs))] 1 (.tup [.agg [.sref 1 [] 0 (List.length R_.1.Regs) 1,.int .i64 R_.1.Pc,.int .i64 R_.1.Root,.int .i64 R_.1.Vector,.int .i64 R_.1.Saved,.bool R_.1.SavedUser,.int .i64 R_.1.Cause,.int .i64 R_.1.Bad,.int .i64 R_.1.Timer,.bool R_.1.Waits,.bool R_.1.User,.bool R_.1.On,.bool R_.1.Stopped],.bool R_.2]) [(1,some (rI_3 R_.1.Regs))] 2:=kc (s66 x_c R_ hh)
noncomputable def cX (x_c:DCore)(x_i:DIns):Option Int:=grd ((0:Int)<=(Int.tmod x_i.N (4:Int))/\(Int.tmod x_i.N (4:Int))<((List.length x_c.Regs:Nat):Int)) (some (Int.tmod (List.getD x_c.Regs (Int.toNat (Int.tmod x_i.N (4:Int))) default) (64:Int)))
noncomputable def aSm:Sg tG:=⟨[.st 35,.st 89],.one (.i .i64),cX⟩
theorem aXs:Sok 179 aSm:=sgx [] trivial .o kr kr kr
noncomputable def oL (x_a:List Int)(x_left:Int):Option Int:=
 cond (decide ((w64 (x_left-((List.length x_a:Nat):Int)))<(0:Int)))
  (some (-1:Int))
  (some (w64 (x_left-((List.length x_a:Nat):Int))))
noncomputable def g79:Sg tG:=⟨[.row 3,.i .i64],.one (.i .i64),oL⟩
theorem s79:Sok 79 g79:=sgx [] trivial .o kr kr kr
noncomputable def aHv (x_a:DCore)(x_left:Int):Option Int:=
 Option.bind (oL x_a.Regs x_left) λv1=>
 cond (decide (v1<(0:Int)))
  (some (-1:Int))
  (some v1)
noncomputable def bTw:Sg tG:=⟨[.st 148,.i .i64],.one (.i .i64),aHv⟩
theorem cAf:Sok 163 bTw:=sgx [(79,.r g79)] ⟨s79,trivial⟩ .o kr kr kr
noncomputable def aKi  (s1:Int):Option Int:=some s1
noncomputable def aJr (x_a:List Int)(s2:Int×Int):Option (LO (Int×Int) (JO Int Int)):=
 cond (decide (s2.2<((List.length x_a:Nat):Int)))
  (grd ((0:Int)<=s2.2/\s2.2<((List.length x_a:Nat):Int)) (cond (!decide ((List.getD x_a (Int.toNat s2.2) default)=s2.1))
   (some (.ret (.out (-1:Int))))
   (some (.next ((w64 (s2.1+(1:Int))),w64 (s2.2+(1:Int)))))))
  (some (.ret (.go s2.1)))
noncomputable def lZ (x_a:List Int)(x_k:Int):Option Int:=
 Option.bind (Option.bind (iter (aJr x_a) (x_k,(0:Int))) LO.val) λj1=>
  JO.run j1 aKi
noncomputable def g84:Sg tG:=⟨[.row 3,.i .i64],.one (.i .i64),lZ⟩
theorem s84:Sok 84 g84:=sgx [] trivial (.s .o (.j ⟨[],[],[(.s 1,.i .i64)]⟩ (.s .o (.k (.l ⟨[0],[],[(.s 1,.i .i64),(.s 5,.i .i64)]⟩ .o))) .o)) kr kr kr
noncomputable def lV (x_pages:List DSlot):Option (List DSlot):=grd ((0:Int)<=((List.length x_pages:Nat):Int)/\((List.length x_pages:Nat):Int)*16<=2^47/\((List.length x_pages:Nat):Int)<=2^47) (some (over (List.replicate (Int.toNat ((List.length x_pages:Nat):Int)) (DSlot.mk (0:Int) false false)) 0 (List.length (List.replicate (Int.toNat ((List.length x_pages:Nat):Int)) (DSlot.mk (0:Int) false false))) x_pages))
noncomputable def bTb:Sg tG:=⟨[.row 53],.one (.row 53),lV⟩
theorem bZk:Sok 175 bTb:=sgx [] trivial .o kr kr kr
noncomputable def iR (x_guest:DGuest):Option DGuest:=
 cond (!x_guest.Live)
  (some (DGuest.mk false (DCore.mk ([]:List Int) (0:Int) (0:Int) (0:Int) (0:Int) false (0:Int) (0:Int) (0:Int) false false false false) ([]:List DSlot) ([]:List Int) ([]:List Int)))
  (Option.bind (cW x_guest.C.Regs) λv1=>
  Option.bind (lV x_guest.Pages) λv2=>
  Option.bind (cW x_guest.In) λv3=>
  Option.bind (cW x_guest.Out) λv4=>
  some (DGuest.mk x_guest.Live (DCore.mk v1 x_guest.C.Pc x_guest.C.Root x_guest.C.Vector x_guest.C.Saved x_guest.C.SavedUser x_guest.C.Cause x_guest.C.Bad x_guest.C.Timer x_guest.C.Waits x_guest.C.User x_guest.C.On x_guest.C.Stopped) v2 v3 v4))
noncomputable def bTn:Sg tG:=⟨[.st 38],.one (.st 38),iR⟩
theorem bZl:Sok 140 bTn:=sgx [(42,.r g42),(175,.r bTb)] ⟨s42,bZk,trivial⟩ .o kr kr kr
noncomputable def aCz  (s1:List DGuest):Option (List DGuest):=some s1
noncomputable def fI (x_guests:List DGuest)(s2:(List DGuest)×Int):Option (LO ((List DGuest)×Int) (JO (List DGuest) (List DGuest))):=
 cond (decide (s2.2<((List.length x_guests:Nat):Int)))
  (grd ((0:Int)<=s2.2/\s2.2<((List.length x_guests:Nat):Int)) (Option.bind (iR (DGuest.mk (List.getD x_guests (Int.toNat s2.2) default).Live (DCore.mk ((List.getD x_guests (Int.toNat s2.2) default).C).Regs ((List.getD x_guests (Int.toNat s2.2) default).C).Pc ((List.getD x_guests (Int.toNat s2.2) default).C).Root ((List.getD x_guests (Int.toNat s2.2) default).C).Vector ((List.getD x_guests (Int.toNat s2.2) default).C).Saved ((List.getD x_guests (Int.toNat s2.2) default).C).SavedUser ((List.getD x_guests (Int.toNat s2.2) default).C).Cause ((List.getD x_guests (Int.toNat s2.2) default).C).Bad ((List.getD x_guests (Int.toNat s2.2) default).C).Timer ((List.getD x_guests (Int.toNat s2.2) default).C).Waits ((List.getD x_guests (Int.toNat s2.2) default).C).User ((List.getD x_guests (Int.toNat s2.2) default).C).On ((List.getD x_guests (Int.toNat s2.2) default).C).Stopped) (List.getD x_guests (Int.toNat s2.2) default).Pages (List.getD x_guests (Int.toNat s2.2) default).In (List.getD x_guests (Int.toNat s2.2) default).Out)) λv3=>
   grd ((0:Int)<=s2.2/\s2.2<((List.length s2.1:Nat):Int)) (some (.next ((List.set s2.1 (Int.toNat s2.2) v3),w64 (s2.2+(1:Int)))))))
  (some (.ret (.go s2.1)))
noncomputable def fE (x_guests:List DGuest):Option (List DGuest):=
 grd ((0:Int)<=((List.length x_guests:Nat):Int)/\((List.length x_guests:Nat):Int)*176<=2^47/\((List.length x_guests:Nat):Int)<=2^47) (Option.bind (Option.bind (iter (fI x_guests) ((List.replicate (Int.toNat ((List.length x_guests:Nat):Int)) (DGuest.mk false (DCore.mk ([]:List Int) (0:Int) (0:Int) (0:Int) (0:Int) false (0:Int) (0:Int) (0:Int) false false false false) ([]:List DSlot) ([]:List Int) ([]:List Int))),(0:Int))) LO.val) λj1=>
  JO.run j1 aCz)
noncomputable def g92:Sg tG:=⟨[.row 38],.one (.row 1038),fE⟩
theorem s92:Sok 92 g92:=sgx [(140,.r bTn)] ⟨bZl,trivial⟩ (.s .o (.s (.g [] [] [.fo (.s 3) 0]) (.j ⟨[],[],[(.s 3,.ro 1038)]⟩ (.s .o (.k (.l ⟨[9,10],[],[(.s 3,.ro 1038),(.s 11,.i .i64)]⟩ (.s .o (.s .o (.s (.k (.s .o (.g [] [] [.fo (.s 3) 0]))) .o)))))) .o))) kr kr kr
noncomputable def mZ (x_g:DGuest):Option DGuest:=
 cond (!x_g.Live)
  (some (DGuest.mk false (DCore.mk ([]:List Int) (0:Int) (0:Int) (0:Int) (0:Int) false (0:Int) (0:Int) (0:Int) false false false false) ([]:List DSlot) ([]:List Int) ([]:List Int)))
  (Option.bind (lO x_g.C) λv1=>
  grd (List.length x_g.Pages*16<=2^47/\List.length x_g.Pages<=2^47) (grd (List.length x_g.In*8<=2^47/\List.length x_g.In<=2^47) (grd (List.length x_g.Out*8<=2^47/\List.length x_g.Out<=2^47) (some (DGuest.mk true v1 x_g.Pages x_g.In x_g.Out)))))
noncomputable def g98:Sg tG:=⟨[.st 38],.one (.st 38),mZ⟩
theorem s98:Sok 98 g98:=sgx [(143,.r bHm)] ⟨bPj,trivial⟩ .o kr kr kr
noncomputable def aPi (x_h:DHost)(s1:List DGuest):Option DHost:=some (DHost.mk (([]:List Int)++x_h.Words) s1)
noncomputable def oD (x_h:DHost)(s2:(List DGuest)×Int):Option (LO ((List DGuest)×Int) (JO (List DGuest) DHost)):=
 cond (decide (s2.2<((List.length x_h.Guests:Nat):Int)))
  (grd ((0:Int)<=s2.2/\s2.2<((List.length x_h.Guests:Nat):Int)) (Option.bind (mZ (DGuest.mk (List.getD x_h.Guests (Int.toNat s2.2) default).Live (DCore.mk ((List.getD x_h.Guests (Int.toNat s2.2) default).C).Regs ((List.getD x_h.Guests (Int.toNat s2.2) default).C).Pc ((List.getD x_h.Guests (Int.toNat s2.2) default).C).Root ((List.getD x_h.Guests (Int.toNat s2.2) default).C).Vector ((List.getD x_h.Guests (Int.toNat s2.2) default).C).Saved ((List.getD x_h.Guests (Int.toNat s2.2) default).C).SavedUser ((List.getD x_h.Guests (Int.toNat s2.2) default).C).Cause ((List.getD x_h.Guests (Int.toNat s2.2) default).C).Bad ((List.getD x_h.Guests (Int.toNat s2.2) default).C).Timer ((List.getD x_h.Guests (Int.toNat s2.2) default).C).Waits ((List.getD x_h.Guests (Int.toNat s2.2) default).C).User ((List.getD x_h.Guests (Int.toNat s2.2) default).C).On ((List.getD x_h.Guests (Int.toNat s2.2) default).C).Stopped) (List.getD x_h.Guests (Int.toNat s2.2) default).Pages (List.getD x_h.Guests (Int.toNat s2.2) default).In (List.getD x_h.Guests (Int.toNat s2.2) default).Out)) λv3=>
   grd ((List.length s2.1+1)*176<=2^47/\List.length s2.1+1<=2^47) (some (.next ((s2.1++([v3]:List DGuest)),w64 (s2.2+(1:Int)))))))
  (some (.ret (.go s2.1)))
noncomputable def dY (x_h:DHost):Option DHost:=
 grd ((List.length ([]:List Int)+List.length x_h.Words)*8<=2^47/\List.length ([]:List Int)+List.length x_h.Words<=2^47) (Option.bind (Option.bind (iter (oD x_h) (([]:List DGuest),(0:Int))) LO.val) λj1=>
  JO.run j1 (aPi x_h))
noncomputable def g48:Sg tG:=⟨[.st 26],.one (.st 2026),dY⟩
theorem s48:Sok 48 g48:=sgx [(98,.r g98)] ⟨s98,trivial⟩ (.s .o (.s .o (.j ⟨[2,3],[],[(.c 3 1,.ro 1038)]⟩ (.s .o (.k (.l ⟨[1,2,3],[],[(.c 3 1,.ro 1038),(.s 4,.i .i64)]⟩ (.s .o (.s (.k (.g [] [] [.fo (.c 3 1) 0])) .o))))) .o))) kr kr kr
theorem aDs{x_h:DHost}{R_:DHost}(hh:dY x_h=some R_):Fn Tryz.prog 48 [.agg (fH x_h)] (.agg [.own 3 1 (List.length R_.Words) (fl (eI .i64) R_.Words),.own 38 17 (List.length R_.Guests) (fl bK R_.Guests)]):=kc (s48 x_h R_ hh)
noncomputable def aFu  (s1:List Int):Option (List Int):=some s1
noncomputable def uU (s3:(List Int)×Int)(s4:List Int):Option (LO ((List Int)×Int) (JO (List Int) (List Int))):=some (.next (s4,w64 (s3.2+(1:Int))))
noncomputable def jX (v2:List Int)(s3:(List Int)×Int):Option (LO ((List Int)×Int) (JO (List Int) (List Int))):=
 cond (decide (s3.2<((List.length v2:Nat):Int)))
  (Option.bind (grd ((0:Int)<=s3.2/\s3.2<((List.length v2:Nat):Int)) (cond (decide ((List.getD v2 (Int.toNat s3.2) default)=(0:Int)))
   (grd ((List.length s3.1+List.length ([s3.2]:List Int))*8<=2^47/\List.length s3.1+List.length ([s3.2]:List Int)<=2^47) (some (.go (s3.1++([s3.2]:List Int)))))
   (some (.go s3.1)))) λj4=>
   JO.run j4 (uU s3))
  (some (.ret (.go s3.1)))
noncomputable def mW (x_guests:List DGuest):Option (List Int):=
 Option.bind (Option.bind (dL x_guests) λv2=>
  Option.bind (iter (jX v2) (([]:List Int),(0:Int))) LO.val) λj1=>
  JO.run j1 aFu
noncomputable def bUy:Sg tG:=⟨[.row 38],.one (.row 3),mW⟩
theorem cAd:Sok 193 bUy:=sgx [(91,.r g91)] ⟨s91,trivial⟩ (.s .o (.s .o (.j ⟨[],[],[(.s 3,.ro 3)]⟩ (.s .o (.k (.l ⟨[8,9],[],[(.s 3,.ro 3),(.s 10,.i .i64)]⟩ (.s .o (.s .o (.j ⟨[8,9,10],[],[(.s 3,.ro 3)]⟩ .o .o)))))) .o))) kr kr kr
noncomputable def aAe  (s1:List Int):Option (List Int):=some s1
noncomputable def zV (s2:(List Int)×Int)(s3:List Int):Option (LO ((List Int)×Int) (JO (List Int) (List Int))):=some (.next (s3,w64 (s2.2+(1:Int))))
noncomputable def tV (s4:(List Int)×Int)(s5:List Int):Option (LO ((List Int)×Int) (JO (List Int) (LO ((List Int)×Int) (JO (List Int) (List Int))))):=some (.next (s5,w64 (s4.2+(1:Int))))
noncomputable def kU (x_h:DHost)(s2:(List Int)×Int)(s4:(List Int)×Int):Option (LO ((List Int)×Int) (JO (List Int) (LO ((List Int)×Int) (JO (List Int) (List Int))))):=
 grd ((0:Int)<=s2.2/\s2.2<((List.length x_h.Guests:Nat):Int)) (cond (decide (s4.2<((List.length (List.getD x_h.Guests (Int.toNat s2.2) default).Pages:Nat):Int)))
  (Option.bind (grd ((0:Int)<=s2.2/\s2.2<((List.length x_h.Guests:Nat):Int)) (grd ((0:Int)<=s4.2/\s4.2<((List.length (List.getD x_h.Guests (Int.toNat s2.2) default).Pages:Nat):Int)) (cond (decide ((0:Int)<=(List.getD (List.getD x_h.Guests (Int.toNat s2.2) default).Pages (Int.toNat s4.2) default).Frame))
   (grd ((0:Int)<=(List.getD (List.getD x_h.Guests (Int.toNat s2.2) default).Pages (Int.toNat s4.2) default).Frame/\(List.getD (List.getD x_h.Guests (Int.toNat s2.2) default).Pages (Int.toNat s4.2) default).Frame<((List.length s4.1:Nat):Int)) (grd ((0:Int)<=(List.getD (List.getD x_h.Guests (Int.toNat s2.2) default).Pages (Int.toNat s4.2) default).Frame/\(List.getD (List.getD x_h.Guests (Int.toNat s2.2) default).Pages (Int.toNat s4.2) default).Frame<((List.length s4.1:Nat):Int)) (some (.go (List.set s4.1 (Int.toNat (List.getD (List.getD x_h.Guests (Int.toNat s2.2) default).Pages (Int.toNat s4.2) default).Frame) (w64 ((List.getD s4.1 (Int.toNat (List.getD (List.getD x_h.Guests (Int.toNat s2.2) default).Pages (Int.toNat s4.2) default).Frame) default)+(1:Int))))))))
   (some (.go s4.1))))) λj5=>
   JO.run j5 (tV s4))
  (some (.ret (.go s4.1))))
noncomputable def oC (x_h:DHost)(s2:(List Int)×Int):Option (LO ((List Int)×Int) (JO (List Int) (List Int))):=
 cond (decide (s2.2<((List.length x_h.Guests:Nat):Int)))
  (Option.bind (Option.bind (iter (kU x_h s2) (s2.1,(0:Int))) LO.val) λj3=>
   JO.run j3 (zV s2))
  (some (.ret (.go s2.1)))
noncomputable def fM (x_h:DHost):Option (List Int):=
 Option.bind (Option.bind (iter (oC x_h) ((List.replicate (Int.toNat (20:Int)) (0:Int)),(0:Int))) LO.val) λj1=>
  JO.run j1 aAe
noncomputable def g49:Sg tG:=⟨[.st 26],.one (.row 3),fM⟩
theorem s49:Sok 49 g49:=sgx [] trivial (.s .o (.s .o (.j ⟨[],[],[(.s 3,.ro 3)]⟩ (.s .o (.k (.l ⟨[1],[],[(.s 3,.ro 3),(.s 4,.i .i64)]⟩ (.s .o (.j ⟨[1,4],[],[(.s 3,.ro 3)]⟩ (.k (.s .o (.k (.l ⟨[1,4],[],[(.s 3,.ro 3),(.s 5,.i .i64)]⟩ (.s .o (.j ⟨[1,4,5],[],[(.s 3,.ro 3)]⟩ .o .o)))))) .o))))) .o))) kr kr kr
noncomputable def aJi  (s3:List Int):Option (List Int):=some s3
noncomputable def xF (s4:(List Int)×Int)(s5:List Int):Option (LO ((List Int)×Int) (JO (List Int) (List Int))):=some (.next (s5,w64 (s4.2+(1:Int))))
noncomputable def mD (v2:List Int)(s4:(List Int)×Int):Option (LO ((List Int)×Int) (JO (List Int) (List Int))):=
 cond (decide (s4.2<(20:Int)))
  (Option.bind (grd ((0:Int)<=s4.2/\s4.2<((List.length v2:Nat):Int)) (cond (decide ((List.getD v2 (Int.toNat s4.2) default)=(0:Int)))
   (grd ((List.length s4.1+List.length ([s4.2]:List Int))*8<=2^47/\List.length s4.1+List.length ([s4.2]:List Int)<=2^47) (some (.go (s4.1++([s4.2]:List Int)))))
   (some (.go s4.1)))) λj5=>
   JO.run j5 (xF s4))
  (some (.ret (.go s4.1)))
noncomputable def gO (x_h:DHost):Option (List Int):=
 Option.bind (gU x_h) λv1=>
 cond (!v1)
  (some ([]:List Int))
  (Option.bind (fM x_h) λv2=>
  Option.bind (Option.bind (iter (mD v2) (([]:List Int),(0:Int))) LO.val) λj3=>
   JO.run j3 aJi)
noncomputable def g90:Sg tG:=⟨[.st 26],.one (.row 3),gO⟩
theorem s90:Sok 90 g90:=sgx [(47,.r g47),(49,.r g49)] ⟨s47,s49,trivial⟩ (.s .o (.s .o (.s .o (.s .o (.j ⟨[],[],[(.s 3,.ro 3)]⟩ (.s .o (.k (.l ⟨[4],[],[(.s 3,.ro 3),(.s 5,.i .i64)]⟩ (.s .o (.j ⟨[4,5],[],[(.s 3,.ro 3)]⟩ .o .o))))) .o))))) kr kr kr
noncomputable def dA (x_h:DHost):Option DHost:=
 Option.bind (cW x_h.Words) λv1=>
 Option.bind (fE x_h.Guests) λv2=>
 some (DHost.mk v1 v2)
noncomputable def g51:Sg tG:=⟨[.st 26],.one (.st 2026),dA⟩
theorem s51:Sok 51 g51:=sgx [(42,.r g42),(92,.r g92)] ⟨s42,s92,trivial⟩ .o kr kr kr
theorem aIs{x_h:DHost}{R_:DHost}(hh:dA x_h=some R_):Fn Tryz.prog 51 [.agg (fH x_h)] (.agg [.own 3 1 (List.length R_.Words) (fl (eI .i64) R_.Words),.own 38 17 (List.length R_.Guests) (fl bK R_.Guests)]):=kc (s51 x_h R_ hh)
theorem aOf:LW 181 ⟨44,[.cell 8 true 2],.seq (.reg false (rg 181 0)) (.seq (.reg false (rg 181 1)) (.seq (.reg false (rg 181 2)) (.seq (.regd (rg 181 3) (rg 181 4)) (.seq (.regt (rg 181 5) (rg 181 6)) (.seq (.reg false (rg 181 7)) .ret)))))⟩:=kr
noncomputable def iB (x_h:DHost)(x_g:Int)(x_page:Int)(x_frame:Int):Option DHost:=
 Option.bind (dA x_h) λv1=>
 grd ((0:Int)<=x_g/\x_g<((List.length x_h.Guests:Nat):Int)) (grd ((0:Int)<=x_page/\x_page<((List.length (List.getD x_h.Guests (Int.toNat x_g) default).Pages:Nat):Int)) (Option.bind (jC v1.Words x_frame) λv2=>
  grd (List.length v2.1=(List.length v1.Words)) (grd (v2.2.1+v2.2.2<=List.length v2.1) (Option.bind (eP x_h.Words (DSlot.mk (List.getD (List.getD x_h.Guests (Int.toNat x_g) default).Pages (Int.toNat x_page) default).Frame (List.getD (List.getD x_h.Guests (Int.toNat x_g) default).Pages (Int.toNat x_page) default).Write (List.getD (List.getD x_h.Guests (Int.toNat x_g) default).Pages (Int.toNat x_page) default).Dirty)) λv3=>
   grd ((0:Int)<=x_g/\x_g<((List.length v1.Guests:Nat):Int)) (grd ((0:Int)<=x_page/\x_page<((List.length (List.getD v1.Guests (Int.toNat x_g) default).Pages:Nat):Int)) (some (DHost.mk (over v2.1 v2.2.1 v2.2.2 v3) (List.set v1.Guests (Int.toNat x_g) (DGuest.mk (List.getD v1.Guests (Int.toNat x_g) default).Live (DCore.mk ((List.getD v1.Guests (Int.toNat x_g) default).C).Regs ((List.getD v1.Guests (Int.toNat x_g) default).C).Pc ((List.getD v1.Guests (Int.toNat x_g) default).C).Root ((List.getD v1.Guests (Int.toNat x_g) default).C).Vector ((List.getD v1.Guests (Int.toNat x_g) default).C).Saved ((List.getD v1.Guests (Int.toNat x_g) default).C).SavedUser ((List.getD v1.Guests (Int.toNat x_g) default).C).Cause ((List.getD v1.Guests (Int.toNat x_g) default).C).Bad ((List.getD v1.Guests (Int.toNat x_g) default).C).Timer ((List.getD v1.Guests (Int.toNat x_g) default).C).Waits ((List.getD v1.Guests (Int.toNat x_g) default).C).User ((List.getD v1.Guests (Int.toNat x_g) default).C).On ((List.getD v1.Guests (Int.toNat x_g) default).C).Stopped) (List.set (List.getD v1.Guests (Int.toNat x_g) default).Pages (Int.toNat x_page) (DSlot.mk x_frame true (List.getD (List.getD x_h.Guests (Int.toNat x_g) default).Pages (Int.toNat x_page) default).Dirty)) (List.getD v1.Guests (Int.toNat x_g) default).In (List.getD v1.Guests (Int.toNat x_g) default).Out)))))))))
theorem aRv{x_h:DHost}{x_g:Int}{x_page:Int}{x_frame:Int}{R_:DHost}(hh:iB x_h x_g x_page x_frame=some R_):Fn Tryz.prog 181 [.agg (fH x_h),.int .i64 x_g,.int .i64 x_page,.int .i64 x_frame] (.agg [.own 3 1 (List.length R_.Words) (fl (eI .i64) R_.Words),.own 38 17 (List.length R_.Guests) (fl bK R_.Guests)]):=by let z7:EH:=(0,some (rB26 x_h));let z8:=(1,ii x_g);let z9:EH:=(1,some ⟨26,[.nil,.nil]⟩);let z10:=(10,pp 5);let z11:=(2,ii x_page);let z12:=(3,ii x_frame);let z13:EV:=(34,.ptr 3 [] (0+(Int.toNat x_g)*17));let z14:EV:=(35,.ptr 3 [] (0+(Int.toNat x_g)*17+14));let z15:=(8,pp 1);let z16:=(9,pp 4);let z1:=List.getD x_h.Guests (Int.toNat x_g) default;let z3:=List.getD z1.Pages (Int.toNat x_page) default;let z4:=DSlot.mk x_frame true z3.Dirty;unfold iB at hh;refine Fn.start aOf [0,1,2,3] (E:=sp 44 [(0,.agg (fH x_h)),z8,z11,z12]) kr (v:= .agg [sw 0 R_.Words,.sref 1 [] 0 (List.length R_.Guests) 17]) (Hr:=[(1,some (rO38 R_.Guests)),(0,some (rI_3 R_.Words))]) (k:=2) kr (sy [1,2,3,4,8] [0,1] (sp 44 [z8,z11,z12,(4,pp 0),z15]) [z7,z9] 2 (Aw.sreg [1,2,3,4,8,9] [0,1,2,3,4] (yu 1 [(11,.agg (fH x_h))] [z7,z9] 2 ?_)));obtain⟨v1,hv1,hh⟩:=bind_some hh;let z17:EV:=(32,.sref 3 [] 0 (List.length v1.Guests) 17);let z2:=List.getD v1.Guests (Int.toNat x_g) default;let z5:=List.set z2.Pages (Int.toNat x_page) z4;let z6:=DGuest.mk z2.Live z2.C z5 z2.In z2.Out;let q1:Root:=(rO38 v1.Guests);let z18:=(3,some q1);let q2:Root:=(rI_3 v1.Words);let z19:=(2,some q2);refine ys (.call 51 [.t 11]) (some 12) (lP (r:= .agg [.own 3 1 (List.length v1.Words) (fl (eI .i64) v1.Words),.own 38 17 (List.length v1.Guests) (fl bK v1.Guests)]) (v:= .agg [sw 2 v1.Words,.sref 3 [] 0 (List.length v1.Guests) 17]) (Hr:=[z18,z19]) (n':=4) (aIs hv1) (nT (vs:=[.agg (fH x_h)]) kr (dJ (aD (uG (qX _))) eK)) nrr nrr kr ?_);let q3:Root:=⟨26,[sw 2 v1.Words,.sref 3 [] 0 (List.length v1.Guests) 17]⟩;let z20:=(4,some q3);refine yt (sp 44 [z8,z11,z12,(4,pp 0),z15,z16]) [z7,z9,z19,z18,z20] 5 (Aw.sreg [1,2,3,4,8,9,10] [0,1,2,3,4,5] (yu 3 [(13,.ptr 0 [] 1),(14,bo dO x_h.Guests),(15,ii x_g)] [z7,z9,z19,z18,z20] 5 ?_));obtain⟨hg3,hh⟩:=aL hh;refine ys (.iadr 17 (.t 14) (.t 15)) (some 16) (aSq (kd:= .i64) (c:=dO) (xs:=x_h.Guests) aEw dd kr kr hg3 ?_);refine yu 1 [(16,.bptr (fl dO x_h.Guests) (Int.toNat x_g*17)),(17,.bptr (fl dO x_h.Guests) (Int.toNat x_g*17+14))] [z7,z9,z19,z18,z20] 5 (ys (.load false 1 (.t 17)) (some 18) (bNu (c:=dO) (xs:=x_h.Guests) (o:=Int.toNat x_g*17+14) (i:=(Int.toNat x_g)) (off:=14) (v:=bo gL z1.Pages) aEw kr ltn ltn dd kr ?_));refine yu 1 [(18,bo gL z1.Pages),(19,ii x_page)] [z7,z9,z19,z18,z20] 5 ?_;obtain⟨hg4,hh⟩:=aL hh;refine ys (.iadr 3 (.t 18) (.t 19)) (some 20) (aSq (kd:= .i64) (c:=gL) (xs:=z1.Pages) pY dd kr kr hg4 ?_);refine ys (.load true 3 (.t 20)) (some 21) (aVo (c:=gL) (xs:=z1.Pages) (o:=Int.toNat x_page*3) (i:=(Int.toNat x_page)) (off:=0) (v:= .agg [ii z3.Frame,bb z3.Write,bb z3.Dirty]) pY kr ltn ltn dd kr ?_);let q4:Root:=⟨53,[ii z3.Frame,bb z3.Write,bb z3.Dirty]⟩;let z21:=(5,some q4);refine yt (sp 44 [z8,z11,z12,(4,pp 0),z15,z16,z10]) [z7,z9,z19,z18,z20,z21] 6 (Aw.sregd [1,2,3,8,9,10] [1,2,3,4,5] [2] kr (dj 3 (sp 44 [z8,z11,z12,(4,pp 0),z15,z16,z10,(22,pp 4),(23,sw 2 v1.Words),(24,ii x_frame)]) [z7,z9,z19,z18,z20,z21] 6 ?_));obtain⟨v2,hv2,hh⟩:=bind_some hh;let z22:EH:=(2,some (rI_3 v2.1));obtain⟨hg7,hh⟩:=aL hh;obtain⟨hg8,hh⟩:=aL hh;refine ds (.call 142 [.t 23,.t 24]) (some 25) (wI rfl (cf (.sref 2 [] (0+v2.2.1*1) v2.2.2 1) [z22] 6 [2] (aBd hv2) [sw 2 v1.Words,ii x_frame] rz (hn aY aR) aBa (hn aY aR) ⟨⟨⟨by decide,nJ rfl rfl⟩,Hld.un ?_⟩⟩));refine dt (sp 44 [z8,z11,z12,(4,pp 0),z15,z16,z10,(22,pp 4),(23,sw 2 v1.Words),(24,ii x_frame),(25,.sref 2 [] (0+v2.2.1*1) v2.2.2 1),(26,pp 0),(27,bo (eI .i64) x_h.Words),(28,.agg [ii z3.Frame,bb z3.Write,bb z3.Dirty])]) [z22,(2,none),z7,z9,z19,z18,z20,z21] 6 ?_;obtain⟨v3,hv3,hh⟩:=bind_some hh;refine ys (.call 191 [.t 27,.t 28]) (some 29) (aBk (r:=bo (eI .i64) v3) (v:=bo (eI .i64) v3) (Hr:=[]) (n':=6) (aMk hv3) (nT (vs:=[bo (eI .i64) x_h.Words,.agg [ii z3.Frame,bb z3.Write,bb z3.Dirty]]) kr (dJ (aD (cY (bE cN))) (cz1 eK))) nrr kr ?_);let q5:Root:=(rI_3 (over v2.1 v2.2.1 v2.2.2 v3));let z23:=(2,some q5);refine ys (.cpy 1 (.t 25) (.t 29)) (some 30) (aQv (c:=(eI .i64)) (xs:=v2.1) (ys:=v3) (e:=3) (r:=2) (π:=[]) (o:=0+v2.2.1*1) (k:=v2.2.2) (i:=v2.2.1) (H':=[z23,z22,(2,none),z7,z9,z19,z18,z20,z21]) bH (rpv kr (bAj (c:=(eI .i64)) (xs:=v3) bH)) kr kr ltn ltn kr ?_);refine yt (sp 44 [z8,z11,z12,z15,z16,z10]) [z9,z23,z18,z20,z21] 6 (Aw.sregt [8,9] [1,2,3,4] ?_);obtain⟨hg12,hh⟩:=aL hh;refine qc (cs:=[(0:Int)<=x_g/\x_g<((List.length v1.Guests:Nat):Int)]) (E':=(sp 44 [z8,z11,z12,z15,z16,z10,(31,.ptr 4 [] 1),z17,(33,ii x_g),z13,z14])) (pre:=(List.take 5 (rg 181 5))) (L':=(List.drop 5 (rg 181 5))) kr (λK=>by kernel_rfl) (.cons hg12 .nil) (qs (.load false 1 (.t 35)) (some 36) (aWw rfl (oR (c:=bK) (xs:=v1.Guests) (e:=38) (r:=3) (π:=[]) (o:=0+(Int.toNat x_g)*17+14) (i:=(Int.toNat x_g)) (off:=14) (v:= .sref 3 [0+(Int.toNat x_g)*17+14+0] 0 (List.length z2.Pages) 3) aZ kr kr ltn ltn dd kr ?_)));obtain⟨hg11,hh⟩:=aL hh;refine qtt (cs:=[(0:Int)<=x_page/\x_page<((List.length z2.Pages:Nat):Int)]) (E':=(sp 44 [z8,z11,z12,z15,z16,z10,(31,.ptr 4 [] 1),z17,(33,ii x_g),z13,z14,(36,.sref 3 [0+(Int.toNat x_g)*17+14+0] 0 (List.length z2.Pages) 3),(37,ii x_page),(38,ii x_frame),(39,.ptr 5 [] 2),(40,bb z3.Dirty),(41,.agg [ii x_frame,bb true,bb z3.Dirty]),(42,.ptr 3 [0+(Int.toNat x_g)*17+14+0] (0+(Int.toNat x_page)*3))])) (λK=>by kernel_rfl) (.cons hg11 .nil) ?_;let q6:Root:=(rO38 (List.set v1.Guests (Int.toNat x_g) z6));refine ys (.store 3 (.t 42) (.t 41)) none (aBn (c:=gL) (xs:=z2.Pages) (e:=53) (r:=3) (π:=[0+(Int.toNat x_g)*17+14+0]) (o:=0+(Int.toNat x_page)*3) (i:=(Int.toNat x_page)) (off:=0) (vs:=[ii x_frame,bb true,bb z3.Dirty]) (y:=z4) (H':=[(3,some q6),z9,z23,z18,z20,z21]) pY kr kr kr (uV (e:=38) (e':=53) (sz':=3) (m':=(List.length z2.Pages)) (cs':=(fl gL z2.Pages)) (c:=bK) (xs:=v1.Guests) (i:=(Int.toNat x_g)) (off:=14) aZ kr ltn ltn dd rfl kr) ltn ltn dd kr (aQb (e:=38) (e':=53) (sz':=3) (m':=(List.length z2.Pages)) (cs':=(fl gL z2.Pages)) (ds:=(fl gL z5)) (c:=bK) (xs:=v1.Guests) (i:=(Int.toNat x_g)) (off:=14) (y:=z6) (m2:=(List.length z5)) aZ kr ltn ltn dd rfl kr eqn kr rfl kr) ?_);refine yt (sp 44 [z15,z16]) [z9,z23,(3,some q6),z20] 6 (sy [8] [1,2,3] (sp 44 [z15]) [(1,some q3),z23,(3,some q6)] 6 (Aw.ret ?_));rw[aP hh];exact iH (r':= .agg [sw 2 v1.Words,.sref 3 [] 0 (List.length v1.Guests) 17]) kr (Ent.list [some 2,some 3] rfl rfl (Nat.zero_le _) (sZ (eY rz)) (hn cH (hn aY aR)))
noncomputable def bOp:Sg tG:=⟨[.st 26,.i .i64,.i .i64,.i .i64],.one (.st 2026),iB⟩
theorem bVk:Sok 181 bOp:=λx_h x_g x_page x_frame R_ hh=>kc (aRv (x_h:=x_h) (x_g:=x_g) (x_page:=x_page) (x_frame:=x_frame) hh)
noncomputable def iY (x_h:DHost)(x_g:Int)(x_page:Int):Option (DHost×Bool):=
 Option.bind (mW x_h.Guests) λv1=>
 cond (decide (((List.length v1:Nat):Int)=(0:Int)))
  (some ((DHost.mk ([]:List Int) ([]:List DGuest)),false))
  (grd ((0:Int)<=(0:Int)/\(0:Int)<((List.length v1:Nat):Int)) (Option.bind (iB x_h x_g x_page (List.getD v1 0 default)) λv2=>
   some (v2,true)))
noncomputable def bNc:Sg tG:=⟨[.st 26,.i .i64,.i .i64],.two (.st 2026) .b,iY⟩
theorem bXm:Sok 180 bNc:=sgx [(193,.r bUy),(181,.r bOp)] ⟨cAd,bVk,trivial⟩ .o kr kr kr
noncomputable def pF (x_h:DHost)(x_g:Int)(x_page:Int):Option (DHost×Bool):=
 Option.bind (gF x_h x_g) λv1=>
 cond (!v1)
  (some ((DHost.mk ([]:List Int) ([]:List DGuest)),false))
  (Option.bind (jI x_page) λv2=>
  cond (!v2)
   (some ((DHost.mk ([]:List Int) ([]:List DGuest)),false))
   (grd ((0:Int)<=x_g/\x_g<((List.length x_h.Guests:Nat):Int)) (grd ((0:Int)<=x_page/\x_page<((List.length (List.getD x_h.Guests (Int.toNat x_g) default).Pages:Nat):Int)) (cond (!decide ((List.getD (List.getD x_h.Guests (Int.toNat x_g) default).Pages (Int.toNat x_page) default).Frame=(-1:Int)))
    (Option.bind (dA x_h) λv3=>
    some (v3,true))
    (Option.bind (iY x_h x_g x_page) λv4=>
    some (v4.1,v4.2))))))
noncomputable def bUi:Sg tG:=⟨[.st 26,.i .i64,.i .i64],.two (.st 2026) .b,pF⟩
theorem bYv:Sok 148 bUi:=sgx [(62,.r g62),(138,.r bAz),(51,.r g51),(180,.r bNc)] ⟨s62,bIi,s51,bXm,trivial⟩ .o kr kr kr
noncomputable def aJy (x_g:Int)(x_page:Int)(v3:DHost)(v4:List Int)(s5:List Int):Option (DHost×Bool):=grd ((0:Int)<=x_g/\x_g<((List.length v3.Guests:Nat):Int)) (grd ((0:Int)<=(0:Int)/\(0:Int)<((List.length v4:Nat):Int)) (grd ((0:Int)<=x_page/\x_page<((List.length (List.getD v3.Guests (Int.toNat x_g) default).Pages:Nat):Int)) (some ((DHost.mk s5 (List.set v3.Guests (Int.toNat x_g) (DGuest.mk (List.getD v3.Guests (Int.toNat x_g) default).Live (DCore.mk ((List.getD v3.Guests (Int.toNat x_g) default).C).Regs ((List.getD v3.Guests (Int.toNat x_g) default).C).Pc ((List.getD v3.Guests (Int.toNat x_g) default).C).Root ((List.getD v3.Guests (Int.toNat x_g) default).C).Vector ((List.getD v3.Guests (Int.toNat x_g) default).C).Saved ((List.getD v3.Guests (Int.toNat x_g) default).C).SavedUser ((List.getD v3.Guests (Int.toNat x_g) default).C).Cause ((List.getD v3.Guests (Int.toNat x_g) default).C).Bad ((List.getD v3.Guests (Int.toNat x_g) default).C).Timer ((List.getD v3.Guests (Int.toNat x_g) default).C).Waits ((List.getD v3.Guests (Int.toNat x_g) default).C).User ((List.getD v3.Guests (Int.toNat x_g) default).C).On ((List.getD v3.Guests (Int.toNat x_g) default).C).Stopped) (List.set (List.getD v3.Guests (Int.toNat x_g) default).Pages (Int.toNat x_page) (DSlot.mk (List.getD v4 0 default) true false)) (List.getD v3.Guests (Int.toNat x_g) default).In (List.getD v3.Guests (Int.toNat x_g) default).Out))),true))))
noncomputable def aJp (v4:List Int)(s6:(List Int)×Int):Option (LO ((List Int)×Int) (JO (List Int) (DHost×Bool))):=
 cond (decide (s6.2<(8:Int)))
  (grd ((0:Int)<=(0:Int)/\(0:Int)<((List.length v4:Nat):Int)) (grd ((0:Int)<=(w64 ((w64 ((List.getD v4 0 default)*(8:Int)))+s6.2))/\(w64 ((w64 ((List.getD v4 0 default)*(8:Int)))+s6.2))<((List.length s6.1:Nat):Int)) (some (.next ((List.set s6.1 (Int.toNat (w64 ((w64 ((List.getD v4 0 default)*(8:Int)))+s6.2))) (0:Int)),w64 (s6.2+(1:Int)))))))
  (some (.ret (.go s6.1)))
noncomputable def aCr (x_h:DHost)(x_g:Int)(x_page:Int):Option (DHost×Bool):=
 Option.bind (eS x_h x_g) λv1=>
 cond (!v1)
  (some ((DHost.mk ([]:List Int) ([]:List DGuest)),false))
  (Option.bind (bZ x_page (0:Int) (7:Int)) λv2=>
  cond (!v2)
   (some ((DHost.mk ([]:List Int) ([]:List DGuest)),false))
   (Option.bind (dY x_h) λv3=>
   grd ((0:Int)<=x_g/\x_g<((List.length x_h.Guests:Nat):Int)) (grd ((0:Int)<=x_page/\x_page<((List.length (List.getD x_h.Guests (Int.toNat x_g) default).Pages:Nat):Int)) (cond (decide ((0:Int)<=(List.getD (List.getD x_h.Guests (Int.toNat x_g) default).Pages (Int.toNat x_page) default).Frame))
    (some (v3,true))
    (Option.bind (gO x_h) λv4=>
    cond (decide (((List.length v4:Nat):Int)=(0:Int)))
     (some ((DHost.mk ([]:List Int) ([]:List DGuest)),false))
     (Option.bind (Option.bind (iter (aJp v4) (v3.Words,(0:Int))) LO.val) λj5=>
      JO.run j5 (aJy x_g x_page v3 v4)))))))
noncomputable def bXr:Sg tG:=⟨[.st 26,.i .i64,.i .i64],.two (.st 2026) .b,aCr⟩
theorem bYo:Sok 116 bXr:=sgx [(58,.r g58),(97,.r g97),(48,.r g48),(90,.r g90)] ⟨s58,s97,s48,s90,trivial⟩ (.s .o (.s .o (.s .o (.s .o (.s .o (.s .o (.j ⟨[1,2,6,8,9],[],[(.c 8 0,.ro 3)]⟩ (.s .o (.k (.l ⟨[1,2,6,8,9],[],[(.c 8 0,.ro 3),(.s 10,.i .i64)]⟩ .o))) .o))))))) kr kr kr
noncomputable def pR (x_h:DHost)(x_g:Int)(x_page:Int):Option (DHost×Bool):=
 Option.bind (gF x_h x_g) λv1=>
 cond (!v1)
  (some ((DHost.mk ([]:List Int) ([]:List DGuest)),false))
  (Option.bind (jI x_page) λv2=>
  cond (!v2)
   (some ((DHost.mk ([]:List Int) ([]:List DGuest)),false))
   (grd ((0:Int)<=x_g/\x_g<((List.length x_h.Guests:Nat):Int)) (grd ((0:Int)<=x_page/\x_page<((List.length (List.getD x_h.Guests (Int.toNat x_g) default).Pages:Nat):Int)) (cond (decide ((List.getD (List.getD x_h.Guests (Int.toNat x_g) default).Pages (Int.toNat x_page) default).Frame=(-1:Int)))
    (some ((DHost.mk ([]:List Int) ([]:List DGuest)),false))
    (Option.bind (dL x_h.Guests) λv3=>
    grd ((0:Int)<=(List.getD (List.getD x_h.Guests (Int.toNat x_g) default).Pages (Int.toNat x_page) default).Frame/\(List.getD (List.getD x_h.Guests (Int.toNat x_g) default).Pages (Int.toNat x_page) default).Frame<((List.length v3:Nat):Int)) (cond (decide ((List.getD v3 (Int.toNat (List.getD (List.getD x_h.Guests (Int.toNat x_g) default).Pages (Int.toNat x_page) default).Frame) default)=(1:Int)))
     (Option.bind (iB x_h x_g x_page (List.getD (List.getD x_h.Guests (Int.toNat x_g) default).Pages (Int.toNat x_page) default).Frame) λv4=>
     some (v4,true))
     (Option.bind (iY x_h x_g x_page) λv5=>
     some (v5.1,v5.2))))))))
noncomputable def bVh:Sg tG:=⟨[.st 26,.i .i64,.i .i64],.two (.st 2026) .b,pR⟩
theorem bZz:Sok 149 bVh:=sgx [(62,.r g62),(138,.r bAz),(91,.r g91),(181,.r bOp),(180,.r bNc)] ⟨s62,bIi,s91,bVk,bXm,trivial⟩ .o kr kr kr
noncomputable def aKt (x_h:DHost)(x_g:Int)(x_page:Int)(v3:DHost)(s4:(List Int)×Int):Option (DHost×Bool):=grd ((0:Int)<=x_g/\x_g<((List.length v3.Guests:Nat):Int)) (grd ((0:Int)<=x_page/\x_page<((List.length (List.getD v3.Guests (Int.toNat x_g) default).Pages:Nat):Int)) (some ((DHost.mk s4.1 (List.set v3.Guests (Int.toNat x_g) (DGuest.mk (List.getD v3.Guests (Int.toNat x_g) default).Live (DCore.mk ((List.getD v3.Guests (Int.toNat x_g) default).C).Regs ((List.getD v3.Guests (Int.toNat x_g) default).C).Pc ((List.getD v3.Guests (Int.toNat x_g) default).C).Root ((List.getD v3.Guests (Int.toNat x_g) default).C).Vector ((List.getD v3.Guests (Int.toNat x_g) default).C).Saved ((List.getD v3.Guests (Int.toNat x_g) default).C).SavedUser ((List.getD v3.Guests (Int.toNat x_g) default).C).Cause ((List.getD v3.Guests (Int.toNat x_g) default).C).Bad ((List.getD v3.Guests (Int.toNat x_g) default).C).Timer ((List.getD v3.Guests (Int.toNat x_g) default).C).Waits ((List.getD v3.Guests (Int.toNat x_g) default).C).User ((List.getD v3.Guests (Int.toNat x_g) default).C).On ((List.getD v3.Guests (Int.toNat x_g) default).C).Stopped) (List.set (List.getD v3.Guests (Int.toNat x_g) default).Pages (Int.toNat x_page) (DSlot.mk s4.2 true (List.getD (List.getD x_h.Guests (Int.toNat x_g) default).Pages (Int.toNat x_page) default).Dirty)) (List.getD v3.Guests (Int.toNat x_g) default).In (List.getD v3.Guests (Int.toNat x_g) default).Out))),true)))
noncomputable def aCd (x_h:DHost)(x_g:Int)(x_page:Int):Option (DHost×Bool):=
 Option.bind (eS x_h x_g) λv1=>
 cond (!v1)
  (some ((DHost.mk ([]:List Int) ([]:List DGuest)),false))
  (Option.bind (bZ x_page (0:Int) (7:Int)) λv2=>
  cond (!v2)
   (some ((DHost.mk ([]:List Int) ([]:List DGuest)),false))
   (grd ((0:Int)<=x_g/\x_g<((List.length x_h.Guests:Nat):Int)) (grd ((0:Int)<=x_page/\x_page<((List.length (List.getD x_h.Guests (Int.toNat x_g) default).Pages:Nat):Int)) (cond (decide ((List.getD (List.getD x_h.Guests (Int.toNat x_g) default).Pages (Int.toNat x_page) default).Frame<(0:Int)))
    (some ((DHost.mk ([]:List Int) ([]:List DGuest)),false))
    (Option.bind (dY x_h) λv3=>
    grd ((0:Int)<=x_g/\x_g<((List.length x_h.Guests:Nat):Int)) (grd ((0:Int)<=x_page/\x_page<((List.length (List.getD x_h.Guests (Int.toNat x_g) default).Pages:Nat):Int)) (Option.bind (cond (!(List.getD (List.getD x_h.Guests (Int.toNat x_g) default).Pages (Int.toNat x_page) default).Write)
     (Option.bind (fM x_h) λv5=>
     grd ((0:Int)<=(List.getD (List.getD x_h.Guests (Int.toNat x_g) default).Pages (Int.toNat x_page) default).Frame/\(List.getD (List.getD x_h.Guests (Int.toNat x_g) default).Pages (Int.toNat x_page) default).Frame<((List.length v5:Nat):Int)) (cond (decide ((1:Int)<(List.getD v5 (Int.toNat (List.getD (List.getD x_h.Guests (Int.toNat x_g) default).Pages (Int.toNat x_page) default).Frame) default)))
      (Option.bind (gO x_h) λv6=>
      cond (decide (((List.length v6:Nat):Int)=(0:Int)))
       (some (.out ((DHost.mk ([]:List Int) ([]:List DGuest)),false)))
       (grd ((0:Int)<=(0:Int)/\(0:Int)<((List.length v6:Nat):Int)) (grd ((0:Int)<=(0:Int)/\(0:Int)<((List.length v6:Nat):Int)) (grd ((0:Int)<=(w64 ((List.getD v6 0 default)*(8:Int)))/\(w64 ((List.getD v6 0 default)*(8:Int)))<=(w64 ((w64 ((List.getD v6 0 default)+(1:Int)))*(8:Int)))/\(w64 ((w64 ((List.getD v6 0 default)+(1:Int)))*(8:Int)))<=((List.length v3.Words:Nat):Int)) (grd ((0:Int)<=(w64 ((List.getD (List.getD x_h.Guests (Int.toNat x_g) default).Pages (Int.toNat x_page) default).Frame*(8:Int)))/\(w64 ((List.getD (List.getD x_h.Guests (Int.toNat x_g) default).Pages (Int.toNat x_page) default).Frame*(8:Int)))<=((List.length x_h.Words:Nat):Int)/\((List.length x_h.Words:Nat):Int)<=((List.length x_h.Words:Nat):Int)) (grd ((0:Int)<=(0:Int)/\(0:Int)<((List.length v6:Nat):Int)) (some (.go ((over v3.Words (Int.toNat (w64 ((List.getD v6 0 default)*(8:Int)))) (Int.toNat (w64 ((w64 ((List.getD v6 0 default)+(1:Int)))*(8:Int)))-Int.toNat (w64 ((List.getD v6 0 default)*(8:Int)))) (List.take (Int.toNat ((List.length x_h.Words:Nat):Int)-Int.toNat (w64 ((List.getD (List.getD x_h.Guests (Int.toNat x_g) default).Pages (Int.toNat x_page) default).Frame*(8:Int)))) (List.drop (Int.toNat (w64 ((List.getD (List.getD x_h.Guests (Int.toNat x_g) default).Pages (Int.toNat x_page) default).Frame*(8:Int)))) x_h.Words))),List.getD v6 0 default)))))))))
      (some (.go (v3.Words,(List.getD (List.getD x_h.Guests (Int.toNat x_g) default).Pages (Int.toNat x_page) default).Frame)))))
     (some (.go (v3.Words,(List.getD (List.getD x_h.Guests (Int.toNat x_g) default).Pages (Int.toNat x_page) default).Frame)))) λj4=>
     JO.run j4 (aKt x_h x_g x_page v3))))))))
noncomputable def bUv:Sg tG:=⟨[.st 26,.i .i64,.i .i64],.two (.st 2026) .b,aCd⟩
theorem bZq:Sok 117 bUv:=sgx [(58,.r g58),(97,.r g97),(48,.r g48),(49,.r g49),(90,.r g90)] ⟨s58,s97,s48,s49,s90,trivial⟩ (.s .o (.s .o (.s .o (.s .o (.j ⟨[1,2,6,8,9],[],[(.c 8 0,.ro 3),(.c 9 0,.i .i64)]⟩ .o .o))))) kr kr kr
noncomputable def aEp (x_a:List DSlot)(x_left:Int):Option Int:=
 cond (decide ((w64 (x_left-((List.length x_a:Nat):Int)))<(0:Int)))
  (some (-1:Int))
  (some (w64 (x_left-((List.length x_a:Nat):Int))))
noncomputable def bWa:Sg tG:=⟨[.row 184,.i .i64],.one (.i .i64),aEp⟩
theorem bYw:Sok 164 bWa:=sgx [] trivial .o kr kr kr
noncomputable def aDp (x_a:DGuest)(x_left:Int):Option Int:=
 Option.bind (aHv x_a.C x_left) λv1=>
 cond (decide (v1<(0:Int)))
  (some (-1:Int))
  (Option.bind (aEp x_a.Pages v1) λv2=>
  cond (decide (v2<(0:Int)))
   (some (-1:Int))
   (Option.bind (oL x_a.In v2) λv3=>
   cond (decide (v3<(0:Int)))
    (some (-1:Int))
    (Option.bind (oL x_a.Out v3) λv4=>
    cond (decide (v4<(0:Int)))
     (some (-1:Int))
     (some v4))))
noncomputable def bTp:Sg tG:=⟨[.st 151,.i .i64],.one (.i .i64),aDp⟩
theorem bYm:Sok 128 bTp:=sgx [(163,.r bTw),(164,.r bWa),(79,.r g79)] ⟨cAf,bYw,s79,trivial⟩ .o kr kr kr
noncomputable def aKa  (s1:Int):Option Int:=some s1
noncomputable def aKv (x_a:List DGuest)(s2:Int×Int):Option (LO (Int×Int) (JO Int Int)):=
 cond (decide (s2.2<((List.length x_a:Nat):Int)))
  (grd ((0:Int)<=s2.2/\s2.2<((List.length x_a:Nat):Int)) (Option.bind (aDp (DGuest.mk (List.getD x_a (Int.toNat s2.2) default).Live (DCore.mk ((List.getD x_a (Int.toNat s2.2) default).C).Regs ((List.getD x_a (Int.toNat s2.2) default).C).Pc ((List.getD x_a (Int.toNat s2.2) default).C).Root ((List.getD x_a (Int.toNat s2.2) default).C).Vector ((List.getD x_a (Int.toNat s2.2) default).C).Saved ((List.getD x_a (Int.toNat s2.2) default).C).SavedUser ((List.getD x_a (Int.toNat s2.2) default).C).Cause ((List.getD x_a (Int.toNat s2.2) default).C).Bad ((List.getD x_a (Int.toNat s2.2) default).C).Timer ((List.getD x_a (Int.toNat s2.2) default).C).Waits ((List.getD x_a (Int.toNat s2.2) default).C).User ((List.getD x_a (Int.toNat s2.2) default).C).On ((List.getD x_a (Int.toNat s2.2) default).C).Stopped) (List.getD x_a (Int.toNat s2.2) default).Pages (List.getD x_a (Int.toNat s2.2) default).In (List.getD x_a (Int.toNat s2.2) default).Out) s2.1) λv3=>
   cond (decide (v3<(0:Int)))
    (some (.ret (.out (-1:Int))))
    (some (.next (v3,w64 (s2.2+(1:Int)))))))
  (some (.ret (.go s2.1)))
noncomputable def aBv (x_a:List DGuest)(x_left:Int):Option Int:=
 cond (decide ((w64 (x_left-((List.length x_a:Nat):Int)))<(0:Int)))
  (some (-1:Int))
  (Option.bind (Option.bind (iter (aKv x_a) ((w64 (x_left-((List.length x_a:Nat):Int))),(0:Int))) LO.val) λj1=>
   JO.run j1 aKa)
noncomputable def g80:Sg tG:=⟨[.row 151,.i .i64],.one (.i .i64),aBv⟩
theorem s80:Sok 80 g80:=sgx [(128,.r bTp)] ⟨bYm,trivial⟩ (.s .o (.s .o (.s .o (.j ⟨[],[],[(.s 1,.i .i64)]⟩ (.s .o (.k (.l ⟨[0],[],[(.s 1,.i .i64),(.s 5,.i .i64)]⟩ .o))) .o)))) kr kr kr
noncomputable def aVz (x_a:DHost)(x_left:Int):Option Int:=
 Option.bind (oL x_a.Words x_left) λv1=>
 cond (decide (v1<(0:Int)))
  (some (-1:Int))
  (Option.bind (aBv x_a.Guests v1) λv2=>
  cond (decide (v2<(0:Int)))
   (some (-1:Int))
   (some v2))
noncomputable def g25:Sg tG:=⟨[.st 56,.i .i64],.one (.i .i64),aVz⟩
theorem s25:Sok 25 g25:=sgx [(79,.r g79),(80,.r g80)] ⟨s79,s80,trivial⟩ .o kr kr kr
noncomputable def aIh  (s1:Int):Option Int:=some s1
noncomputable def aIb (x_a:List DSlot)(s2:Int×Int):Option (LO (Int×Int) (JO Int Int)):=
 cond (decide (s2.2<((List.length x_a:Nat):Int)))
  (grd ((0:Int)<=s2.2/\s2.2<((List.length x_a:Nat):Int)) (cond (!decide ((List.getD x_a (Int.toNat s2.2) default).Frame=s2.1))
   (some (.ret (.out (-1:Int))))
   (grd ((0:Int)<=s2.2/\s2.2<((List.length x_a:Nat):Int)) (cond (!((List.getD x_a (Int.toNat s2.2) default).Write==(decide ((Int.tmod (w64 (s2.1+(1:Int))) (3:Int))=(0:Int)))))
    (some (.ret (.out (-1:Int))))
    (grd ((0:Int)<=s2.2/\s2.2<((List.length x_a:Nat):Int)) (cond (!((List.getD x_a (Int.toNat s2.2) default).Dirty==(decide ((Int.tmod (w64 ((w64 (s2.1+(1:Int)))+(1:Int))) (3:Int))=(0:Int)))))
     (some (.ret (.out (-1:Int))))
     (some (.next ((w64 ((w64 ((w64 (s2.1+(1:Int)))+(1:Int)))+(1:Int))),w64 (s2.2+(1:Int)))))))))))
  (some (.ret (.go s2.1)))
noncomputable def aBr (x_a:List DSlot)(x_k:Int):Option Int:=
 Option.bind (Option.bind (iter (aIb x_a) (x_k,(0:Int))) LO.val) λj1=>
  JO.run j1 aIh
noncomputable def bWv:Sg tG:=⟨[.row 53,.i .i64],.one (.i .i64),aBr⟩
theorem bZx:Sok 132 bWv:=sgx [] trivial (.s .o (.j ⟨[],[],[(.s 1,.i .i64)]⟩ (.s .o (.k (.l ⟨[0],[],[(.s 1,.i .i64),(.s 5,.i .i64)]⟩ .o))) .o)) kr kr kr
noncomputable def aFt  (s1:Int):Option Int:=some s1
noncomputable def aFb (x_a:List DGuest)(s2:Int×Int):Option (LO (Int×Int) (JO Int Int)):=
 cond (decide (s2.2<((List.length x_a:Nat):Int)))
  (grd ((0:Int)<=s2.2/\s2.2<((List.length x_a:Nat):Int)) (cond (!((List.getD x_a (Int.toNat s2.2) default).Live==(decide ((Int.tmod s2.1 (3:Int))=(0:Int)))))
   (some (.ret (.out (-1:Int))))
   (grd ((0:Int)<=s2.2/\s2.2<((List.length x_a:Nat):Int)) (Option.bind (lZ ((List.getD x_a (Int.toNat s2.2) default).C).Regs (w64 (s2.1+(1:Int)))) λv3=>
    cond (decide (v3<(0:Int)))
     (some (.ret (.out (-1:Int))))
     (grd ((0:Int)<=s2.2/\s2.2<((List.length x_a:Nat):Int)) (cond (!decide (((List.getD x_a (Int.toNat s2.2) default).C).Pc=v3))
      (some (.ret (.out (-1:Int))))
      (grd ((0:Int)<=s2.2/\s2.2<((List.length x_a:Nat):Int)) (cond (!decide (((List.getD x_a (Int.toNat s2.2) default).C).Root=(w64 (v3+(1:Int)))))
       (some (.ret (.out (-1:Int))))
       (grd ((0:Int)<=s2.2/\s2.2<((List.length x_a:Nat):Int)) (cond (!decide (((List.getD x_a (Int.toNat s2.2) default).C).Vector=(w64 ((w64 (v3+(1:Int)))+(1:Int)))))
        (some (.ret (.out (-1:Int))))
        (grd ((0:Int)<=s2.2/\s2.2<((List.length x_a:Nat):Int)) (cond (!decide (((List.getD x_a (Int.toNat s2.2) default).C).Saved=(w64 ((w64 ((w64 (v3+(1:Int)))+(1:Int)))+(1:Int)))))
         (some (.ret (.out (-1:Int))))
         (grd ((0:Int)<=s2.2/\s2.2<((List.length x_a:Nat):Int)) (cond (!(((List.getD x_a (Int.toNat s2.2) default).C).SavedUser==(decide ((Int.tmod (w64 ((w64 ((w64 ((w64 (v3+(1:Int)))+(1:Int)))+(1:Int)))+(1:Int))) (3:Int))=(0:Int)))))
          (some (.ret (.out (-1:Int))))
          (grd ((0:Int)<=s2.2/\s2.2<((List.length x_a:Nat):Int)) (cond (!decide (((List.getD x_a (Int.toNat s2.2) default).C).Cause=(w64 ((w64 ((w64 ((w64 ((w64 (v3+(1:Int)))+(1:Int)))+(1:Int)))+(1:Int)))+(1:Int)))))
           (some (.ret (.out (-1:Int))))
           (grd ((0:Int)<=s2.2/\s2.2<((List.length x_a:Nat):Int)) (cond (!decide (((List.getD x_a (Int.toNat s2.2) default).C).Bad=(w64 ((w64 ((w64 ((w64 ((w64 ((w64 (v3+(1:Int)))+(1:Int)))+(1:Int)))+(1:Int)))+(1:Int)))+(1:Int)))))
            (some (.ret (.out (-1:Int))))
            (grd ((0:Int)<=s2.2/\s2.2<((List.length x_a:Nat):Int)) (cond (!decide (((List.getD x_a (Int.toNat s2.2) default).C).Timer=(w64 ((w64 ((w64 ((w64 ((w64 ((w64 ((w64 (v3+(1:Int)))+(1:Int)))+(1:Int)))+(1:Int)))+(1:Int)))+(1:Int)))+(1:Int)))))
             (some (.ret (.out (-1:Int))))
             (grd ((0:Int)<=s2.2/\s2.2<((List.length x_a:Nat):Int)) (cond (!(((List.getD x_a (Int.toNat s2.2) default).C).Waits==(decide ((Int.tmod (w64 ((w64 ((w64 ((w64 ((w64 ((w64 ((w64 ((w64 (v3+(1:Int)))+(1:Int)))+(1:Int)))+(1:Int)))+(1:Int)))+(1:Int)))+(1:Int)))+(1:Int))) (3:Int))=(0:Int)))))
              (some (.ret (.out (-1:Int))))
              (grd ((0:Int)<=s2.2/\s2.2<((List.length x_a:Nat):Int)) (cond (!(((List.getD x_a (Int.toNat s2.2) default).C).User==(decide ((Int.tmod (w64 ((w64 ((w64 ((w64 ((w64 ((w64 ((w64 ((w64 ((w64 (v3+(1:Int)))+(1:Int)))+(1:Int)))+(1:Int)))+(1:Int)))+(1:Int)))+(1:Int)))+(1:Int)))+(1:Int))) (3:Int))=(0:Int)))))
               (some (.ret (.out (-1:Int))))
               (grd ((0:Int)<=s2.2/\s2.2<((List.length x_a:Nat):Int)) (cond (!(((List.getD x_a (Int.toNat s2.2) default).C).On==(decide ((Int.tmod (w64 ((w64 ((w64 ((w64 ((w64 ((w64 ((w64 ((w64 ((w64 ((w64 (v3+(1:Int)))+(1:Int)))+(1:Int)))+(1:Int)))+(1:Int)))+(1:Int)))+(1:Int)))+(1:Int)))+(1:Int)))+(1:Int))) (3:Int))=(0:Int)))))
                (some (.ret (.out (-1:Int))))
                (grd ((0:Int)<=s2.2/\s2.2<((List.length x_a:Nat):Int)) (cond (!(((List.getD x_a (Int.toNat s2.2) default).C).Stopped==(decide ((Int.tmod (w64 ((w64 ((w64 ((w64 ((w64 ((w64 ((w64 ((w64 ((w64 ((w64 ((w64 (v3+(1:Int)))+(1:Int)))+(1:Int)))+(1:Int)))+(1:Int)))+(1:Int)))+(1:Int)))+(1:Int)))+(1:Int)))+(1:Int)))+(1:Int))) (3:Int))=(0:Int)))))
                 (some (.ret (.out (-1:Int))))
                 (grd ((0:Int)<=s2.2/\s2.2<((List.length x_a:Nat):Int)) (Option.bind (aBr (List.getD x_a (Int.toNat s2.2) default).Pages (w64 ((w64 ((w64 ((w64 ((w64 ((w64 ((w64 ((w64 ((w64 ((w64 ((w64 ((w64 (v3+(1:Int)))+(1:Int)))+(1:Int)))+(1:Int)))+(1:Int)))+(1:Int)))+(1:Int)))+(1:Int)))+(1:Int)))+(1:Int)))+(1:Int)))+(1:Int)))) λv4=>
                  cond (decide (v4<(0:Int)))
                   (some (.ret (.out (-1:Int))))
                   (grd ((0:Int)<=s2.2/\s2.2<((List.length x_a:Nat):Int)) (Option.bind (lZ (List.getD x_a (Int.toNat s2.2) default).In v4) λv5=>
                    cond (decide (v5<(0:Int)))
                     (some (.ret (.out (-1:Int))))
                     (grd ((0:Int)<=s2.2/\s2.2<((List.length x_a:Nat):Int)) (Option.bind (lZ (List.getD x_a (Int.toNat s2.2) default).Out v5) λv6=>
                      cond (decide (v6<(0:Int)))
                       (some (.ret (.out (-1:Int))))
                       (some (.next (v6,w64 (s2.2+(1:Int)))))))))))))))))))))))))))))))))))))))
  (some (.ret (.go s2.1)))
noncomputable def yF (x_a:List DGuest)(x_k:Int):Option Int:=
 Option.bind (Option.bind (iter (aFb x_a) (x_k,(0:Int))) LO.val) λj1=>
  JO.run j1 aFt
noncomputable def g85:Sg tG:=⟨[.row 38,.i .i64],.one (.i .i64),yF⟩
theorem s85:Sok 85 g85:=sgx [(84,.r g84),(132,.r bWv)] ⟨s84,bZx,trivial⟩ (.s .o (.j ⟨[],[],[(.s 1,.i .i64)]⟩ (.s .o (.k (.l ⟨[0],[],[(.s 1,.i .i64),(.s 5,.i .i64)]⟩ .o))) .o)) kr kr kr
noncomputable def aPx (x_a:DHost)(x_k:Int):Option Int:=
 Option.bind (lZ x_a.Words x_k) λv1=>
 cond (decide (v1<(0:Int)))
  (some (-1:Int))
  (Option.bind (yF x_a.Guests v1) λv2=>
  cond (decide (v2<(0:Int)))
   (some (-1:Int))
   (some v2))
noncomputable def g29:Sg tG:=⟨[.st 26,.i .i64],.one (.i .i64),aPx⟩
theorem s29:Sok 29 g29:=sgx [(84,.r g84),(85,.r g85)] ⟨s84,s85,trivial⟩ .o kr kr kr
noncomputable def wR (x_b:DBare)(v3:DHost)(s4:Int)(v6:DCore)(s7:(List Int)×(List DSlot)):Option (DHost×Int×Bool):=
 cond (decide (s4<(0:Int)))
  (some ((DHost.mk ([]:List Int) ([]:List DGuest)),(-1:Int),false))
  (grd ((0:Int)<=s4/\s4<((List.length v3.Guests:Nat):Int)) (some ((DHost.mk s7.1 (List.set v3.Guests (Int.toNat s4) (DGuest.mk true v6 s7.2 x_b.In x_b.Out))),s4,true)))
noncomputable def qN (s8:(List Int)×(List Int)×(List DSlot)×Int)(s9:(List Int)×(List Int)×(List DSlot)):Option (LO ((List Int)×(List Int)×(List DSlot)×Int) (JO ((List Int)×(List DSlot)) (DHost×Int×Bool))):=some (.next (s9.1,s9.2.1,s9.2.2,w64 (s8.2.2.2+(1:Int))))
noncomputable def vM (x_b:DBare)(s8:(List Int)×(List Int)×(List DSlot)×Int)(s10:Bool):Option (JO ((List Int)×(List Int)×(List DSlot)) (LO ((List Int)×(List Int)×(List DSlot)×Int) (JO ((List Int)×(List DSlot)) (DHost×Int×Bool)))):=
 cond s10
  (grd ((List.length s8.2.2.1+List.length ([DSlot.mk (-1:Int) false false]:List DSlot))*16<=2^47/\List.length s8.2.2.1+List.length ([DSlot.mk (-1:Int) false false]:List DSlot)<=2^47) (some (.go (s8.1,s8.2.1,s8.2.2.1++([DSlot.mk (-1:Int) false false]:List DSlot)))))
  (cond (decide (((List.length s8.2.1:Nat):Int)=(0:Int)))
   (some (.out (.ret (.out ((DHost.mk ([]:List Int) ([]:List DGuest)),(-1:Int),false)))))
   (grd ((0:Int)<=(0:Int)/\(0:Int)<((List.length s8.2.1:Nat):Int)) (grd ((0:Int)<=(w64 ((List.getD s8.2.1 (Int.toNat (0:Int)) default)*(8:Int)))/\(w64 ((List.getD s8.2.1 (Int.toNat (0:Int)) default)*(8:Int)))<=((List.length s8.1:Nat):Int)/\((List.length s8.1:Nat):Int)<=((List.length s8.1:Nat):Int)) (grd ((0:Int)<=(0:Int)/\(0:Int)<((List.length s8.2.1:Nat):Int)) (grd ((List.length s8.2.2.1+List.length ([DSlot.mk (List.getD s8.2.1 (Int.toNat (0:Int)) default) true false]:List DSlot))*16<=2^47/\List.length s8.2.2.1+List.length ([DSlot.mk (List.getD s8.2.1 (Int.toNat (0:Int)) default) true false]:List DSlot)<=2^47) (grd ((0:Int)<=(1:Int)/\(1:Int)<=((List.length s8.2.1:Nat):Int)/\((List.length s8.2.1:Nat):Int)<=((List.length s8.2.1:Nat):Int)) (some (.go ((over s8.1 (Int.toNat (w64 ((List.getD s8.2.1 (Int.toNat (0:Int)) default)*(8:Int)))) (Int.toNat ((List.length s8.1:Nat):Int)-Int.toNat (w64 ((List.getD s8.2.1 (Int.toNat (0:Int)) default)*(8:Int)))) (List.take (Int.toNat (w64 ((w64 (s8.2.2.2+(1:Int)))*(8:Int)))-Int.toNat (w64 (s8.2.2.2*(8:Int)))) (List.drop (Int.toNat (w64 (s8.2.2.2*(8:Int)))) x_b.Mem))),List.take (Int.toNat ((List.length s8.2.1:Nat):Int)-Int.toNat (1:Int)) (List.drop (Int.toNat (1:Int)) s8.2.1),s8.2.2.1++([DSlot.mk (List.getD s8.2.1 (Int.toNat (0:Int)) default) true false]:List DSlot))))))))))
noncomputable def oY (s11:Bool×Int)(s12:Bool):Option (LO (Bool×Int) (JO Bool (JO ((List Int)×(List Int)×(List DSlot)) (LO ((List Int)×(List Int)×(List DSlot)×Int) (JO ((List Int)×(List DSlot)) (DHost×Int×Bool)))))):=some (.next (s12,w64 (s11.2+(1:Int))))
noncomputable def hM (x_b:DBare)(s8:(List Int)×(List Int)×(List DSlot)×Int)(s11:Bool×Int):Option (LO (Bool×Int) (JO Bool (JO ((List Int)×(List Int)×(List DSlot)) (LO ((List Int)×(List Int)×(List DSlot)×Int) (JO ((List Int)×(List DSlot)) (DHost×Int×Bool)))))):=
 cond (decide (s11.2<(8:Int)))
  (Option.bind (cond s11.1
   (grd ((0:Int)<=s11.2/\s11.2<((List.length (List.take (Int.toNat (w64 ((w64 (s8.2.2.2+(1:Int)))*(8:Int)))-Int.toNat (w64 (s8.2.2.2*(8:Int)))) (List.drop (Int.toNat (w64 (s8.2.2.2*(8:Int)))) x_b.Mem)):Nat):Int)) (some (.go (decide ((List.getD (List.take (Int.toNat (w64 ((w64 (s8.2.2.2+(1:Int)))*(8:Int)))-Int.toNat (w64 (s8.2.2.2*(8:Int)))) (List.drop (Int.toNat (w64 (s8.2.2.2*(8:Int)))) x_b.Mem)) (Int.toNat s11.2) default)=(0:Int))))))
   (some (.go false))) λj12=>
   JO.run j12 (oY s11))
  (some (.ret (.go s11.1)))
noncomputable def fX (x_b:DBare)(s4:Int)(s8:(List Int)×(List Int)×(List DSlot)×Int):Option (LO ((List Int)×(List Int)×(List DSlot)×Int) (JO ((List Int)×(List DSlot)) (DHost×Int×Bool))):=
 cond (decide (s8.2.2.2<(8:Int)))
  (cond (decide ((0:Int)<=s4))
   (Option.bind (grd ((0:Int)<=(w64 (s8.2.2.2*(8:Int)))/\(w64 (s8.2.2.2*(8:Int)))<=(w64 ((w64 (s8.2.2.2+(1:Int)))*(8:Int)))/\(w64 ((w64 (s8.2.2.2+(1:Int)))*(8:Int)))<=((List.length x_b.Mem:Nat):Int)) (Option.bind (Option.bind (iter (hM x_b s8) (true,(0:Int))) LO.val) λj10=>
    JO.run j10 (vM x_b s8))) λj9=>
    JO.run j9 (qN s8))
   (some (.ret (.go (s8.1,s8.2.2.1)))))
  (some (.ret (.go (s8.1,s8.2.2.1))))
noncomputable def xS (x_h:DHost)(x_b:DBare)(v3:DHost)(s4:Int):Option (DHost×Int×Bool):=
 Option.bind (gO x_h) λv5=>
 Option.bind (lO x_b.C) λv6=>
 grd (List.length x_b.In*8<=2^47/\List.length x_b.In<=2^47) (grd (List.length x_b.Out*8<=2^47/\List.length x_b.Out<=2^47) (Option.bind (Option.bind (iter (fX x_b s4) (v3.Words,v5,([]:List DSlot),(0:Int))) LO.val) λj7=>
  JO.run j7 (wR x_b v3 s4 v6)))
noncomputable def vJ (s13:Int×Int)(s14:Int):Option (LO (Int×Int) (JO Int (DHost×Int×Bool))):=some (.next (s14,w64 (s13.2-(1:Int))))
noncomputable def fF (x_h:DHost)(s13:Int×Int):Option (LO (Int×Int) (JO Int (DHost×Int×Bool))):=
 cond (decide ((0:Int)<=s13.2))
  (Option.bind (grd ((0:Int)<=s13.2/\s13.2<((List.length x_h.Guests:Nat):Int)) (cond (!(List.getD x_h.Guests (Int.toNat s13.2) default).Live)
   (some (.go s13.2))
   (some (.go s13.1)))) λj14=>
   JO.run j14 (vJ s13))
  (some (.ret (.go s13.1)))
noncomputable def pO (x_h:DHost)(x_b:DBare):Option (DHost×Int×Bool):=
 Option.bind (gU x_h) λv1=>
 cond (!v1)
  (some ((DHost.mk ([]:List Int) ([]:List DGuest)),(-1:Int),false))
  (Option.bind (tH x_b) λv2=>
  cond (!v2)
   (some ((DHost.mk ([]:List Int) ([]:List DGuest)),(-1:Int),false))
   (Option.bind (dY x_h) λv3=>
   Option.bind (Option.bind (iter (fF x_h) ((-1:Int),(2:Int))) LO.val) λj4=>
    JO.run j4 (xS x_h x_b v3)))
noncomputable def bVr:Sg tG:=⟨[.st 26,.st 47],.three (.st 2026) (.i .i64) .b,pO⟩
theorem bZj:Sok 136 bVr:=sgx [(47,.r g47),(172,.r bVy),(48,.r g48),(90,.r g90),(143,.r bHm)] ⟨s47,bYt,s48,s90,bPj,trivial⟩ (.s .o (.s .o (.s .o (.s .o (.j ⟨[2,3,4,7],[],[(.s 8,.i .i64)]⟩ (.s .o (.k (.l ⟨[2,3,4,7],[],[(.s 8,.i .i64),(.s 9,.i .i64)]⟩ (.s .o (.j ⟨[2,3,4,7,9],[],[(.s 8,.i .i64)]⟩ .o .o))))) (.s .o (.s (.g [.fr (.s 10) 0] [] []) (.j ⟨[4,7,8,11],[],[(.c 7 0,.ro 3),(.c 11 14,.ro 53)]⟩ (.s .o (.k (.l ⟨[3,4,7,8,11],[],[(.c 7 0,.ro 3),(.s 10,.rb 3),(.c 11 14,.ro 53),(.s 12,.i .i64)]⟩ (.s .o (.j ⟨[3,4,7,8,11,12],[],[(.c 7 0,.ro 3),(.s 10,.rb 3),(.c 11 14,.ro 53)]⟩ (.k (.s .o (.s .o (.j ⟨[3,4,7,8,10,11,12,13],[],[(.s 14,.b)]⟩ (.s .o (.k (.l ⟨[3,4,7,8,10,11,12,13],[],[(.s 14,.b),(.s 15,.i .i64)]⟩ (.s .o (.j ⟨[3,4,7,8,10,11,12,13,15],[],[(.s 14,.b)]⟩ .o .o))))) .o)))) .o))))) (.s .o (.s (.g [] [] [.fo (.c 7 1) 0]) .o)))))))))) kr kr kr
noncomputable def xR  (s1:Unit):Option Bool:=some true
noncomputable def fU (x_a:List Int)(x_b:List Int)(s2:Int):Option (LO Int (JO Unit Bool)):=
 cond (decide (s2<((List.length x_a:Nat):Int)))
  (grd ((0:Int)<=s2/\s2<((List.length x_a:Nat):Int)) (grd ((0:Int)<=s2/\s2<((List.length x_b:Nat):Int)) (cond (!decide ((List.getD x_a (Int.toNat s2) default)=(List.getD x_b (Int.toNat s2) default)))
   (some (.ret (.out false)))
   (some (.next (w64 (s2+(1:Int))))))))
  (some (.ret (.go ())))
noncomputable def dK (x_a:List Int)(x_b:List Int):Option Bool:=
 cond (!decide (((List.length x_a:Nat):Int)=((List.length x_b:Nat):Int)))
  (some false)
  (Option.bind (Option.bind (iter (fU x_a x_b) (0:Int)) LO.val) λj1=>
   JO.run j1 xR)
noncomputable def g45:Sg tG:=⟨[.row 3,.row 3],.one .b,dK⟩
theorem s45:Sok 45 g45:=sgx [] trivial (.s .o (.s .o (.j ⟨[],[],[]⟩ (.s .o (.k (.l ⟨[0,1],[],[(.s 5,.i .i64)]⟩ .o))) .o))) kr kr kr
noncomputable def mE (x_a:DCore)(x_b:DCore):Option Bool:=
 Option.bind (dK x_a.Regs x_b.Regs) λv1=>
 cond (!v1)
  (some false)
  (cond (!decide (x_a.Pc=x_b.Pc))
   (some false)
   (cond (!decide (x_a.Root=x_b.Root))
    (some false)
    (cond (!decide (x_a.Vector=x_b.Vector))
     (some false)
     (cond (!decide (x_a.Saved=x_b.Saved))
      (some false)
      (cond (!(x_a.SavedUser==x_b.SavedUser))
       (some false)
       (cond (decide (x_a.Cause=x_b.Cause))
        (cond (decide (x_a.Bad=x_b.Bad))
         (cond (decide (x_a.Timer=x_b.Timer))
          (cond (x_a.Waits==x_b.Waits)
           (cond (x_a.User==x_b.User)
            (cond (x_a.On==x_b.On)
             (some (x_a.Stopped==x_b.Stopped))
             (some false))
            (some false))
           (some false))
          (some false))
         (some false))
        (some false)))))))
noncomputable def g76:Sg tG:=⟨[.st 35,.st 35],.one .b,mE⟩
theorem s76:Sok 76 g76:=sgx [(45,.r g45)] ⟨s45,trivial⟩ .o kr kr kr
noncomputable def pM (x_a:DBare)(x_b:DBare):Option Bool:=
 Option.bind (mE x_a.C x_b.C) λv1=>
 cond v1
  (Option.bind (dK x_a.Mem x_b.Mem) λv2=>
  cond v2
   (Option.bind (dK x_a.In x_b.In) λv3=>
   cond v3
    (Option.bind (dK x_a.Out x_b.Out) λv4=>
    some v4)
    (some false))
   (some false))
  (some false)
noncomputable def g23:Sg tG:=⟨[.st 47,.st 47],.one .b,pM⟩
theorem s23:Sok 23 g23:=sgx [(76,.r g76),(45,.r g45)] ⟨s76,s45,trivial⟩ .o kr kr kr
noncomputable def aIc  (s4:Unit):Option Bool:=some true
noncomputable def lG (x_a:DGuest)(x_b:DGuest)(s5:Int):Option (LO Int (JO Unit Bool)):=
 cond (decide (s5<((List.length x_a.Pages:Nat):Int)))
  (grd ((0:Int)<=s5/\s5<((List.length x_a.Pages:Nat):Int)) (grd ((0:Int)<=s5/\s5<((List.length x_b.Pages:Nat):Int)) (cond (!(decide ((List.getD x_a.Pages (Int.toNat s5) default).Frame=(List.getD x_b.Pages (Int.toNat s5) default).Frame)&&(((List.getD x_a.Pages (Int.toNat s5) default).Write==(List.getD x_b.Pages (Int.toNat s5) default).Write)&&(((List.getD x_a.Pages (Int.toNat s5) default).Dirty==(List.getD x_b.Pages (Int.toNat s5) default).Dirty)&&true))))
   (some (.ret (.out false)))
   (some (.next (w64 (s5+(1:Int))))))))
  (some (.ret (.go ())))
noncomputable def kS (x_a:DGuest)(x_b:DGuest):Option Bool:=
 cond (!(x_a.Live==x_b.Live))
  (some false)
  (Option.bind (mE x_a.C x_b.C) λv1=>
  cond (!v1)
   (some false)
   (Option.bind (dK x_a.In x_b.In) λv2=>
   cond (!v2)
    (some false)
    (Option.bind (dK x_a.Out x_b.Out) λv3=>
    cond (!v3)
     (some false)
     (cond (!decide (((List.length x_a.Pages:Nat):Int)=((List.length x_b.Pages:Nat):Int)))
      (some false)
      (Option.bind (Option.bind (iter (lG x_a x_b) (0:Int)) LO.val) λj4=>
       JO.run j4 aIc)))))
noncomputable def g46:Sg tG:=⟨[.st 38,.st 38],.one .b,kS⟩
theorem s46:Sok 46 g46:=sgx [(76,.r g76),(45,.r g45)] ⟨s76,s45,trivial⟩ (.s .o (.s .o (.j ⟨[],[],[]⟩ (.s .o (.k (.l ⟨[2,3],[],[(.s 5,.i .i64)]⟩ .o))) .o))) kr kr kr
noncomputable def aJq  (s2:Unit):Option Bool:=some true
noncomputable def mH (x_a:DHost)(x_b:DHost)(s3:Int):Option (LO Int (JO Unit Bool)):=
 cond (decide (s3<((List.length x_a.Guests:Nat):Int)))
  (grd ((0:Int)<=s3/\s3<((List.length x_a.Guests:Nat):Int)) (grd ((0:Int)<=s3/\s3<((List.length x_b.Guests:Nat):Int)) (Option.bind (kS (DGuest.mk (List.getD x_a.Guests (Int.toNat s3) default).Live (DCore.mk ((List.getD x_a.Guests (Int.toNat s3) default).C).Regs ((List.getD x_a.Guests (Int.toNat s3) default).C).Pc ((List.getD x_a.Guests (Int.toNat s3) default).C).Root ((List.getD x_a.Guests (Int.toNat s3) default).C).Vector ((List.getD x_a.Guests (Int.toNat s3) default).C).Saved ((List.getD x_a.Guests (Int.toNat s3) default).C).SavedUser ((List.getD x_a.Guests (Int.toNat s3) default).C).Cause ((List.getD x_a.Guests (Int.toNat s3) default).C).Bad ((List.getD x_a.Guests (Int.toNat s3) default).C).Timer ((List.getD x_a.Guests (Int.toNat s3) default).C).Waits ((List.getD x_a.Guests (Int.toNat s3) default).C).User ((List.getD x_a.Guests (Int.toNat s3) default).C).On ((List.getD x_a.Guests (Int.toNat s3) default).C).Stopped) (List.getD x_a.Guests (Int.toNat s3) default).Pages (List.getD x_a.Guests (Int.toNat s3) default).In (List.getD x_a.Guests (Int.toNat s3) default).Out) (DGuest.mk (List.getD x_b.Guests (Int.toNat s3) default).Live (DCore.mk ((List.getD x_b.Guests (Int.toNat s3) default).C).Regs ((List.getD x_b.Guests (Int.toNat s3) default).C).Pc ((List.getD x_b.Guests (Int.toNat s3) default).C).Root ((List.getD x_b.Guests (Int.toNat s3) default).C).Vector ((List.getD x_b.Guests (Int.toNat s3) default).C).Saved ((List.getD x_b.Guests (Int.toNat s3) default).C).SavedUser ((List.getD x_b.Guests (Int.toNat s3) default).C).Cause ((List.getD x_b.Guests (Int.toNat s3) default).C).Bad ((List.getD x_b.Guests (Int.toNat s3) default).C).Timer ((List.getD x_b.Guests (Int.toNat s3) default).C).Waits ((List.getD x_b.Guests (Int.toNat s3) default).C).User ((List.getD x_b.Guests (Int.toNat s3) default).C).On ((List.getD x_b.Guests (Int.toNat s3) default).C).Stopped) (List.getD x_b.Guests (Int.toNat s3) default).Pages (List.getD x_b.Guests (Int.toNat s3) default).In (List.getD x_b.Guests (Int.toNat s3) default).Out)) λv4=>
   cond (!v4)
    (some (.ret (.out false)))
    (some (.next (w64 (s3+(1:Int))))))))
  (some (.ret (.go ())))
noncomputable def pI (x_a:DHost)(x_b:DHost):Option Bool:=
 Option.bind (dK x_a.Words x_b.Words) λv1=>
 cond (!v1)
  (some false)
  (cond (!decide (((List.length x_a.Guests:Nat):Int)=((List.length x_b.Guests:Nat):Int)))
   (some false)
   (Option.bind (Option.bind (iter (mH x_a x_b) (0:Int)) LO.val) λj2=>
    JO.run j2 aJq))
noncomputable def g12:Sg tG:=⟨[.st 26,.st 26],.one .b,pI⟩
theorem s12:Sok 12 g12:=sgx [(45,.r g45),(46,.r g46)] ⟨s45,s46,trivial⟩ (.s .o (.s .o (.j ⟨[],[],[]⟩ (.s .o (.k (.l ⟨[2,3],[],[(.s 5,.i .i64)]⟩ .o))) .o))) kr kr kr
noncomputable def aIm  (s1:Unit):Option Bool:=some true
noncomputable def pC (s2:Int)(s3:Unit):Option (LO Int (JO Unit Bool)):=some (.next (w64 (s2+(1:Int))))
noncomputable def lF (x_a:DHost)(x_b:DHost)(x_but:Int)(s2:Int):Option (LO Int (JO Unit Bool)):=
 cond (decide (s2<(3:Int)))
  (Option.bind (Option.bind (lX x_a s2) λv4=>
   Option.bind (lX x_b s2) λv5=>
   cond (!decide (s2=x_but))
    (cond (!(v4.2==v5.2))
     (some (.out (.ret (.out false))))
     (Option.bind (pM v4.1 v5.1) λv6=>
     cond (!v6)
      (some (.out (.ret (.out false))))
      (some (.go ()))))
    (some (.go ()))) λj3=>
   JO.run j3 (pC s2))
  (some (.ret (.go ())))
noncomputable def nX (x_a:DHost)(x_b:DHost)(x_but:Int):Option Bool:=
 Option.bind (Option.bind (iter (lF x_a x_b x_but) (0:Int)) LO.val) λj1=>
  JO.run j1 aIm
noncomputable def g17:Sg tG:=⟨[.st 26,.st 26,.i .i64],.one .b,nX⟩
theorem s17:Sok 17 g17:=sgx [(22,.r g22),(23,.r g23)] ⟨s22,s23,trivial⟩ (.s .o (.j ⟨[],[],[]⟩ (.s .o (.k (.l ⟨[2,3,4],[],[(.s 7,.i .i64)]⟩ (.s .o (.j ⟨[2,3,4,7],[],[]⟩ .o .o))))) .o)) kr kr kr
noncomputable def nW (x_s:DShade)(x_addr:Int)(s2:Unit):Option (Int×Int):=some ((w64 ((w64 (x_s.Frame*(8:Int)))+(Int.tmod x_addr (8:Int)))),(0:Int))
noncomputable def mS (x_s:DShade)(x_addr:Int)(x_user:Bool)(x_write:Bool):Option (Int×Int):=
 Option.bind (oA (DEntry.mk x_s.There x_s.Write x_s.User x_s.Page) x_user x_write) λv1=>
 cond (!v1)
  (some ((-1:Int),(1:Int)))
  (cond (decide (x_s.Frame=(-1:Int)))
   (some ((-1:Int),(2:Int)))
   (Option.bind (cond x_write
    (cond (!x_s.Ready)
     (some (.out ((-1:Int),(3:Int))))
     (some (.go ())))
    (some (.go ()))) λj2=>
    JO.run j2 (nW x_s x_addr)))
noncomputable def bTk:Sg tG:=⟨[.st 103,.i .i64,.b,.b],.two (.i .i64) (.i .i64),mS⟩
theorem bYy:Sok 151 bTk:=sgx [(160,.r bPt)] ⟨bVt,trivial⟩ (.s .o (.s .o (.s .o (.s .o (.j ⟨[1,4],[],[]⟩ .o .o))))) kr kr kr
noncomputable def aMh (x_table:List DShade)(x_addr:Int)(s1:Unit):Option (Int×Int):=some ((w64 ((w64 ((List.getD x_table (Int.toNat (w64 (Int.tdiv x_addr (8:Int)))) default).Frame*(8:Int)))+(Int.tmod x_addr (8:Int)))),(0:Int))
noncomputable def eA (x_table:List DShade)(x_addr:Int)(x_user:Bool)(x_write:Bool):Option (Int×Int):=
 grd ((0:Int)<=(w64 (Int.tdiv x_addr (8:Int)))/\(w64 (Int.tdiv x_addr (8:Int)))<((List.length x_table:Nat):Int)) (Option.bind (cond (!(List.getD x_table (Int.toNat (w64 (Int.tdiv x_addr (8:Int)))) default).There)
  (some (.out ((-1:Int),(1:Int))))
  (cond x_write
   (cond (!(List.getD x_table (Int.toNat (w64 (Int.tdiv x_addr (8:Int)))) default).Write)
    (some (.out ((-1:Int),(1:Int))))
    (cond x_user
     (cond (!(List.getD x_table (Int.toNat (w64 (Int.tdiv x_addr (8:Int)))) default).User)
      (some (.out ((-1:Int),(1:Int))))
      (cond (decide ((List.getD x_table (Int.toNat (w64 (Int.tdiv x_addr (8:Int)))) default).Frame<(0:Int)))
       (some (.out ((-1:Int),(2:Int))))
       (cond x_write
        (cond (!(List.getD x_table (Int.toNat (w64 (Int.tdiv x_addr (8:Int)))) default).Ready)
         (some (.out ((-1:Int),(3:Int))))
         (some (.go ())))
        (some (.go ())))))
     (cond (decide ((List.getD x_table (Int.toNat (w64 (Int.tdiv x_addr (8:Int)))) default).Frame<(0:Int)))
      (some (.out ((-1:Int),(2:Int))))
      (cond x_write
       (cond (!(List.getD x_table (Int.toNat (w64 (Int.tdiv x_addr (8:Int)))) default).Ready)
        (some (.out ((-1:Int),(3:Int))))
        (some (.go ())))
       (some (.go ()))))))
   (cond x_user
    (cond (!(List.getD x_table (Int.toNat (w64 (Int.tdiv x_addr (8:Int)))) default).User)
     (some (.out ((-1:Int),(1:Int))))
     (cond (decide ((List.getD x_table (Int.toNat (w64 (Int.tdiv x_addr (8:Int)))) default).Frame<(0:Int)))
      (some (.out ((-1:Int),(2:Int))))
      (cond x_write
       (cond (!(List.getD x_table (Int.toNat (w64 (Int.tdiv x_addr (8:Int)))) default).Ready)
        (some (.out ((-1:Int),(3:Int))))
        (some (.go ())))
       (some (.go ())))))
    (cond (decide ((List.getD x_table (Int.toNat (w64 (Int.tdiv x_addr (8:Int)))) default).Frame<(0:Int)))
     (some (.out ((-1:Int),(2:Int))))
     (cond x_write
      (cond (!(List.getD x_table (Int.toNat (w64 (Int.tdiv x_addr (8:Int)))) default).Ready)
       (some (.out ((-1:Int),(3:Int))))
       (some (.go ())))
      (some (.go ()))))))) λj1=>
  JO.run j1 (aMh x_table x_addr))
noncomputable def g68:Sg tG:=⟨[.row 103,.i .i64,.b,.b],.two (.i .i64) (.i .i64),eA⟩
theorem s68:Sok 68 g68:=sgx [] trivial (.s .o (.s .o (.j ⟨[1,10],[],[]⟩ .o .o))) kr kr kr
theorem aBz{x_table:List DShade}{x_addr:Int}{x_user:Bool}{x_write:Bool}{R_:Int×Int}(hh:eA x_table x_addr x_user x_write=some R_):Fn Tryz.prog 68 [bo pH x_table,.int .i64 x_addr,.bool x_user,.bool x_write] (.tup [.int .i64 R_.1,.int .i64 R_.2]):=kc (s68 x_table x_addr x_user x_write R_ hh)
noncomputable def sT (x_h:DHost)(x_g:Int)(x_addr:Int)(x_user:Bool)(x_write:Bool):Option (Int×Int):=
 Option.bind (eS x_h x_g) λv1=>
 cond (!v1)
  (some ((-1:Int),(-1:Int)))
  (Option.bind (bZ x_addr (0:Int) (63:Int)) λv2=>
  cond (!v2)
   (some ((-1:Int),(-1:Int)))
   (Option.bind (mI x_h x_g) λv3=>
   Option.bind (eA v3 x_addr x_user x_write) λv4=>
   some (v4.1,v4.2)))
noncomputable def g59:Sg tG:=⟨[.st 26,.i .i64,.i .i64,.b,.b],.two (.i .i64) (.i .i64),sT⟩
theorem s59:Sok 59 g59:=sgx [(58,.r g58),(97,.r g97),(67,.r g67),(68,.r g68)] ⟨s58,s97,s67,s68,trivial⟩ .o kr kr kr
theorem aJg{x_h:DHost}{x_g:Int}{x_addr:Int}{x_user:Bool}{x_write:Bool}{R_:Int×Int}(hh:sT x_h x_g x_addr x_user x_write=some R_):Fn Tryz.prog 59 [.agg (fH x_h),.int .i64 x_g,.int .i64 x_addr,.bool x_user,.bool x_write] (.tup [.int .i64 R_.1,.int .i64 R_.2]):=kc (s59 x_h x_g x_addr x_user x_write R_ hh)
theorem aOo:LW 39 ⟨11,[.tmp 2],.seq (.reg false (rg 39 0)) (.seq (.seq (.reg false (rg 39 1)) (.cond (.t 5) (.reg false (rg 39 2)) .skip)) (.seq (.reg false (rg 39 3)) .ret))⟩:=kr
noncomputable def sS  (s1:List Int):Option Dl20Rd:=some (Dl20Rd.mk s1 (0:Int))
noncomputable def kM (x_code:List Int):Option Dl20Rd:=
 Option.bind (cond (decide ((2000:Int)<((List.length x_code:Nat):Int)))
  (grd ((0:Int)<=(0:Int)/\(0:Int)<=(2000:Int)/\(2000:Int)<=((List.length x_code:Nat):Int)) (some (.go (List.take (Int.toNat (2000:Int)-Int.toNat (0:Int)) (List.drop (Int.toNat (0:Int)) x_code)))))
  (some (.go x_code))) λj1=>
  JO.run j1 sS
theorem aBx{x_code:List Int}{R_:Dl20Rd}(hh:kM x_code=some R_):Inl Tryz.prog 39 [bo (eI .u8) x_code] [] 0 (pp 0) [(0,some ⟨118,[bo (eI .u8) R_.b,.int .i64 R_.p]⟩)] 1:=by let z3:=(0,bo (eI .u8) x_code);let z4:=(5,bb (decide ((2000:Int)<((List.length x_code:Nat):Int))));let z1:=List.drop (Int.toNat (0:Int)) x_code;let z2:=List.take (Int.toNat (2000:Int)-Int.toNat (0:Int)) z1;unfold kM at hh;refine Inl.start aOo [0] [] (E:=sp 11 [z3]) (H1:=[]) kr kr (sy [0] [] (sp 11 [z3]) [] 0 ?_);obtain⟨j1,hh,hk1⟩:=bind_some hh;refine Aw.join (S:=(List Int)) (λs1=>sp 11 [(0,bo (eI .u8) s1)]) (λs1=>[]) 0 (λs1=>sS s1=some R_) ?_ ?_;{intro s1 hh;unfold sS at hh;refine Aw.sreg [2] [0] ?_;let q1:Root:=⟨118,[bo (eI .u8) s1,ii 0]⟩;refine yt (sp 11 [(2,pp 0)]) [(0,some q1)] 1 (Aw.ret ?_);rw[aP hh];exact iH (r':=pp 0) kr (el [some 0] (sZ (aCn dd rfl)) (hq q1 rz aR))};intro Q1 hN1 hR1 hE1;refine sy [0,5] [] (sp 11 [z3,z4]) [] 0 ?_;rcases jB hh with⟨hb,hh⟩|⟨hb,hh⟩;{refine cF hb (Aw.skip ?_);obtain rfl:=aP hh;exact hN1 x_code _ _ _ hk1 (el [] (eE kr (ro aY mL)) aR)};refine cT hb (Aw.oreg (yu 1 [(6,bo (eI .u8) x_code)] [] 0 ?_));obtain⟨hg6,hh⟩:=aL hh;refine ys (.slc 1 (.t 6) none (some (.c (ii 2000)))) (some 7) (bLi (c:=(eI .u8)) (xs:=x_code) (l:=(0:Int)) (h:=(2000:Int)) bH kr kr kr hg6 ?_);refine ye (sp 11 [(0,bo (eI .u8) z2),z4,(6,bo (eI .u8) x_code),(7,bo (eI .u8) z2)]) [] 0 ?_;obtain rfl:=aP hh;exact hN1 z2 _ _ _ hk1 (el [] (eE kr (ro aY mL)) aR)
noncomputable def aA (x_r:Dl20Rd)(x_n:Int):Option (Dl20Rd×Int):=
 cond (decide (x_n<(1:Int)))
  (some ((Dl20Rd.mk x_r.b (w64 (x_r.p+(1:Int)))),(0:Int)))
  (cond (decide (((List.length x_r.b:Nat):Int)=(0:Int)))
   (some ((Dl20Rd.mk x_r.b (w64 (x_r.p+(1:Int)))),(0:Int)))
   (cond (decide ((w64 ((w64 (x_r.p+(1:Int)))-(1:Int)))<((List.length x_r.b:Nat):Int)))
    (grd ((0:Int)<=(w64 ((w64 (x_r.p+(1:Int)))-(1:Int)))/\(w64 ((w64 (x_r.p+(1:Int)))-(1:Int)))<((List.length x_r.b:Nat):Int)) (grd (x_n≠0) (some ((Dl20Rd.mk x_r.b (w64 (x_r.p+(1:Int)))),Int.tmod (IntKind.wrap .i64 (List.getD x_r.b (Int.toNat (w64 ((w64 (x_r.p+(1:Int)))-(1:Int)))) default)) x_n))))
    (grd (((List.length x_r.b:Nat):Int)≠0) (grd ((0:Int)<=(Int.tmod (w64 ((w64 (x_r.p+(1:Int)))-(1:Int))) ((List.length x_r.b:Nat):Int))/\(Int.tmod (w64 ((w64 (x_r.p+(1:Int)))-(1:Int))) ((List.length x_r.b:Nat):Int))<((List.length x_r.b:Nat):Int)) (grd (((List.length x_r.b:Nat):Int)≠0) (grd ((0:Int)<=(Int.tmod (w64 ((w64 ((w64 ((w64 (x_r.p+(1:Int)))-(1:Int)))*(7:Int)))+(3:Int))) ((List.length x_r.b:Nat):Int))/\(Int.tmod (w64 ((w64 ((w64 ((w64 (x_r.p+(1:Int)))-(1:Int)))*(7:Int)))+(3:Int))) ((List.length x_r.b:Nat):Int))<((List.length x_r.b:Nat):Int)) (grd (((List.length x_r.b:Nat):Int)≠0) (grd (x_n≠0) (some ((Dl20Rd.mk x_r.b (w64 (x_r.p+(1:Int)))),Int.tmod (bits .xor .i64 (w64 ((w64 ((w64 ((w64 ((IntKind.wrap .i64 (List.getD x_r.b (Int.toNat (Int.tmod (w64 ((w64 (x_r.p+(1:Int)))-(1:Int))) ((List.length x_r.b:Nat):Int))) default))*(131:Int)))+(w64 ((IntKind.wrap .i64 (List.getD x_r.b (Int.toNat (Int.tmod (w64 ((w64 ((w64 ((w64 (x_r.p+(1:Int)))-(1:Int)))*(7:Int)))+(3:Int))) ((List.length x_r.b:Nat):Int))) default))*(1117:Int)))))+(w64 ((w64 ((w64 (x_r.p+(1:Int)))-(1:Int)))*(29:Int)))))+(w64 ((w64 (Int.tdiv (w64 ((w64 (x_r.p+(1:Int)))-(1:Int))) ((List.length x_r.b:Nat):Int)))*(53:Int))))) (w64 (Int.tdiv (w64 ((w64 ((w64 ((w64 ((IntKind.wrap .i64 (List.getD x_r.b (Int.toNat (Int.tmod (w64 ((w64 (x_r.p+(1:Int)))-(1:Int))) ((List.length x_r.b:Nat):Int))) default))*(131:Int)))+(w64 ((IntKind.wrap .i64 (List.getD x_r.b (Int.toNat (Int.tmod (w64 ((w64 ((w64 ((w64 (x_r.p+(1:Int)))-(1:Int)))*(7:Int)))+(3:Int))) ((List.length x_r.b:Nat):Int))) default))*(1117:Int)))))+(w64 ((w64 ((w64 (x_r.p+(1:Int)))-(1:Int)))*(29:Int)))))+(w64 ((w64 (Int.tdiv (w64 ((w64 (x_r.p+(1:Int)))-(1:Int))) ((List.length x_r.b:Nat):Int)))*(53:Int))))) (64:Int)))) x_n))))))))))
noncomputable def g57:Sw tG:=⟨[.pt 118,.v (.i .i64)],.one (.i .i64),aA⟩
theorem s57:Sjk 57 g57:=sgy [] trivial .o kr kr kr
theorem iZ{x_r:Dl20Rd}{x_n:Int}{R_:Dl20Rd×Int}(hh:aA x_r x_n=some R_):Inl Tryz.prog 57 [.ptr 0 [] 0,.int .i64 x_n] [(0,some (rB118 x_r))] 1 (.int .i64 R_.2) [(0,some ⟨118,[bo (eI .u8) R_.1.b,.int .i64 R_.1.p]⟩)] 1:=kc (s57 x_r x_n R_ hh)
noncomputable def cP (x_r:Dl20Rd)(x_n:Int):Option (Dl20Rd×Bool):=
 cond (decide ((0:Int)<x_n))
  (Option.bind (aA x_r x_n) λv1=>
  some (v1.1,decide (v1.2=(w64 (x_n-(1:Int))))))
  (some (x_r,false))
noncomputable def aSj:Sw tG:=⟨[.pt 118,.v (.i .i64)],.one .b,cP⟩
theorem aZz:Sjk 101 aSj:=sgy [(57,.w g57)] ⟨s57,trivial⟩ .o kr kr kr
noncomputable def dC (x_r:Dl20Rd):Option (Dl20Rd×Int):=
 Option.bind (aA x_r (16:Int)) λv1=>
 Option.bind (aA v1.1 (256:Int)) λv2=>
 some (v2.1,w64 ((w64 (v1.2*(256:Int)))+v2.2))
noncomputable def aZb:Sw tG:=⟨[.pt 118],.one (.i .i64),dC⟩
theorem bGt:Sjk 134 aZb:=sgy [(57,.w g57)] ⟨s57,trivial⟩ .o kr kr kr
noncomputable def aIj  (s4:Int):Option Int:=some s4
noncomputable def aIl (x_e:DEntry)(s3:Int):Option Int:=
 Option.bind (cond x_e.User
  (some (.go (w64 (s3+(4:Int)))))
  (some (.go s3))) λj4=>
  JO.run j4 aIj
noncomputable def aIi (x_e:DEntry)(s2:Int):Option Int:=
 Option.bind (cond x_e.Write
  (some (.go (w64 (s2+(2:Int)))))
  (some (.go s2))) λj3=>
  JO.run j3 (aIl x_e)
noncomputable def dN (x_e:DEntry):Option Int:=
 Option.bind (bZ x_e.Page (0:Int) (7:Int)) λv1=>
 cond (!v1)
  (some (-1:Int))
  (Option.bind (cond x_e.There
   (some (.go (w64 ((w64 (x_e.Page*(8:Int)))+(1:Int)))))
   (some (.go (w64 (x_e.Page*(8:Int)))))) λj2=>
   JO.run j2 (aIi x_e))
noncomputable def bOh:Sg tG:=⟨[.st 139],.one (.i .i64),dN⟩
theorem bVo:Sok 189 bOh:=sgx [(97,.r g97)] ⟨s97,trivial⟩ (.s .o (.s .o (.s .o (.j ⟨[1],[],[(.s 3,.i .i64)]⟩ .o (.j ⟨[1],[],[(.s 3,.i .i64)]⟩ .o (.j ⟨[],[],[(.s 3,.i .i64)]⟩ .o .o)))))) kr kr kr
noncomputable def aOt  (s2:(List Int)×Int×(List Int)):Option (Dl20Rd×(List Int)):=some ((Dl20Rd.mk s2.1 s2.2.1),s2.2.2)
noncomputable def aAc (x_n:Int)(s1:(List Int)×Int×(List Int)):Option (Dl20Rd×(List Int)):=
 Option.bind (Option.bind (cP (Dl20Rd.mk s1.1 s1.2.1) x_n) λv3=>
  cond v3.2
   (Option.bind (aA v3.1 (2:Int)) λv4=>
   cond (decide (v4.2=(0:Int)))
    (grd ((0:Int)<=(0:Int)/\(0:Int)<=(63:Int)/\(63:Int)<=((List.length s1.2.2:Nat):Int)) (some (.go (v4.1.b,v4.1.p,List.take (Int.toNat (63:Int)-Int.toNat (0:Int)) s1.2.2))))
    (Option.bind (aA v4.1 (64:Int)) λv5=>
    Option.bind (aA v5.1 (2:Int)) λv6=>
    grd ((0:Int)<=v5.2/\v5.2<((List.length s1.2.2:Nat):Int)) (some (.go (v6.1.b,v6.1.p,List.set s1.2.2 (Int.toNat v5.2) (w64 ((4096:Int)-(w64 (v6.2*(4097:Int))))))))))
   (some (.go (v3.1.b,v3.1.p,s1.2.2)))) λj2=>
  JO.run j2 aOt
noncomputable def aAr (s7:(List Int)×Int×(List Int)×Int)(s9:(List Int)×Int×Int):Option (LO ((List Int)×Int×(List Int)×Int) (JO ((List Int)×Int×(List Int)) (Dl20Rd×(List Int)))):=grd ((List.length s7.2.2.1+List.length ([s9.2.2]:List Int))*8<=2^47/\List.length s7.2.2.1+List.length ([s9.2.2]:List Int)<=2^47) (some (.next (s9.1,s9.2.1,s7.2.2.1++([s9.2.2]:List Int),w64 (s7.2.2.2+(1:Int)))))
noncomputable def aAi (s7:(List Int)×Int×(List Int)×Int)(s8:(List Int)×Int×Int):Option (LO ((List Int)×Int×(List Int)×Int) (JO ((List Int)×Int×(List Int)) (Dl20Rd×(List Int)))):=
 Option.bind (cond (decide ((w64 (Int.tdiv s7.2.2.2 (8:Int)))=(1:Int)))
  (Option.bind (aA (Dl20Rd.mk s8.1 s8.2.1) (5:Int)) λv10=>
  Option.bind (aA v10.1 (4:Int)) λv11=>
  Option.bind (aA v11.1 (3:Int)) λv12=>
  Option.bind (aA v12.1 (8:Int)) λv13=>
  Option.bind (dN (DEntry.mk (decide ((0:Int)<v10.2)) (decide ((0:Int)<v11.2)) (decide ((0:Int)<v12.2)) v13.2)) λv14=>
  some (.go (v13.1.b,v13.1.p,v14)))
  (cond (decide ((w64 (Int.tdiv s7.2.2.2 (8:Int)))=(2:Int)))
   (Option.bind (aA (Dl20Rd.mk s8.1 s8.2.1) (5:Int)) λv15=>
   Option.bind (aA v15.1 (4:Int)) λv16=>
   Option.bind (aA v16.1 (3:Int)) λv17=>
   Option.bind (aA v17.1 (8:Int)) λv18=>
   Option.bind (dN (DEntry.mk (decide ((0:Int)<v15.2)) (decide ((0:Int)<v16.2)) (decide ((0:Int)<v17.2)) v18.2)) λv19=>
   some (.go (v18.1.b,v18.1.p,v19)))
   (some (.go (s8.1,s8.2.1,s8.2.2))))) λj9=>
  JO.run j9 (aAr s7)
noncomputable def tN  (s7:(List Int)×Int×(List Int)×Int):Option (LO ((List Int)×Int×(List Int)×Int) (JO ((List Int)×Int×(List Int)) (Dl20Rd×(List Int)))):=
 cond (decide (s7.2.2.2<(64:Int)))
  (Option.bind (Option.bind (aA (Dl20Rd.mk s7.1 s7.2.1) (2:Int)) λv20=>
   cond (decide (v20.2=(0:Int)))
    (Option.bind (dC v20.1) λv21=>
    some (.go (v21.1.b,v21.1.p,v21.2)))
    (some (.go (v20.1.b,v20.1.p,(0:Int))))) λj8=>
   JO.run j8 (aAi s7))
  (some (.ret (.go (s7.1,s7.2.1,s7.2.2.1))))
noncomputable def oM (x_r:Dl20Rd)(x_n:Int):Option (Dl20Rd×(List Int)):=
 Option.bind (Option.bind (iter tN (x_r.b,x_r.p,([]:List Int),(0:Int))) LO.val) λj1=>
  JO.run j1 (aAc x_n)
noncomputable def bOo:Sw tG:=⟨[.pt 118,.v (.i .i64)],.one (.row 3),oM⟩
theorem bWf:Sjk 171 bOo:=sgy [(57,.w g57),(134,.w aZb),(189,.r bOh),(101,.w aSj)] ⟨s57,bGt,bVo,aZz,trivial⟩ (.s .o (.s .o (.j ⟨[0,1],[],[(.c 0 0,.rb 5),(.c 0 1,.i .i64),(.s 5,.ro 3)]⟩ (.s .o (.k (.l ⟨[0,1],[],[(.c 0 0,.rb 5),(.c 0 1,.i .i64),(.s 5,.ro 3),(.s 6,.i .i64)]⟩ (.s .o (.s (.k (.s .o (.j ⟨[0,1,5,6],[],[(.c 0 0,.rb 5),(.c 0 1,.i .i64),(.s 7,.i .i64)]⟩ .o (.j ⟨[0,1,5,6],[],[(.c 0 0,.rb 5),(.c 0 1,.i .i64),(.s 7,.i .i64)]⟩ .o .o)))) .o))))) (.j ⟨[],[0],[(.d 0 0,.rb 5),(.d 0 1,.i .i64),(.s 5,.ro 3)]⟩ .o .o)))) kr kr kr
noncomputable def kO:Option Bool:=
 Option.bind (fO (5:Int)) λv1=>
 cond v1
  (Option.bind (fO (-1:Int)) λv2=>
  some (!v2))
  (some false)
noncomputable def g18:Sg tG:=⟨[],.one .b,kO⟩
theorem s18:Sok 18 g18:=sgx [(55,.r g55)] ⟨s55,trivial⟩ .o kr kr kr
noncomputable def aIx (v3:Dl20Rd×Int)(v4:Dl20Rd×Int)(v5:Dl20Rd×Int)(v6:Dl20Rd×Int)(v7:Dl20Rd×Int)(v8:Dl20Rd×Int)(v9:Dl20Rd×Int)(v10:Dl20Rd×Int)(v11:Dl20Rd×Int)(v12:Dl20Rd×Int)(v13:Dl20Rd×Int)(s15:(List Int)×Int×(List Int)×Int×Int):Option (Dl20Rd×DCore):=some ((Dl20Rd.mk s15.1 s15.2.1),DCore.mk s15.2.2.1 s15.2.2.2.1 s15.2.2.2.2 (w64 ((24:Int)+v3.2)) v4.2 (decide (v9.2=(0:Int))) v5.2 v6.2 (w64 (v7.2*v8.2)) (decide (v10.2=(0:Int))) (decide (v11.2=(0:Int))) (decide (v12.2=(0:Int))) (decide (v13.2=(0:Int))))
noncomputable def xI (x_n:Int)(v1:Dl20Rd×Int)(v2:Dl20Rd×Int)(v3:Dl20Rd×Int)(v4:Dl20Rd×Int)(v5:Dl20Rd×Int)(v6:Dl20Rd×Int)(v7:Dl20Rd×Int)(v8:Dl20Rd×Int)(v9:Dl20Rd×Int)(v10:Dl20Rd×Int)(v11:Dl20Rd×Int)(v12:Dl20Rd×Int)(v13:Dl20Rd×Int)(s14:(List Int)×Int×(List Int)):Option (Dl20Rd×DCore):=
 Option.bind (Option.bind (cP (Dl20Rd.mk s14.1 s14.2.1) x_n) λv16=>
  cond v16.2
   (Option.bind (aA v16.1 (4:Int)) λv17=>
   cond (decide (v17.2=(0:Int)))
    (grd ((0:Int)<=(0:Int)/\(0:Int)<=(3:Int)/\(3:Int)<=((List.length s14.2.2:Nat):Int)) (some (.go (v17.1.b,v17.1.p,List.take (Int.toNat (3:Int)-Int.toNat (0:Int)) s14.2.2,v1.2,List.getD ([(-1:Int),(1:Int),(2:Int)]:List Int) (Int.toNat v2.2) default))))
    (cond (decide (v17.2=(1:Int)))
     (Option.bind (aA v17.1 (2:Int)) λv18=>
     some (.go (v18.1.b,v18.1.p,s14.2.2,w64 ((64:Int)-(w64 (v18.2*(65:Int)))),List.getD ([(-1:Int),(1:Int),(2:Int)]:List Int) (Int.toNat v2.2) default)))
     (cond (decide (v17.2=(2:Int)))
      (Option.bind (aA v17.1 (2:Int)) λv19=>
      some (.go (v19.1.b,v19.1.p,s14.2.2,v1.2,w64 ((8:Int)-(w64 (v19.2*(10:Int)))))))
      (Option.bind (aA v17.1 (4:Int)) λv20=>
      grd ((0:Int)<=v20.2/\v20.2<((List.length s14.2.2:Nat):Int)) (some (.go (v20.1.b,v20.1.p,List.set s14.2.2 (Int.toNat v20.2) (-1:Int),v1.2,List.getD ([(-1:Int),(1:Int),(2:Int)]:List Int) (Int.toNat v2.2) default)))))))
   (some (.go (v16.1.b,v16.1.p,s14.2.2,v1.2,List.getD ([(-1:Int),(1:Int),(2:Int)]:List Int) (Int.toNat v2.2) default)))) λj15=>
  JO.run j15 (aIx v3 v4 v5 v6 v7 v8 v9 v10 v11 v12 v13)
noncomputable def qJ  (s21:(List Int)×Int×(List Int)×Int):Option (LO ((List Int)×Int×(List Int)×Int) (JO ((List Int)×Int×(List Int)) (Dl20Rd×DCore))):=
 cond (decide (s21.2.2.2<(4:Int)))
  (Option.bind (aA (Dl20Rd.mk s21.1 s21.2.1) (64:Int)) λv22=>
  Option.bind (aA v22.1 (16:Int)) λv23=>
  Option.bind (dC v23.1) λv24=>
  Option.bind (aA v24.1 (3:Int)) λv25=>
  grd ((0:Int)<=v25.2/\v25.2<((List.length ([v22.2,v23.2,v24.2]:List Int):Nat):Int)) (grd ((List.length s21.2.2.1+List.length ([List.getD ([v22.2,v23.2,v24.2]:List Int) (Int.toNat v25.2) default]:List Int))*8<=2^47/\List.length s21.2.2.1+List.length ([List.getD ([v22.2,v23.2,v24.2]:List Int) (Int.toNat v25.2) default]:List Int)<=2^47) (some (.next (v25.1.b,v25.1.p,s21.2.2.1++([List.getD ([v22.2,v23.2,v24.2]:List Int) (Int.toNat v25.2) default]:List Int),w64 (s21.2.2.2+(1:Int)))))))
  (some (.ret (.go (s21.1,s21.2.1,s21.2.2.1))))
noncomputable def nD (x_r:Dl20Rd)(x_n:Int):Option (Dl20Rd×DCore):=
 Option.bind (aA x_r (64:Int)) λv1=>
 Option.bind (aA v1.1 (3:Int)) λv2=>
 grd ((0:Int)<=v2.2/\v2.2<((List.length ([(-1:Int),(1:Int),(2:Int)]:List Int):Nat):Int)) (Option.bind (aA v2.1 (4:Int)) λv3=>
  Option.bind (aA v3.1 (64:Int)) λv4=>
  Option.bind (aA v4.1 (5:Int)) λv5=>
  Option.bind (aA v5.1 (64:Int)) λv6=>
  Option.bind (aA v6.1 (4:Int)) λv7=>
  Option.bind (aA v7.1 (6:Int)) λv8=>
  Option.bind (aA v8.1 (2:Int)) λv9=>
  Option.bind (aA v9.1 (6:Int)) λv10=>
  Option.bind (aA v10.1 (3:Int)) λv11=>
  Option.bind (aA v11.1 (2:Int)) λv12=>
  Option.bind (aA v12.1 (25:Int)) λv13=>
  Option.bind (Option.bind (iter qJ (v13.1.b,v13.1.p,([]:List Int),(0:Int))) LO.val) λj14=>
   JO.run j14 (xI x_n v1 v2 v3 v4 v5 v6 v7 v8 v9 v10 v11 v12 v13))
noncomputable def bUj:Sw tG:=⟨[.pt 118,.v (.i .i64)],.one (.st 35),nD⟩
theorem bYq:Sjk 169 bUj:=sgy [(57,.w g57),(134,.w aZb),(101,.w aSj)] ⟨s57,bGt,aZz,trivial⟩ (.s .o (.s (.m [0]) (.s .o (.s .o (.s .o (.s .o (.s .o (.j ⟨[0,1,4,5],[],[(.c 0 0,.rb 5),(.c 0 1,.i .i64),(.c 5 0,.ro 3)]⟩ (.s .o (.k (.l ⟨[0,1,4,5],[],[(.c 0 0,.rb 5),(.c 0 1,.i .i64),(.c 5 0,.ro 3),(.s 6,.i .i64)]⟩ (.s .o (.s (.k (.m [0])) .o))))) (.j ⟨[4,5],[0],[(.d 0 0,.rb 5),(.d 0 1,.i .i64),(.c 5 0,.ro 3),(.c 5 1,.i .i64),(.c 5 2,.i .i64)]⟩ (.s .o (.c (.s .o (.k (.s .o (.c .o (.s .o (.c .o (.s .o (.c .o (.m [0]))))))))) .o)) .o))))))))) kr kr kr
noncomputable def kG (x_i:DIns):Option Int:=
 Option.bind (qF x_i) λv1=>
 cond (!v1)
  (some (-1:Int))
  (some (w64 ((w64 ((w64 (x_i.Op*(256:Int)))+(w64 (x_i.A*(64:Int)))))+x_i.N)))
noncomputable def g60:Sg tG:=⟨[.st 89],.one (.i .i64),kG⟩
theorem s60:Sok 60 g60:=sgx [(100,.r bMc)] ⟨bWg,trivial⟩ .o kr kr kr
theorem aSc{x_i:DIns}{R_:Int}(hh:kG x_i=some R_):Fn Tryz.prog 60 [.agg (dX x_i)] (.int .i64 R_):=kc (s60 x_i R_ hh)
noncomputable def aNt  (s4:Int×(List Int)×Int×Int×Int):Option (Dl20Rd×DIns):=some ((Dl20Rd.mk s4.2.1 s4.2.2.1),DIns.mk s4.1 s4.2.2.2.1 s4.2.2.2.2)
noncomputable def lM (x_r:Dl20Rd)(x_n:Int):Option (Dl20Rd×DIns):=
 Option.bind (aA x_r (16:Int)) λv1=>
 Option.bind (aA v1.1 (4:Int)) λv2=>
 Option.bind (aA v2.1 (64:Int)) λv3=>
 Option.bind (Option.bind (cP v3.1 x_n) λv5=>
  cond v5.2
   (Option.bind (aA v5.1 (3:Int)) λv6=>
   cond (decide (v6.2=(0:Int)))
    (Option.bind (aA v6.1 (2:Int)) λv7=>
    some (.go ((w64 ((16:Int)-(w64 (v7.2*(17:Int))))),v7.1.b,v7.1.p,v2.2,v3.2)))
    (cond (decide (v6.2=(1:Int)))
     (some (.go (v1.2,v6.1.b,v6.1.p,(4:Int),v3.2)))
     (Option.bind (aA v6.1 (2:Int)) λv8=>
     some (.go (v1.2,v8.1.b,v8.1.p,v2.2,w64 ((64:Int)-(w64 (v8.2*(65:Int)))))))))
   (some (.go (v1.2,v5.1.b,v5.1.p,v2.2,v3.2)))) λj4=>
  JO.run j4 aNt
noncomputable def g61:Sw tG:=⟨[.pt 118,.v (.i .i64)],.one (.st 89),lM⟩
theorem s61:Sjk 61 g61:=sgy [(57,.w g57),(101,.w aSj)] ⟨s57,aZz,trivial⟩ (.s .o (.s .o (.j ⟨[4,5],[0],[(.c 5 0,.i .i64),(.d 0 0,.rb 5),(.d 0 1,.i .i64),(.c 5 1,.i .i64),(.c 5 2,.i .i64)]⟩ .o .o))) kr kr kr
theorem aTm{x_r:Dl20Rd}{x_n:Int}{R_:Dl20Rd×DIns}(hh:lM x_r x_n=some R_):Inl Tryz.prog 61 [.ptr 0 [] 0,.int .i64 x_n] [(0,some (rB118 x_r))] 1 (.agg [.int .i64 R_.2.Op,.int .i64 R_.2.A,.int .i64 R_.2.N]) [(0,some ⟨118,[bo (eI .u8) R_.1.b,.int .i64 R_.1.p]⟩)] 1:=kc (s61 x_r x_n R_ hh)
noncomputable def yM  (s2:(List Int)×(List Int)×Int):Option (Dl20Rd×(List Int)):=some ((Dl20Rd.mk s2.2.1 s2.2.2),s2.1)
noncomputable def yJ (s3:(List Int)×Int×(List Int)×Int)(s4:(List Int)×Int×(List Int)):Option (LO ((List Int)×Int×(List Int)×Int) (JO ((List Int)×(List Int)×Int) (Dl20Rd×(List Int)))):=some (.next (s4.1,s4.2.1,s4.2.2,w64 (s3.2.2.2+(1:Int))))
noncomputable def wW (s3:(List Int)×Int×(List Int)×Int)(v11:Dl20Rd×DIns)(s13:(List Int)×Int×Int):Option (JO ((List Int)×Int×(List Int)) (LO ((List Int)×Int×(List Int)×Int) (JO ((List Int)×(List Int)×Int) (Dl20Rd×(List Int))))):=
 Option.bind (kG (DIns.mk s13.2.2 v11.2.A v11.2.N)) λv14=>
 grd ((0:Int)<=s3.2.2.2/\s3.2.2.2<((List.length s3.2.2.1:Nat):Int)) (some (.go (s13.1,s13.2.1,List.set s3.2.2.1 (Int.toNat s3.2.2.2) v14)))
noncomputable def wT (s3:(List Int)×Int×(List Int)×Int)(v11:Dl20Rd×DIns)(s12:(List Int)×Int×Int):Option (JO ((List Int)×Int×(List Int)) (LO ((List Int)×Int×(List Int)×Int) (JO ((List Int)×(List Int)×Int) (Dl20Rd×(List Int))))):=
 Option.bind (cond (decide (s12.2.2=(0:Int)))
  (Option.bind (aA (Dl20Rd.mk s12.1 s12.2.1) (4:Int)) λv15=>
  cond (decide ((0:Int)<v15.2))
   (some (.go (v15.1.b,v15.1.p,(1:Int))))
   (some (.go (v15.1.b,v15.1.p,s12.2.2))))
  (some (.go (s12.1,s12.2.1,s12.2.2)))) λj13=>
  JO.run j13 (wW s3 v11)
noncomputable def yP (s3:(List Int)×Int×(List Int)×Int)(s5:Bool):Option (JO ((List Int)×Int×(List Int)) (LO ((List Int)×Int×(List Int)×Int) (JO ((List Int)×(List Int)×Int) (Dl20Rd×(List Int))))):=
 cond s5
  (Option.bind (aA (Dl20Rd.mk s3.1 s3.2.1) (3:Int)) λv6=>
  cond (decide ((0:Int)<v6.2))
   (Option.bind (aA v6.1 (8:Int)) λv7=>
   Option.bind (aA v7.1 (4:Int)) λv8=>
   Option.bind (aA v8.1 (3:Int)) λv9=>
   Option.bind (dN (DEntry.mk (decide ((0:Int)<v7.2)) (decide ((0:Int)<v8.2)) (decide ((0:Int)<v9.2)) (Int.tmod s3.2.2.2 (8:Int)))) λv10=>
   grd ((0:Int)<=s3.2.2.2/\s3.2.2.2<((List.length s3.2.2.1:Nat):Int)) (some (.go (v9.1.b,v9.1.p,List.set s3.2.2.1 (Int.toNat s3.2.2.2) v10))))
   (some (.go (v6.1.b,v6.1.p,s3.2.2.1))))
  (Option.bind (lM (Dl20Rd.mk s3.1 s3.2.1) (0:Int)) λv11=>
  Option.bind (Option.bind (aA v11.1 (2:Int)) λv16=>
   cond (decide (v16.2=(0:Int)))
    (Option.bind (aA v16.1 (10:Int)) λv17=>
    grd ((0:Int)<=v17.2/\v17.2<((10:Nat):Int)) (some (.go (v17.1.b,v17.1.p,List.getD ([(1:Int),(2:Int),(3:Int),(4:Int),(3:Int),(4:Int),(6:Int),(7:Int),(11:Int),(15:Int)]:List Int) (Int.toNat v17.2) default))))
    (some (.go (v16.1.b,v16.1.p,v11.2.Op)))) λj12=>
   JO.run j12 (wT s3 v11))
noncomputable def sE  (s3:(List Int)×Int×(List Int)×Int):Option (LO ((List Int)×Int×(List Int)×Int) (JO ((List Int)×(List Int)×Int) (Dl20Rd×(List Int)))):=
 cond (decide (s3.2.2.2<((List.length s3.2.2.1:Nat):Int)))
  (Option.bind (Option.bind (cond (decide ((w64 (Int.tdiv s3.2.2.2 (8:Int)))=(1:Int)))
   (some (.go (decide ((w64 (Int.tdiv s3.2.2.2 (8:Int)))=(1:Int)))))
   (some (.go (decide ((w64 (Int.tdiv s3.2.2.2 (8:Int)))=(2:Int)))))) λj5=>
   JO.run j5 (yP s3)) λj4=>
   JO.run j4 (yJ s3))
  (some (.ret (.go (s3.2.2.1,s3.1,s3.2.1))))
noncomputable def qU (x_r:Dl20Rd):Option (Dl20Rd×(List Int)):=
 Option.bind (oM x_r (0:Int)) λv1=>
 Option.bind (Option.bind (iter sE (v1.1.b,v1.1.p,v1.2,(0:Int))) LO.val) λj2=>
  JO.run j2 yM
noncomputable def bWi:Sw tG:=⟨[.pt 118],.one (.row 3),qU⟩
theorem cAk:Sjk 170 bWi:=sgy [(171,.w bOo),(57,.w g57),(189,.r bOh),(61,.w g61),(60,.r g60)] ⟨bWf,s57,bVo,s61,s60,trivial⟩ (.s .o (.s .o (.j ⟨[],[0],[(.s 3,.ro 3),(.d 0 0,.rb 5),(.d 0 1,.i .i64)]⟩ (.s .o (.k (.l ⟨[0],[],[(.c 0 0,.rb 5),(.c 0 1,.i .i64),(.s 3,.ro 3),(.s 4,.i .i64)]⟩ (.s .o (.j ⟨[0,4],[],[(.c 0 0,.rb 5),(.c 0 1,.i .i64),(.s 3,.ro 3)]⟩ (.k (.s .o (.k (.j ⟨[0,3,4],[],[(.s 41,.b)]⟩ .o (.c .o (.s .o (.j ⟨[0,3,4,5],[],[(.c 0 0,.rb 5),(.c 0 1,.i .i64),(.c 5 0,.i .i64)]⟩ .o (.j ⟨[0,3,4,5],[],[(.c 0 0,.rb 5),(.c 0 1,.i .i64),(.c 5 0,.i .i64)]⟩ .o .o)))))))) .o))))) .o))) kr kr kr
noncomputable def aMf (s4:(List Int)×Int×(List Int))(s5:(List Int)×Int×Int×Int×Int×Bool×Int×Int×Int×Bool×Bool×Bool×Bool×(List Int)×Int×(List Int)×(List Int)):Option (Dl20Rd×DBare):=some ((Dl20Rd.mk s5.2.2.2.2.2.2.2.2.2.2.2.2.2.1 s5.2.2.2.2.2.2.2.2.2.2.2.2.2.2.1),DBare.mk (DCore.mk s5.1 s5.2.1 s5.2.2.1 s5.2.2.2.1 s5.2.2.2.2.1 s5.2.2.2.2.2.1 s5.2.2.2.2.2.2.1 s5.2.2.2.2.2.2.2.1 s5.2.2.2.2.2.2.2.2.1 s5.2.2.2.2.2.2.2.2.2.1 s5.2.2.2.2.2.2.2.2.2.2.1 s5.2.2.2.2.2.2.2.2.2.2.2.1 s5.2.2.2.2.2.2.2.2.2.2.2.2.1) s5.2.2.2.2.2.2.2.2.2.2.2.2.2.2.2.1 s5.2.2.2.2.2.2.2.2.2.2.2.2.2.2.2.2 s4.2.2)
noncomputable def yK (x_n:Int)(v1:Dl20Rd×DCore)(v2:Dl20Rd×(List Int))(s3:(List Int)×Int×(List Int))(s4:(List Int)×Int×(List Int)):Option (Dl20Rd×DBare):=
 Option.bind (Option.bind (cP (Dl20Rd.mk s4.1 s4.2.1) x_n) λv6=>
  cond v6.2
   (Option.bind (aA v6.1 (3:Int)) λv7=>
   cond (decide (v7.2=(0:Int)))
    (Option.bind (nD v7.1 (1:Int)) λv8=>
    some (.go (v8.2.Regs,v8.2.Pc,v8.2.Root,v8.2.Vector,v8.2.Saved,v8.2.SavedUser,v8.2.Cause,v8.2.Bad,v8.2.Timer,v8.2.Waits,v8.2.User,v8.2.On,v8.2.Stopped,v8.1.b,v8.1.p,v2.2,s3.2.2)))
    (cond (decide (v7.2=(1:Int)))
     (Option.bind (oM v7.1 (1:Int)) λv9=>
     some (.go (v1.2.Regs,v1.2.Pc,v1.2.Root,v1.2.Vector,v1.2.Saved,v1.2.SavedUser,v1.2.Cause,v1.2.Bad,v1.2.Timer,v1.2.Waits,v1.2.User,v1.2.On,v1.2.Stopped,v9.1.b,v9.1.p,v9.2,s3.2.2)))
     (some (.go (v1.2.Regs,v1.2.Pc,v1.2.Root,v1.2.Vector,v1.2.Saved,v1.2.SavedUser,v1.2.Cause,v1.2.Bad,v1.2.Timer,v1.2.Waits,v1.2.User,v1.2.On,v1.2.Stopped,v7.1.b,v7.1.p,v2.2,List.replicate (Int.toNat (31:Int)) (0:Int))))))
   (some (.go (v1.2.Regs,v1.2.Pc,v1.2.Root,v1.2.Vector,v1.2.Saved,v1.2.SavedUser,v1.2.Cause,v1.2.Bad,v1.2.Timer,v1.2.Waits,v1.2.User,v1.2.On,v1.2.Stopped,v6.1.b,v6.1.p,v2.2,s3.2.2)))) λj5=>
  JO.run j5 (aMf s4)
noncomputable def xE  (s11:(List Int)×Int×(List Int)×Int):Option (LO ((List Int)×Int×(List Int)×Int) (JO ((List Int)×Int×(List Int)) (Dl20Rd×DBare))):=
 cond (decide ((0:Int)<s11.2.2.2))
  (Option.bind (dC (Dl20Rd.mk s11.1 s11.2.1)) λv12=>
  grd ((List.length s11.2.2.1+List.length ([v12.2]:List Int))*8<=2^47/\List.length s11.2.2.1+List.length ([v12.2]:List Int)<=2^47) (some (.next (v12.1.b,v12.1.p,s11.2.2.1++([v12.2]:List Int),w64 (s11.2.2.2-(1:Int))))))
  (some (.ret (.go (s11.1,s11.2.1,s11.2.2.1))))
noncomputable def yC (x_n:Int)(v1:Dl20Rd×DCore)(v2:Dl20Rd×(List Int))(s3:(List Int)×Int×(List Int)):Option (Dl20Rd×DBare):=
 Option.bind (Option.bind (aA (Dl20Rd.mk s3.1 s3.2.1) (3:Int)) λv10=>
  Option.bind (iter xE (v10.1.b,v10.1.p,([]:List Int),v10.2)) LO.val) λj4=>
  JO.run j4 (yK x_n v1 v2 s3)
noncomputable def mA  (s14:(List Int)×Int×(List Int)×Int):Option (LO ((List Int)×Int×(List Int)×Int) (JO ((List Int)×Int×(List Int)) (Dl20Rd×DBare))):=
 cond (decide ((0:Int)<s14.2.2.2))
  (Option.bind (dC (Dl20Rd.mk s14.1 s14.2.1)) λv15=>
  grd ((List.length s14.2.2.1+List.length ([v15.2]:List Int))*8<=2^47/\List.length s14.2.2.1+List.length ([v15.2]:List Int)<=2^47) (some (.next (v15.1.b,v15.1.p,s14.2.2.1++([v15.2]:List Int),w64 (s14.2.2.2-(1:Int))))))
  (some (.ret (.go (s14.1,s14.2.1,s14.2.2.1))))
noncomputable def rO (x_r:Dl20Rd)(x_n:Int):Option (Dl20Rd×DBare):=
 Option.bind (nD x_r (0:Int)) λv1=>
 Option.bind (qU v1.1) λv2=>
 Option.bind (Option.bind (aA v2.1 (4:Int)) λv13=>
  Option.bind (iter mA (v13.1.b,v13.1.p,([]:List Int),v13.2)) LO.val) λj3=>
  JO.run j3 (yC x_n v1 v2)
noncomputable def bVg:Sw tG:=⟨[.pt 118,.v (.i .i64)],.one (.st 47),rO⟩
theorem cAp:Sjk 135 bVg:=sgy [(169,.w bUj),(170,.w bWi),(57,.w g57),(134,.w aZb),(101,.w aSj),(171,.w bOo)] ⟨bYq,cAk,s57,bGt,aZz,bWf,trivial⟩ (.s .o (.s .o (.j ⟨[0,1,4,5],[],[(.c 0 0,.rb 5),(.c 0 1,.i .i64),(.c 5 14,.ro 3)]⟩ (.s .o (.k (.l ⟨[0,1,4,5],[],[(.c 0 0,.rb 5),(.c 0 1,.i .i64),(.c 5 14,.ro 3),(.s 6,.i .i64)]⟩ (.s .o (.s (.k (.m [0])) .o))))) (.j ⟨[0,1,4,5],[],[(.c 0 0,.rb 5),(.c 0 1,.i .i64),(.c 5 15,.ro 3)]⟩ (.s .o (.k (.l ⟨[0,1,4,5],[],[(.c 0 0,.rb 5),(.c 0 1,.i .i64),(.c 5 15,.ro 3),(.s 7,.i .i64)]⟩ (.s .o (.s (.k (.m [0])) .o))))) (.j ⟨[4,5],[0],[(.c 5 0,.ro 3),(.c 5 1,.i .i64),(.c 5 2,.i .i64),(.c 5 3,.i .i64),(.c 5 4,.i .i64),(.c 5 5,.b),(.c 5 6,.i .i64),(.c 5 7,.i .i64),(.c 5 8,.i .i64),(.c 5 9,.b),(.c 5 10,.b),(.c 5 11,.b),(.c 5 12,.b),(.d 0 0,.rb 5),(.d 0 1,.i .i64),(.c 5 13,.ro 3),(.c 5 14,.ro 3)]⟩ .o .o))))) kr kr kr
theorem aPb:LW 133 ⟨6,[.cell 2 true 2],.seq (.reg false (rg 133 0)) (.seq (.rega [rg 133 1,rg 133 2]) .ret)⟩:=kr
noncomputable def rI (x_none:Int):Option DHost:=some (DHost.mk (List.replicate (Int.toNat (160:Int)) (0:Int)) (List.replicate (Int.toNat (3:Int)) (DGuest.mk false (DCore.mk ([]:List Int) (0:Int) (0:Int) (0:Int) (0:Int) false (0:Int) (0:Int) (0:Int) false false false false) ([]:List DSlot) ([]:List Int) ([]:List Int))))
theorem aRx{x_none:Int}{R_:DHost}(hh:rI x_none=some R_):Fn Tryz.prog 133 [.int .i64 x_none] (.agg [.own 3 1 (List.length R_.Words) (fl (eI .i64) R_.Words),.own 38 17 (List.length R_.Guests) (fl bK R_.Guests)]):=by let z1:=DCore.mk ([]:List Int) (0:Int) (0:Int) (0:Int) (0:Int) false (0:Int) (0:Int) (0:Int) false false false false;let z2:=DGuest.mk false z1 ([]:List DSlot) ([]:List Int) ([]:List Int);unfold rI at hh;refine Fn.start aPb [] (E:=sp 6 []) kr (v:= .agg [sw 0 R_.Words,.sref 1 [] 0 (List.length R_.Guests) 17]) (Hr:=[(1,some (rO38 R_.Guests)),(0,some (rI_3 R_.Words))]) (k:=2) kr (sy [2] [0] (sp 6 [(2,pp 0)]) [(0,some ⟨26,[.nil,.nil]⟩)] 1 (Aw.srega [2] [0,1,2] (bLw ?_ (bLw ?_ bVz))));{refine ys (.mk 3 1 8 [ii 0] (.c (ii 160))) (some 3) (aWd (c:=(eI .i64)) (d:=(0:Int)) (k:=(160:Int)) kr dd kr ?_);refine ys (.mk 38 17 176 zc0 (.c (ii 3))) (some 4) (bBb (z:=(bb false:: .nil::aGd [.nil,.nil,.nil])) (k:=(3:Int)) kr dd ?_);let q1:Root:=⟨26,[.sref 1 [] 0 (List.length (List.replicate (Int.toNat (160:Int)) (0:Int))) 1,.sref 2 [] 0 (Int.toNat (3:Int)) 17]⟩;let q2:Root:=(rI_3 (List.replicate (Int.toNat (160:Int)) (0:Int)));let q3:Root:=⟨38,aX (bb false:: .nil::aGd [.nil,.nil,.nil]) (Int.toNat (3:Int))⟩;refine yt (sp 6 [(2,pp 0)]) [(0,some q1),(1,some q2),(2,some q3)] 3 (Aw.ent (Ent.foldM (c:=bK) (k:=Int.toNat (3:Int)) (d:=z2) (R:=2) (e:=38) (us2:=sp 6 [(2,pp 0)]) (H2:=[(0,some ⟨26,[.sref 1 [] 0 (List.length (List.replicate (Int.toNat (160:Int)) (0:Int))) 1,.sref 3 [] 0 (List.length (List.replicate (Int.toNat (3:Int)) z2)) 17]⟩),(1,some q2)]) (L:=[none,some none,none,none,none,none,none,none,none,none,none,none,none,none,some none,some none,some none]) (ws:=(bb false:: .own 3 1 0 []::aGd [.own 53 3 0 [],.own 3 1 0 [],.own 3 1 0 []])) dd kr kr (aJ (aCi (aJ (aJ (aJ (aJ (aJ (aJ (aJ (aJ (aJ (aJ (aJ (aJ (aCi (aCi (aCi yR))))))))))))))))) rfl (uR kr (jU (u:=pp 0) kr (.same _) zC)) (iX (t:=q1) rfl kr rfl (dR (.same _) (dR (.sref _ _ _ _ eqn) wK)) (iX (t:=q2) rfl kr rfl fB aFj))) (Aw.ret ?_));rw[aP hh];let q4:Root:=(rO38 (List.replicate (Int.toNat (3:Int)) z2));exact iH (r':= .agg [.sref 1 [] 0 (List.length (List.replicate (Int.toNat (160:Int)) (0:Int))) 1,.sref 3 [] 0 (List.length (List.replicate (Int.toNat (3:Int)) z2)) 17]) kr (Ent.list [some 1,some 3] rfl rfl (Nat.zero_le _) (sZ (eY rz)) (hn cH (hn aY aR)))};refine ys (.mk 38 17 176 zc0 (.c (ii 3))) (some 4) (bBb (z:=(bb false:: .nil::aGd [.nil,.nil,.nil])) (k:=(3:Int)) kr dd ?_);refine ys (.mk 3 1 8 [ii 0] (.c (ii 160))) (some 3) (aWd (c:=(eI .i64)) (d:=(0:Int)) (k:=(160:Int)) kr dd kr ?_);let q5:Root:=⟨26,[.sref 2 [] 0 (List.length (List.replicate (Int.toNat (160:Int)) (0:Int))) 1,.sref 1 [] 0 (Int.toNat (3:Int)) 17]⟩;let q6:Root:=⟨38,aX (bb false:: .nil::aGd [.nil,.nil,.nil]) (Int.toNat (3:Int))⟩;let q7:Root:=(rI_3 (List.replicate (Int.toNat (160:Int)) (0:Int)));refine yt (sp 6 [(2,pp 0)]) [(0,some q5),(1,some q6),(2,some q7)] 3 (Aw.ent (Ent.foldM (c:=bK) (k:=Int.toNat (3:Int)) (d:=z2) (R:=1) (e:=38) (us2:=sp 6 [(2,pp 0)]) (H2:=[(0,some ⟨26,[.sref 2 [] 0 (List.length (List.replicate (Int.toNat (160:Int)) (0:Int))) 1,.sref 3 [] 0 (List.length (List.replicate (Int.toNat (3:Int)) z2)) 17]⟩),(2,some q7)]) (L:=[none,some none,none,none,none,none,none,none,none,none,none,none,none,none,some none,some none,some none]) (ws:=(bb false:: .own 3 1 0 []::aGd [.own 53 3 0 [],.own 3 1 0 [],.own 3 1 0 []])) dd kr kr (aJ (aCi (aJ (aJ (aJ (aJ (aJ (aJ (aJ (aJ (aJ (aJ (aJ (aJ (aCi (aCi (aCi yR))))))))))))))))) rfl (uR kr (jU (u:=pp 0) kr (.same _) zC)) (iX (t:=q5) rfl kr rfl (dR (.same _) (dR (.sref _ _ _ _ eqn) wK)) (iX (t:=q7) rfl kr rfl fB aFj))) (Aw.ret ?_));rw[aP hh];let q8:Root:=(rO38 (List.replicate (Int.toNat (3:Int)) z2));exact iH (r':= .agg [.sref 2 [] 0 (List.length (List.replicate (Int.toNat (160:Int)) (0:Int))) 1,.sref 3 [] 0 (List.length (List.replicate (Int.toNat (3:Int)) z2)) 17]) kr (Ent.list [some 2,some 3] rfl rfl (Nat.zero_le _) (sZ (eY rz)) (hn cH (hn aY aR)))
noncomputable def bUk:Sg tG:=⟨[.i .i64],.one (.st 2026),rI⟩
theorem cAr:Sok 133 bUk:=λx_none R_ hh=>kc (aRx (x_none:=x_none) hh)
noncomputable def aMo  (s5:(List Int)×(List Int)×Int×(List DGuest)):Option (Dl20Rd×DHost):=some ((Dl20Rd.mk s5.2.1 s5.2.2.1),DHost.mk s5.1 s5.2.2.2)
noncomputable def yN (x_n:Int)(s3:(List Int)×Int×(List Int)×(List DGuest))(s4:(List Int)×Int×(List DGuest)):Option (Dl20Rd×DHost):=
 Option.bind (Option.bind (cP (Dl20Rd.mk s4.1 s4.2.1) x_n) λv6=>
  cond v6.2
   (Option.bind (aA v6.1 (4:Int)) λv7=>
   cond (decide (v7.2=(0:Int)))
    (Option.bind (aA v7.1 (9:Int)) λv8=>
    grd ((0:Int)<=v8.2/\v8.2<((List.length s3.2.2.1:Nat):Int)) (some (.go ((List.set s3.2.2.1 (Int.toNat v8.2) (4096:Int)),v8.1.b,v8.1.p,s4.2.2))))
    (cond (decide (v7.2=(1:Int)))
     (grd ((0:Int)<=(0:Int)/\(0:Int)<=(2:Int)/\(2:Int)<=((List.length s4.2.2:Nat):Int)) (some (.go (s3.2.2.1,v7.1.b,v7.1.p,List.take (Int.toNat (2:Int)-Int.toNat (0:Int)) s4.2.2))))
     (cond (decide (v7.2=(2:Int)))
      (grd ((0:Int)<=(2:Int)/\(2:Int)<((List.length s4.2.2:Nat):Int)) (some (.go (s3.2.2.1,v7.1.b,v7.1.p,List.set s4.2.2 2 (DGuest.mk false (DCore.mk ([]:List Int) (0:Int) (0:Int) (0:Int) (0:Int) false (0:Int) (0:Int) (0:Int) false false false false) ([]:List DSlot) ([(1:Int)]:List Int) ([]:List Int))))))
      (grd ((0:Int)<=(0:Int)/\(0:Int)<((List.length s4.2.2:Nat):Int)) (some (.go (s3.2.2.1,v7.1.b,v7.1.p,List.set s4.2.2 0 (DGuest.mk (List.getD s4.2.2 0 default).Live (List.getD s4.2.2 0 default).C ([DSlot.mk (3:Int) true false,DSlot.mk (3:Int) false false]:List DSlot) (List.getD s4.2.2 0 default).In (List.getD s4.2.2 0 default).Out))))))))
   (some (.go (s3.2.2.1,v6.1.b,v6.1.p,s4.2.2)))) λj5=>
  JO.run j5 aMo
noncomputable def xD (s10:(List Int)×Int×(List DGuest)×Int)(s11:(List Int)×Int×(List DGuest)):Option (LO ((List Int)×Int×(List DGuest)×Int) (JO ((List Int)×Int×(List DGuest)) (Dl20Rd×DHost))):=some (.next (s11.1,s11.2.1,s11.2.2,w64 (s10.2.2.2-(1:Int))))
noncomputable def pU  (s10:(List Int)×Int×(List DGuest)×Int):Option (LO ((List Int)×Int×(List DGuest)×Int) (JO ((List Int)×Int×(List DGuest)) (Dl20Rd×DHost))):=
 cond (decide ((0:Int)<s10.2.2.2))
  (Option.bind (Option.bind (aA (Dl20Rd.mk s10.1 s10.2.1) (3:Int)) λv12=>
   Option.bind (aA v12.1 (3:Int)) λv13=>
   Option.bind (aA v13.1 (8:Int)) λv14=>
   grd ((0:Int)<=v12.2/\v12.2<((List.length s10.2.2.1:Nat):Int)) (cond (List.getD s10.2.2.1 (Int.toNat v12.2) default).Live
    (grd ((0:Int)<=v13.2/\v13.2<((List.length s10.2.2.1:Nat):Int)) (cond (List.getD s10.2.2.1 (Int.toNat v13.2) default).Live
     (grd ((0:Int)<=v12.2/\v12.2<((List.length s10.2.2.1:Nat):Int)) (grd ((0:Int)<=v14.2/\v14.2<((List.length (List.getD s10.2.2.1 (Int.toNat v12.2) default).Pages:Nat):Int)) (cond (decide ((0:Int)<=(List.getD (List.getD s10.2.2.1 (Int.toNat v12.2) default).Pages (Int.toNat v14.2) default).Frame))
      (grd ((0:Int)<=v12.2/\v12.2<((List.length s10.2.2.1:Nat):Int)) (grd ((0:Int)<=v14.2/\v14.2<((List.length (List.getD s10.2.2.1 (Int.toNat v12.2) default).Pages:Nat):Int)) (grd ((0:Int)<=v13.2/\v13.2<((List.length s10.2.2.1:Nat):Int)) (Option.bind (aA v14.1 (8:Int)) λv15=>
       grd ((0:Int)<=v12.2/\v12.2<((List.length s10.2.2.1:Nat):Int)) (grd ((0:Int)<=v14.2/\v14.2<((List.length (List.getD (List.set s10.2.2.1 (Int.toNat v12.2) (DGuest.mk (List.getD s10.2.2.1 (Int.toNat v12.2) default).Live (List.getD s10.2.2.1 (Int.toNat v12.2) default).C (List.set (List.getD s10.2.2.1 (Int.toNat v12.2) default).Pages (Int.toNat v14.2) (DSlot.mk (List.getD (List.getD s10.2.2.1 (Int.toNat v12.2) default).Pages (Int.toNat v14.2) default).Frame false (List.getD (List.getD s10.2.2.1 (Int.toNat v12.2) default).Pages (Int.toNat v14.2) default).Dirty)) (List.getD s10.2.2.1 (Int.toNat v12.2) default).In (List.getD s10.2.2.1 (Int.toNat v12.2) default).Out)) (Int.toNat v12.2) default).Pages:Nat):Int)) (Option.bind (aA v15.1 (2:Int)) λv16=>
        grd ((0:Int)<=v15.2/\v15.2<((List.length (List.getD (List.set s10.2.2.1 (Int.toNat v12.2) (DGuest.mk (List.getD s10.2.2.1 (Int.toNat v12.2) default).Live (List.getD s10.2.2.1 (Int.toNat v12.2) default).C (List.set (List.getD s10.2.2.1 (Int.toNat v12.2) default).Pages (Int.toNat v14.2) (DSlot.mk (List.getD (List.getD s10.2.2.1 (Int.toNat v12.2) default).Pages (Int.toNat v14.2) default).Frame false (List.getD (List.getD s10.2.2.1 (Int.toNat v12.2) default).Pages (Int.toNat v14.2) default).Dirty)) (List.getD s10.2.2.1 (Int.toNat v12.2) default).In (List.getD s10.2.2.1 (Int.toNat v12.2) default).Out)) (Int.toNat v13.2) default).Pages:Nat):Int)) (some (.go (v16.1.b,v16.1.p,List.set (List.set s10.2.2.1 (Int.toNat v12.2) (DGuest.mk (List.getD s10.2.2.1 (Int.toNat v12.2) default).Live (List.getD s10.2.2.1 (Int.toNat v12.2) default).C (List.set (List.getD s10.2.2.1 (Int.toNat v12.2) default).Pages (Int.toNat v14.2) (DSlot.mk (List.getD (List.getD s10.2.2.1 (Int.toNat v12.2) default).Pages (Int.toNat v14.2) default).Frame false (List.getD (List.getD s10.2.2.1 (Int.toNat v12.2) default).Pages (Int.toNat v14.2) default).Dirty)) (List.getD s10.2.2.1 (Int.toNat v12.2) default).In (List.getD s10.2.2.1 (Int.toNat v12.2) default).Out)) (Int.toNat v13.2) (DGuest.mk (List.getD (List.set s10.2.2.1 (Int.toNat v12.2) (DGuest.mk (List.getD s10.2.2.1 (Int.toNat v12.2) default).Live (List.getD s10.2.2.1 (Int.toNat v12.2) default).C (List.set (List.getD s10.2.2.1 (Int.toNat v12.2) default).Pages (Int.toNat v14.2) (DSlot.mk (List.getD (List.getD s10.2.2.1 (Int.toNat v12.2) default).Pages (Int.toNat v14.2) default).Frame false (List.getD (List.getD s10.2.2.1 (Int.toNat v12.2) default).Pages (Int.toNat v14.2) default).Dirty)) (List.getD s10.2.2.1 (Int.toNat v12.2) default).In (List.getD s10.2.2.1 (Int.toNat v12.2) default).Out)) (Int.toNat v13.2) default).Live (List.getD (List.set s10.2.2.1 (Int.toNat v12.2) (DGuest.mk (List.getD s10.2.2.1 (Int.toNat v12.2) default).Live (List.getD s10.2.2.1 (Int.toNat v12.2) default).C (List.set (List.getD s10.2.2.1 (Int.toNat v12.2) default).Pages (Int.toNat v14.2) (DSlot.mk (List.getD (List.getD s10.2.2.1 (Int.toNat v12.2) default).Pages (Int.toNat v14.2) default).Frame false (List.getD (List.getD s10.2.2.1 (Int.toNat v12.2) default).Pages (Int.toNat v14.2) default).Dirty)) (List.getD s10.2.2.1 (Int.toNat v12.2) default).In (List.getD s10.2.2.1 (Int.toNat v12.2) default).Out)) (Int.toNat v13.2) default).C (List.set (List.getD (List.set s10.2.2.1 (Int.toNat v12.2) (DGuest.mk (List.getD s10.2.2.1 (Int.toNat v12.2) default).Live (List.getD s10.2.2.1 (Int.toNat v12.2) default).C (List.set (List.getD s10.2.2.1 (Int.toNat v12.2) default).Pages (Int.toNat v14.2) (DSlot.mk (List.getD (List.getD s10.2.2.1 (Int.toNat v12.2) default).Pages (Int.toNat v14.2) default).Frame false (List.getD (List.getD s10.2.2.1 (Int.toNat v12.2) default).Pages (Int.toNat v14.2) default).Dirty)) (List.getD s10.2.2.1 (Int.toNat v12.2) default).In (List.getD s10.2.2.1 (Int.toNat v12.2) default).Out)) (Int.toNat v13.2) default).Pages (Int.toNat v15.2) (DSlot.mk (List.getD (List.getD (List.set s10.2.2.1 (Int.toNat v12.2) (DGuest.mk (List.getD s10.2.2.1 (Int.toNat v12.2) default).Live (List.getD s10.2.2.1 (Int.toNat v12.2) default).C (List.set (List.getD s10.2.2.1 (Int.toNat v12.2) default).Pages (Int.toNat v14.2) (DSlot.mk (List.getD (List.getD s10.2.2.1 (Int.toNat v12.2) default).Pages (Int.toNat v14.2) default).Frame false (List.getD (List.getD s10.2.2.1 (Int.toNat v12.2) default).Pages (Int.toNat v14.2) default).Dirty)) (List.getD s10.2.2.1 (Int.toNat v12.2) default).In (List.getD s10.2.2.1 (Int.toNat v12.2) default).Out)) (Int.toNat v12.2) default).Pages (Int.toNat v14.2) default).Frame false (decide (v16.2=(0:Int))))) (List.getD (List.set s10.2.2.1 (Int.toNat v12.2) (DGuest.mk (List.getD s10.2.2.1 (Int.toNat v12.2) default).Live (List.getD s10.2.2.1 (Int.toNat v12.2) default).C (List.set (List.getD s10.2.2.1 (Int.toNat v12.2) default).Pages (Int.toNat v14.2) (DSlot.mk (List.getD (List.getD s10.2.2.1 (Int.toNat v12.2) default).Pages (Int.toNat v14.2) default).Frame false (List.getD (List.getD s10.2.2.1 (Int.toNat v12.2) default).Pages (Int.toNat v14.2) default).Dirty)) (List.getD s10.2.2.1 (Int.toNat v12.2) default).In (List.getD s10.2.2.1 (Int.toNat v12.2) default).Out)) (Int.toNat v13.2) default).In (List.getD (List.set s10.2.2.1 (Int.toNat v12.2) (DGuest.mk (List.getD s10.2.2.1 (Int.toNat v12.2) default).Live (List.getD s10.2.2.1 (Int.toNat v12.2) default).C (List.set (List.getD s10.2.2.1 (Int.toNat v12.2) default).Pages (Int.toNat v14.2) (DSlot.mk (List.getD (List.getD s10.2.2.1 (Int.toNat v12.2) default).Pages (Int.toNat v14.2) default).Frame false (List.getD (List.getD s10.2.2.1 (Int.toNat v12.2) default).Pages (Int.toNat v14.2) default).Dirty)) (List.getD s10.2.2.1 (Int.toNat v12.2) default).In (List.getD s10.2.2.1 (Int.toNat v12.2) default).Out)) (Int.toNat v13.2) default).Out))))))))))
      (some (.go (v14.1.b,v14.1.p,s10.2.2.1))))))
     (some (.go (v14.1.b,v14.1.p,s10.2.2.1)))))
    (some (.go (v14.1.b,v14.1.p,s10.2.2.1))))) λj11=>
   JO.run j11 (xD s10))
  (some (.ret (.go (s10.1,s10.2.1,s10.2.2.1))))
noncomputable def yQ (x_n:Int)(s3:(List Int)×Int×(List Int)×(List DGuest)):Option (Dl20Rd×DHost):=
 Option.bind (Option.bind (aA (Dl20Rd.mk s3.1 s3.2.1) (4:Int)) λv9=>
  Option.bind (iter pU (v9.1.b,v9.1.p,s3.2.2.2,v9.2)) LO.val) λj4=>
  JO.run j4 (yN x_n s3)
noncomputable def xB (s18:(List Int)×Int×(List Int)×(List DGuest)×(List Int)×Int×Int×Int×Int×Bool×Int×Int×Int×Bool×Bool×Bool×Bool×(List Int)×(List Int)×(List Int)×Int)(s19:(List Int)×Int×(List Int)×(List DGuest)×(List Int)×Int×Int×Int×Int×Bool×Int×Int×Int×Bool×Bool×Bool×Bool×(List Int)×(List Int)×(List Int)):Option (LO ((List Int)×Int×(List Int)×(List DGuest)×(List Int)×Int×Int×Int×Int×Bool×Int×Int×Int×Bool×Bool×Bool×Bool×(List Int)×(List Int)×(List Int)×Int) (JO ((List Int)×Int×(List Int)×(List DGuest)) (Dl20Rd×DHost))):=some (.next (s19.1,s19.2.1,s19.2.2.1,s19.2.2.2.1,s19.2.2.2.2.1,s19.2.2.2.2.2.1,s19.2.2.2.2.2.2.1,s19.2.2.2.2.2.2.2.1,s19.2.2.2.2.2.2.2.2.1,s19.2.2.2.2.2.2.2.2.2.1,s19.2.2.2.2.2.2.2.2.2.2.1,s19.2.2.2.2.2.2.2.2.2.2.2.1,s19.2.2.2.2.2.2.2.2.2.2.2.2.1,s19.2.2.2.2.2.2.2.2.2.2.2.2.2.1,s19.2.2.2.2.2.2.2.2.2.2.2.2.2.2.1,s19.2.2.2.2.2.2.2.2.2.2.2.2.2.2.2.1,s19.2.2.2.2.2.2.2.2.2.2.2.2.2.2.2.2.1,s19.2.2.2.2.2.2.2.2.2.2.2.2.2.2.2.2.2.1,s19.2.2.2.2.2.2.2.2.2.2.2.2.2.2.2.2.2.2.1,s19.2.2.2.2.2.2.2.2.2.2.2.2.2.2.2.2.2.2.2,w64 (s18.2.2.2.2.2.2.2.2.2.2.2.2.2.2.2.2.2.2.2.2-(1:Int))))
noncomputable def xQ (s18:(List Int)×Int×(List Int)×(List DGuest)×(List Int)×Int×Int×Int×Int×Bool×Int×Int×Int×Bool×Bool×Bool×Bool×(List Int)×(List Int)×(List Int)×Int)(v20:Dl20Rd×DBare)(s21:(List Int)×Int×(List Int)):Option (JO ((List Int)×Int×(List Int)×(List DGuest)×(List Int)×Int×Int×Int×Int×Bool×Int×Int×Int×Bool×Bool×Bool×Bool×(List Int)×(List Int)×(List Int)) (LO ((List Int)×Int×(List Int)×(List DGuest)×(List Int)×Int×Int×Int×Int×Bool×Int×Int×Int×Bool×Bool×Bool×Bool×(List Int)×(List Int)×(List Int)×Int) (JO ((List Int)×Int×(List Int)×(List DGuest)) (Dl20Rd×DHost)))):=
 Option.bind (pO (DHost.mk s18.2.2.1 s18.2.2.2.1) (DBare.mk v20.2.C s21.2.2 v20.2.In v20.2.Out)) λv22=>
 cond v22.2.2
  (some (.go (s21.1,s21.2.1,v22.1.Words,v22.1.Guests,v20.2.C.Regs,v20.2.C.Pc,v20.2.C.Root,v20.2.C.Vector,v20.2.C.Saved,v20.2.C.SavedUser,v20.2.C.Cause,v20.2.C.Bad,v20.2.C.Timer,v20.2.C.Waits,v20.2.C.User,v20.2.C.On,v20.2.C.Stopped,s21.2.2,v20.2.In,v20.2.Out)))
  (some (.go (s21.1,s21.2.1,s18.2.2.1,s18.2.2.2.1,v20.2.C.Regs,v20.2.C.Pc,v20.2.C.Root,v20.2.C.Vector,v20.2.C.Saved,v20.2.C.SavedUser,v20.2.C.Cause,v20.2.C.Bad,v20.2.C.Timer,v20.2.C.Waits,v20.2.C.User,v20.2.C.On,v20.2.C.Stopped,s21.2.2,v20.2.In,v20.2.Out)))
noncomputable def xK (s23:(List Int)×Int×(List Int)×Int)(s24:(List Int)×Int×(List Int)):Option (LO ((List Int)×Int×(List Int)×Int) (JO ((List Int)×Int×(List Int)) (JO ((List Int)×Int×(List Int)×(List DGuest)×(List Int)×Int×Int×Int×Int×Bool×Int×Int×Int×Bool×Bool×Bool×Bool×(List Int)×(List Int)×(List Int)) (LO ((List Int)×Int×(List Int)×(List DGuest)×(List Int)×Int×Int×Int×Int×Bool×Int×Int×Int×Bool×Bool×Bool×Bool×(List Int)×(List Int)×(List Int)×Int) (JO ((List Int)×Int×(List Int)×(List DGuest)) (Dl20Rd×DHost)))))):=some (.next (s24.1,s24.2.1,s24.2.2,w64 (s23.2.2.2+(1:Int))))
noncomputable def wQ (s18:(List Int)×Int×(List Int)×(List DGuest)×(List Int)×Int×Int×Int×Int×Bool×Int×Int×Int×Bool×Bool×Bool×Bool×(List Int)×(List Int)×(List Int)×Int)(s23:(List Int)×Int×(List Int)×Int)(s25:(List Int)×Int×(List Int)):Option (JO ((List Int)×Int×(List Int)) (LO ((List Int)×Int×(List Int)×Int) (JO ((List Int)×Int×(List Int)) (JO ((List Int)×Int×(List Int)×(List DGuest)×(List Int)×Int×Int×Int×Int×Bool×Int×Int×Int×Bool×Bool×Bool×Bool×(List Int)×(List Int)×(List Int)) (LO ((List Int)×Int×(List Int)×(List DGuest)×(List Int)×Int×Int×Int×Int×Bool×Int×Int×Int×Bool×Bool×Bool×Bool×(List Int)×(List Int)×(List Int)×Int) (JO ((List Int)×Int×(List Int)×(List DGuest)) (Dl20Rd×DHost))))))):=
 cond (decide ((0:Int)<((List.length s18.2.2.2.2.2.2.2.2.2.2.2.2.2.2.2.2.2.1:Nat):Int)))
  (Option.bind (aA (Dl20Rd.mk s25.1 s25.2.1) (3:Int)) λv26=>
  cond (decide (v26.2=(0:Int)))
   (grd ((0:Int)<=(w64 (s23.2.2.2*(8:Int)))/\(w64 (s23.2.2.2*(8:Int)))<=(w64 ((w64 (s23.2.2.2+(1:Int)))*(8:Int)))/\(w64 ((w64 (s23.2.2.2+(1:Int)))*(8:Int)))<=((List.length s25.2.2:Nat):Int)) (grd ((0:Int)<=(w64 (s23.2.2.2*(8:Int)))/\(w64 (s23.2.2.2*(8:Int)))<=((List.length s18.2.2.2.2.2.2.2.2.2.2.2.2.2.2.2.2.2.1:Nat):Int)/\((List.length s18.2.2.2.2.2.2.2.2.2.2.2.2.2.2.2.2.2.1:Nat):Int)<=((List.length s18.2.2.2.2.2.2.2.2.2.2.2.2.2.2.2.2.2.1:Nat):Int)) (some (.go (v26.1.b,v26.1.p,over s25.2.2 (Int.toNat (w64 (s23.2.2.2*(8:Int)))) (Int.toNat (w64 ((w64 (s23.2.2.2+(1:Int)))*(8:Int)))-Int.toNat (w64 (s23.2.2.2*(8:Int)))) (List.take (Int.toNat ((List.length s18.2.2.2.2.2.2.2.2.2.2.2.2.2.2.2.2.2.1:Nat):Int)-Int.toNat (w64 (s23.2.2.2*(8:Int)))) (List.drop (Int.toNat (w64 (s23.2.2.2*(8:Int)))) s18.2.2.2.2.2.2.2.2.2.2.2.2.2.2.2.2.2.1)))))))
   (some (.go (v26.1.b,v26.1.p,s25.2.2))))
  (some (.go (s25.1,s25.2.1,s25.2.2)))
noncomputable def qP (s18:(List Int)×Int×(List Int)×(List DGuest)×(List Int)×Int×Int×Int×Int×Bool×Int×Int×Int×Bool×Bool×Bool×Bool×(List Int)×(List Int)×(List Int)×Int)(s23:(List Int)×Int×(List Int)×Int):Option (LO ((List Int)×Int×(List Int)×Int) (JO ((List Int)×Int×(List Int)) (JO ((List Int)×Int×(List Int)×(List DGuest)×(List Int)×Int×Int×Int×Int×Bool×Int×Int×Int×Bool×Bool×Bool×Bool×(List Int)×(List Int)×(List Int)) (LO ((List Int)×Int×(List Int)×(List DGuest)×(List Int)×Int×Int×Int×Int×Bool×Int×Int×Int×Bool×Bool×Bool×Bool×(List Int)×(List Int)×(List Int)×Int) (JO ((List Int)×Int×(List Int)×(List DGuest)) (Dl20Rd×DHost)))))):=
 cond (decide (s23.2.2.2<(8:Int)))
  (Option.bind (Option.bind (cond (decide ((3:Int)<s23.2.2.2))
   (Option.bind (aA (Dl20Rd.mk s23.1 s23.2.1) (2:Int)) λv27=>
   cond (decide (v27.2=(0:Int)))
    (grd ((0:Int)<=(w64 (s23.2.2.2*(8:Int)))/\(w64 (s23.2.2.2*(8:Int)))<=((List.length s23.2.2.1:Nat):Int)/\((List.length s23.2.2.1:Nat):Int)<=((List.length s23.2.2.1:Nat):Int)) (some (.go (v27.1.b,v27.1.p,over s23.2.2.1 (Int.toNat (w64 (s23.2.2.2*(8:Int)))) (Int.toNat ((List.length s23.2.2.1:Nat):Int)-Int.toNat (w64 (s23.2.2.2*(8:Int)))) (List.replicate (Int.toNat (8:Int)) (0:Int))))))
    (some (.go (v27.1.b,v27.1.p,s23.2.2.1))))
   (some (.go (s23.1,s23.2.1,s23.2.2.1)))) λj25=>
   JO.run j25 (wQ s18 s23)) λj24=>
   JO.run j24 (xK s23))
  (some (.ret (.go (s23.1,s23.2.1,s23.2.2.1))))
noncomputable def pV  (s18:(List Int)×Int×(List Int)×(List DGuest)×(List Int)×Int×Int×Int×Int×Bool×Int×Int×Int×Bool×Bool×Bool×Bool×(List Int)×(List Int)×(List Int)×Int):Option (LO ((List Int)×Int×(List Int)×(List DGuest)×(List Int)×Int×Int×Int×Int×Bool×Int×Int×Int×Bool×Bool×Bool×Bool×(List Int)×(List Int)×(List Int)×Int) (JO ((List Int)×Int×(List Int)×(List DGuest)) (Dl20Rd×DHost))):=
 cond (decide ((0:Int)<s18.2.2.2.2.2.2.2.2.2.2.2.2.2.2.2.2.2.2.2.2))
  (Option.bind (Option.bind (rO (Dl20Rd.mk s18.1 s18.2.1) (0:Int)) λv20=>
   Option.bind (Option.bind (iter (qP s18) (v20.1.b,v20.1.p,v20.2.Mem,(0:Int))) LO.val) λj21=>
    JO.run j21 (xQ s18 v20)) λj19=>
   JO.run j19 (xB s18))
  (some (.ret (.go (s18.1,s18.2.1,s18.2.2.1,s18.2.2.2.1))))
noncomputable def yL (x_n:Int)(v1:DHost)(s2:(List Int)×Int×(List Int)):Option (Dl20Rd×DHost):=
 Option.bind (Option.bind (aA (Dl20Rd.mk s2.1 s2.2.1) (3:Int)) λv17=>
  Option.bind (iter pV (v17.1.b,v17.1.p,s2.2.2,v1.Guests,([]:List Int),(0:Int),(0:Int),(0:Int),(0:Int),false,(0:Int),(0:Int),(0:Int),false,false,false,false,([]:List Int),([]:List Int),([]:List Int),w64 ((1:Int)+v17.2))) LO.val) λj3=>
  JO.run j3 (yQ x_n)
noncomputable def wZ (s28:(List Int)×Int×(List Int)×Int)(s29:(List Int)×Int×(List Int)):Option (LO ((List Int)×Int×(List Int)×Int) (JO ((List Int)×Int×(List Int)) (Dl20Rd×DHost))):=some (.next (s29.1,s29.2.1,s29.2.2,w64 (s28.2.2.2+(1:Int))))
noncomputable def pZ  (s28:(List Int)×Int×(List Int)×Int):Option (LO ((List Int)×Int×(List Int)×Int) (JO ((List Int)×Int×(List Int)) (Dl20Rd×DHost))):=
 cond (decide (s28.2.2.2<((List.length s28.2.2.1:Nat):Int)))
  (Option.bind (Option.bind (aA (Dl20Rd.mk s28.1 s28.2.1) (4:Int)) λv30=>
   cond (decide (v30.2=(0:Int)))
    (Option.bind (dC v30.1) λv31=>
    grd ((0:Int)<=s28.2.2.2/\s28.2.2.2<((List.length s28.2.2.1:Nat):Int)) (some (.go (v31.1.b,v31.1.p,List.set s28.2.2.1 (Int.toNat s28.2.2.2) v31.2))))
    (some (.go (v30.1.b,v30.1.p,s28.2.2.1)))) λj29=>
   JO.run j29 (wZ s28))
  (some (.ret (.go (s28.1,s28.2.1,s28.2.2.1))))
noncomputable def rL (x_r:Dl20Rd)(x_n:Int):Option (Dl20Rd×DHost):=
 Option.bind (rI (0:Int)) λv1=>
 Option.bind (Option.bind (iter pZ (x_r.b,x_r.p,v1.Words,(0:Int))) LO.val) λj2=>
  JO.run j2 (yL x_n v1)
noncomputable def g86:Sw tG:=⟨[.pt 118,.v (.i .i64)],.one (.st 2026),rL⟩
theorem s86:Sjk 86 g86:=sgy [(133,.r bUk),(57,.w g57),(134,.w aZb),(135,.w bVg),(136,.r bVr),(101,.w aSj)] ⟨cAr,s57,bGt,cAp,bZj,aZz,trivial⟩ (.s .o (.s .o (.j ⟨[0,1,4,5],[],[(.c 0 0,.rb 5),(.c 0 1,.i .i64),(.c 5 0,.ro 3)]⟩ (.s .o (.k (.l ⟨[0,1,4,5],[],[(.c 0 0,.rb 5),(.c 0 1,.i .i64),(.c 5 0,.ro 3),(.s 6,.i .i64)]⟩ (.s .o (.j ⟨[0,1,4,5,6],[],[(.c 0 0,.rb 5),(.c 0 1,.i .i64),(.c 5 0,.ro 3)]⟩ (.k (.s .o (.c (.m [0]) .o))) .o))))) (.s .o (.j ⟨[0,1,4,5],[],[(.c 0 0,.rb 5),(.c 0 1,.i .i64),(.c 5 0,.ro 3),(.c 5 1,.ro 1038)]⟩ (.s .o (.k (.l ⟨[0,1,4,5,7],[],[(.c 0 0,.rb 5),(.c 0 1,.i .i64),(.c 5 0,.ro 3),(.c 5 1,.ro 1038),(.c 7 0,.ro 3),(.c 7 1,.i .i64),(.c 7 2,.i .i64),(.c 7 3,.i .i64),(.c 7 4,.i .i64),(.c 7 5,.b),(.c 7 6,.i .i64),(.c 7 7,.i .i64),(.c 7 8,.i .i64),(.c 7 9,.b),(.c 7 10,.b),(.c 7 11,.b),(.c 7 12,.b),(.c 7 13,.ro 3),(.c 7 14,.ro 3),(.c 7 15,.ro 3),(.s 8,.i .i64)]⟩ (.s .o (.j ⟨[0,1,4,5,7,8],[],[(.c 0 0,.rb 5),(.c 0 1,.i .i64),(.c 5 0,.ro 3),(.c 5 1,.ro 1038),(.c 7 0,.ro 3),(.c 7 1,.i .i64),(.c 7 2,.i .i64),(.c 7 3,.i .i64),(.c 7 4,.i .i64),(.c 7 5,.b),(.c 7 6,.i .i64),(.c 7 7,.i .i64),(.c 7 8,.i .i64),(.c 7 9,.b),(.c 7 10,.b),(.c 7 11,.b),(.c 7 12,.b),(.c 7 13,.ro 3),(.c 7 14,.ro 3),(.c 7 15,.ro 3)]⟩ (.k (.s .o (.j ⟨[0,1,4,5,7,8,9],[],[(.c 0 0,.rb 5),(.c 0 1,.i .i64),(.c 9 13,.ro 3)]⟩ (.s .o (.k (.l ⟨[0,1,4,5,7,8,9],[],[(.c 0 0,.rb 5),(.c 0 1,.i .i64),(.c 9 13,.ro 3),(.s 10,.i .i64)]⟩ (.s .o (.j ⟨[0,1,4,5,7,8,9,10],[],[(.c 0 0,.rb 5),(.c 0 1,.i .i64),(.c 9 13,.ro 3)]⟩ (.k (.j ⟨[0,1,4,5,7,8,9,10],[],[(.c 0 0,.rb 5),(.c 0 1,.i .i64),(.c 9 13,.ro 3)]⟩ .o .o)) .o))))) .o))) .o))))) (.j ⟨[0,1,4,5],[],[(.c 0 0,.rb 5),(.c 0 1,.i .i64),(.c 5 1,.ro 1038)]⟩ (.s .o (.k (.l ⟨[0,1,4,5],[],[(.c 0 0,.rb 5),(.c 0 1,.i .i64),(.c 5 1,.ro 1038),(.s 14,.i .i64)]⟩ (.s .o (.j ⟨[0,1,4,5,14],[],[(.c 0 0,.rb 5),(.c 0 1,.i .i64),(.c 5 1,.ro 1038)]⟩ (.k (.s .o (.s .o (.s .o (.s .o (.c (.s .o (.m [0])) .o)))))) .o))))) (.j ⟨[4,5],[0],[(.c 5 0,.ro 3),(.d 0 0,.rb 5),(.d 0 1,.i .i64),(.c 5 1,.ro 1038)]⟩ (.s .o (.c (.s .o (.k (.s .o (.c (.m [0]) (.s .o (.c .o (.s .o (.c (.g [] [] [.fo (.c 5 1) 0]) (.g [] [] [.fo (.c 5 1) 0]))))))))) .o)) .o))))))) kr kr kr
noncomputable def aMl (v1:Dl20Rd×DHost)(s2:(List DGuest)×(List Int)×Int):Option (Dl20Rd×DHost):=some ((Dl20Rd.mk s2.2.1 s2.2.2),DHost.mk v1.2.Words s2.1)
noncomputable def yG (s5:(List Int)×Int×(List DGuest)×Int)(s6:(List Int)×Int×(List DGuest)):Option (LO ((List Int)×Int×(List DGuest)×Int) (JO ((List DGuest)×(List Int)×Int) (Dl20Rd×DHost))):=some (.next (s6.1,s6.2.1,s6.2.2,w64 (s5.2.2.2+(1:Int))))
noncomputable def yH (s7:(List Int)×Int×(List DGuest)×Int)(s8:(List Int)×Int×(List DGuest)):Option (LO ((List Int)×Int×(List DGuest)×Int) (JO ((List Int)×Int×(List DGuest)) (LO ((List Int)×Int×(List DGuest)×Int) (JO ((List DGuest)×(List Int)×Int) (Dl20Rd×DHost))))):=some (.next (s8.1,s8.2.1,s8.2.2,w64 (s7.2.2.2+(1:Int))))
noncomputable def sQ (v1:Dl20Rd×DHost)(s5:(List Int)×Int×(List DGuest)×Int)(s7:(List Int)×Int×(List DGuest)×Int):Option (LO ((List Int)×Int×(List DGuest)×Int) (JO ((List Int)×Int×(List DGuest)) (LO ((List Int)×Int×(List DGuest)×Int) (JO ((List DGuest)×(List Int)×Int) (Dl20Rd×DHost))))):=
 grd ((0:Int)<=s5.2.2.2/\s5.2.2.2<((List.length s7.2.2.1:Nat):Int)) (cond (decide (s7.2.2.2<((List.length (List.getD s7.2.2.1 (Int.toNat s5.2.2.2) default).Pages:Nat):Int)))
  (Option.bind (Option.bind (gO (DHost.mk v1.2.Words s7.2.2.1)) λv9=>
   grd ((0:Int)<=s5.2.2.2/\s5.2.2.2<((List.length s7.2.2.1:Nat):Int)) (grd ((0:Int)<=s7.2.2.2/\s7.2.2.2<((List.length (List.getD s7.2.2.1 (Int.toNat s5.2.2.2) default).Pages:Nat):Int)) (cond (decide ((List.getD (List.getD s7.2.2.1 (Int.toNat s5.2.2.2) default).Pages (Int.toNat s7.2.2.2) default).Frame<(0:Int)))
    (cond (decide ((0:Int)<((List.length v9:Nat):Int)))
     (Option.bind (aA (Dl20Rd.mk s7.1 s7.2.1) (6:Int)) λv10=>
     cond (decide ((0:Int)<v10.2))
      (grd ((0:Int)<=s5.2.2.2/\s5.2.2.2<((List.length s7.2.2.1:Nat):Int)) (grd ((0:Int)<=(0:Int)/\(0:Int)<((List.length v9:Nat):Int)) (grd ((0:Int)<=s7.2.2.2/\s7.2.2.2<((List.length (List.getD s7.2.2.1 (Int.toNat s5.2.2.2) default).Pages:Nat):Int)) (some (.go (v10.1.b,v10.1.p,List.set s7.2.2.1 (Int.toNat s5.2.2.2) (DGuest.mk (List.getD s7.2.2.1 (Int.toNat s5.2.2.2) default).Live (DCore.mk ((List.getD s7.2.2.1 (Int.toNat s5.2.2.2) default).C).Regs ((List.getD s7.2.2.1 (Int.toNat s5.2.2.2) default).C).Pc ((List.getD s7.2.2.1 (Int.toNat s5.2.2.2) default).C).Root ((List.getD s7.2.2.1 (Int.toNat s5.2.2.2) default).C).Vector ((List.getD s7.2.2.1 (Int.toNat s5.2.2.2) default).C).Saved ((List.getD s7.2.2.1 (Int.toNat s5.2.2.2) default).C).SavedUser ((List.getD s7.2.2.1 (Int.toNat s5.2.2.2) default).C).Cause ((List.getD s7.2.2.1 (Int.toNat s5.2.2.2) default).C).Bad ((List.getD s7.2.2.1 (Int.toNat s5.2.2.2) default).C).Timer ((List.getD s7.2.2.1 (Int.toNat s5.2.2.2) default).C).Waits ((List.getD s7.2.2.1 (Int.toNat s5.2.2.2) default).C).User ((List.getD s7.2.2.1 (Int.toNat s5.2.2.2) default).C).On ((List.getD s7.2.2.1 (Int.toNat s5.2.2.2) default).C).Stopped) (List.set (List.getD s7.2.2.1 (Int.toNat s5.2.2.2) default).Pages (Int.toNat s7.2.2.2) (DSlot.mk (List.getD v9 0 default) true false)) (List.getD s7.2.2.1 (Int.toNat s5.2.2.2) default).In (List.getD s7.2.2.1 (Int.toNat s5.2.2.2) default).Out)))))))
      (some (.go (v10.1.b,v10.1.p,s7.2.2.1))))
     (some (.go (s7.1,s7.2.1,s7.2.2.1))))
    (some (.go (s7.1,s7.2.1,s7.2.2.1)))))) λj8=>
   JO.run j8 (yH s7))
  (some (.ret (.go (s7.1,s7.2.1,s7.2.2.1)))))
noncomputable def yO (v1:Dl20Rd×DHost)(s5:(List Int)×Int×(List DGuest)×Int):Option (LO ((List Int)×Int×(List DGuest)×Int) (JO ((List DGuest)×(List Int)×Int) (Dl20Rd×DHost))):=
 cond (decide (s5.2.2.2<(3:Int)))
  (Option.bind (Option.bind (iter (sQ v1 s5) (s5.1,s5.2.1,s5.2.2.1,(0:Int))) LO.val) λj6=>
   JO.run j6 (yG s5))
  (some (.ret (.go (s5.2.2.1,s5.1,s5.2.1))))
noncomputable def kL (x_r:Dl20Rd):Option (Dl20Rd×DHost):=
 Option.bind (rL x_r (25:Int)) λv1=>
 Option.bind (Option.bind (aA v1.1 (4:Int)) λv3=>
  cond (decide (v3.2=(0:Int)))
   (Option.bind (gU v1.2) λv4=>
   cond v4
    (Option.bind (iter (yO v1) (v3.1.b,v3.1.p,v1.2.Guests,(0:Int))) LO.val)
    (some (.go (v1.2.Guests,v3.1.b,v3.1.p))))
   (some (.go (v1.2.Guests,v3.1.b,v3.1.p)))) λj2=>
  JO.run j2 (aMl v1)
noncomputable def g40:Sw tG:=⟨[.pt 118],.one (.st 2026),kL⟩
theorem s40:Sjk 40 g40:=sgy [(86,.w g86),(57,.w g57),(47,.r g47),(90,.r g90)] ⟨s86,s57,s47,s90,trivial⟩ (.s .o (.s .o (.j ⟨[2,3],[0],[(.c 3 1,.ro 1038),(.d 0 0,.rb 5),(.d 0 1,.i .i64)]⟩ (.s .o (.c (.s .o (.k (.l ⟨[0,2,3],[],[(.c 0 0,.rb 5),(.c 0 1,.i .i64),(.c 3 1,.ro 1038),(.s 4,.i .i64)]⟩ (.s .o (.j ⟨[0,2,3,4],[],[(.c 0 0,.rb 5),(.c 0 1,.i .i64),(.c 3 1,.ro 1038)]⟩ (.k (.s .o (.k (.l ⟨[0,2,3,4],[],[(.c 0 0,.rb 5),(.c 0 1,.i .i64),(.c 3 1,.ro 1038),(.s 5,.i .i64)]⟩ (.s .o (.j ⟨[0,2,3,4,5],[],[(.c 0 0,.rb 5),(.c 0 1,.i .i64),(.c 3 1,.ro 1038)]⟩ .o .o)))))) .o))))) .o)) .o))) kr kr kr
theorem aCk{x_r:Dl20Rd}{R_:Dl20Rd×DHost}(hh:kL x_r=some R_):Inl Tryz.prog 40 [.ptr 0 [] 0] [(0,some (rB118 x_r))] 1 (.agg [.sref 1 [] 0 (List.length R_.2.Words) 1,.sref 2 [] 0 (List.length R_.2.Guests) 17]) [(2,some (rO38 R_.2.Guests)),(1,some (rI_3 R_.2.Words)),(0,some ⟨118,[bo (eI .u8) R_.1.b,.int .i64 R_.1.p]⟩)] 3:=kc (s40 x_r R_ hh)
theorem aTx:LW 56 ⟨31,[.tmp 4],.seq (.reg false (rg 56 0)) (.seq (.reg false (rg 56 1)) (.seq (.seq (.reg false (rg 56 2)) (.cond (.t 25) (.reg false (rg 56 3)) .skip)) (.seq (.reg false (rg 56 4)) .ret)))⟩:=kr
noncomputable def uO (x_h:DHost)(s2:(List Int)×Int×Int):Option (Dl20Rd×(List Int)×(List DGuest)×Int):=
 Option.bind (aA (Dl20Rd.mk s2.1 s2.2.1) (25:Int)) λv3=>
 some (v3.1,x_h.Words,x_h.Guests,w64 (s2.2.2-(w64 (Int.tdiv v3.2 (24:Int)))))
noncomputable def zZ (x_r:Dl20Rd)(x_h:DHost):Option (Dl20Rd×(List Int)×(List DGuest)×Int):=
 Option.bind (aA x_r (3:Int)) λv1=>
 Option.bind (cond (decide (((List.length x_h.Guests:Nat):Int)=(3:Int)))
  (grd ((0:Int)<=v1.2/\v1.2<((List.length x_h.Guests:Nat):Int)) (cond (!(List.getD x_h.Guests (Int.toNat v1.2) default).Live)
   (Option.bind (aA v1.1 (6:Int)) λv4=>
   cond (decide ((0:Int)<v4.2))
    (some (.go (v4.1.b,v4.1.p,(0:Int))))
    (some (.go (v4.1.b,v4.1.p,v1.2))))
   (some (.go (v1.1.b,v1.1.p,v1.2)))))
  (some (.go (v1.1.b,v1.1.p,v1.2)))) λj2=>
  JO.run j2 (uO x_h)
theorem aVw{x_r:Dl20Rd}{x_h:DHost}{R_:Dl20Rd×(List Int)×(List DGuest)×Int}(hh:zZ x_r x_h=some R_):Inl Tryz.prog 56 [pp 0,.agg [.sref 1 [] 0 (List.length x_h.Words) 1,.sref 2 [] 0 (List.length x_h.Guests) 17]] [(2,some (rO38 x_h.Guests)),(1,some (rI_3 x_h.Words)),(0,some (rB118 x_r))] 3 (.int .i64 R_.2.2.2) [(0,some ⟨118,[bo (eI .u8) R_.1.b,.int .i64 R_.1.p]⟩),(1,some (rI_3 R_.2.1)),(2,some (rO38 R_.2.2.1))] 3:=by let z2:=(0,pp 0);let z3:EH:=(0,some (rB118 x_r));let z4:=(10,ii ((List.length x_h.Guests:Nat):Int));let z5:EV:=(9,.sref 2 [] 0 (List.length x_h.Guests) 17);unfold zZ at hh;let q1:Root:=(rI_3 x_h.Words);let z6:=(1,some q1);let q2:Root:=(rO38 x_h.Guests);let z7:=(2,some q2);refine Inl.start aTx [0,1] [0,1,2] (E:=sp 31 [z2,(1,.agg [sw 1 x_h.Words,.sref 2 [] 0 (List.length x_h.Guests) 17])]) (H1:=[z3,z6,z7]) kr kr (Aw.sreg [0,3] [0,1,2,3] ?_);let q3:Root:=⟨26,[sw 1 x_h.Words,.sref 2 [] 0 (List.length x_h.Guests) 17]⟩;let z8:=(3,some q3);refine yt (sp 31 [z2,(3,pp 3)]) [z3,z6,z7,z8] 4 (Aw.sreg [0,3,5] [0,1,2,3] (yu 1 [(6,pp 0)] [z3,z6,z7,z8] 4 ?_));obtain⟨v1,hv1,hh⟩:=bind_some hh;let z9:EH:=(0,some (rB118 v1.1));let z10:=(5,ii v1.2);let z1:=List.getD x_h.Guests (Int.toNat v1.2) default;refine ys (.call 57 [.t 6,.c (ii 3)]) (some 7) (cf (ii v1.2) [z9] 4 [0] (iZ hv1) [pp 0,ii 3] rz (hq (rB118 x_r) (aG (cV _)) aR) rT (hq (rB118 v1.1) (aG (cV _)) aR) ?_);refine yt (sp 31 [z2,(3,pp 3),z10]) [z9,z6,z7,z8] 4 ?_;obtain⟨j2,hh,hk2⟩:=bind_some hh;refine Aw.join (S:=(List Int)×Int×Int) (λs2=>sp 31 [(0,pp 0),(5,ii s2.2.2)]) (λs2=>[(0,some ⟨118,[bo (eI .u8) s2.1,ii s2.2.1]⟩),(1,some (rI_3 x_h.Words)),(2,some (rO38 x_h.Guests))]) 3 (λs2=>uO x_h s2=some R_) ?_ ?_;{intro s2 hh;unfold uO at hh;refine Aw.sreg [4] [0,1,2] ?_;let q4:Root:=⟨118,[bo (eI .u8) s2.1,ii s2.2.1]⟩;refine yj 2  (sp 31 [z2,(5,ii s2.2.2),(26,ii s2.2.2),(27,pp 0)]) [(0,some q4),z6,z7] 3 ?_;obtain⟨v3,hv3,hh⟩:=bind_some hh;refine ys (.call 57 [.t 27,.c (ii 25)]) (some 28) (cf (ii v3.2) [(0,some (rB118 v3.1))] 3 [0] (iZ hv3) [pp 0,ii 25] rz (hq q4 rz aR) rT (hq (rB118 v3.1) (aG (cV _)) aR) ?_);refine ytc [(24:Int)≠0] (sp 31 [(4,ii (w64 (s2.2.2-(w64 (Int.tdiv v3.2 (24:Int))))))]) [(0,some (rB118 v3.1)),z6,z7] 3 (.cons dd .nil) (Aw.ret ?_);rw[aP hh];exact iH (r':=ii (w64 (s2.2.2-(w64 (Int.tdiv v3.2 (24:Int)))))) kr (el [some 0,some 1,some 2] (sZ rT) (hq (rB118 v3.1) (aG (cV _)) (hn aY (hn cH aR))))};intro Q2 hN2 hR2 hE2;refine Aw.sreg [0,5,25] [0,1,2] (yj 5  (sp 31 [z2,(3,pp 3),z10,(8,.ptr 3 [] 1),z5,z4,(11,bb (decide (((List.length x_h.Guests:Nat):Int)=(3:Int)))),(12,bb (decide (((List.length x_h.Guests:Nat):Int)=(3:Int))))]) [z9,z6,z7,z8] 4 ?_);rcases jB hh with⟨hb,hh⟩|⟨hb,hh⟩;{refine yb 11 hb (yb 12 hb (yt (sp 31 [z2,z10,(25,bb false)]) [z9,z6,z7] 4 (cF rfl (Aw.skip ?_))));obtain rfl:=aP hh;exact hN2 (v1.1.b,v1.1.p,v1.2) _ _ _ hk2 (el [some 0,some 1,some 2] (eE kr (rp 0 (ri mL))) (hq (rB118 v1.1) rz (hn aY (hn cH aR))))};refine yb 11 hb (yb 12 hb ?_);obtain⟨hg6,hh⟩:=aL hh;refine yjc 5 [(0:Int)<=v1.2/\v1.2<((List.length x_h.Guests:Nat):Int)] (sp 31 [z2,(3,pp 3),z10,(8,.ptr 3 [] 1),z5,z4,(11,bb true),(12,bb true),(13,.ptr 3 [] 1),(14,.sref 2 [] 0 (List.length x_h.Guests) 17),(15,ii v1.2),(16,.ptr 2 [] (0+(Int.toNat v1.2)*17)),(17,.ptr 2 [] (0+(Int.toNat v1.2)*17+0))]) [z9,z6,z7,z8] 4 (.cons hg6 .nil) (yg (.load false 1 (.t 17)) (some 18) 12 true (oR (c:=bK) (xs:=x_h.Guests) (e:=38) (r:=2) (π:=[]) (o:=0+(Int.toNat v1.2)*17+0) (i:=(Int.toNat v1.2)) (off:=0) (v:=bb z1.Live) aZ kr kr ltn ltn dd kr ?_));refine yu 3 [(18,bb z1.Live),(19,bb (!z1.Live)),(20,bb (!z1.Live)),(21,bb (!z1.Live))] [z9,z6,z7,z8] 4 ?_;rcases jB hh with⟨hb,hh⟩|⟨hb,hh⟩;{refine yb 19 hb (yb 20 hb (yb 21 hb (yt (sp 31 [z2,z10,(25,bb false)]) [z9,z6,z7] 4 (cF rfl (Aw.skip ?_)))));obtain rfl:=aP hh;exact hN2 (v1.1.b,v1.1.p,v1.2) _ _ _ hk2 (el [some 0,some 1,some 2] (eE kr (rp 0 (ri mL))) (hq (rB118 v1.1) rz (hn aY (hn cH aR))))};refine yb 19 hb (yb 20 hb (yb 21 hb (yu 1 [(19,bb true),(20,bb true),(21,bb true),(22,pp 0)] [z9,z6,z7,z8] 4 ?_)));obtain⟨v4,hv4,hh⟩:=bind_some hh;let z11:EH:=(0,some (rB118 v4.1));let z12:=(25,bb (decide ((0:Int)<v4.2)));refine yg (.call 57 [.t 22,.c (ii 6)]) (some 23) 21 true (cf (ii v4.2) [z11] 4 [0] (iZ hv4) [pp 0,ii 6] rz (hq (rB118 v1.1) (aG (cV _)) aR) rT (hq (rB118 v4.1) (aG (cV _)) aR) ?_);refine yt (sp 31 [z2,z10,z12]) [z11,z6,z7] 4 ?_;rcases jB hh with⟨hb,hh⟩|⟨hb,hh⟩;{refine cF hb (Aw.skip ?_);obtain rfl:=aP hh;exact hN2 (v4.1.b,v4.1.p,v1.2) _ _ _ hk2 (el [some 0,some 1,some 2] (eE kr (rp 0 (ri mL))) (hq (rB118 v4.1) rz (hn aY (hn cH aR))))};refine cT hb (Aw.oreg (ye (sp 31 [z2,(5,ii 0),z12]) [z11,z6,z7] 4 ?_));obtain rfl:=aP hh;exact hN2 (v4.1.b,v4.1.p,(0:Int)) _ _ _ hk2 (el [some 0,some 1,some 2] (eE kr (rp 0 (ri mL))) (hq (rB118 v4.1) rz (hn aY (hn cH aR))))
theorem aEi:LW 19 ⟨55,[.cell 2 true 2,.tmp 3],.seq (.reg false (rg 19 0)) (.seq (.reg false (rg 19 1)) (.seq (.reg false (rg 19 2)) (.seq (.reg false (rg 19 3)) (.seq (.seq (.reg false (rg 19 4)) (.cond (.t 23) (.seq (.regd (rg 19 5) (rg 19 6)) (.seq (.reg false (rg 19 7)) (.cond (.t 45) (.regd (rg 19 8) (rg 19 9)) .skip))) .skip)) (.seq (.reg false (rg 19 10)) .ret)))))⟩:=kr
noncomputable def mN (v3:Dl20Rd×(List Int)×(List DGuest)×Int)(s4:List Int):Option (DHost×Int):=some ((DHost.mk s4 v3.2.2.1),v3.2.2.2)
noncomputable def oV (x_code:List Int):Option (DHost×Int):=
 Option.bind (kM x_code) λv1=>
 Option.bind (kL v1) λv2=>
 Option.bind (zZ v2.1 v2.2) λv3=>
 grd (List.length v3.2.1=(List.length v2.2.Words)) (grd (List.length v3.2.2.1=(List.length v2.2.Guests)) (Option.bind (Option.bind (aA v3.1 (2:Int)) λv5=>
  cond (decide (v5.2=(0:Int)))
   (Option.bind (eS (DHost.mk v3.2.1 v3.2.2.1) v3.2.2.2) λv6=>
   cond v6
    (grd ((0:Int)<=v3.2.2.2/\v3.2.2.2<((List.length v2.2.Guests:Nat):Int)) (grd ((0:Int)<=v3.2.2.2/\v3.2.2.2<((List.length v2.2.Guests:Nat):Int)) (Option.bind (sT (DHost.mk v3.2.1 v3.2.2.1) v3.2.2.2 ((List.getD v3.2.2.1 (Int.toNat v3.2.2.2) default).C).Pc ((List.getD v3.2.2.1 (Int.toNat v3.2.2.2) default).C).User false) λv7=>
     cond (decide (v7.2=(0:Int)))
      (Option.bind (lM v5.1 (0:Int)) λv8=>
      Option.bind (kG v8.2) λv9=>
      grd ((0:Int)<=v7.1/\v7.1<((List.length v2.2.Words:Nat):Int)) (some (.go (List.set v3.2.1 (Int.toNat v7.1) v9))))
      (some (.go v3.2.1)))))
    (some (.go v3.2.1)))
   (some (.go v3.2.1))) λj4=>
  JO.run j4 (mN v3)))
theorem aGv{x_code:List Int}{R_:DHost×Int}(hh:oV x_code=some R_):Fn Tryz.prog 19 [bo (eI .u8) x_code] (.tup [.agg [.own 3 1 (List.length R_.1.Words) (fl (eI .i64) R_.1.Words),.own 38 17 (List.length R_.1.Guests) (fl bK R_.1.Guests)],.int .i64 R_.2]):=by let z3:EH:=(0,some ⟨26,[.nil,.nil]⟩);let z4:=(2,pp 0);let z5:=(4,pp 1);let z6:=(5,pp 4);unfold oV at hh;refine Fn.start aEi [0] (E:=sp 55 [(0,bo (eI .u8) x_code)]) kr (v:= .tup [.agg [sw 0 R_.1.Words,.sref 1 [] 0 (List.length R_.1.Guests) 17],ii R_.2]) (Hr:=[(1,some (rO38 R_.1.Guests)),(0,some (rI_3 R_.1.Words))]) (k:=2) kr (sy [0,2] [0] (sp 55 [(0,bo (eI .u8) x_code),z4]) [z3] 1 (Aw.sreg [2,4] [0,1] (yu 1 [(9,bo (eI .u8) x_code)] [z3] 1 ?_)));obtain⟨v1,hv1,hh⟩:=bind_some hh;let z7:EH:=(1,some (rB118 v1));refine ys (.call 39 [.t 9]) (some 10) (cf (pp 1) [z7] 2 [] (aBx hv1) [bo (eI .u8) x_code] rz aR (aCn dd rfl) (hq (rB118 v1) (aG (cV _)) aR) ?_);refine yt (sp 55 [z4,z5]) [z3,z7] 2 (Aw.sreg [2,4,5] [0,1,2,3,4] (yu 1 [(11,pp 1)] [z3,z7] 2 ?_));obtain⟨v2,hv2,hh⟩:=bind_some hh;let z8:EH:=(1,some (rB118 v2.1));let z9:EV:=(25,.agg [sw 2 v2.2.Words,.sref 3 [] 0 (List.length v2.2.Guests) 17]);let z10:EV:=(28,.sref 3 [] 0 (List.length v2.2.Guests) 17);let z11:EV:=(35,.sref 3 [] 0 (List.length v2.2.Guests) 17);let z12:=(47,sw 2 v2.2.Words);let q1:Root:=(rO38 v2.2.Guests);let q2:Root:=(rI_3 v2.2.Words);refine ys (.call 40 [.t 11]) (some 12) (cf (.agg [sw 2 v2.2.Words,.sref 3 [] 0 (List.length v2.2.Guests) 17]) [(3,some q1),(2,some q2),z8] 4 [1] (aCk hv2) [pp 1] rz (hq (rB118 v1) (aG (cV _)) aR) (eY rz) (hn cH (hn aY (hq (rB118 v2.1) (aG (cV _)) aR))) ?_);let q3:Root:=⟨26,[sw 2 v2.2.Words,.sref 3 [] 0 (List.length v2.2.Guests) 17]⟩;let z13:=(4,some q3);refine yt (sp 55 [z4,z5,z6]) [z3,z8,(2,some q2),(3,some q1),z13] 5 (Aw.sreg [2,4,5,6] [0,1,2,3,4] (yu 2 [(13,pp 1),(14,.agg [sw 2 v2.2.Words,.sref 3 [] 0 (List.length v2.2.Guests) 17])] [z3,z8,(2,some q2),(3,some q1),z13] 5 ?_));obtain⟨v3,hv3,hh⟩:=bind_some hh;let z14:EH:=(1,some (rB118 v3.1));let z15:=(26,ii v3.2.2.2);let z16:=(29,ii v3.2.2.2);let z17:EH:=(3,some (rO38 v3.2.2.1));let z18:EV:=(30,.ptr 3 [] (0+(Int.toNat v3.2.2.2)*17));let z19:EV:=(31,.ptr 3 [] (0+(Int.toNat v3.2.2.2)*17+1));let z20:EV:=(32,.ptr 3 [] (0+(Int.toNat v3.2.2.2)*17+1+1));let z21:EV:=(37,.ptr 3 [] (0+(Int.toNat v3.2.2.2)*17));let z22:EV:=(38,.ptr 3 [] (0+(Int.toNat v3.2.2.2)*17+1));let z23:EV:=(39,.ptr 3 [] (0+(Int.toNat v3.2.2.2)*17+1+10));let z24:=(6,ii v3.2.2.2);let z1:=List.getD v3.2.2.1 (Int.toNat v3.2.2.2) default;obtain⟨hg3,hh⟩:=aL hh;obtain⟨hg4,hh⟩:=aL hh;let q4:Root:=(rI_3 v3.2.1);let z25:=(2,some q4);refine ys (.call 56 [.t 13,.t 14]) (some 15) (cf (ii v3.2.2.2) [z14,z25,z17] 5 [1,2,3] (aVw hv3) [pp 1,.agg [sw 2 v2.2.Words,.sref 3 [] 0 (List.length v2.2.Guests) 17]] rz (hn cH (hn aY (hq (rB118 v2.1) (aG (cV _)) aR))) rT (hq (rB118 v3.1) (aG (cV _)) (hn aY (hn cH aR))) ?_);refine yt (sp 55 [z4,z5,z6,z24]) [z3,z14,z25,z17,z13] 5 ?_;obtain⟨j4,hh,hk4⟩:=bind_some hh;refine Aw.join (S:=(List Int)) (λs4=>sp 55 [(2,pp 0),(5,pp 1),(6,ii v3.2.2.2)]) (λs4=>[(0,some ⟨26,[.nil,.nil]⟩),(1,some ⟨26,[sw 2 s4,.sref 3 [] 0 (List.length v2.2.Guests) 17]⟩),(2,some (rI_3 s4)),(3,some (rO38 v3.2.2.1))]) 4 (λs4=>mN v3 s4=some R_) ?_ ?_;{intro s4 hh;unfold mN at hh;refine sy [2,3] [0,2,3] (sp 55 [z4,(3,ii v3.2.2.2)]) [(0,some ⟨26,[sw 2 s4,.sref 3 [] 0 (List.length v2.2.Guests) 17]⟩),(2,some (rI_3 s4)),z17] 4 (Aw.ret ?_);rw[aP hh];exact iH (r':= .tup [.agg [sw 2 s4,.sref 3 [] 0 (List.length v2.2.Guests) 17],ii v3.2.2.2]) kr (Ent.list [some 2,some 3] rfl rfl (Nat.zero_le _) (sZ (rQ rz)) (hn cH (hn aY aR)))};intro Q4 hN4 hR4 hE4;refine Aw.sreg [2,4,5,6,23] [0,1,2,3,4] (yj 1  (sp 55 [z4,z5,z6,z24,(16,pp 1)]) [z3,z14,z25,z17,z13] 5 ?_);obtain⟨v5,hv5,hh⟩:=bind_some hh;let z26:EH:=(1,some (rB118 v5.1));refine ys (.call 57 [.t 16,.c (ii 2)]) (some 17) (cf (ii v5.2) [z26] 5 [1] (iZ hv5) [pp 1,ii 2] rz (hq (rB118 v3.1) (aG (cV _)) aR) rT (hq (rB118 v5.1) (aG (cV _)) aR) ?_);refine yu 2 [(17,ii v5.2),(18,bb (decide (v5.2=(0:Int)))),(19,bb (decide (v5.2=(0:Int))))] [z26,(1,none),z3,z14,z25,z17,z13] 5 ?_;rcases jB hh with⟨hb,hh⟩|⟨hb,hh⟩;{refine yb 18 hb (yb 19 hb (yt (sp 55 [z4,z5,z6,z24,(23,bb false)]) [z3,z26,z25,z17,z13] 5 (cF rfl (Aw.skip ?_))));obtain rfl:=aP hh;exact hN4 v3.2.1 _ _ _ hk4 (el [some 0,some 4,some 2,some 3] (eE kr (rp 0 (rp 4 (ri mL)))) (hq ⟨26,[.nil,.nil]⟩ rz (hq q3 rz (hn aY (hn cH aR)))))};refine yb 18 hb (yb 19 hb (yu 2 [(18,bb true),(19,bb true),(20,.agg [sw 2 v2.2.Words,.sref 3 [] 0 (List.length v2.2.Guests) 17]),(21,ii v3.2.2.2)] [z26,(1,none),z3,z14,z25,z17,z13] 5 ?_));obtain⟨v6,hv6,hh⟩:=bind_some hh;refine yg (.call 58 [.t 20,.t 21]) (some 22) 19 true (lP (r:=bb v6) (v:=bb v6) (Hr:=[]) (n':=5) (aEv hv6) (nT (vs:=[.agg [sw 2 v2.2.Words,.sref 3 [] 0 (List.length v2.2.Guests) 17],ii v3.2.2.2]) kr (dJ (iA (aE (cJ (c:=(eI .i64)) (xs:=v3.2.1) (e:=3) eqn bH cE cN kr) (aE (kE (B:=dO) (xs:=v3.2.2.1) (e:=38) kK aZ eqn kr) fT))) (cz1 eK))) rfl rfl kr ?_);refine yt (sp 55 [z4,z5,z6,z24,(23,bb v6)]) [z3,z26,z25,z17,z13] 5 ?_;rcases jB hh with⟨hb,hh⟩|⟨hb,hh⟩;{refine cF hb (Aw.skip ?_);obtain rfl:=aP hh;exact hN4 v3.2.1 _ _ _ hk4 (el [some 0,some 4,some 2,some 3] (eE kr (rp 0 (rp 4 (ri mL)))) (hq ⟨26,[.nil,.nil]⟩ rz (hq q3 rz (hn aY (hn cH aR)))))};refine cT hb (Aw.sregd [2,4,5,6,7,8] [0,1,2,3,4] [] kr ?_);obtain⟨hg22,hh⟩:=aL hh;refine dc (cs:=[(0:Int)<=v3.2.2.2/\v3.2.2.2<((List.length v2.2.Guests:Nat):Int)]) (E':=(sp 55 [z4,z5,z6,z24,(23,bb v6),z9,z15,(27,.ptr 4 [] 1),z10,z16,z18,z19,z20])) (H':=[z3,z26,z25,z17,z13]) (n':=5) (fs':=none) (pre:=(List.take 8 (rg 19 5))) (L':=(List.drop 8 (rg 19 5))) kr (λK=>by kernel_rfl) (.cons hg22 .nil) (ds (.load false 1 (.t 32)) (some 33) (bQo rfl kr (oR (c:=bK) (xs:=v3.2.2.1) (e:=38) (r:=3) (π:=[]) (o:=0+(Int.toNat v3.2.2.2)*17+1+1) (i:=(Int.toNat v3.2.2.2)) (off:=2) (v:=ii (z1.C).Pc) aZ kr kr ltn ltn dd kr ?_)));obtain⟨hg21,hh⟩:=aL hh;refine dc (cs:=[(0:Int)<=v3.2.2.2/\v3.2.2.2<((List.length v2.2.Guests:Nat):Int)]) (E':=(sp 55 [z4,z5,z6,z24,(23,bb v6),z9,z15,(27,.ptr 4 [] 1),z10,z16,z18,z19,z20,(33,ii (z1.C).Pc),(34,.ptr 4 [] 1),z11,(36,ii v3.2.2.2),z21,z22,z23])) (H':=[z3,z26,z25,z17,z13]) (n':=5) (fs':=none) (pre:=(List.take 6 (List.drop 9 (rg 19 5)))) (L':=(List.drop 15 (rg 19 5))) kr (λK=>by kernel_rfl) (.cons hg21 .nil) (ds (.load false 1 (.t 39)) (some 40) (bQo rfl kr (oR (c:=bK) (xs:=v3.2.2.1) (e:=38) (r:=3) (π:=[]) (o:=0+(Int.toNat v3.2.2.2)*17+1+10) (i:=(Int.toNat v3.2.2.2)) (off:=11) (v:=bb (z1.C).User) aZ kr kr ltn ltn dd kr ?_)));obtain⟨v7,hv7,hh⟩:=bind_some hh;let z27:=(45,bb (decide (v7.2=(0:Int))));let z28:EV:=(52,.ptr 2 [] (0+(Int.toNat v7.1)*1));let z29:=(7,ii v7.1);refine ds (.call 59 [.t 25,.t 26,.t 33,.t 40,.c (bb false)]) (some 41) (wI rfl (lP (r:= .tup [ii v7.1,ii v7.2]) (v:= .tup [ii v7.1,ii v7.2]) (Hr:=[]) (n':=5) (aJg hv7) (nT (vs:=[.agg [sw 2 v2.2.Words,.sref 3 [] 0 (List.length v2.2.Guests) 17],ii v3.2.2.2,ii (z1.C).Pc,bb (z1.C).User,bb false]) kr (dJ (iA (aE (cJ (c:=(eI .i64)) (xs:=v3.2.1) (e:=3) eqn bH cE cN kr) (aE (kE (B:=dO) (xs:=v3.2.2.1) (e:=38) kK aZ eqn kr) fT))) (cz1 (cz1 (cz1 (cz1 eK)))))) rfl rfl kr ⟨⟨⟨by decide,aNo (n:=5) (n0:=5) (r:= .tup [ii v7.1,ii v7.2]) (v:= .tup [ii v7.1,ii v7.2]) (Hr:=[]) (n':=5) kr dd⟩,Hld.un ?_⟩⟩));refine dt (sp 55 [z4,z5,z6,z24,z29,(23,bb v6),(24,.tup [ii v7.1,ii v7.2]),z9,z15,(27,.ptr 4 [] 1),z10,z16,z18,z19,z20,(33,ii (z1.C).Pc),(34,.ptr 4 [] 1),z11,(36,ii v3.2.2.2),z21,z22,z23,(40,bb (z1.C).User),(41,.tup [ii v7.1,ii v7.2]),(42,ii v7.1),(43,ii v7.2)]) [z3,z26,z25,z17,z13] 5 (yt (sp 55 [z4,z5,z6,z24,z29,(8,ii v7.2)]) [z3,z26,z25,z17,z13] 5 (sy [2,4,5,6,7,45] [0,1,2,3,4] (sp 55 [z4,z5,z6,z24,z29,z27]) [z3,z26,z25,z17,z13] 5 ?_));rcases jB hh with⟨hb,hh⟩|⟨hb,hh⟩;{refine cF hb (Aw.skip ?_);obtain rfl:=aP hh;exact hN4 v3.2.1 _ _ _ hk4 (el [some 0,some 4,some 2,some 3] (eE kr (rp 0 (rp 4 (ri mL)))) (hq ⟨26,[.nil,.nil]⟩ rz (hq q3 rz (hn aY (hn cH aR)))))};refine cT hb (Aw.oregd [1] kr (dj 4 (sp 55 [z4,z5,z6,z24,z29,z27,(46,pp 4),z12,(48,ii v7.1),(49,pp 1)]) [z3,z26,z25,z17,z13] 5 ?_));obtain⟨v8,hv8,hh⟩:=bind_some hh;let z30:EH:=(1,some (rB118 v8.1));let z31:EV:=(50,.agg (dX v8.2));refine ds (.call 61 [.t 49,.c (ii 0)]) (some 50) (wI rfl (cf (.agg (dX v8.2)) [z30] 5 [1] (aTm hv8) [pp 1,ii 0] rz (hq (rB118 v5.1) (aG (cV _)) aR) (eY (aG (sA _))) (hq (rB118 v8.1) (aG (cV _)) aR) ⟨⟨⟨by decide,nJ rfl rfl⟩,Hld.un ?_⟩⟩));obtain⟨v9,hv9,hh⟩:=bind_some hh;let z2:=List.set v3.2.1 (Int.toNat v7.1) v9;refine ds (.call 60 [.t 50]) (some 51) (wI rfl (lP (r:=ii v9) (v:=ii v9) (Hr:=[]) (n':=5) (aSc hv9) (nT (vs:=[.agg (dX v8.2)]) kr (cz1 eK)) rfl rfl kr ⟨⟨⟨by decide,aNo (n:=5) (n0:=5) (r:=ii v9) (v:=ii v9) (Hr:=[]) (n':=5) kr dd⟩,Hld.un ?_⟩⟩));refine dt (sp 55 [z4,z5,z6,z24,z29,z27,(46,pp 4),z12,(48,ii v7.1),(49,pp 1),z31,(51,ii v9)]) [z30,(1,none),z3,z26,z25,z17,z13] 5 ?_;obtain⟨hg20,hh⟩:=aL hh;refine yjc 1 [(0:Int)<=v7.1/\v7.1<((List.length v2.2.Words:Nat):Int)] (sp 55 [z4,z5,z6,z24,z29,z27,(46,pp 4),z12,(48,ii v7.1),(49,pp 1),z31,(51,ii v9),z28]) [z30,(1,none),z3,z26,z25,z17,z13] 5 (.cons hg20 .nil) ?_;let q5:Root:=(rI_3 z2);refine ys (.store 1 (.t 52) (.t 51)) none (aBn (c:=(eI .i64)) (xs:=v3.2.1) (e:=3) (r:=2) (π:=[]) (o:=0+(Int.toNat v7.1)*1) (i:=(Int.toNat v7.1)) (off:=0) (vs:=[ii v9]) (y:=v9) (H':=[(2,some q5),z30,(1,none),z3,z26,z25,z17,z13]) bH kr kr kr kr ltn ltn dd kr kr ?_);refine ye (sp 55 [z4,z5,z6,z24,z29,z27,(46,pp 4),z12,(48,ii v7.1),(49,pp 1),z31,(51,ii v9),z28]) [(2,some q5),z30,(1,none),z3,z26,z25,z17,z13] 5 ?_;obtain rfl:=aP hh;exact hN4 z2 _ _ _ hk4 (el [some 0,some 4,some 2,some 3] (eE kr (rp 0 (rp 4 (ri mL)))) (hq ⟨26,[.nil,.nil]⟩ rz (hq q3 rz (hn aY (hn cH aR)))))
noncomputable def g19:Sg tG:=⟨[.row 5],.two (.st 2026) (.i .i64),oV⟩
theorem s19:Sok 19 g19:=λx_code R_ hh=>kc (aGv (x_code:=x_code) hh)
end Go.Proofs.YtkjabgefacfpfaaGreat
