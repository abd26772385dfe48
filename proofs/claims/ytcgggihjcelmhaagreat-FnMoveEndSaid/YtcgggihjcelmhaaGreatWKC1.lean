/- Plain functions of the program, and that it hands back what they say. Made by program. -/
import Derived.Test.YtcgggihjcelmhaaGreatWTD
import Derived.Test.YtcgggihjcelmhaaGreatProg
namespace Go.Proofs.YtcgggihjcelmhaaGreat
open Go.RowKit
set_option maxRecDepth 100000
set_option linter.all false
set_option maxHeartbeats 0
noncomputable def fC (x_n:Int):Option Bool:=
 cond (decide ((0:Int)<=x_n))
  (some (decide (x_n<=(4095:Int))))
  (some false)
noncomputable def g55:Sg tG:=⟨[.i .i64],.one .b,fC⟩
theorem s55:Sok 55 g55:=sgx [] trivial .o kr kr kr
noncomputable def aKu  (s1:Unit):Option Bool:=some true
noncomputable def xK (x_list:List Int)(s2:Int):Option (LO Int (JO Unit Bool)):=
 cond (decide (s2<((List.length x_list:Nat):Int)))
  (grd ((0:Int)<=s2/\s2<((List.length x_list:Nat):Int)) (Option.bind (fC (List.getD x_list (Int.toNat s2) default)) λv3=>
   cond (!v3)
    (some (.ret (.out false)))
    (some (.next (w64 (s2+(1:Int)))))))
  (some (.ret (.go ())))
noncomputable def gT (x_list:List Int):Option Bool:=
 Option.bind (Option.bind (iter (xK x_list) (0:Int)) LO.val) λj1=>
  JO.run j1 aKu
noncomputable def g71:Sg tG:=⟨[.row 3],.one .b,gT⟩
theorem s71:Sok 71 g71:=sgx [(55,.r g55)] ⟨s55,trivial⟩ (.s .o (.j ⟨[],[],[]⟩ (.s .o (.k (.l ⟨[5,6],[],[(.s 7,.i .i64)]⟩ .o))) .o)) kr kr kr
noncomputable def cG (x_addr:Int):Option Bool:=
 cond (decide ((0:Int)<=x_addr))
  (some (decide (x_addr<(64:Int))))
  (some false)
noncomputable def bRd:Sg tG:=⟨[.i .i64],.one .b,cG⟩
theorem bVb:Sok 161 bRd:=sgx [] trivial .o kr kr kr
noncomputable def fB (x_page:Int):Option Bool:=
 cond (decide ((0:Int)<=x_page))
  (some (decide (x_page<(8:Int))))
  (some false)
noncomputable def g46:Sg tG:=⟨[.i .i64],.one .b,fB⟩
theorem s46:Sok 46 g46:=sgx [] trivial .o kr kr kr
noncomputable def kQ (x_root:Int):Option Bool:=
 cond (decide (x_root=(-1:Int)))
  (some true)
  (Option.bind (fB x_root) λv1=>
  some v1)
noncomputable def bQg:Sg tG:=⟨[.i .i64],.one .b,kQ⟩
theorem bXf:Sok 162 bQg:=sgx [(46,.r g46)] ⟨s46,trivial⟩ .o kr kr kr
noncomputable def nJ (x_c:DCore):Option Bool:=
 cond (decide (((List.length x_c.Regs:Nat):Int)=(4:Int)))
  (Option.bind (gT x_c.Regs) λv1=>
  Option.bind (cG x_c.Pc) λv2=>
  cond v2
   (Option.bind (cG x_c.Vector) λv3=>
   cond v3
    (Option.bind (cG x_c.Saved) λv4=>
    cond v4
     (Option.bind (cG x_c.Bad) λv5=>
     cond (decide ((0:Int)<=x_c.Cause))
      (cond v1
       (cond v5
        (Option.bind (kQ x_c.Root) λv6=>
        cond v6
         (cond (decide (x_c.Cause<=(4:Int)))
          (Option.bind (fC x_c.Timer) λv7=>
          some v7)
          (some false))
         (some false))
        (some false))
       (some false))
      (cond v1
       (cond v5
        (Option.bind (kQ x_c.Root) λv8=>
        cond v8
         (some false)
         (some false))
        (some false))
       (some false)))
     (cond (decide ((0:Int)<=x_c.Cause))
      (cond v1
       (some false)
       (some false))
      (cond v1
       (some false)
       (some false))))
    (cond (decide ((0:Int)<=x_c.Cause))
     (cond v1
      (some false)
      (some false))
     (cond v1
      (some false)
      (some false))))
   (cond (decide ((0:Int)<=x_c.Cause))
    (cond v1
     (some false)
     (some false))
    (cond v1
     (some false)
     (some false))))
  (Option.bind (cG x_c.Pc) λv9=>
  cond v9
   (Option.bind (cG x_c.Vector) λv10=>
   cond v10
    (Option.bind (cG x_c.Saved) λv11=>
    cond v11
     (Option.bind (cG x_c.Bad) λv12=>
     cond (decide ((0:Int)<=x_c.Cause))
      (some false)
      (some false))
     (cond (decide ((0:Int)<=x_c.Cause))
      (some false)
      (some false)))
    (cond (decide ((0:Int)<=x_c.Cause))
     (some false)
     (some false)))
   (cond (decide ((0:Int)<=x_c.Cause))
    (some false)
    (some false)))
noncomputable def bRr:Sg tG:=⟨[.st 39],.one .b,nJ⟩
theorem bVy:Sok 119 bRr:=sgx [(71,.r g71),(161,.r bRd),(162,.r bQg),(55,.r g55)] ⟨s71,bVb,bXf,s55,trivial⟩ .o kr kr kr
noncomputable def aAa (x_mem:List Int):Option Bool:=
 cond (decide (((List.length x_mem:Nat):Int)=(64:Int)))
  (Option.bind (gT x_mem) λv1=>
  some v1)
  (some false)
noncomputable def bMt:Sg tG:=⟨[.row 3],.one .b,aAa⟩
theorem bXy:Sok 120 bMt:=sgx [(71,.r g71)] ⟨s71,trivial⟩ .o kr kr kr
noncomputable def kB (x_words:List Int):Option Bool:=
 cond (decide (((List.length x_words:Nat):Int)<=(30:Int)))
  (Option.bind (gT x_words) λv1=>
  some v1)
  (some false)
noncomputable def bPs:Sg tG:=⟨[.row 3],.one .b,kB⟩
theorem bZf:Sok 121 bPs:=sgx [(71,.r g71)] ⟨s71,trivial⟩ .o kr kr kr
noncomputable def aFv (x_b:DBare):Option Bool:=
 Option.bind (nJ x_b.C) λv1=>
 cond v1
  (Option.bind (aAa x_b.Mem) λv2=>
  cond v2
   (Option.bind (kB x_b.In) λv3=>
   cond v3
    (Option.bind (kB x_b.Out) λv4=>
    some v4)
    (some false))
   (some false))
  (some false)
noncomputable def g59:Sg tG:=⟨[.st 41],.one .b,aFv⟩
theorem s59:Sok 59 g59:=sgx [(119,.r bRr),(120,.r bMt),(121,.r bPs)] ⟨bVy,bXy,bZf,trivial⟩ .o kr kr kr
noncomputable def bO (x_n:Int)(x_low:Int)(x_high:Int):Option Bool:=
 cond (decide (x_low<=x_n))
  (some (decide (x_n<=x_high)))
  (some false)
noncomputable def g51:Sg tG:=⟨[.i .i64,.i .i64,.i .i64],.one .b,bO⟩
theorem s51:Sok 51 g51:=sgx [] trivial .o kr kr kr
noncomputable def fA (x_n:Int):Option Bool:=
 Option.bind (bO x_n (0:Int) (4095:Int)) λv1=>
 some v1
noncomputable def aTa:Sg tG:=⟨[.i .i64],.one .b,fA⟩
theorem bAh:Sok 158 aTa:=sgx [(51,.r g51)] ⟨s51,trivial⟩ .o kr kr kr
noncomputable def qG (x_list:List Int)(x_most:Int)(s1:Unit):Option Bool:=some (decide (((List.length x_list:Nat):Int)<=x_most))
noncomputable def qN (x_list:List Int)(s2:Int):Option (LO Int (JO Unit Bool)):=
 cond (decide (s2<((List.length x_list:Nat):Int)))
  (grd ((0:Int)<=s2/\s2<((List.length x_list:Nat):Int)) (Option.bind (fA (List.getD x_list (Int.toNat s2) default)) λv3=>
   cond (!v3)
    (some (.ret (.out false)))
    (some (.next (w64 (s2+(1:Int)))))))
  (some (.ret (.go ())))
noncomputable def dN (x_list:List Int)(x_most:Int):Option Bool:=
 Option.bind (Option.bind (iter (qN x_list) (0:Int)) LO.val) λj1=>
  JO.run j1 (qG x_list x_most)
noncomputable def bMr:Sg tG:=⟨[.row 3,.i .i64],.one .b,dN⟩
theorem bYh:Sok 176 bMr:=sgx [(158,.r aTa)] ⟨bAh,trivial⟩ (.s .o (.j ⟨[0,1],[],[]⟩ (.s .o (.k (.l ⟨[0,1],[],[(.s 5,.i .i64)]⟩ .o))) .o)) kr kr kr
noncomputable def zE (x_c:DCore)(s1:Unit):Option Bool:=
 cond (decide (((List.length x_c.Regs:Nat):Int)=(4:Int)))
  (Option.bind (bO x_c.Pc (0:Int) (63:Int)) λv2=>
  cond v2
   (Option.bind (bO x_c.Vector (0:Int) (63:Int)) λv3=>
   cond v3
    (Option.bind (bO x_c.Saved (0:Int) (63:Int)) λv4=>
    cond v4
     (Option.bind (bO x_c.Bad (0:Int) (63:Int)) λv5=>
     cond v5
      (Option.bind (bO x_c.Root (-1:Int) (7:Int)) λv6=>
      cond v6
       (Option.bind (bO x_c.Cause (0:Int) (4:Int)) λv7=>
       cond v7
        (Option.bind (fA x_c.Timer) λv8=>
        some v8)
        (some false))
       (some false))
      (some false))
     (some false))
    (some false))
   (some false))
  (some false)
noncomputable def zY (x_c:DCore)(s9:Int):Option (LO Int (JO Unit Bool)):=
 cond (decide (s9<((List.length x_c.Regs:Nat):Int)))
  (grd ((0:Int)<=s9/\s9<((List.length x_c.Regs:Nat):Int)) (Option.bind (fA (List.getD x_c.Regs (Int.toNat s9) default)) λv10=>
   cond (!v10)
    (some (.ret (.out false)))
    (some (.next (w64 (s9+(1:Int)))))))
  (some (.ret (.go ())))
noncomputable def kI (x_c:DCore):Option Bool:=
 Option.bind (Option.bind (iter (zY x_c) (0:Int)) LO.val) λj1=>
  JO.run j1 (zE x_c)
noncomputable def bOv:Sg tG:=⟨[.st 39],.one .b,kI⟩
theorem bVe:Sok 178 bOv:=sgx [(158,.r aTa),(51,.r g51)] ⟨bAh,s51,trivial⟩ (.s .o (.j ⟨[1],[],[]⟩ (.s .o (.k (.l ⟨[1],[],[(.s 3,.i .i64)]⟩ .o))) .o)) kr kr kr
noncomputable def aAy (x_mem:List Int)(s1:Unit):Option Bool:=some (decide (((List.length x_mem:Nat):Int)=(64:Int)))
noncomputable def aBe (x_mem:List Int)(s2:Int):Option (LO Int (JO Unit Bool)):=
 cond (decide (s2<((List.length x_mem:Nat):Int)))
  (grd ((0:Int)<=s2/\s2<((List.length x_mem:Nat):Int)) (Option.bind (fA (List.getD x_mem (Int.toNat s2) default)) λv3=>
   cond (!v3)
    (some (.ret (.out false)))
    (some (.next (w64 (s2+(1:Int)))))))
  (some (.ret (.go ())))
noncomputable def tF (x_mem:List Int):Option Bool:=
 Option.bind (Option.bind (iter (aBe x_mem) (0:Int)) LO.val) λj1=>
  JO.run j1 (aAy x_mem)
noncomputable def bVt:Sg tG:=⟨[.row 3],.one .b,tF⟩
theorem cCc:Sok 207 bVt:=sgx [(158,.r aTa)] ⟨bAh,trivial⟩ (.s .o (.j ⟨[0],[],[]⟩ (.s .o (.k (.l ⟨[0],[],[(.s 3,.i .i64)]⟩ .o))) .o)) kr kr kr
noncomputable def qU (x_b:DBare):Option Bool:=
 Option.bind (kI x_b.C) λv1=>
 cond v1
  (Option.bind (tF x_b.Mem) λv2=>
  cond v2
   (Option.bind (dN x_b.In (30:Int)) λv3=>
   cond v3
    (Option.bind (dN x_b.Out (30:Int)) λv4=>
    some v4)
    (some false))
   (some false))
  (some false)
noncomputable def bYk:Sg tG:=⟨[.st 41],.one .b,qU⟩
theorem cCw:Sok 175 bYk:=sgx [(178,.r bOv),(207,.r bVt),(176,.r bMr)] ⟨bVe,cCc,bYh,trivial⟩ .o kr kr kr
noncomputable def nV (x_c:DCore):Option Bool:=
 cond (decide (x_c.Pc=(0:Int)))
  (cond (decide (x_c.Root=(0:Int)))
   (cond (decide (x_c.Vector=(0:Int)))
    (cond (decide (x_c.Saved=(0:Int)))
     (cond x_c.SavedUser
      (cond (decide (((List.length x_c.Regs:Nat):Int)=(0:Int)))
       (cond (decide (x_c.Bad=(0:Int)))
        (cond (decide (x_c.Cause=(0:Int)))
         (cond (decide (x_c.Timer=(0:Int)))
          (some false)
          (some false))
         (some false))
        (some false))
       (some false))
      (cond x_c.Waits
       (cond (decide (((List.length x_c.Regs:Nat):Int)=(0:Int)))
        (cond (decide (x_c.Bad=(0:Int)))
         (cond (decide (x_c.Cause=(0:Int)))
          (cond (decide (x_c.Timer=(0:Int)))
           (some false)
           (some false))
          (some false))
         (some false))
        (some false))
       (cond x_c.User
        (cond (decide (((List.length x_c.Regs:Nat):Int)=(0:Int)))
         (cond (decide (x_c.Bad=(0:Int)))
          (cond (decide (x_c.Cause=(0:Int)))
           (cond (decide (x_c.Timer=(0:Int)))
            (some false)
            (some false))
           (some false))
          (some false))
         (some false))
        (cond x_c.On
         (cond (decide (((List.length x_c.Regs:Nat):Int)=(0:Int)))
          (cond (decide (x_c.Bad=(0:Int)))
           (cond (decide (x_c.Cause=(0:Int)))
            (cond (decide (x_c.Timer=(0:Int)))
             (some false)
             (some false))
            (some false))
           (some false))
          (some false))
         (cond (decide (((List.length x_c.Regs:Nat):Int)=(0:Int)))
          (cond (decide (x_c.Bad=(0:Int)))
           (cond (decide (x_c.Cause=(0:Int)))
            (cond (decide (x_c.Timer=(0:Int)))
             (some (!x_c.Stopped))
             (some false))
            (some false))
           (some false))
          (some false))))))
     (cond x_c.SavedUser
      (cond (decide (((List.length x_c.Regs:Nat):Int)=(0:Int)))
       (some false)
       (some false))
      (cond x_c.Waits
       (cond (decide (((List.length x_c.Regs:Nat):Int)=(0:Int)))
        (some false)
        (some false))
       (cond x_c.User
        (cond (decide (((List.length x_c.Regs:Nat):Int)=(0:Int)))
         (some false)
         (some false))
        (cond x_c.On
         (cond (decide (((List.length x_c.Regs:Nat):Int)=(0:Int)))
          (some false)
          (some false))
         (cond (decide (((List.length x_c.Regs:Nat):Int)=(0:Int)))
          (some false)
          (some false)))))))
    (cond x_c.SavedUser
     (cond (decide (((List.length x_c.Regs:Nat):Int)=(0:Int)))
      (some false)
      (some false))
     (cond x_c.Waits
      (cond (decide (((List.length x_c.Regs:Nat):Int)=(0:Int)))
       (some false)
       (some false))
      (cond x_c.User
       (cond (decide (((List.length x_c.Regs:Nat):Int)=(0:Int)))
        (some false)
        (some false))
       (cond x_c.On
        (cond (decide (((List.length x_c.Regs:Nat):Int)=(0:Int)))
         (some false)
         (some false))
        (cond (decide (((List.length x_c.Regs:Nat):Int)=(0:Int)))
         (some false)
         (some false)))))))
   (cond x_c.SavedUser
    (cond (decide (((List.length x_c.Regs:Nat):Int)=(0:Int)))
     (some false)
     (some false))
    (cond x_c.Waits
     (cond (decide (((List.length x_c.Regs:Nat):Int)=(0:Int)))
      (some false)
      (some false))
     (cond x_c.User
      (cond (decide (((List.length x_c.Regs:Nat):Int)=(0:Int)))
       (some false)
       (some false))
      (cond x_c.On
       (cond (decide (((List.length x_c.Regs:Nat):Int)=(0:Int)))
        (some false)
        (some false))
       (cond (decide (((List.length x_c.Regs:Nat):Int)=(0:Int)))
        (some false)
        (some false)))))))
  (cond x_c.SavedUser
   (cond (decide (((List.length x_c.Regs:Nat):Int)=(0:Int)))
    (some false)
    (some false))
   (cond x_c.Waits
    (cond (decide (((List.length x_c.Regs:Nat):Int)=(0:Int)))
     (some false)
     (some false))
    (cond x_c.User
     (cond (decide (((List.length x_c.Regs:Nat):Int)=(0:Int)))
      (some false)
      (some false))
     (cond x_c.On
      (cond (decide (((List.length x_c.Regs:Nat):Int)=(0:Int)))
       (some false)
       (some false))
      (cond (decide (((List.length x_c.Regs:Nat):Int)=(0:Int)))
       (some false)
       (some false))))))
noncomputable def bWp:Sg tG:=⟨[.st 39],.one .b,nV⟩
theorem cDl:Sok 202 bWp:=sgx [] trivial .o kr kr kr
noncomputable def lN (x_guest:DGuest):Option Bool:=
 Option.bind (nV x_guest.C) λv1=>
 cond v1
  (cond (decide (((List.length x_guest.Pages:Nat):Int)=(0:Int)))
   (cond (decide (((List.length x_guest.In:Nat):Int)=(0:Int)))
    (some (decide (((List.length x_guest.Out:Nat):Int)=(0:Int))))
    (some false))
   (some false))
  (some false)
noncomputable def bYw:Sg tG:=⟨[.st 94],.one .b,lN⟩
theorem cCh:Sok 170 bYw:=sgx [(202,.r bWp)] ⟨cDl,trivial⟩ .o kr kr kr
noncomputable def qT (x_s:DSlot):Option Bool:=
 cond (decide (x_s.Frame=(-1:Int)))
  (cond (!x_s.Write)
   (some (!x_s.Dirty))
   (some false))
  (cond (decide ((0:Int)<=x_s.Frame))
   (some (decide (x_s.Frame<(20:Int))))
   (some false))
noncomputable def bXn:Sg tG:=⟨[.st 91],.one .b,qT⟩
theorem cCp:Sok 203 bXn:=sgx [] trivial .o kr kr kr
noncomputable def aKs  (s1:Unit):Option Bool:=some true
noncomputable def xS (x_pages:List DSlot)(s2:Int):Option (LO Int (JO Unit Bool)):=
 cond (decide (s2<((List.length x_pages:Nat):Int)))
  (grd ((0:Int)<=s2/\s2<((List.length x_pages:Nat):Int)) (Option.bind (qT (DSlot.mk (List.getD x_pages (Int.toNat s2) default).Frame (List.getD x_pages (Int.toNat s2) default).Write (List.getD x_pages (Int.toNat s2) default).Dirty)) λv3=>
   cond (!v3)
    (some (.ret (.out false)))
    (some (.next (w64 (s2+(1:Int)))))))
  (some (.ret (.go ())))
noncomputable def pV (x_pages:List DSlot):Option Bool:=
 cond (!decide (((List.length x_pages:Nat):Int)=(8:Int)))
  (some false)
  (Option.bind (Option.bind (iter (xS x_pages) (0:Int)) LO.val) λj1=>
   JO.run j1 aKs)
noncomputable def bXc:Sg tG:=⟨[.row 91],.one .b,pV⟩
theorem cCn:Sok 171 bXc:=sgx [(203,.r bXn)] ⟨cCp,trivial⟩ (.s .o (.s .o (.j ⟨[],[],[]⟩ (.s .o (.k (.l ⟨[8,9],[],[(.s 10,.i .i64)]⟩ .o))) .o))) kr kr kr
noncomputable def mE (x_guest:DGuest):Option Bool:=
 cond (!x_guest.Live)
  (Option.bind (lN x_guest) λv1=>
  some v1)
  (Option.bind (nJ x_guest.C) λv2=>
  cond v2
   (Option.bind (pV x_guest.Pages) λv3=>
   cond v3
    (Option.bind (kB x_guest.In) λv4=>
    cond v4
     (Option.bind (kB x_guest.Out) λv5=>
     some v5)
     (some false))
    (some false))
   (some false))
noncomputable def bVs:Sg tG:=⟨[.st 94],.one .b,mE⟩
theorem cDc:Sok 133 bVs:=sgx [(170,.r bYw),(119,.r bRr),(171,.r bXc),(121,.r bPs)] ⟨cCh,bVy,cCn,bZf,trivial⟩ .o kr kr kr
noncomputable def aHg  (s1:Unit):Option Bool:=some true
noncomputable def kT (x_guests:List DGuest)(s2:Int):Option (LO Int (JO Unit Bool)):=
 cond (decide (s2<((List.length x_guests:Nat):Int)))
  (grd ((0:Int)<=s2/\s2<((List.length x_guests:Nat):Int)) (Option.bind (mE (DGuest.mk (List.getD x_guests (Int.toNat s2) default).Live (DCore.mk ((List.getD x_guests (Int.toNat s2) default).C).Regs ((List.getD x_guests (Int.toNat s2) default).C).Pc ((List.getD x_guests (Int.toNat s2) default).C).Root ((List.getD x_guests (Int.toNat s2) default).C).Vector ((List.getD x_guests (Int.toNat s2) default).C).Saved ((List.getD x_guests (Int.toNat s2) default).C).SavedUser ((List.getD x_guests (Int.toNat s2) default).C).Cause ((List.getD x_guests (Int.toNat s2) default).C).Bad ((List.getD x_guests (Int.toNat s2) default).C).Timer ((List.getD x_guests (Int.toNat s2) default).C).Waits ((List.getD x_guests (Int.toNat s2) default).C).User ((List.getD x_guests (Int.toNat s2) default).C).On ((List.getD x_guests (Int.toNat s2) default).C).Stopped) (List.getD x_guests (Int.toNat s2) default).Pages (List.getD x_guests (Int.toNat s2) default).In (List.getD x_guests (Int.toNat s2) default).Out)) λv3=>
   cond (!v3)
    (some (.ret (.out false)))
    (some (.next (w64 (s2+(1:Int)))))))
  (some (.ret (.go ())))
noncomputable def oC (x_guests:List DGuest):Option Bool:=
 cond (!decide (((List.length x_guests:Nat):Int)=(3:Int)))
  (some false)
  (Option.bind (Option.bind (iter (kT x_guests) (0:Int)) LO.val) λj1=>
   JO.run j1 aHg)
noncomputable def g72:Sg tG:=⟨[.row 94],.one .b,oC⟩
theorem s72:Sok 72 g72:=sgx [(133,.r bVs)] ⟨cDc,trivial⟩ (.s .o (.s .o (.j ⟨[],[],[]⟩ (.s .o (.k (.l ⟨[8,9],[],[(.s 10,.i .i64)]⟩ .o))) .o))) kr kr kr
noncomputable def sD  (s1:List Int):Option (List Int):=some s1
noncomputable def sU (s2:(List Int)×Int)(s3:List Int):Option (LO ((List Int)×Int) (JO (List Int) (List Int))):=some (.next (s3,w64 (s2.2+(1:Int))))
noncomputable def sF (s4:(List Int)×Int)(s5:List Int):Option (LO ((List Int)×Int) (JO (List Int) (LO ((List Int)×Int) (JO (List Int) (List Int))))):=some (.next (s5,w64 (s4.2+(1:Int))))
noncomputable def fK (x_guests:List DGuest)(s2:(List Int)×Int)(s4:(List Int)×Int):Option (LO ((List Int)×Int) (JO (List Int) (LO ((List Int)×Int) (JO (List Int) (List Int))))):=
 cond (decide (s4.2<((List.length (List.getD x_guests (Int.toNat s2.2) default).Pages:Nat):Int)))
  (Option.bind (grd ((0:Int)<=s4.2/\s4.2<((List.length (List.getD x_guests (Int.toNat s2.2) default).Pages:Nat):Int)) (cond (!decide ((List.getD (List.getD x_guests (Int.toNat s2.2) default).Pages (Int.toNat s4.2) default).Frame=(-1:Int)))
   (grd ((0:Int)<=(List.getD (List.getD x_guests (Int.toNat s2.2) default).Pages (Int.toNat s4.2) default).Frame/\(List.getD (List.getD x_guests (Int.toNat s2.2) default).Pages (Int.toNat s4.2) default).Frame<((List.length s4.1:Nat):Int)) (grd ((0:Int)<=(List.getD (List.getD x_guests (Int.toNat s2.2) default).Pages (Int.toNat s4.2) default).Frame/\(List.getD (List.getD x_guests (Int.toNat s2.2) default).Pages (Int.toNat s4.2) default).Frame<((List.length s4.1:Nat):Int)) (some (.go (List.set s4.1 (Int.toNat (List.getD (List.getD x_guests (Int.toNat s2.2) default).Pages (Int.toNat s4.2) default).Frame) (w64 ((List.getD s4.1 (Int.toNat (List.getD (List.getD x_guests (Int.toNat s2.2) default).Pages (Int.toNat s4.2) default).Frame) default)+(1:Int))))))))
   (some (.go s4.1)))) λj5=>
   JO.run j5 (sF s4))
  (some (.ret (.go s4.1)))
noncomputable def iG (x_guests:List DGuest)(s2:(List Int)×Int):Option (LO ((List Int)×Int) (JO (List Int) (List Int))):=
 cond (decide (s2.2<((List.length x_guests:Nat):Int)))
  (Option.bind (grd ((0:Int)<=s2.2/\s2.2<((List.length x_guests:Nat):Int)) (Option.bind (iter (fK x_guests s2) (s2.1,(0:Int))) LO.val)) λj3=>
   JO.run j3 (sU s2))
  (some (.ret (.go s2.1)))
noncomputable def fJ (x_guests:List DGuest):Option (List Int):=
 Option.bind (Option.bind (iter (iG x_guests) ((List.replicate (Int.toNat (20:Int)) (0:Int)),(0:Int))) LO.val) λj1=>
  JO.run j1 sD
noncomputable def bHk:Sg tG:=⟨[.row 94],.one (.row 3),fJ⟩
theorem bNj:Sok 134 bHk:=sgx [] trivial (.s .o (.s .o (.j ⟨[],[],[(.s 3,.ro 3)]⟩ (.s .o (.k (.l ⟨[9,10],[],[(.s 3,.ro 3),(.s 11,.i .i64)]⟩ (.s .o (.s .o (.j ⟨[9,10,11],[],[(.s 3,.ro 3)]⟩ (.k (.s .o (.s .o (.k (.l ⟨[9,10,11,16,17],[],[(.s 3,.ro 3),(.s 18,.i .i64)]⟩ (.s .o (.s .o (.j ⟨[9,10,11,16,17,18],[],[(.s 3,.ro 3)]⟩ .o .o)))))))) .o)))))) .o))) kr kr kr
noncomputable def yH  (s2:Unit):Option Bool:=some true
noncomputable def nX (s3:Int)(s4:Unit):Option (LO Int (JO Unit Bool)):=some (.next (w64 (s3+(1:Int))))
noncomputable def jC (s5:Int)(s6:Unit):Option (LO Int (JO Unit (LO Int (JO Unit Bool)))):=some (.next (w64 (s5+(1:Int))))
noncomputable def dX (x_guests:List DGuest)(v1:List Int)(s3:Int)(s5:Int):Option (LO Int (JO Unit (LO Int (JO Unit Bool)))):=
 cond (decide (s5<((List.length (List.getD x_guests (Int.toNat s3) default).Pages:Nat):Int)))
  (Option.bind (grd ((0:Int)<=s5/\s5<((List.length (List.getD x_guests (Int.toNat s3) default).Pages:Nat):Int)) (cond (List.getD (List.getD x_guests (Int.toNat s3) default).Pages (Int.toNat s5) default).Write
   (grd ((0:Int)<=(List.getD (List.getD x_guests (Int.toNat s3) default).Pages (Int.toNat s5) default).Frame/\(List.getD (List.getD x_guests (Int.toNat s3) default).Pages (Int.toNat s5) default).Frame<((List.length v1:Nat):Int)) (cond (decide ((1:Int)<(List.getD v1 (Int.toNat (List.getD (List.getD x_guests (Int.toNat s3) default).Pages (Int.toNat s5) default).Frame) default)))
    (some (.out (.ret (.out (.ret (.out false))))))
    (some (.go ()))))
   (some (.go ())))) λj6=>
   JO.run j6 (jC s5))
  (some (.ret (.go ())))
noncomputable def fL (x_guests:List DGuest)(v1:List Int)(s3:Int):Option (LO Int (JO Unit Bool)):=
 cond (decide (s3<((List.length x_guests:Nat):Int)))
  (Option.bind (grd ((0:Int)<=s3/\s3<((List.length x_guests:Nat):Int)) (Option.bind (iter (dX x_guests v1 s3) (0:Int)) LO.val)) λj4=>
   JO.run j4 (nX s3))
  (some (.ret (.go ())))
noncomputable def gZ (x_guests:List DGuest):Option Bool:=
 Option.bind (fJ x_guests) λv1=>
 Option.bind (Option.bind (iter (fL x_guests v1) (0:Int)) LO.val) λj2=>
  JO.run j2 yH
noncomputable def g73:Sg tG:=⟨[.row 94],.one .b,gZ⟩
theorem s73:Sok 73 g73:=sgx [(134,.r bHk)] ⟨bNj,trivial⟩ (.s .o (.s .o (.j ⟨[],[],[]⟩ (.s .o (.k (.l ⟨[3,10,11],[],[(.s 12,.i .i64)]⟩ (.s .o (.s .o (.j ⟨[3,10,11,12],[],[]⟩ (.k (.s .o (.s .o (.k (.l ⟨[3,10,11,12,17,18],[],[(.s 19,.i .i64)]⟩ (.s .o (.s .o (.j ⟨[3,10,11,12,17,18,19],[],[]⟩ .o .o)))))))) .o)))))) .o))) kr kr kr
noncomputable def kK (x_h:DHost):Option Bool:=
 cond (decide (((List.length x_h.Words:Nat):Int)=(160:Int)))
  (Option.bind (gT x_h.Words) λv1=>
  cond v1
   (Option.bind (oC x_h.Guests) λv2=>
   cond v2
    (Option.bind (gZ x_h.Guests) λv3=>
    some v3)
    (some false))
   (some false))
  (some false)
noncomputable def g22:Sg tG:=⟨[.st 26],.one .b,kK⟩
theorem s22:Sok 22 g22:=sgx [(71,.r g71),(72,.r g72),(73,.r g73)] ⟨s71,s72,s73,trivial⟩ .o kr kr kr
noncomputable def nA (x_g:DGuest):Option Bool:=
 cond (decide (((List.length x_g.C.Regs:Nat):Int)=(0:Int)))
  (cond (decide (x_g.C.Pc=(0:Int)))
   (cond (decide (x_g.C.Root=(0:Int)))
    (cond (decide (x_g.C.Vector=(0:Int)))
     (cond (decide (x_g.C.Saved=(0:Int)))
      (cond (!x_g.C.SavedUser)
       (cond (decide (x_g.C.Cause=(0:Int)))
        (cond (decide (x_g.C.Bad=(0:Int)))
         (cond (decide (x_g.C.Timer=(0:Int)))
          (cond (!x_g.C.Waits)
           (cond (!x_g.C.User)
            (cond (!x_g.C.On)
             (cond (!x_g.C.Stopped)
              (cond (decide (((List.length x_g.Pages:Nat):Int)=(0:Int)))
               (cond (decide (((List.length x_g.In:Nat):Int)=(0:Int)))
                (some (decide (((List.length x_g.Out:Nat):Int)=(0:Int))))
                (some false))
               (some false))
              (some false))
             (some false))
            (some false))
           (some false))
          (some false))
         (some false))
        (some false))
       (some false))
      (some false))
     (some false))
    (some false))
   (some false))
  (some false)
noncomputable def bYl:Sg tG:=⟨[.st 94],.one .b,nA⟩
theorem cDa:Sok 177 bYl:=sgx [] trivial .o kr kr kr
noncomputable def aNn  (s3:Unit):Option Bool:=some true
noncomputable def rZ (s4:Int)(s5:Unit):Option (LO Int (JO Unit Bool)):=some (.next (w64 (s4+(1:Int))))
noncomputable def mX (s2:(List Int)×(List Bool))(s4:Int):Option (LO Int (JO Unit Bool)):=
 cond (decide (s4<(20:Int)))
  (Option.bind (grd ((0:Int)<=s4/\s4<((List.length s2.1:Nat):Int)) (cond (decide ((1:Int)<(List.getD s2.1 (Int.toNat s4) default)))
   (grd ((0:Int)<=s4/\s4<((List.length s2.2:Nat):Int)) (cond (List.getD s2.2 (Int.toNat s4) default)
    (some (.out (.ret (.out false))))
    (some (.go ()))))
   (some (.go ())))) λj5=>
   JO.run j5 (rZ s4))
  (some (.ret (.go ())))
noncomputable def zL  (s2:(List Int)×(List Bool)):Option Bool:=
 Option.bind (Option.bind (iter (mX s2) (0:Int)) LO.val) λj3=>
  JO.run j3 aNn
noncomputable def rS (s6:(List Int)×(List Bool)×Int)(s7:(List Int)×(List Bool)):Option (LO ((List Int)×(List Bool)×Int) (JO ((List Int)×(List Bool)) Bool)):=some (.next (s7.1,s7.2,w64 (s6.2.2+(1:Int))))
noncomputable def qC (s12:(List Int)×(List Bool)×Int)(s13:(List Bool)×(List Int)):Option (LO ((List Int)×(List Bool)×Int) (JO ((List Int)×(List Bool)) (LO ((List Int)×(List Bool)×Int) (JO ((List Int)×(List Bool)) Bool)))):=some (.next (s13.2,s13.1,w64 (s12.2.2+(1:Int))))
noncomputable def qL (x_h:DHost)(s6:(List Int)×(List Bool)×Int)(s12:(List Int)×(List Bool)×Int)(s14:Unit):Option (JO ((List Bool)×(List Int)) (LO ((List Int)×(List Bool)×Int) (JO ((List Int)×(List Bool)) (LO ((List Int)×(List Bool)×Int) (JO ((List Int)×(List Bool)) Bool))))):=
 cond (decide ((0:Int)<=(List.getD (List.getD x_h.Guests (Int.toNat s6.2.2) default).Pages (Int.toNat s12.2.2) default).Frame))
  (grd ((0:Int)<=(List.getD (List.getD x_h.Guests (Int.toNat s6.2.2) default).Pages (Int.toNat s12.2.2) default).Frame/\(List.getD (List.getD x_h.Guests (Int.toNat s6.2.2) default).Pages (Int.toNat s12.2.2) default).Frame<((List.length s12.1:Nat):Int)) (grd ((0:Int)<=(List.getD (List.getD x_h.Guests (Int.toNat s6.2.2) default).Pages (Int.toNat s12.2.2) default).Frame/\(List.getD (List.getD x_h.Guests (Int.toNat s6.2.2) default).Pages (Int.toNat s12.2.2) default).Frame<((List.length s12.1:Nat):Int)) (grd ((0:Int)<=(List.getD (List.getD x_h.Guests (Int.toNat s6.2.2) default).Pages (Int.toNat s12.2.2) default).Frame/\(List.getD (List.getD x_h.Guests (Int.toNat s6.2.2) default).Pages (Int.toNat s12.2.2) default).Frame<((List.length s12.2.1:Nat):Int)) (cond (List.getD s12.2.1 (Int.toNat (List.getD (List.getD x_h.Guests (Int.toNat s6.2.2) default).Pages (Int.toNat s12.2.2) default).Frame) default)
   (grd ((0:Int)<=(List.getD (List.getD x_h.Guests (Int.toNat s6.2.2) default).Pages (Int.toNat s12.2.2) default).Frame/\(List.getD (List.getD x_h.Guests (Int.toNat s6.2.2) default).Pages (Int.toNat s12.2.2) default).Frame<((List.length s12.2.1:Nat):Int)) (some (.go ((List.set s12.2.1 (Int.toNat (List.getD (List.getD x_h.Guests (Int.toNat s6.2.2) default).Pages (Int.toNat s12.2.2) default).Frame) true),List.set s12.1 (Int.toNat (List.getD (List.getD x_h.Guests (Int.toNat s6.2.2) default).Pages (Int.toNat s12.2.2) default).Frame) (w64 ((List.getD s12.1 (Int.toNat (List.getD (List.getD x_h.Guests (Int.toNat s6.2.2) default).Pages (Int.toNat s12.2.2) default).Frame) default)+(1:Int)))))))
   (grd ((0:Int)<=(List.getD (List.getD x_h.Guests (Int.toNat s6.2.2) default).Pages (Int.toNat s12.2.2) default).Frame/\(List.getD (List.getD x_h.Guests (Int.toNat s6.2.2) default).Pages (Int.toNat s12.2.2) default).Frame<((List.length s12.2.1:Nat):Int)) (some (.go ((List.set s12.2.1 (Int.toNat (List.getD (List.getD x_h.Guests (Int.toNat s6.2.2) default).Pages (Int.toNat s12.2.2) default).Frame) (List.getD (List.getD x_h.Guests (Int.toNat s6.2.2) default).Pages (Int.toNat s12.2.2) default).Write),List.set s12.1 (Int.toNat (List.getD (List.getD x_h.Guests (Int.toNat s6.2.2) default).Pages (Int.toNat s12.2.2) default).Frame) (w64 ((List.getD s12.1 (Int.toNat (List.getD (List.getD x_h.Guests (Int.toNat s6.2.2) default).Pages (Int.toNat s12.2.2) default).Frame) default)+(1:Int)))))))))))
  (some (.go (s12.2.1,s12.1)))
noncomputable def iQ (x_h:DHost)(s6:(List Int)×(List Bool)×Int)(s12:(List Int)×(List Bool)×Int):Option (LO ((List Int)×(List Bool)×Int) (JO ((List Int)×(List Bool)) (LO ((List Int)×(List Bool)×Int) (JO ((List Int)×(List Bool)) Bool)))):=
 cond (decide (s12.2.2<((List.length (List.getD x_h.Guests (Int.toNat s6.2.2) default).Pages:Nat):Int)))
  (Option.bind (grd ((0:Int)<=s12.2.2/\s12.2.2<((List.length (List.getD x_h.Guests (Int.toNat s6.2.2) default).Pages:Nat):Int)) (Option.bind (Option.bind (bO (List.getD (List.getD x_h.Guests (Int.toNat s6.2.2) default).Pages (Int.toNat s12.2.2) default).Frame (-1:Int) (19:Int)) λv15=>
   cond (!v15)
    (some (.out (.out (.ret (.out (.ret (.out false)))))))
    (cond (decide ((List.getD (List.getD x_h.Guests (Int.toNat s6.2.2) default).Pages (Int.toNat s12.2.2) default).Frame=(-1:Int)))
     (cond (List.getD (List.getD x_h.Guests (Int.toNat s6.2.2) default).Pages (Int.toNat s12.2.2) default).Write
      (some (.out (.out (.ret (.out (.ret (.out false)))))))
      (cond (List.getD (List.getD x_h.Guests (Int.toNat s6.2.2) default).Pages (Int.toNat s12.2.2) default).Dirty
       (some (.out (.out (.ret (.out (.ret (.out false)))))))
       (some (.go ()))))
     (some (.go ())))) λj14=>
   JO.run j14 (qL x_h s6 s12))) λj13=>
   JO.run j13 (qC s12))
  (some (.ret (.go (s12.1,s12.2.1))))
noncomputable def jZ (x_h:DHost)(s6:(List Int)×(List Bool)×Int):Option (LO ((List Int)×(List Bool)×Int) (JO ((List Int)×(List Bool)) Bool)):=
 cond (decide (s6.2.2<((List.length x_h.Guests:Nat):Int)))
  (Option.bind (grd ((0:Int)<=s6.2.2/\s6.2.2<((List.length x_h.Guests:Nat):Int)) (cond (!(List.getD x_h.Guests (Int.toNat s6.2.2) default).Live)
   (Option.bind (nA (DGuest.mk (List.getD x_h.Guests (Int.toNat s6.2.2) default).Live (DCore.mk ((List.getD x_h.Guests (Int.toNat s6.2.2) default).C).Regs ((List.getD x_h.Guests (Int.toNat s6.2.2) default).C).Pc ((List.getD x_h.Guests (Int.toNat s6.2.2) default).C).Root ((List.getD x_h.Guests (Int.toNat s6.2.2) default).C).Vector ((List.getD x_h.Guests (Int.toNat s6.2.2) default).C).Saved ((List.getD x_h.Guests (Int.toNat s6.2.2) default).C).SavedUser ((List.getD x_h.Guests (Int.toNat s6.2.2) default).C).Cause ((List.getD x_h.Guests (Int.toNat s6.2.2) default).C).Bad ((List.getD x_h.Guests (Int.toNat s6.2.2) default).C).Timer ((List.getD x_h.Guests (Int.toNat s6.2.2) default).C).Waits ((List.getD x_h.Guests (Int.toNat s6.2.2) default).C).User ((List.getD x_h.Guests (Int.toNat s6.2.2) default).C).On ((List.getD x_h.Guests (Int.toNat s6.2.2) default).C).Stopped) (List.getD x_h.Guests (Int.toNat s6.2.2) default).Pages (List.getD x_h.Guests (Int.toNat s6.2.2) default).In (List.getD x_h.Guests (Int.toNat s6.2.2) default).Out)) λv8=>
   cond (!v8)
    (some (.out (.ret (.out false))))
    (some (.go (s6.1,s6.2.1))))
   (Option.bind (kI (DCore.mk ((List.getD x_h.Guests (Int.toNat s6.2.2) default).C).Regs ((List.getD x_h.Guests (Int.toNat s6.2.2) default).C).Pc ((List.getD x_h.Guests (Int.toNat s6.2.2) default).C).Root ((List.getD x_h.Guests (Int.toNat s6.2.2) default).C).Vector ((List.getD x_h.Guests (Int.toNat s6.2.2) default).C).Saved ((List.getD x_h.Guests (Int.toNat s6.2.2) default).C).SavedUser ((List.getD x_h.Guests (Int.toNat s6.2.2) default).C).Cause ((List.getD x_h.Guests (Int.toNat s6.2.2) default).C).Bad ((List.getD x_h.Guests (Int.toNat s6.2.2) default).C).Timer ((List.getD x_h.Guests (Int.toNat s6.2.2) default).C).Waits ((List.getD x_h.Guests (Int.toNat s6.2.2) default).C).User ((List.getD x_h.Guests (Int.toNat s6.2.2) default).C).On ((List.getD x_h.Guests (Int.toNat s6.2.2) default).C).Stopped)) λv9=>
   cond (!v9)
    (some (.out (.ret (.out false))))
    (cond (!decide (((List.length (List.getD x_h.Guests (Int.toNat s6.2.2) default).Pages:Nat):Int)=(8:Int)))
     (some (.out (.ret (.out false))))
     (Option.bind (dN (List.getD x_h.Guests (Int.toNat s6.2.2) default).In (30:Int)) λv10=>
     cond (!v10)
      (some (.out (.ret (.out false))))
      (Option.bind (dN (List.getD x_h.Guests (Int.toNat s6.2.2) default).Out (30:Int)) λv11=>
      cond (!v11)
       (some (.out (.ret (.out false))))
       (Option.bind (iter (iQ x_h s6) (s6.1,s6.2.1,(0:Int))) LO.val))))))) λj7=>
   JO.run j7 (rS s6))
  (some (.ret (.go (s6.1,s6.2.1))))
noncomputable def iO (x_h:DHost):Option Bool:=
 Option.bind (dN x_h.Words (160:Int)) λv1=>
 cond (!v1)
  (some false)
  (cond (!decide (((List.length x_h.Words:Nat):Int)=(160:Int)))
   (some false)
   (cond (!decide (((List.length x_h.Guests:Nat):Int)=(3:Int)))
    (some false)
    (Option.bind (Option.bind (iter (jZ x_h) ((List.replicate (Int.toNat (20:Int)) (0:Int)),List.replicate (Int.toNat (20:Int)) false,(0:Int))) LO.val) λj2=>
     JO.run j2 zL)))
noncomputable def aYz:Sg tG:=⟨[.st 26],.one .b,iO⟩
theorem bGu:Sok 142 aYz:=sgx [(176,.r bMr),(177,.r bYl),(178,.r bOv),(51,.r g51)] ⟨bYh,cDa,bVe,s51,trivial⟩ (.s .o (.s .o (.s .o (.s .o (.j ⟨[],[],[(.s 3,.ro 3),(.s 4,.ro 4)]⟩ (.s .o (.k (.l ⟨[1],[],[(.s 3,.ro 3),(.s 4,.ro 4),(.s 5,.i .i64)]⟩ (.s .o (.j ⟨[1,5],[],[(.s 3,.ro 3),(.s 4,.ro 4)]⟩ (.k (.s .o (.s .o (.s .o (.s .o (.k (.l ⟨[1,5,6],[],[(.s 3,.ro 3),(.s 4,.ro 4),(.s 7,.i .i64)]⟩ (.s .o (.j ⟨[1,5,6,7],[],[(.s 4,.ro 4),(.s 3,.ro 3)]⟩ (.k (.s .o (.j ⟨[1,3,4,5,6,7,8],[],[]⟩ .o .o))) .o))))))))) .o))))) (.j ⟨[],[],[]⟩ (.s .o (.k (.l ⟨[3,4],[],[(.s 9,.i .i64)]⟩ (.s .o (.j ⟨[3,4,9],[],[]⟩ .o .o))))) .o)))))) kr kr kr
noncomputable def aFj  (s1:List Int):Option (List Int):=some s1
noncomputable def aFf (s3:(List Int)×Int)(s4:List Int):Option (LO ((List Int)×Int) (JO (List Int) (List Int))):=some (.next (s4,w64 (s3.2+(1:Int))))
noncomputable def aFa (v2:List Int)(s3:(List Int)×Int):Option (LO ((List Int)×Int) (JO (List Int) (List Int))):=
 cond (decide (s3.2<((List.length v2:Nat):Int)))
  (Option.bind (grd ((0:Int)<=s3.2/\s3.2<((List.length v2:Nat):Int)) (cond (decide ((List.getD v2 (Int.toNat s3.2) default)=(0:Int)))
   (grd ((List.length s3.1+List.length ([s3.2]:List Int))*8<=2^47/\List.length s3.1+List.length ([s3.2]:List Int)<=2^47) (some (.go (s3.1++([s3.2]:List Int)))))
   (some (.go s3.1)))) λj4=>
   JO.run j4 (aFf s3))
  (some (.ret (.go s3.1)))
noncomputable def xM (x_guests:List DGuest):Option (List Int):=
 Option.bind (Option.bind (fJ x_guests) λv2=>
  Option.bind (iter (aFa v2) (([]:List Int),(0:Int))) LO.val) λj1=>
  JO.run j1 aFj
noncomputable def bVz:Sg tG:=⟨[.row 94],.one (.row 3),xM⟩
theorem cDj:Sok 216 bVz:=sgx [(134,.r bHk)] ⟨bNj,trivial⟩ (.s .o (.s .o (.j ⟨[],[],[(.s 3,.ro 3)]⟩ (.s .o (.k (.l ⟨[8,9],[],[(.s 3,.ro 3),(.s 10,.i .i64)]⟩ (.s .o (.s .o (.j ⟨[8,9,10],[],[(.s 3,.ro 3)]⟩ .o .o)))))) .o))) kr kr kr
noncomputable def zP  (s1:List Int):Option (List Int):=some s1
noncomputable def zM (s2:(List Int)×Int)(s3:List Int):Option (LO ((List Int)×Int) (JO (List Int) (List Int))):=some (.next (s3,w64 (s2.2+(1:Int))))
noncomputable def rO (s4:(List Int)×Int)(s5:List Int):Option (LO ((List Int)×Int) (JO (List Int) (LO ((List Int)×Int) (JO (List Int) (List Int))))):=some (.next (s5,w64 (s4.2+(1:Int))))
noncomputable def jW (x_h:DHost)(s2:(List Int)×Int)(s4:(List Int)×Int):Option (LO ((List Int)×Int) (JO (List Int) (LO ((List Int)×Int) (JO (List Int) (List Int))))):=
 grd ((0:Int)<=s2.2/\s2.2<((List.length x_h.Guests:Nat):Int)) (cond (decide (s4.2<((List.length (List.getD x_h.Guests (Int.toNat s2.2) default).Pages:Nat):Int)))
  (Option.bind (grd ((0:Int)<=s2.2/\s2.2<((List.length x_h.Guests:Nat):Int)) (grd ((0:Int)<=s4.2/\s4.2<((List.length (List.getD x_h.Guests (Int.toNat s2.2) default).Pages:Nat):Int)) (cond (decide ((0:Int)<=(List.getD (List.getD x_h.Guests (Int.toNat s2.2) default).Pages (Int.toNat s4.2) default).Frame))
   (grd ((0:Int)<=(List.getD (List.getD x_h.Guests (Int.toNat s2.2) default).Pages (Int.toNat s4.2) default).Frame/\(List.getD (List.getD x_h.Guests (Int.toNat s2.2) default).Pages (Int.toNat s4.2) default).Frame<((List.length s4.1:Nat):Int)) (grd ((0:Int)<=(List.getD (List.getD x_h.Guests (Int.toNat s2.2) default).Pages (Int.toNat s4.2) default).Frame/\(List.getD (List.getD x_h.Guests (Int.toNat s2.2) default).Pages (Int.toNat s4.2) default).Frame<((List.length s4.1:Nat):Int)) (some (.go (List.set s4.1 (Int.toNat (List.getD (List.getD x_h.Guests (Int.toNat s2.2) default).Pages (Int.toNat s4.2) default).Frame) (w64 ((List.getD s4.1 (Int.toNat (List.getD (List.getD x_h.Guests (Int.toNat s2.2) default).Pages (Int.toNat s4.2) default).Frame) default)+(1:Int))))))))
   (some (.go s4.1))))) λj5=>
   JO.run j5 (rO s4))
  (some (.ret (.go s4.1))))
noncomputable def mJ (x_h:DHost)(s2:(List Int)×Int):Option (LO ((List Int)×Int) (JO (List Int) (List Int))):=
 cond (decide (s2.2<((List.length x_h.Guests:Nat):Int)))
  (Option.bind (Option.bind (iter (jW x_h s2) (s2.1,(0:Int))) LO.val) λj3=>
   JO.run j3 (zM s2))
  (some (.ret (.go s2.1)))
noncomputable def kL (x_h:DHost):Option (List Int):=
 Option.bind (Option.bind (iter (mJ x_h) ((List.replicate (Int.toNat (20:Int)) (0:Int)),(0:Int))) LO.val) λj1=>
  JO.run j1 zP
noncomputable def bNf:Sg tG:=⟨[.st 26],.one (.row 3),kL⟩
theorem bYz:Sok 115 bNf:=sgx [] trivial (.s .o (.s .o (.j ⟨[],[],[(.s 3,.ro 3)]⟩ (.s .o (.k (.l ⟨[1],[],[(.s 3,.ro 3),(.s 4,.i .i64)]⟩ (.s .o (.j ⟨[1,4],[],[(.s 3,.ro 3)]⟩ (.k (.s .o (.k (.l ⟨[1,4],[],[(.s 3,.ro 3),(.s 5,.i .i64)]⟩ (.s .o (.j ⟨[1,4,5],[],[(.s 3,.ro 3)]⟩ .o .o)))))) .o))))) .o))) kr kr kr
noncomputable def aId  (s3:List Int):Option (List Int):=some s3
noncomputable def vU (s4:(List Int)×Int)(s5:List Int):Option (LO ((List Int)×Int) (JO (List Int) (List Int))):=some (.next (s5,w64 (s4.2+(1:Int))))
noncomputable def lC (v2:List Int)(s4:(List Int)×Int):Option (LO ((List Int)×Int) (JO (List Int) (List Int))):=
 cond (decide (s4.2<(20:Int)))
  (Option.bind (grd ((0:Int)<=s4.2/\s4.2<((List.length v2:Nat):Int)) (cond (decide ((List.getD v2 (Int.toNat s4.2) default)=(0:Int)))
   (grd ((List.length s4.1+List.length ([s4.2]:List Int))*8<=2^47/\List.length s4.1+List.length ([s4.2]:List Int)<=2^47) (some (.go (s4.1++([s4.2]:List Int)))))
   (some (.go s4.1)))) λj5=>
   JO.run j5 (vU s4))
  (some (.ret (.go s4.1)))
noncomputable def iH (x_h:DHost):Option (List Int):=
 Option.bind (iO x_h) λv1=>
 cond (!v1)
  (some ([]:List Int))
  (Option.bind (kL x_h) λv2=>
  Option.bind (Option.bind (iter (lC v2) (([]:List Int),(0:Int))) LO.val) λj3=>
   JO.run j3 aId)
noncomputable def bGg:Sg tG:=⟨[.st 26],.one (.row 3),iH⟩
theorem bQk:Sok 114 bGg:=sgx [(142,.r aYz),(115,.r bNf)] ⟨bGu,bYz,trivial⟩ (.s .o (.s .o (.s .o (.s .o (.j ⟨[],[],[(.s 3,.ro 3)]⟩ (.s .o (.k (.l ⟨[4],[],[(.s 3,.ro 3),(.s 5,.i .i64)]⟩ (.s .o (.j ⟨[4,5],[],[(.s 3,.ro 3)]⟩ .o .o))))) .o))))) kr kr kr
noncomputable def cH (x_list:List Int):Option (List Int):=grd ((0:Int)<=((List.length x_list:Nat):Int)/\((List.length x_list:Nat):Int)*8<=2^47/\((List.length x_list:Nat):Int)<=2^47) (some (over (List.replicate (Int.toNat ((List.length x_list:Nat):Int)) (0:Int)) 0 (List.length (List.replicate (Int.toNat ((List.length x_list:Nat):Int)) (0:Int))) x_list))
noncomputable def aTe:Sg tG:=⟨[.row 3],.one (.row 3),cH⟩
theorem aRp:Sok 117 aTe:=sgx [] trivial .o kr kr kr
theorem aRm{x_list:List Int}{R_:(List Int)}(hh:cH x_list=some R_):Fn Tryz.prog 117 [bo (eI .i64) x_list] (.own 3 1 (List.length R_) (fl (eI .i64) R_)):=kc (aRp x_list R_ hh)
noncomputable def iP (x_c:DCore):Option DCore:=grd ((List.length ([]:List Int)+List.length x_c.Regs)*8<=2^47/\List.length ([]:List Int)+List.length x_c.Regs<=2^47) (some (DCore.mk (([]:List Int)++x_c.Regs) x_c.Pc x_c.Root x_c.Vector x_c.Saved x_c.SavedUser x_c.Cause x_c.Bad x_c.Timer x_c.Waits x_c.User x_c.On x_c.Stopped))
noncomputable def bHa:Sg tG:=⟨[.st 39],.one (.st 39),iP⟩
theorem bNl:Sok 132 bHa:=sgx [] trivial .o kr kr kr
noncomputable def pO (x_guests:List DGuest)(x_g:Int):Option Bool:=
 cond (decide ((0:Int)<=x_g))
  (cond (decide (x_g<(3:Int)))
   (grd ((0:Int)<=x_g/\x_g<((List.length x_guests:Nat):Int)) (some (List.getD x_guests (Int.toNat x_g) default).Live))
   (some false))
  (some false)
noncomputable def bWm:Sg tG:=⟨[.row 94,.i .i64],.one .b,pO⟩
theorem cDh:Sok 116 bWm:=sgx [] trivial .o kr kr kr
noncomputable def cM (x_h:DHost)(x_g:Int):Option Bool:=
 Option.bind (kK x_h) λv1=>
 cond v1
  (Option.bind (pO x_h.Guests x_g) λv2=>
  some v2)
  (some false)
noncomputable def g56:Sg tG:=⟨[.st 26,.i .i64],.one .b,cM⟩
theorem s56:Sok 56 g56:=sgx [(22,.r g22),(116,.r bWm)] ⟨s22,cDh,trivial⟩ .o kr kr kr
theorem aMa{x_h:DHost}{x_g:Int}{R_:Bool}(hh:cM x_h x_g=some R_):Fn Tryz.prog 56 [.agg (gW x_h),.int .i64 x_g] (.bool R_):=kc (s56 x_h x_g R_ hh)
noncomputable def cY (x_h:DHost)(x_g:Int):Option Bool:=
 Option.bind (iO x_h) λv1=>
 cond v1
  (Option.bind (bO x_g (0:Int) (2:Int)) λv2=>
  cond v2
   (grd ((0:Int)<=x_g/\x_g<((List.length x_h.Guests:Nat):Int)) (some (List.getD x_h.Guests (Int.toNat x_g) default).Live))
   (some false))
  (some false)
noncomputable def aEm:Sg tG:=⟨[.st 26,.i .i64],.one .b,cY⟩
theorem aHo:Sok 102 aEm:=sgx [(142,.r aYz),(51,.r g51)] ⟨bGu,s51,trivial⟩ .o kr kr kr
noncomputable def fV (x_b:DBare):Option DBare:=
 Option.bind (cH x_b.C.Regs) λv1=>
 Option.bind (cH x_b.Mem) λv2=>
 Option.bind (cH x_b.In) λv3=>
 Option.bind (cH x_b.Out) λv4=>
 some (DBare.mk (DCore.mk v1 x_b.C.Pc x_b.C.Root x_b.C.Vector x_b.C.Saved x_b.C.SavedUser x_b.C.Cause x_b.C.Bad x_b.C.Timer x_b.C.Waits x_b.C.User x_b.C.On x_b.C.Stopped) v2 v3 v4)
noncomputable def g57:Sg tG:=⟨[.st 41],.one (.st 41),fV⟩
theorem s57:Sok 57 g57:=sgx [(117,.r aTe)] ⟨aRp,trivial⟩ .o kr kr kr
theorem aRi:LW 151 ⟨12,[.tmp 4],.seq (.reg false (rg 151 0)) (.seq (.reg false (rg 151 1)) .ret)⟩:=kr
noncomputable def kP (x_words:List Int)(x_page:Int):Option (List Int):=grd ((0:Int)<=(w64 (x_page*(8:Int)))/\(w64 (x_page*(8:Int)))<=(w64 ((w64 (x_page+(1:Int)))*(8:Int)))/\(w64 ((w64 (x_page+(1:Int)))*(8:Int)))<=((List.length x_words:Nat):Int)) (some (List.take (Int.toNat (w64 ((w64 (x_page+(1:Int)))*(8:Int)))-Int.toNat (w64 (x_page*(8:Int)))) (List.drop (Int.toNat (w64 (x_page*(8:Int)))) x_words)))
noncomputable def bWv:Sg tG:=⟨[.row 3,.i .i64],.one (.rb 3),kP⟩
theorem bYb:Sok 151 bWv:=sgx [] trivial .o kr kr kr
theorem aTi{x_words:List Int}{x_page:Int}{R_:(List Int)}(hh:kP x_words x_page=some R_):Fn Tryz.prog 151 [bo (eI .i64) x_words,.int .i64 x_page] (bo (eI .i64) R_):=kc (bYb x_words x_page R_ hh)
noncomputable def fU (x_words:List Int)(x_page:Int):Option ((List Int)×(Nat×Nat)):=grd ((0:Int)<=(w64 (x_page*(8:Int)))/\(w64 (x_page*(8:Int)))<=(w64 ((w64 (x_page+(1:Int)))*(8:Int)))/\(w64 ((w64 (x_page+(1:Int)))*(8:Int)))<=((List.length x_words:Nat):Int)) (some (x_words,((Int.toNat (w64 (x_page*(8:Int)))),(Int.toNat (w64 ((w64 (x_page+(1:Int)))*(8:Int)))-Int.toNat (w64 (x_page*(8:Int)))))))
theorem rP{x_words:List Int}{x_page:Int}{R_:(List Int)×(Nat×Nat)}(hh:fU x_words x_page=some R_):Inl Tryz.prog 151 [.sref 0 [] 0 (List.length x_words) 1,.int .i64 x_page] [(0,some (rI_3 x_words))] 1 (.sref 0 [] (0+R_.2.1*1) R_.2.2 1) [(0,some (rI_3 R_.1))] 1:=by unfold fU at hh;let q1:Root:=(rI_3 x_words);refine Inl.start aRi [0,1] [0] (E:=sp 12 [(0,sw 0 x_words),(1,ii x_page)]) (H1:=[(0,some q1)]) kr kr (sy [0,1] [0] (sp 12 [(0,sw 0 x_words),(1,ii x_page)]) [(0,some q1)] 1 (Aw.sreg [4] [0] (yu 6 [(5,sw 0 x_words),(6,ii x_page),(7,ii (w64 (x_page*(8:Int)))),(8,ii x_page),(9,ii (w64 (x_page+(1:Int)))),(10,ii (w64 ((w64 (x_page+(1:Int)))*(8:Int))))] [(0,some q1)] 1 ?_)));obtain⟨hg2,hh⟩:=bG hh;refine ys (.slc 1 (.t 5) (some (.t 7)) (some (.t 10))) (some 11) (bAg (r:=0) (π:=[]) (o:=0) (k:=(List.length x_words)) (sz:=1) (l:=(w64 (x_page*(8:Int)))) (h:=(w64 ((w64 (x_page+(1:Int)))*(8:Int)))) kr kr kr hg2 ?_);refine yt (sp 12 [(4,.sref 0 [] (0+Int.toNat (w64 (x_page*(8:Int)))*1) (Int.toNat (w64 ((w64 (x_page+(1:Int)))*(8:Int)))-Int.toNat (w64 (x_page*(8:Int)))) 1)]) [(0,some q1)] 1 (Aw.ret ?_);rw[cW hh];exact qZ (r':= .sref 0 [] (0+Int.toNat (w64 (x_page*(8:Int)))*1) (Int.toNat (w64 ((w64 (x_page+(1:Int)))*(8:Int)))-Int.toNat (w64 (x_page*(8:Int)))) 1) kr (el [some 0] (mB vI) (hn bK dC))
theorem aMw:LW 118 ⟨29,[.tmp 4],.seq (.reg false (rg 118 0)) (.seq (.reg false (rg 118 1)) (.seq (.seq (.reg false (rg 118 2)) (.block 0 (.loop (.seq (.reg false (rg 118 3)) (.seq (.cond (.t 12) .skip (.exit 0)) (.seq (.block 1 (.seq (.reg false (rg 118 4)) (.seq (.reg false (rg 118 5)) (.cond (.t 18) (.regd (rg 118 6) (rg 118 7)) .skip)))) (.reg false (rg 118 8)))))))) (.seq (.reg false (rg 118 10)) .ret)))⟩:=kr
noncomputable def lO  (s1:List Int):Option (List Int):=some s1
noncomputable def iS (s2:(List Int)×Int)(s3:List Int):Option (LO ((List Int)×Int) (JO (List Int) (List Int))):=some (.next (s3,w64 (s2.2+(1:Int))))
noncomputable def iR (x_words:List Int)(x_pages:List DSlot)(s2:(List Int)×Int):Option (LO ((List Int)×Int) (JO (List Int) (List Int))):=
 cond (decide (s2.2<((List.length x_pages:Nat):Int)))
  (Option.bind (grd ((0:Int)<=s2.2/\s2.2<((List.length x_pages:Nat):Int)) (cond (!decide ((List.getD x_pages (Int.toNat s2.2) default).Frame=(-1:Int)))
   (Option.bind (fU s2.1 s2.2) λv4=>
   grd (List.length v4.1=(List.length s2.1)) (grd (v4.2.1+v4.2.2<=List.length v4.1) (Option.bind (kP x_words (List.getD x_pages (Int.toNat s2.2) default).Frame) λv5=>
    some (.go (over v4.1 v4.2.1 v4.2.2 v5)))))
   (some (.go s2.1)))) λj3=>
   JO.run j3 (iS s2))
  (some (.ret (.go s2.1)))
noncomputable def jP (x_words:List Int)(x_pages:List DSlot):Option (List Int):=
 Option.bind (Option.bind (iter (iR x_words x_pages) ((List.replicate (Int.toNat (64:Int)) (0:Int)),(0:Int))) LO.val) λj1=>
  JO.run j1 lO
theorem aPz{x_words:List Int}{x_pages:List DSlot}{R_:(List Int)}(hh:jP x_words x_pages=some R_):Fn Tryz.prog 118 [bo (eI .i64) x_words,bo fX x_pages] (.own 3 1 (List.length R_) (fl (eI .i64) R_)):=by let z2:=(0,bo (eI .i64) x_words);let z3:=(1,bo fX x_pages);let z4:=(10,ii ((List.length x_pages:Nat):Int));let z5:EV:=(5,.sref 0 [] 0 (List.length (List.replicate (Int.toNat (64:Int)) (0:Int))) 1);let z6:=(9,bo fX x_pages);unfold jP at hh;refine Fn.start aMw [0,1] (E:=sp 29 [z2,z3]) kr (v:=sw 0 R_) (Hr:=[(0,some (rI_3 R_))]) (k:=1) kr (sy [0,1] [] (sp 29 [z2,z3]) [] 0 (Aw.sreg [0,1,5] [0] (ys (.mk 3 1 8 [ii 0] (.c (ii 64))) (some 8) (aVq (c:=(eI .i64)) (d:=(0:Int)) (k:=(64:Int)) kr dd kr ?_))));let q1:Root:=(rI_3 (List.replicate (Int.toNat (64:Int)) (0:Int)));refine yt (sp 29 [z2,z3,z5]) [(0,some q1)] 1 ?_;obtain⟨j1,hh,hk1⟩:=bind_some hh;refine Aw.join (S:=(List Int)) (λs1=>sp 29 [(5,sw 0 s1)]) (λs1=>[(0,some (rI_3 s1))]) 1 (λs1=>lO s1=some R_) ?_ ?_;{intro s1 hh;unfold lO at hh;refine sy [4] [0] (sp 29 [(4,sw 0 s1)]) [(0,some (rI_3 s1))] 1 (Aw.ret ?_);rw[cW hh];exact qZ (r':=sw 0 s1) kr (Ent.list [some 0] rfl rfl (Nat.zero_le _) (mB vI) (hn bK dC))};intro Q1 hN1 hR1 hE1;refine sy [0,5,9,10,11] [0] (sp 29 [z2,z5,z6,z4,(11,ii 0)]) [(0,some q1)] 1 (Aw.block ?_);obtain⟨o2,hi2,hk2⟩:=bind_some hh;refine Aw.iter (λ(s2:(List Int)×Int)=>sp 29 [(0,bo (eI .i64) x_words),(5,sw 0 s2.1),(9,bo fX x_pages),(10,ii ((List.length x_pages:Nat):Int)),(11,ii s2.2)]) (λ(s2:(List Int)×Int)=>[(0,some (rI_3 s2.1))]) 1 hi2 (el [some 0] (uV kr (ro bK (rs (.sref 0 [] 0 (List.length (List.replicate (Int.toNat (64:Int)) (0:Int))) 1) (ro nP (ri (ri aMe)))))) (hn bK dC)) ?_;intro s2 u2 Q2 hh hN2 hX2 hR2;let z7:EH:=(0,some (rI_3 s2.1));let z8:=(11,ii s2.2);let z9:=(12,bb (decide (s2.2<((List.length x_pages:Nat):Int))));let z10:=(5,sw 0 s2.1);let z11:=(6,ii s2.2);let z1:=List.getD x_pages (Int.toNat s2.2) default;let z12:=(18,bb (!decide (z1.Frame=(-1:Int))));unfold iR at hh;refine sy [0,5,9,10,11,12] [0] (sp 29 [z2,z10,z6,z4,z8,z9]) [z7] 1 (Aw.seq ?_);rcases aTg hh with⟨hb,hh⟩|⟨hb,hh⟩;{refine cF hb (Aw.exit (bWa (hX2 _ _ _ _ _ (cW hh) ?_)));intro hout;rw[hout]at hk2;refine bSj ?_;obtain rfl:=cW hk2;exact hN1 s2.1 _ _ _ hk1 (el [some 0] (uV kr (rs (sw 0 s2.1) aMe)) (hn bK dC))};refine cT hb (Aw.xskip (λ_ _ _ hq=>aIk hq) ?_);obtain⟨j3,hh,hk3⟩:=bind_some hh;refine Aw.join (S:=(List Int)) (λs3=>sp 29 [(0,bo (eI .i64) x_words),(5,sw 0 s3),(9,bo fX x_pages),(10,ii ((List.length x_pages:Nat):Int)),(11,ii s2.2)]) (λs3=>[(0,some (rI_3 s3))]) 1 (λs3=>iS s2 s3=some u2) ?_ ?_;{intro s3 hh;unfold iS at hh;exact Aw.oreg (ye (sp 29 [z2,(5,sw 0 s3),z6,z4,(11,ii (w64 (s2.2+(1:Int)))),(27,ii (w64 (s2.2+(1:Int))))]) [(0,some (rI_3 s3))] 1 (hN2 (s3,w64 (s2.2+(1:Int))) _ _ _ (cW hh) (el [some 0] (uV kr (ro bK (rs (sw 0 s3) (ro nP (ri (ri aMe)))))) (hn bK dC))))};intro Q3 hN3 hR3 hE3;refine Aw.block (Aw.sreg [0,5,6,7,9,10,11] [0,1] (yj 1  (sp 29 [z2,z10,z6,z4,z8,z9,(13,ii s2.2)]) [z7] 1 ?_));obtain⟨hg104,hh⟩:=bG hh;refine ys (.iadr 3 (.t 9) (.t 11)) (some 14) (aSa (kd:= .i64) (c:=fX) (xs:=x_pages) oP dd kr kr hg104 ?_);refine ys (.load true 3 (.t 14)) (some 15) (aUm (c:=fX) (xs:=x_pages) (o:=Int.toNat s2.2*3) (i:=(Int.toNat s2.2)) (off:=0) (v:= .agg [ii z1.Frame,bb z1.Write,bb z1.Dirty]) oP kr ltn ltn dd kr ?_);let q2:Root:=⟨91,[ii z1.Frame,bb z1.Write,bb z1.Dirty]⟩;let z13:=(1,some q2);refine yt (sp 29 [z2,z10,z11,(7,pp 1),z6,z4,z8]) [z7,z13] 2 (sy [0,5,6,7,9,10,11,18] [0,1] (sp 29 [z2,z10,z11,(7,pp 1),z6,z4,z8,z12]) [z7,z13] 2 ?_);rcases aTg hh with⟨hb,hh⟩|⟨hb,hh⟩;{refine cF hb (Aw.skip (bGx ?_));obtain rfl:=cW hh;exact hN3 s2.1 _ _ _ hk3 (el [some 0] (uV kr (ro bK (rs (sw 0 s2.1) (ro nP (ri (ri aMe)))))) (hn bK dC))};refine cT hb (Aw.oregd [0] kr (dj 2 (sp 29 [z2,z10,z11,(7,pp 1),z6,z4,z8,z12,(19,sw 0 s2.1),(20,ii s2.2)]) [z7,z13] 2 ?_));obtain⟨v4,hv4,hh⟩:=bind_some hh;let z14:EH:=(0,some (rI_3 v4.1));let z15:EV:=(21,.sref 0 [] (0+v4.2.1*1) v4.2.2 1);obtain⟨hg107,hh⟩:=bG hh;obtain⟨hg108,hh⟩:=bG hh;refine ds (.call 151 [.t 19,.t 20]) (some 21) (aVj rfl (cf (.sref 0 [] (0+v4.2.1*1) v4.2.2 1) [z14] 2 [0] (rP hv4) [sw 0 s2.1,ii s2.2] rz (hn bK dC) vI (hn bK dC) ⟨⟨⟨by decide,aHj rfl rfl⟩,Hld.un ?_⟩⟩));refine dt (sp 29 [z2,z10,z11,(7,pp 1),z6,z4,z8,z12,(19,sw 0 s2.1),(20,ii s2.2),z15,(22,bo (eI .i64) x_words),(23,pp 1),(24,ii z1.Frame)]) [z14,(0,none),z7,z13] 2 ?_;obtain⟨v5,hv5,hh⟩:=bind_some hh;refine ys (.call 151 [.t 22,.t 24]) (some 25) (aMq (r:=bo (eI .i64) v5) (v:=bo (eI .i64) v5) (Hr:=[]) (n':=2) (aTi hv5) (xZ (vs:=[bo (eI .i64) x_words,ii z1.Frame]) kr (kG (aF (aAk (bN cX))) (cz1 pQ))) nrr kr ?_);let q3:Root:=(rI_3 (over v4.1 v4.2.1 v4.2.2 v5));refine ys (.cpy 1 (.t 21) (.t 25)) (some 26) (aIi (c:=(eI .i64)) (xs:=v4.1) (ys:=v5) (e:=3) (r:=0) (π:=[]) (o:=0+v4.2.1*1) (k:=v4.2.2) (i:=v4.2.1) (H':=[(0,some q3),z14,(0,none),z7,z13]) cC (rpv kr (aQx (c:=(eI .i64)) (xs:=v5) cC)) kr kr ltn ltn kr ?_);refine ye (sp 29 [z2,z10,z11,(7,pp 1),z6,z4,z8,z12,(19,sw 0 s2.1),(20,ii s2.2),z15,(22,bo (eI .i64) x_words),(23,pp 1),(24,ii z1.Frame),(25,bo (eI .i64) v5),(26,ii ((min v4.2.2 (List.length v5):Nat):Int))]) [(0,some q3),z14,(0,none),z7,z13] 2 (bGx ?_);obtain rfl:=cW hh;exact hN3 (over v4.1 v4.2.1 v4.2.2 v5) _ _ _ hk3 (el [some 0] (uV kr (ro bK (rs (sw 0 s2.1) (ro nP (ri (ri aMe)))))) (hn bK dC))
noncomputable def bXi:Sg tG:=⟨[.row 3,.row 91],.one (.row 3),jP⟩
theorem cBk:Sok 118 bXi:=λx_words x_pages R_ hh=>kc (aPz (x_words:=x_words) (x_pages:=x_pages) hh)
noncomputable def qY (x_h:DHost)(x_g:Int):Option DBare:=
 grd ((0:Int)<=x_g/\x_g<((List.length x_h.Guests:Nat):Int)) (Option.bind (jP x_h.Words (List.getD x_h.Guests (Int.toNat x_g) default).Pages) λv1=>
  some (DBare.mk (DCore.mk ((List.getD x_h.Guests (Int.toNat x_g) default).C).Regs ((List.getD x_h.Guests (Int.toNat x_g) default).C).Pc ((List.getD x_h.Guests (Int.toNat x_g) default).C).Root ((List.getD x_h.Guests (Int.toNat x_g) default).C).Vector ((List.getD x_h.Guests (Int.toNat x_g) default).C).Saved ((List.getD x_h.Guests (Int.toNat x_g) default).C).SavedUser ((List.getD x_h.Guests (Int.toNat x_g) default).C).Cause ((List.getD x_h.Guests (Int.toNat x_g) default).C).Bad ((List.getD x_h.Guests (Int.toNat x_g) default).C).Timer ((List.getD x_h.Guests (Int.toNat x_g) default).C).Waits ((List.getD x_h.Guests (Int.toNat x_g) default).C).User ((List.getD x_h.Guests (Int.toNat x_g) default).C).On ((List.getD x_h.Guests (Int.toNat x_g) default).C).Stopped) v1 (List.getD x_h.Guests (Int.toNat x_g) default).In (List.getD x_h.Guests (Int.toNat x_g) default).Out))
noncomputable def g58:Sg tG:=⟨[.st 26,.i .i64],.one (.sb 41),qY⟩
theorem s58:Sok 58 g58:=sgx [(118,.r bXi)] ⟨cBk,trivial⟩ .o kr kr kr
noncomputable def eQ (x_h:DHost)(x_g:Int):Option (DBare×Bool):=
 Option.bind (cM x_h x_g) λv1=>
 cond (!v1)
  (some ((DBare.mk (DCore.mk ([]:List Int) (0:Int) (0:Int) (0:Int) (0:Int) false (0:Int) (0:Int) (0:Int) false false false false) ([]:List Int) ([]:List Int) ([]:List Int)),false))
  (Option.bind (qY x_h x_g) λv2=>
  Option.bind (fV v2) λv3=>
  some (v3,true))
noncomputable def g13:Sg tG:=⟨[.st 26,.i .i64],.two (.st 41) .b,eQ⟩
theorem s13:Sok 13 g13:=sgx [(56,.r g56),(58,.r g58),(57,.r g57)] ⟨s56,s58,s57,trivial⟩ .o kr kr kr
noncomputable def hU (x_pages:List DSlot):Option (List DSlot):=grd ((0:Int)<=((List.length x_pages:Nat):Int)/\((List.length x_pages:Nat):Int)*16<=2^47/\((List.length x_pages:Nat):Int)<=2^47) (some (over (List.replicate (Int.toNat ((List.length x_pages:Nat):Int)) (DSlot.mk (0:Int) false false)) 0 (List.length (List.replicate (Int.toNat ((List.length x_pages:Nat):Int)) (DSlot.mk (0:Int) false false))) x_pages))
noncomputable def bRf:Sg tG:=⟨[.row 91],.one (.row 91),hU⟩
theorem bZl:Sok 150 bRf:=sgx [] trivial .o kr kr kr
noncomputable def iB (x_guest:DGuest):Option DGuest:=
 cond (!x_guest.Live)
  (some (DGuest.mk false (DCore.mk ([]:List Int) (0:Int) (0:Int) (0:Int) (0:Int) false (0:Int) (0:Int) (0:Int) false false false false) ([]:List DSlot) ([]:List Int) ([]:List Int)))
  (Option.bind (cH x_guest.C.Regs) λv1=>
  Option.bind (hU x_guest.Pages) λv2=>
  Option.bind (cH x_guest.In) λv3=>
  Option.bind (cH x_guest.Out) λv4=>
  some (DGuest.mk x_guest.Live (DCore.mk v1 x_guest.C.Pc x_guest.C.Root x_guest.C.Vector x_guest.C.Saved x_guest.C.SavedUser x_guest.C.Cause x_guest.C.Bad x_guest.C.Timer x_guest.C.Waits x_guest.C.User x_guest.C.On x_guest.C.Stopped) v2 v3 v4))
noncomputable def bWr:Sg tG:=⟨[.st 94],.one (.st 94),iB⟩
theorem cBj:Sok 201 bWr:=sgx [(117,.r aTe),(150,.r bRf)] ⟨aRp,bZl,trivial⟩ .o kr kr kr
noncomputable def aBg  (s1:List DGuest):Option (List DGuest):=some s1
noncomputable def eU (x_guests:List DGuest)(s2:(List DGuest)×Int):Option (LO ((List DGuest)×Int) (JO (List DGuest) (List DGuest))):=
 cond (decide (s2.2<((List.length x_guests:Nat):Int)))
  (grd ((0:Int)<=s2.2/\s2.2<((List.length x_guests:Nat):Int)) (Option.bind (iB (DGuest.mk (List.getD x_guests (Int.toNat s2.2) default).Live (DCore.mk ((List.getD x_guests (Int.toNat s2.2) default).C).Regs ((List.getD x_guests (Int.toNat s2.2) default).C).Pc ((List.getD x_guests (Int.toNat s2.2) default).C).Root ((List.getD x_guests (Int.toNat s2.2) default).C).Vector ((List.getD x_guests (Int.toNat s2.2) default).C).Saved ((List.getD x_guests (Int.toNat s2.2) default).C).SavedUser ((List.getD x_guests (Int.toNat s2.2) default).C).Cause ((List.getD x_guests (Int.toNat s2.2) default).C).Bad ((List.getD x_guests (Int.toNat s2.2) default).C).Timer ((List.getD x_guests (Int.toNat s2.2) default).C).Waits ((List.getD x_guests (Int.toNat s2.2) default).C).User ((List.getD x_guests (Int.toNat s2.2) default).C).On ((List.getD x_guests (Int.toNat s2.2) default).C).Stopped) (List.getD x_guests (Int.toNat s2.2) default).Pages (List.getD x_guests (Int.toNat s2.2) default).In (List.getD x_guests (Int.toNat s2.2) default).Out)) λv3=>
   grd ((0:Int)<=s2.2/\s2.2<((List.length s2.1:Nat):Int)) (some (.next ((List.set s2.1 (Int.toNat s2.2) v3),w64 (s2.2+(1:Int)))))))
  (some (.ret (.go s2.1)))
noncomputable def fZ (x_guests:List DGuest):Option (List DGuest):=
 grd ((0:Int)<=((List.length x_guests:Nat):Int)/\((List.length x_guests:Nat):Int)*176<=2^47/\((List.length x_guests:Nat):Int)<=2^47) (Option.bind (Option.bind (iter (eU x_guests) ((List.replicate (Int.toNat ((List.length x_guests:Nat):Int)) (DGuest.mk false (DCore.mk ([]:List Int) (0:Int) (0:Int) (0:Int) (0:Int) false (0:Int) (0:Int) (0:Int) false false false false) ([]:List DSlot) ([]:List Int) ([]:List Int))),(0:Int))) LO.val) λj1=>
  JO.run j1 aBg)
noncomputable def bMz:Sg tG:=⟨[.row 94],.one (.row 1094),fZ⟩
theorem bZc:Sok 169 bMz:=sgx [(201,.r bWr)] ⟨cBj,trivial⟩ (.s .o (.s (.g [] [] [.fo (.s 3) 0]) (.j ⟨[],[],[(.s 3,.ro 1094)]⟩ (.s .o (.k (.l ⟨[9,10],[],[(.s 3,.ro 1094),(.s 11,.i .i64)]⟩ (.s .o (.s .o (.s (.k (.s .o (.g [] [] [.fo (.s 3) 0]))) .o)))))) .o))) kr kr kr
noncomputable def jU (x_guests:List DGuest)(x_g:Int)(x_guest:DGuest):Option (List DGuest):=
 Option.bind (fZ x_guests) λv1=>
 grd ((0:Int)<=x_g/\x_g<((List.length v1:Nat):Int)) (some (List.set v1 (Int.toNat x_g) x_guest))
noncomputable def cCo:Sw tG:=⟨[.v (.row 94),.v (.i .i64),.os 94],.one (.row 1094),jU⟩
theorem cCa:Sjk 130 cCo:=sgy [(169,.r bMz)] ⟨bZc,trivial⟩ (.s .o (.s .o (.s (.g [] [] [.fo (.s 7) 0]) .o))) kr kr kr
theorem aKn{x_guests:List DGuest}{x_g:Int}{x_guest:DGuest}{R_:(List DGuest)}(hh:jU x_guests x_g x_guest=some R_):Inl Tryz.prog 130 [bo hC x_guests,.int .i64 x_g,.agg [.bool x_guest.Live,.sref 0 [] 0 (List.length x_guest.C.Regs) 1,.int .i64 x_guest.C.Pc,.int .i64 x_guest.C.Root,.int .i64 x_guest.C.Vector,.int .i64 x_guest.C.Saved,.bool x_guest.C.SavedUser,.int .i64 x_guest.C.Cause,.int .i64 x_guest.C.Bad,.int .i64 x_guest.C.Timer,.bool x_guest.C.Waits,.bool x_guest.C.User,.bool x_guest.C.On,.bool x_guest.C.Stopped,.sref 1 [] 0 (List.length x_guest.Pages) 3,.sref 2 [] 0 (List.length x_guest.In) 1,.sref 3 [] 0 (List.length x_guest.Out) 1]] [(3,some (rI_3 x_guest.Out)),(2,some (rI_3 x_guest.In)),(1,some (rC91 x_guest.Pages)),(0,some (rI_3 x_guest.C.Regs))] 4 (.sref 4 [] 0 (List.length R_) 17) [(4,some (rO94 R_))] 5:=kc (cCa x_guests x_g x_guest R_ hh)
theorem aKw:LW 66 ⟨20,[.cell 4 true 2,.tmp 5],.seq (.reg false (rg 66 0)) (.seq (.seq (.reg false (rg 66 1)) (.cond (.t 9) (.seq (.reg false (rg 66 2)) .ret) .skip)) (.seq (.regd (rg 66 3) (rg 66 4)) .ret))⟩:=kr
noncomputable def iE (x_h:DHost)(x_g:Int):Option (DHost×Bool):=
 Option.bind (cM x_h x_g) λv1=>
 cond (!v1)
  (some ((DHost.mk ([]:List Int) ([]:List DGuest)),false))
  (Option.bind (cH x_h.Words) λv2=>
  Option.bind (jU x_h.Guests x_g (DGuest.mk false (DCore.mk ([]:List Int) (0:Int) (0:Int) (0:Int) (0:Int) false (0:Int) (0:Int) (0:Int) false false false false) ([]:List DSlot) ([]:List Int) ([]:List Int))) λv3=>
  some ((DHost.mk v2 v3),true))
theorem aMj{x_h:DHost}{x_g:Int}{R_:DHost×Bool}(hh:iE x_h x_g=some R_):Fn Tryz.prog 66 [.agg (gW x_h),.int .i64 x_g] (.tup [.agg [.own 3 1 (List.length R_.1.Words) (fl (eI .i64) R_.1.Words),.own 94 17 (List.length R_.1.Guests) (fl fD R_.1.Guests)],.bool R_.2]):=by let z1:EH:=(0,some (rB26 x_h));let z2:=(1,ii x_g);let z3:EH:=(1,some ⟨26,[.nil,.nil]⟩);let z4:=(12,bo (eI .i64) x_h.Words);let z5:=(4,pp 1);unfold iE at hh;refine Fn.start aKw [0,1] (E:=sp 20 [(0,.agg (gW x_h)),z2]) kr (v:= .tup [.agg [sw 0 R_.1.Words,.sref 1 [] 0 (List.length R_.1.Guests) 17],bb R_.2]) (Hr:=[(1,some (rO94 R_.1.Guests)),(0,some (rI_3 R_.1.Words))]) (k:=2) kr (sy [1,2,4] [0,1] (sp 20 [z2,(2,pp 0),z5]) [z1,z3] 2 (Aw.seq (Aw.sreg [1,2,4,9] [0,1] (yj 2  (sp 20 [z2,(2,pp 0),z5,(6,.agg (gW x_h)),(7,ii x_g)]) [z1,z3] 2 ?_))));obtain⟨v1,hv1,hh⟩:=bind_some hh;refine ys (.call 56 [.t 6,.t 7]) (some 8) (sL (r:=bb v1) (v:=bb v1) (Hr:=[]) (n':=2) (aMa hv1) (xZ (vs:=[.agg (gW x_h),ii x_g]) kr (kG (aF (aBf (yR _))) (cz1 pQ))) rfl rfl kr ?_);refine yt (sp 20 [z2,(2,pp 0),z5,(9,bb (!v1))]) [z1,z3] 2 ?_;rcases wP hh with⟨hb,hh⟩|⟨hb,hh⟩;{refine cT hb (sy [4,5] [1] (sp 20 [z5,(5,bb false)]) [z3] 2 (Aw.ret (aQk ?_)));rw[cW hh];exact qZ (r':= .tup [.agg [.nil,.nil],bb false]) kr (Ent.list [none,none] rfl rfl (Nat.zero_le _) (mB (jQ rz)) (aJq dd rfl rfl (aJq dd rfl rfl dC)))};refine cF hb (Aw.xskip (λ_ _ _ hq=>aIk hq) (Aw.sregd [4,5] [1,2,7] [] kr (dj 2 (sp 20 [z2,(2,pp 0),z5,(9,bb (!v1)),(11,pp 0),z4]) [z1,z3] 2 ?_)));obtain⟨v2,hv2,hh⟩:=bind_some hh;let z6:EH:=(2,some (rI_3 v2));refine ds (.call 117 [.t 12]) (some 13) (aVj rfl (sL (r:= .own 3 1 (List.length v2) (fl (eI .i64) v2)) (v:=sw 2 v2) (Hr:=[z6]) (n':=3) (aRm hv2) (xZ (vs:=[bo (eI .i64) x_h.Words]) kr (kG (aF (aAk (bN cX))) pQ)) nrr nrr kr ⟨⟨⟨by decide,aYv (n:=2) (n0:=2) (r:= .own 3 1 (List.length v2) (fl (eI .i64) v2)) (v:=sw 2 v2) (Hr:=[z6]) (n':=3) kr dd⟩,Hld.un ?_⟩⟩));refine dt (sp 20 [z2,(2,pp 0),z5,(9,bb (!v1)),(11,pp 0),z4,(13,sw 2 v2),(14,.ptr 0 [] 1),(15,bo hC x_h.Guests),(16,ii x_g),(17,.agg (bb false:: .nil::oA [.nil,.nil,.nil]))]) [z6,z1,z3] 3 ?_;obtain⟨v3,hv3,hh⟩:=bind_some hh;refine ys (.call 130 [.t 15,.t 16,.t 17]) (some 18) (bQc (args:=[bo hC x_h.Guests,ii x_g,.agg (bb false:: .nil::oA [.nil,.nil,.nil])]) (args2:=[bo hC x_h.Guests,ii x_g,.agg (bb false:: .sref 3 [] 0 0 1::oA [.sref 4 [] 0 0 3,.sref 5 [] 0 0 1,.sref 6 [] 0 0 1])]) kr (Ent.trans (Ent.nils (n:=6) (e:=3) (xs2:=[bo hC x_h.Guests,ii x_g,.agg (bb false:: .sref 3 [] 0 0 1::oA [.sref 4 [] 0 0 3,.sref 5 [] 0 0 1,.sref 6 [] 0 0 1])]) (aW (.same _) (aW (.same _) (aW (.agg _ _ (aW (.same _) (aW (.same _) (aW (.same _) (aW (.same _) (aW (.same _) (aW (.same _) (aW (.same _) (aW (.same _) (aW (.same _) (aW (.same _) (aW (.same _) (aW (.same _) (aW (.same _) (aW (.same _) (aW (.same _) (aW (.same _) (aW (.nil _) aIq)))))))))))))))))) aIq)))) (Ent.trans (Ent.nils (n:=5) (e:=3) (xs2:=[bo hC x_h.Guests,ii x_g,.agg (bb false:: .sref 3 [] 0 0 1::oA [.sref 4 [] 0 0 3,.sref 5 [] 0 0 1,.nil])]) (aW (.same _) (aW (.same _) (aW (.agg _ _ (aW (.same _) (aW (.same _) (aW (.same _) (aW (.same _) (aW (.same _) (aW (.same _) (aW (.same _) (aW (.same _) (aW (.same _) (aW (.same _) (aW (.same _) (aW (.same _) (aW (.same _) (aW (.same _) (aW (.same _) (aW (.nil _) (aW (.same _) aIq)))))))))))))))))) aIq)))) (Ent.trans (Ent.nils (n:=4) (e:=91) (xs2:=[bo hC x_h.Guests,ii x_g,.agg (bb false:: .sref 3 [] 0 0 1::oA [.sref 4 [] 0 0 3,.nil,.nil])]) (aW (.same _) (aW (.same _) (aW (.agg _ _ (aW (.same _) (aW (.same _) (aW (.same _) (aW (.same _) (aW (.same _) (aW (.same _) (aW (.same _) (aW (.same _) (aW (.same _) (aW (.same _) (aW (.same _) (aW (.same _) (aW (.same _) (aW (.same _) (aW (.nil _) (aW (.same _) (aW (.same _) aIq)))))))))))))))))) aIq)))) (Ent.nils (n:=3) (e:=3) (xs2:=[bo hC x_h.Guests,ii x_g,.agg (bb false:: .sref 3 [] 0 0 1::oA [.nil,.nil,.nil])]) (aW (.same _) (aW (.same _) (aW (.agg _ _ (aW (.same _) (aW (.nil _) (aW (.same _) (aW (.same _) (aW (.same _) (aW (.same _) (aW (.same _) (aW (.same _) (aW (.same _) (aW (.same _) (aW (.same _) (aW (.same _) (aW (.same _) (aW (.same _) (aW (.same _) (aW (.same _) (aW (.same _) aIq)))))))))))))))))) aIq))))))) (Inl.frameB (v':= .sref 7 [] 0 (List.length v3) 17) (Hp':=[(7,some (rO94 v3))]) (n':=8) [3,4,5,6] (aKn hv3) rfl rfl rfl rz rfl (hq ⟨3,[]⟩ (aL rfl) (hq ⟨3,[]⟩ (aL rfl) (hq ⟨91,[]⟩ (aL rfl) (hq ⟨3,[]⟩ (aL rfl) dC)))) vI rfl (hn jJ dC) rfl) ?_);refine yt (sp 20 [z5,(5,bb true)]) [(1,some ⟨26,[sw 2 v2,.sref 7 [] 0 (List.length v3) 17]⟩),z6,(7,some (rO94 v3))] 8 (Aw.ret ?_);rw[cW hh];exact qZ (r':= .tup [.agg [sw 2 v2,.sref 7 [] 0 (List.length v3) 17],bb true]) kr (Ent.list [some 2,some 7] rfl rfl (Nat.zero_le _) (mB (jQ rz)) (hn jJ (hn bK dC)))
noncomputable def g66:Sg tG:=⟨[.st 26,.i .i64],.two (.st 2026) .b,iE⟩
theorem s66:Sok 66 g66:=λx_h x_g R_ hh=>kc (aMj (x_h:=x_h) (x_g:=x_g) hh)
noncomputable def eL (x_g:DGuest):Option DGuest:=
 cond (!x_g.Live)
  (some (DGuest.mk false (DCore.mk ([]:List Int) (0:Int) (0:Int) (0:Int) (0:Int) false (0:Int) (0:Int) (0:Int) false false false false) ([]:List DSlot) ([]:List Int) ([]:List Int)))
  (Option.bind (iP x_g.C) λv1=>
  grd (List.length x_g.Pages*16<=2^47/\List.length x_g.Pages<=2^47) (grd (List.length x_g.In*8<=2^47/\List.length x_g.In<=2^47) (grd (List.length x_g.Out*8<=2^47/\List.length x_g.Out<=2^47) (some (DGuest.mk true v1 x_g.Pages x_g.In x_g.Out)))))
noncomputable def g69:Sg tG:=⟨[.st 94],.one (.st 94),eL⟩
theorem s69:Sok 69 g69:=sgx [(132,.r bHa)] ⟨bNl,trivial⟩ .o kr kr kr
noncomputable def aLz (x_h:DHost)(s1:List DGuest):Option DHost:=some (DHost.mk (([]:List Int)++x_h.Words) s1)
noncomputable def mW (x_h:DHost)(s2:(List DGuest)×Int):Option (LO ((List DGuest)×Int) (JO (List DGuest) DHost)):=
 cond (decide (s2.2<((List.length x_h.Guests:Nat):Int)))
  (grd ((0:Int)<=s2.2/\s2.2<((List.length x_h.Guests:Nat):Int)) (Option.bind (eL (DGuest.mk (List.getD x_h.Guests (Int.toNat s2.2) default).Live (DCore.mk ((List.getD x_h.Guests (Int.toNat s2.2) default).C).Regs ((List.getD x_h.Guests (Int.toNat s2.2) default).C).Pc ((List.getD x_h.Guests (Int.toNat s2.2) default).C).Root ((List.getD x_h.Guests (Int.toNat s2.2) default).C).Vector ((List.getD x_h.Guests (Int.toNat s2.2) default).C).Saved ((List.getD x_h.Guests (Int.toNat s2.2) default).C).SavedUser ((List.getD x_h.Guests (Int.toNat s2.2) default).C).Cause ((List.getD x_h.Guests (Int.toNat s2.2) default).C).Bad ((List.getD x_h.Guests (Int.toNat s2.2) default).C).Timer ((List.getD x_h.Guests (Int.toNat s2.2) default).C).Waits ((List.getD x_h.Guests (Int.toNat s2.2) default).C).User ((List.getD x_h.Guests (Int.toNat s2.2) default).C).On ((List.getD x_h.Guests (Int.toNat s2.2) default).C).Stopped) (List.getD x_h.Guests (Int.toNat s2.2) default).Pages (List.getD x_h.Guests (Int.toNat s2.2) default).In (List.getD x_h.Guests (Int.toNat s2.2) default).Out)) λv3=>
   grd ((List.length s2.1+1)*176<=2^47/\List.length s2.1+1<=2^47) (some (.next ((s2.1++([v3]:List DGuest)),w64 (s2.2+(1:Int)))))))
  (some (.ret (.go s2.1)))
noncomputable def cU (x_h:DHost):Option DHost:=
 grd ((List.length ([]:List Int)+List.length x_h.Words)*8<=2^47/\List.length ([]:List Int)+List.length x_h.Words<=2^47) (Option.bind (Option.bind (iter (mW x_h) (([]:List DGuest),(0:Int))) LO.val) λj1=>
  JO.run j1 (aLz x_h))
noncomputable def aGw:Sg tG:=⟨[.st 26],.one (.st 2026),cU⟩
theorem aNl:Sok 103 aGw:=sgx [(69,.r g69)] ⟨s69,trivial⟩ (.s .o (.s .o (.j ⟨[2,3],[],[(.c 3 1,.ro 1094)]⟩ (.s .o (.k (.l ⟨[1,2,3],[],[(.c 3 1,.ro 1094),(.s 4,.i .i64)]⟩ (.s .o (.s (.k (.g [] [] [.fo (.c 3 1) 0])) .o))))) .o))) kr kr kr
noncomputable def wR (x_b:DBare)(v3:DHost)(s4:Int)(v6:DCore)(s7:(List Int)×(List DSlot)):Option (DHost×Int×Bool):=
 cond (decide (s4<(0:Int)))
  (some ((DHost.mk ([]:List Int) ([]:List DGuest)),(-1:Int),false))
  (grd ((0:Int)<=s4/\s4<((List.length v3.Guests:Nat):Int)) (some ((DHost.mk s7.1 (List.set v3.Guests (Int.toNat s4) (DGuest.mk true v6 s7.2 x_b.In x_b.Out))),s4,true)))
noncomputable def oW (s8:(List Int)×(List Int)×(List DSlot)×Int)(s9:(List Int)×(List Int)×(List DSlot)):Option (LO ((List Int)×(List Int)×(List DSlot)×Int) (JO ((List Int)×(List DSlot)) (DHost×Int×Bool))):=some (.next (s9.1,s9.2.1,s9.2.2,w64 (s8.2.2.2+(1:Int))))
noncomputable def uB (x_b:DBare)(s8:(List Int)×(List Int)×(List DSlot)×Int)(s10:Bool):Option (JO ((List Int)×(List Int)×(List DSlot)) (LO ((List Int)×(List Int)×(List DSlot)×Int) (JO ((List Int)×(List DSlot)) (DHost×Int×Bool)))):=
 cond s10
  (grd ((List.length s8.2.2.1+List.length ([DSlot.mk (-1:Int) false false]:List DSlot))*16<=2^47/\List.length s8.2.2.1+List.length ([DSlot.mk (-1:Int) false false]:List DSlot)<=2^47) (some (.go (s8.1,s8.2.1,s8.2.2.1++([DSlot.mk (-1:Int) false false]:List DSlot)))))
  (cond (decide (((List.length s8.2.1:Nat):Int)=(0:Int)))
   (some (.out (.ret (.out ((DHost.mk ([]:List Int) ([]:List DGuest)),(-1:Int),false)))))
   (grd ((0:Int)<=(0:Int)/\(0:Int)<((List.length s8.2.1:Nat):Int)) (grd ((0:Int)<=(w64 ((List.getD s8.2.1 (Int.toNat (0:Int)) default)*(8:Int)))/\(w64 ((List.getD s8.2.1 (Int.toNat (0:Int)) default)*(8:Int)))<=((List.length s8.1:Nat):Int)/\((List.length s8.1:Nat):Int)<=((List.length s8.1:Nat):Int)) (grd ((0:Int)<=(0:Int)/\(0:Int)<((List.length s8.2.1:Nat):Int)) (grd ((List.length s8.2.2.1+List.length ([DSlot.mk (List.getD s8.2.1 (Int.toNat (0:Int)) default) true false]:List DSlot))*16<=2^47/\List.length s8.2.2.1+List.length ([DSlot.mk (List.getD s8.2.1 (Int.toNat (0:Int)) default) true false]:List DSlot)<=2^47) (grd ((0:Int)<=(1:Int)/\(1:Int)<=((List.length s8.2.1:Nat):Int)/\((List.length s8.2.1:Nat):Int)<=((List.length s8.2.1:Nat):Int)) (some (.go ((over s8.1 (Int.toNat (w64 ((List.getD s8.2.1 (Int.toNat (0:Int)) default)*(8:Int)))) (Int.toNat ((List.length s8.1:Nat):Int)-Int.toNat (w64 ((List.getD s8.2.1 (Int.toNat (0:Int)) default)*(8:Int)))) (List.take (Int.toNat (w64 ((w64 (s8.2.2.2+(1:Int)))*(8:Int)))-Int.toNat (w64 (s8.2.2.2*(8:Int)))) (List.drop (Int.toNat (w64 (s8.2.2.2*(8:Int)))) x_b.Mem))),List.take (Int.toNat ((List.length s8.2.1:Nat):Int)-Int.toNat (1:Int)) (List.drop (Int.toNat (1:Int)) s8.2.1),s8.2.2.1++([DSlot.mk (List.getD s8.2.1 (Int.toNat (0:Int)) default) true false]:List DSlot))))))))))
noncomputable def nR (s11:Bool×Int)(s12:Bool):Option (LO (Bool×Int) (JO Bool (JO ((List Int)×(List Int)×(List DSlot)) (LO ((List Int)×(List Int)×(List DSlot)×Int) (JO ((List Int)×(List DSlot)) (DHost×Int×Bool)))))):=some (.next (s12,w64 (s11.2+(1:Int))))
noncomputable def gF (x_b:DBare)(s8:(List Int)×(List Int)×(List DSlot)×Int)(s11:Bool×Int):Option (LO (Bool×Int) (JO Bool (JO ((List Int)×(List Int)×(List DSlot)) (LO ((List Int)×(List Int)×(List DSlot)×Int) (JO ((List Int)×(List DSlot)) (DHost×Int×Bool)))))):=
 cond (decide (s11.2<(8:Int)))
  (Option.bind (cond s11.1
   (grd ((0:Int)<=s11.2/\s11.2<((List.length (List.take (Int.toNat (w64 ((w64 (s8.2.2.2+(1:Int)))*(8:Int)))-Int.toNat (w64 (s8.2.2.2*(8:Int)))) (List.drop (Int.toNat (w64 (s8.2.2.2*(8:Int)))) x_b.Mem)):Nat):Int)) (some (.go (decide ((List.getD (List.take (Int.toNat (w64 ((w64 (s8.2.2.2+(1:Int)))*(8:Int)))-Int.toNat (w64 (s8.2.2.2*(8:Int)))) (List.drop (Int.toNat (w64 (s8.2.2.2*(8:Int)))) x_b.Mem)) (Int.toNat s11.2) default)=(0:Int))))))
   (some (.go false))) λj12=>
   JO.run j12 (nR s11))
  (some (.ret (.go s11.1)))
noncomputable def fH (x_b:DBare)(s4:Int)(s8:(List Int)×(List Int)×(List DSlot)×Int):Option (LO ((List Int)×(List Int)×(List DSlot)×Int) (JO ((List Int)×(List DSlot)) (DHost×Int×Bool))):=
 cond (decide (s8.2.2.2<(8:Int)))
  (cond (decide ((0:Int)<=s4))
   (Option.bind (grd ((0:Int)<=(w64 (s8.2.2.2*(8:Int)))/\(w64 (s8.2.2.2*(8:Int)))<=(w64 ((w64 (s8.2.2.2+(1:Int)))*(8:Int)))/\(w64 ((w64 (s8.2.2.2+(1:Int)))*(8:Int)))<=((List.length x_b.Mem:Nat):Int)) (Option.bind (Option.bind (iter (gF x_b s8) (true,(0:Int))) LO.val) λj10=>
    JO.run j10 (uB x_b s8))) λj9=>
    JO.run j9 (oW s8))
   (some (.ret (.go (s8.1,s8.2.2.1)))))
  (some (.ret (.go (s8.1,s8.2.2.1))))
noncomputable def vO (x_h:DHost)(x_b:DBare)(v3:DHost)(s4:Int):Option (DHost×Int×Bool):=
 Option.bind (iH x_h) λv5=>
 Option.bind (iP x_b.C) λv6=>
 grd (List.length x_b.In*8<=2^47/\List.length x_b.In<=2^47) (grd (List.length x_b.Out*8<=2^47/\List.length x_b.Out<=2^47) (Option.bind (Option.bind (iter (fH x_b s4) (v3.Words,v5,([]:List DSlot),(0:Int))) LO.val) λj7=>
  JO.run j7 (wR x_b v3 s4 v6)))
noncomputable def uG (s13:Int×Int)(s14:Int):Option (LO (Int×Int) (JO Int (DHost×Int×Bool))):=some (.next (s14,w64 (s13.2-(1:Int))))
noncomputable def eR (x_h:DHost)(s13:Int×Int):Option (LO (Int×Int) (JO Int (DHost×Int×Bool))):=
 cond (decide ((0:Int)<=s13.2))
  (Option.bind (grd ((0:Int)<=s13.2/\s13.2<((List.length x_h.Guests:Nat):Int)) (cond (!(List.getD x_h.Guests (Int.toNat s13.2) default).Live)
   (some (.go s13.2))
   (some (.go s13.1)))) λj14=>
   JO.run j14 (uG s13))
  (some (.ret (.go s13.1)))
noncomputable def nZ (x_h:DHost)(x_b:DBare):Option (DHost×Int×Bool):=
 Option.bind (iO x_h) λv1=>
 cond (!v1)
  (some ((DHost.mk ([]:List Int) ([]:List DGuest)),(-1:Int),false))
  (Option.bind (qU x_b) λv2=>
  cond (!v2)
   (some ((DHost.mk ([]:List Int) ([]:List DGuest)),(-1:Int),false))
   (Option.bind (cU x_h) λv3=>
   Option.bind (Option.bind (iter (eR x_h) ((-1:Int),(2:Int))) LO.val) λj4=>
    JO.run j4 (vO x_h x_b v3)))
noncomputable def bUy:Sg tG:=⟨[.st 26,.st 41],.three (.st 2026) (.i .i64) .b,nZ⟩
theorem cBm:Sok 138 bUy:=sgx [(142,.r aYz),(175,.r bYk),(103,.r aGw),(114,.r bGg),(132,.r bHa)] ⟨bGu,cCw,aNl,bQk,bNl,trivial⟩ (.s .o (.s .o (.s .o (.s .o (.j ⟨[2,3,4,7],[],[(.s 8,.i .i64)]⟩ (.s .o (.k (.l ⟨[2,3,4,7],[],[(.s 8,.i .i64),(.s 9,.i .i64)]⟩ (.s .o (.j ⟨[2,3,4,7,9],[],[(.s 8,.i .i64)]⟩ .o .o))))) (.s .o (.s (.g [.fr (.s 10) 0] [] []) (.j ⟨[4,7,8,11],[],[(.c 7 0,.ro 3),(.c 11 14,.ro 91)]⟩ (.s .o (.k (.l ⟨[3,4,7,8,11],[],[(.c 7 0,.ro 3),(.s 10,.rb 3),(.c 11 14,.ro 91),(.s 12,.i .i64)]⟩ (.s .o (.j ⟨[3,4,7,8,11,12],[],[(.c 7 0,.ro 3),(.s 10,.rb 3),(.c 11 14,.ro 91)]⟩ (.k (.s .o (.s .o (.j ⟨[3,4,7,8,10,11,12,13],[],[(.s 14,.b)]⟩ (.s .o (.k (.l ⟨[3,4,7,8,10,11,12,13],[],[(.s 14,.b),(.s 15,.i .i64)]⟩ (.s .o (.j ⟨[3,4,7,8,10,11,12,13,15],[],[(.s 14,.b)]⟩ .o .o))))) .o)))) .o))))) (.s .o (.s (.g [] [] [.fo (.c 7 1) 0]) .o)))))))))) kr kr kr
noncomputable def aHu  (s1:Unit):Option Bool:=some true
noncomputable def aIz (x_words:List Int)(s2:Int):Option (LO Int (JO Unit Bool)):=
 cond (decide (s2<((List.length x_words:Nat):Int)))
  (grd ((0:Int)<=s2/\s2<((List.length x_words:Nat):Int)) (cond (!decide ((List.getD x_words (Int.toNat s2) default)=(0:Int)))
   (some (.ret (.out false)))
   (some (.next (w64 (s2+(1:Int)))))))
  (some (.ret (.go ())))
noncomputable def sZ (x_words:List Int):Option Bool:=
 Option.bind (Option.bind (iter (aIz x_words) (0:Int)) LO.val) λj1=>
  JO.run j1 aHu
noncomputable def cBg:Sg tG:=⟨[.row 3],.one .b,sZ⟩
theorem cCv:Sok 152 cBg:=sgx [] trivial (.s .o (.j ⟨[],[],[]⟩ (.s .o (.k (.l ⟨[5,6],[],[(.s 7,.i .i64)]⟩ .o))) .o)) kr kr kr
theorem aNz{x_words:List Int}{R_:Bool}(hh:sZ x_words=some R_):Fn Tryz.prog 152 [bo (eI .i64) x_words] (.bool R_):=kc (cCv x_words R_ hh)
theorem aMk:LW 42 ⟨11,[.tmp 2],.seq (.reg false (rg 42 0)) (.seq (.seq (.reg false (rg 42 1)) (.cond (.t 5) (.reg false (rg 42 2)) .skip)) (.seq (.reg false (rg 42 3)) .ret))⟩:=kr
noncomputable def qM  (s1:List Int):Option Dl20Rd:=some (Dl20Rd.mk s1 (0:Int))
noncomputable def jN (x_code:List Int):Option Dl20Rd:=
 Option.bind (cond (decide ((2000:Int)<((List.length x_code:Nat):Int)))
  (grd ((0:Int)<=(0:Int)/\(0:Int)<=(2000:Int)/\(2000:Int)<=((List.length x_code:Nat):Int)) (some (.go (List.take (Int.toNat (2000:Int)-Int.toNat (0:Int)) (List.drop (Int.toNat (0:Int)) x_code)))))
  (some (.go x_code))) λj1=>
  JO.run j1 qM
theorem aOl{x_code:List Int}{R_:Dl20Rd}(hh:jN x_code=some R_):Inl Tryz.prog 42 [bo (eI .u8) x_code] [] 0 (pp 0) [(0,some ⟨128,[bo (eI .u8) R_.b,.int .i64 R_.p]⟩)] 1:=by let z3:=(0,bo (eI .u8) x_code);let z4:=(5,bb (decide ((2000:Int)<((List.length x_code:Nat):Int))));let z1:=List.drop (Int.toNat (0:Int)) x_code;let z2:=List.take (Int.toNat (2000:Int)-Int.toNat (0:Int)) z1;unfold jN at hh;refine Inl.start aMk [0] [] (E:=sp 11 [z3]) (H1:=[]) kr kr (sy [0] [] (sp 11 [z3]) [] 0 ?_);obtain⟨j1,hh,hk1⟩:=bind_some hh;refine Aw.join (S:=(List Int)) (λs1=>sp 11 [(0,bo (eI .u8) s1)]) (λs1=>[]) 0 (λs1=>qM s1=some R_) ?_ ?_;{intro s1 hh;unfold qM at hh;refine Aw.sreg [2] [0] ?_;let q1:Root:=⟨128,[bo (eI .u8) s1,ii 0]⟩;refine yt (sp 11 [(2,pp 0)]) [(0,some q1)] 1 (Aw.ret ?_);rw[cW hh];exact qZ (r':=pp 0) kr (el [some 0] (mB (aJj dd rfl)) (hq q1 rz dC))};intro Q1 hN1 hR1 hE1;refine sy [0,5] [] (sp 11 [z3,z4]) [] 0 ?_;rcases aTg hh with⟨hb,hh⟩|⟨hb,hh⟩;{refine cF hb (Aw.skip ?_);obtain rfl:=cW hh;exact hN1 x_code _ _ _ hk1 (el [] (uV kr (ro bK aMe)) dC)};refine cT hb (Aw.oreg (yu 1 [(6,bo (eI .u8) x_code)] [] 0 ?_));obtain⟨hg6,hh⟩:=bG hh;refine ys (.slc 1 (.t 6) none (some (.c (ii 2000)))) (some 7) (bIw (c:=(eI .u8)) (xs:=x_code) (l:=(0:Int)) (h:=(2000:Int)) cC kr kr kr hg6 ?_);refine ye (sp 11 [(0,bo (eI .u8) z2),z4,(6,bo (eI .u8) x_code),(7,bo (eI .u8) z2)]) [] 0 ?_;obtain rfl:=cW hh;exact hN1 z2 _ _ _ hk1 (el [] (uV kr (ro bK aMe)) dC)
noncomputable def g42:So tG:=⟨[.row 5],128,jN⟩
theorem s42:Sop 42 g42:=λx_code R_ hh=>kc (aOl (x_code:=x_code) hh)
noncomputable def aA (x_r:Dl20Rd)(x_n:Int):Option (Dl20Rd×Int):=
 cond (decide (x_n<(1:Int)))
  (some ((Dl20Rd.mk x_r.b (w64 (x_r.p+(1:Int)))),(0:Int)))
  (cond (decide (((List.length x_r.b:Nat):Int)=(0:Int)))
   (some ((Dl20Rd.mk x_r.b (w64 (x_r.p+(1:Int)))),(0:Int)))
   (cond (decide ((w64 ((w64 (x_r.p+(1:Int)))-(1:Int)))<((List.length x_r.b:Nat):Int)))
    (grd ((0:Int)<=(w64 ((w64 (x_r.p+(1:Int)))-(1:Int)))/\(w64 ((w64 (x_r.p+(1:Int)))-(1:Int)))<((List.length x_r.b:Nat):Int)) (grd (x_n≠0) (some ((Dl20Rd.mk x_r.b (w64 (x_r.p+(1:Int)))),Int.tmod (IntKind.wrap .i64 (List.getD x_r.b (Int.toNat (w64 ((w64 (x_r.p+(1:Int)))-(1:Int)))) default)) x_n))))
    (grd (((List.length x_r.b:Nat):Int)≠0) (grd ((0:Int)<=(Int.tmod (w64 ((w64 (x_r.p+(1:Int)))-(1:Int))) ((List.length x_r.b:Nat):Int))/\(Int.tmod (w64 ((w64 (x_r.p+(1:Int)))-(1:Int))) ((List.length x_r.b:Nat):Int))<((List.length x_r.b:Nat):Int)) (grd (((List.length x_r.b:Nat):Int)≠0) (grd ((0:Int)<=(Int.tmod (w64 ((w64 ((w64 ((w64 (x_r.p+(1:Int)))-(1:Int)))*(7:Int)))+(3:Int))) ((List.length x_r.b:Nat):Int))/\(Int.tmod (w64 ((w64 ((w64 ((w64 (x_r.p+(1:Int)))-(1:Int)))*(7:Int)))+(3:Int))) ((List.length x_r.b:Nat):Int))<((List.length x_r.b:Nat):Int)) (grd (((List.length x_r.b:Nat):Int)≠0) (grd (x_n≠0) (some ((Dl20Rd.mk x_r.b (w64 (x_r.p+(1:Int)))),Int.tmod (bits .xor .i64 (w64 ((w64 ((w64 ((w64 ((IntKind.wrap .i64 (List.getD x_r.b (Int.toNat (Int.tmod (w64 ((w64 (x_r.p+(1:Int)))-(1:Int))) ((List.length x_r.b:Nat):Int))) default))*(131:Int)))+(w64 ((IntKind.wrap .i64 (List.getD x_r.b (Int.toNat (Int.tmod (w64 ((w64 ((w64 ((w64 (x_r.p+(1:Int)))-(1:Int)))*(7:Int)))+(3:Int))) ((List.length x_r.b:Nat):Int))) default))*(1117:Int)))))+(w64 ((w64 ((w64 (x_r.p+(1:Int)))-(1:Int)))*(29:Int)))))+(w64 ((w64 (Int.tdiv (w64 ((w64 (x_r.p+(1:Int)))-(1:Int))) ((List.length x_r.b:Nat):Int)))*(53:Int))))) (w64 (Int.tdiv (w64 ((w64 ((w64 ((w64 ((IntKind.wrap .i64 (List.getD x_r.b (Int.toNat (Int.tmod (w64 ((w64 (x_r.p+(1:Int)))-(1:Int))) ((List.length x_r.b:Nat):Int))) default))*(131:Int)))+(w64 ((IntKind.wrap .i64 (List.getD x_r.b (Int.toNat (Int.tmod (w64 ((w64 ((w64 ((w64 (x_r.p+(1:Int)))-(1:Int)))*(7:Int)))+(3:Int))) ((List.length x_r.b:Nat):Int))) default))*(1117:Int)))))+(w64 ((w64 ((w64 (x_r.p+(1:Int)))-(1:Int)))*(29:Int)))))+(w64 ((w64 (Int.tdiv (w64 ((w64 (x_r.p+(1:Int)))-(1:Int))) ((List.length x_r.b:Nat):Int)))*(53:Int))))) (64:Int)))) x_n))))))))))
noncomputable def g64:Sw tG:=⟨[.pt 128,.v (.i .i64)],.one (.i .i64),aA⟩
theorem s64:Sjk 64 g64:=sgy [] trivial .o kr kr kr
noncomputable def bL (x_r:Dl20Rd)(x_n:Int):Option (Dl20Rd×Bool):=
 cond (decide ((0:Int)<x_n))
  (Option.bind (aA x_r x_n) λv1=>
  some (v1.1,decide (v1.2=(w64 (x_n-(1:Int))))))
  (some (x_r,false))
noncomputable def g96:Sw tG:=⟨[.pt 128,.v (.i .i64)],.one .b,bL⟩
theorem s96:Sjk 96 g96:=sgy [(64,.w g64)] ⟨s64,trivial⟩ .o kr kr kr
noncomputable def cV (x_r:Dl20Rd):Option (Dl20Rd×Int):=
 Option.bind (aA x_r (16:Int)) λv1=>
 Option.bind (aA v1.1 (256:Int)) λv2=>
 some (v2.1,w64 ((w64 (v1.2*(256:Int)))+v2.2))
noncomputable def aWk:Sw tG:=⟨[.pt 128],.one (.i .i64),cV⟩
theorem bIj:Sjk 136 aWk:=sgy [(64,.w g64)] ⟨s64,trivial⟩ .o kr kr kr
noncomputable def aGl  (s4:Int):Option Int:=some s4
noncomputable def aGq (x_e:DEntry)(s3:Int):Option Int:=
 Option.bind (cond x_e.User
  (some (.go (w64 (s3+(4:Int)))))
  (some (.go s3))) λj4=>
  JO.run j4 aGl
noncomputable def aGp (x_e:DEntry)(s2:Int):Option Int:=
 Option.bind (cond x_e.Write
  (some (.go (w64 (s2+(2:Int)))))
  (some (.go s2))) λj3=>
  JO.run j3 (aGq x_e)
noncomputable def dK (x_e:DEntry):Option Int:=
 Option.bind (bO x_e.Page (0:Int) (7:Int)) λv1=>
 cond (!v1)
  (some (-1:Int))
  (Option.bind (cond x_e.There
   (some (.go (w64 ((w64 (x_e.Page*(8:Int)))+(1:Int)))))
   (some (.go (w64 (x_e.Page*(8:Int)))))) λj2=>
   JO.run j2 (aGp x_e))
noncomputable def bMu:Sg tG:=⟨[.st 181],.one (.i .i64),dK⟩
theorem bVx:Sok 204 bMu:=sgx [(51,.r g51)] ⟨s51,trivial⟩ (.s .o (.s .o (.s .o (.j ⟨[1],[],[(.s 3,.i .i64)]⟩ .o (.j ⟨[1],[],[(.s 3,.i .i64)]⟩ .o (.j ⟨[],[],[(.s 3,.i .i64)]⟩ .o .o)))))) kr kr kr
noncomputable def aOa  (s2:(List Int)×Int×(List Int)):Option (Dl20Rd×(List Int)):=some ((Dl20Rd.mk s2.1 s2.2.1),s2.2.2)
noncomputable def aAd (x_n:Int)(s1:(List Int)×Int×(List Int)):Option (Dl20Rd×(List Int)):=
 Option.bind (Option.bind (bL (Dl20Rd.mk s1.1 s1.2.1) x_n) λv3=>
  cond v3.2
   (Option.bind (aA v3.1 (2:Int)) λv4=>
   cond (decide (v4.2=(0:Int)))
    (grd ((0:Int)<=(0:Int)/\(0:Int)<=(63:Int)/\(63:Int)<=((List.length s1.2.2:Nat):Int)) (some (.go (v4.1.b,v4.1.p,List.take (Int.toNat (63:Int)-Int.toNat (0:Int)) s1.2.2))))
    (Option.bind (aA v4.1 (64:Int)) λv5=>
    Option.bind (aA v5.1 (2:Int)) λv6=>
    grd ((0:Int)<=v5.2/\v5.2<((List.length s1.2.2:Nat):Int)) (some (.go (v6.1.b,v6.1.p,List.set s1.2.2 (Int.toNat v5.2) (w64 ((4096:Int)-(w64 (v6.2*(4097:Int))))))))))
   (some (.go (v3.1.b,v3.1.p,s1.2.2)))) λj2=>
  JO.run j2 aOa
noncomputable def zS (s7:(List Int)×Int×(List Int)×Int)(s9:(List Int)×Int×Int):Option (LO ((List Int)×Int×(List Int)×Int) (JO ((List Int)×Int×(List Int)) (Dl20Rd×(List Int)))):=grd ((List.length s7.2.2.1+List.length ([s9.2.2]:List Int))*8<=2^47/\List.length s7.2.2.1+List.length ([s9.2.2]:List Int)<=2^47) (some (.next (s9.1,s9.2.1,s7.2.2.1++([s9.2.2]:List Int),w64 (s7.2.2.2+(1:Int)))))
noncomputable def zB (s7:(List Int)×Int×(List Int)×Int)(s8:(List Int)×Int×Int):Option (LO ((List Int)×Int×(List Int)×Int) (JO ((List Int)×Int×(List Int)) (Dl20Rd×(List Int)))):=
 Option.bind (cond (decide ((w64 (Int.tdiv s7.2.2.2 (8:Int)))=(1:Int)))
  (Option.bind (aA (Dl20Rd.mk s8.1 s8.2.1) (5:Int)) λv10=>
  Option.bind (aA v10.1 (4:Int)) λv11=>
  Option.bind (aA v11.1 (3:Int)) λv12=>
  Option.bind (aA v12.1 (8:Int)) λv13=>
  Option.bind (dK (DEntry.mk (decide ((0:Int)<v10.2)) (decide ((0:Int)<v11.2)) (decide ((0:Int)<v12.2)) v13.2)) λv14=>
  some (.go (v13.1.b,v13.1.p,v14)))
  (cond (decide ((w64 (Int.tdiv s7.2.2.2 (8:Int)))=(2:Int)))
   (Option.bind (aA (Dl20Rd.mk s8.1 s8.2.1) (5:Int)) λv15=>
   Option.bind (aA v15.1 (4:Int)) λv16=>
   Option.bind (aA v16.1 (3:Int)) λv17=>
   Option.bind (aA v17.1 (8:Int)) λv18=>
   Option.bind (dK (DEntry.mk (decide ((0:Int)<v15.2)) (decide ((0:Int)<v16.2)) (decide ((0:Int)<v17.2)) v18.2)) λv19=>
   some (.go (v18.1.b,v18.1.p,v19)))
   (some (.go (s8.1,s8.2.1,s8.2.2))))) λj9=>
  JO.run j9 (zS s7)
noncomputable def rI  (s7:(List Int)×Int×(List Int)×Int):Option (LO ((List Int)×Int×(List Int)×Int) (JO ((List Int)×Int×(List Int)) (Dl20Rd×(List Int)))):=
 cond (decide (s7.2.2.2<(64:Int)))
  (Option.bind (Option.bind (aA (Dl20Rd.mk s7.1 s7.2.1) (2:Int)) λv20=>
   cond (decide (v20.2=(0:Int)))
    (Option.bind (cV v20.1) λv21=>
    some (.go (v21.1.b,v21.1.p,v21.2)))
    (some (.go (v20.1.b,v20.1.p,(0:Int))))) λj8=>
   JO.run j8 (zB s7))
  (some (.ret (.go (s7.1,s7.2.1,s7.2.2.1))))
noncomputable def nB (x_r:Dl20Rd)(x_n:Int):Option (Dl20Rd×(List Int)):=
 Option.bind (Option.bind (iter rI (x_r.b,x_r.p,([]:List Int),(0:Int))) LO.val) λj1=>
  JO.run j1 (aAd x_n)
noncomputable def bPa:Sw tG:=⟨[.pt 128,.v (.i .i64)],.one (.row 3),nB⟩
theorem bZd:Sjk 174 bPa:=sgy [(64,.w g64),(136,.w aWk),(204,.r bMu),(96,.w g96)] ⟨s64,bIj,bVx,s96,trivial⟩ (.s .o (.s .o (.j ⟨[0,1],[],[(.c 0 0,.rb 5),(.c 0 1,.i .i64),(.s 5,.ro 3)]⟩ (.s .o (.k (.l ⟨[0,1],[],[(.c 0 0,.rb 5),(.c 0 1,.i .i64),(.s 5,.ro 3),(.s 6,.i .i64)]⟩ (.s .o (.s (.k (.s .o (.j ⟨[0,1,5,6],[],[(.c 0 0,.rb 5),(.c 0 1,.i .i64),(.s 7,.i .i64)]⟩ .o (.j ⟨[0,1,5,6],[],[(.c 0 0,.rb 5),(.c 0 1,.i .i64),(.s 7,.i .i64)]⟩ .o .o)))) .o))))) (.j ⟨[],[0],[(.d 0 0,.rb 5),(.d 0 1,.i .i64),(.s 5,.ro 3)]⟩ .o .o)))) kr kr kr
noncomputable def oU:Option Bool:=
 Option.bind (fC (5:Int)) λv1=>
 cond v1
  (Option.bind (fC (-1:Int)) λv2=>
  some (!v2))
  (some false)
noncomputable def g12:Sg tG:=⟨[],.one .b,oU⟩
theorem s12:Sok 12 g12:=sgx [(55,.r g55)] ⟨s55,trivial⟩ .o kr kr kr
noncomputable def oL (x_i:DIns):Option Bool:=
 Option.bind (bO x_i.Op (0:Int) (15:Int)) λv1=>
 cond v1
  (Option.bind (bO x_i.A (0:Int) (3:Int)) λv2=>
  cond v2
   (Option.bind (bO x_i.N (0:Int) (63:Int)) λv3=>
   some v3)
   (some false))
  (some false)
noncomputable def bNa:Sg tG:=⟨[.st 141],.one .b,oL⟩
theorem bZi:Sok 159 bNa:=sgx [(51,.r g51)] ⟨s51,trivial⟩ .o kr kr kr
noncomputable def aIe (v3:Dl20Rd×Int)(v4:Dl20Rd×Int)(v5:Dl20Rd×Int)(v6:Dl20Rd×Int)(v7:Dl20Rd×Int)(v8:Dl20Rd×Int)(v9:Dl20Rd×Int)(v10:Dl20Rd×Int)(v11:Dl20Rd×Int)(v12:Dl20Rd×Int)(v13:Dl20Rd×Int)(s15:(List Int)×Int×(List Int)×Int×Int):Option (Dl20Rd×DCore):=some ((Dl20Rd.mk s15.1 s15.2.1),DCore.mk s15.2.2.1 s15.2.2.2.1 s15.2.2.2.2 (w64 ((24:Int)+v3.2)) v4.2 (decide (v9.2=(0:Int))) v5.2 v6.2 (w64 (v7.2*v8.2)) (decide (v10.2=(0:Int))) (decide (v11.2=(0:Int))) (decide (v12.2=(0:Int))) (decide (v13.2=(0:Int))))
noncomputable def wI (x_n:Int)(v1:Dl20Rd×Int)(v2:Dl20Rd×Int)(v3:Dl20Rd×Int)(v4:Dl20Rd×Int)(v5:Dl20Rd×Int)(v6:Dl20Rd×Int)(v7:Dl20Rd×Int)(v8:Dl20Rd×Int)(v9:Dl20Rd×Int)(v10:Dl20Rd×Int)(v11:Dl20Rd×Int)(v12:Dl20Rd×Int)(v13:Dl20Rd×Int)(s14:(List Int)×Int×(List Int)):Option (Dl20Rd×DCore):=
 Option.bind (Option.bind (bL (Dl20Rd.mk s14.1 s14.2.1) x_n) λv16=>
  cond v16.2
   (Option.bind (aA v16.1 (4:Int)) λv17=>
   cond (decide (v17.2=(0:Int)))
    (grd ((0:Int)<=(0:Int)/\(0:Int)<=(3:Int)/\(3:Int)<=((List.length s14.2.2:Nat):Int)) (some (.go (v17.1.b,v17.1.p,List.take (Int.toNat (3:Int)-Int.toNat (0:Int)) s14.2.2,v1.2,List.getD ([(-1:Int),(1:Int),(2:Int)]:List Int) (Int.toNat v2.2) default))))
    (cond (decide (v17.2=(1:Int)))
     (Option.bind (aA v17.1 (2:Int)) λv18=>
     some (.go (v18.1.b,v18.1.p,s14.2.2,w64 ((64:Int)-(w64 (v18.2*(65:Int)))),List.getD ([(-1:Int),(1:Int),(2:Int)]:List Int) (Int.toNat v2.2) default)))
     (cond (decide (v17.2=(2:Int)))
      (Option.bind (aA v17.1 (2:Int)) λv19=>
      some (.go (v19.1.b,v19.1.p,s14.2.2,v1.2,w64 ((8:Int)-(w64 (v19.2*(10:Int)))))))
      (Option.bind (aA v17.1 (4:Int)) λv20=>
      grd ((0:Int)<=v20.2/\v20.2<((List.length s14.2.2:Nat):Int)) (some (.go (v20.1.b,v20.1.p,List.set s14.2.2 (Int.toNat v20.2) (-1:Int),v1.2,List.getD ([(-1:Int),(1:Int),(2:Int)]:List Int) (Int.toNat v2.2) default)))))))
   (some (.go (v16.1.b,v16.1.p,s14.2.2,v1.2,List.getD ([(-1:Int),(1:Int),(2:Int)]:List Int) (Int.toNat v2.2) default)))) λj15=>
  JO.run j15 (aIe v3 v4 v5 v6 v7 v8 v9 v10 v11 v12 v13)
noncomputable def oQ  (s21:(List Int)×Int×(List Int)×Int):Option (LO ((List Int)×Int×(List Int)×Int) (JO ((List Int)×Int×(List Int)) (Dl20Rd×DCore))):=
 cond (decide (s21.2.2.2<(4:Int)))
  (Option.bind (aA (Dl20Rd.mk s21.1 s21.2.1) (64:Int)) λv22=>
  Option.bind (aA v22.1 (16:Int)) λv23=>
  Option.bind (cV v23.1) λv24=>
  Option.bind (aA v24.1 (3:Int)) λv25=>
  grd ((0:Int)<=v25.2/\v25.2<((List.length ([v22.2,v23.2,v24.2]:List Int):Nat):Int)) (grd ((List.length s21.2.2.1+List.length ([List.getD ([v22.2,v23.2,v24.2]:List Int) (Int.toNat v25.2) default]:List Int))*8<=2^47/\List.length s21.2.2.1+List.length ([List.getD ([v22.2,v23.2,v24.2]:List Int) (Int.toNat v25.2) default]:List Int)<=2^47) (some (.next (v25.1.b,v25.1.p,s21.2.2.1++([List.getD ([v22.2,v23.2,v24.2]:List Int) (Int.toNat v25.2) default]:List Int),w64 (s21.2.2.2+(1:Int)))))))
  (some (.ret (.go (s21.1,s21.2.1,s21.2.2.1))))
noncomputable def lW (x_r:Dl20Rd)(x_n:Int):Option (Dl20Rd×DCore):=
 Option.bind (aA x_r (64:Int)) λv1=>
 Option.bind (aA v1.1 (3:Int)) λv2=>
 grd ((0:Int)<=v2.2/\v2.2<((List.length ([(-1:Int),(1:Int),(2:Int)]:List Int):Nat):Int)) (Option.bind (aA v2.1 (4:Int)) λv3=>
  Option.bind (aA v3.1 (64:Int)) λv4=>
  Option.bind (aA v4.1 (5:Int)) λv5=>
  Option.bind (aA v5.1 (64:Int)) λv6=>
  Option.bind (aA v6.1 (4:Int)) λv7=>
  Option.bind (aA v7.1 (6:Int)) λv8=>
  Option.bind (aA v8.1 (2:Int)) λv9=>
  Option.bind (aA v9.1 (6:Int)) λv10=>
  Option.bind (aA v10.1 (3:Int)) λv11=>
  Option.bind (aA v11.1 (2:Int)) λv12=>
  Option.bind (aA v12.1 (25:Int)) λv13=>
  Option.bind (Option.bind (iter oQ (v13.1.b,v13.1.p,([]:List Int),(0:Int))) LO.val) λj14=>
   JO.run j14 (wI x_n v1 v2 v3 v4 v5 v6 v7 v8 v9 v10 v11 v12 v13))
noncomputable def bYs:Sw tG:=⟨[.pt 128,.v (.i .i64)],.one (.st 39),lW⟩
theorem cCm:Sjk 172 bYs:=sgy [(64,.w g64),(136,.w aWk),(96,.w g96)] ⟨s64,bIj,s96,trivial⟩ (.s .o (.s (.m [0]) (.s .o (.s .o (.s .o (.s .o (.s .o (.j ⟨[0,1,4,5],[],[(.c 0 0,.rb 5),(.c 0 1,.i .i64),(.c 5 0,.ro 3)]⟩ (.s .o (.k (.l ⟨[0,1,4,5],[],[(.c 0 0,.rb 5),(.c 0 1,.i .i64),(.c 5 0,.ro 3),(.s 6,.i .i64)]⟩ (.s .o (.s (.k (.m [0])) .o))))) (.j ⟨[4,5],[0],[(.d 0 0,.rb 5),(.d 0 1,.i .i64),(.c 5 0,.ro 3),(.c 5 1,.i .i64),(.c 5 2,.i .i64)]⟩ (.s .o (.c (.s .o (.k (.s .o (.c .o (.s .o (.c .o (.s .o (.c .o (.m [0]))))))))) .o)) .o))))))))) kr kr kr
noncomputable def aNy  (s4:Int×(List Int)×Int×Int×Int):Option (Dl20Rd×DIns):=some ((Dl20Rd.mk s4.2.1 s4.2.2.1),DIns.mk s4.1 s4.2.2.2.1 s4.2.2.2.2)
noncomputable def qX (x_r:Dl20Rd)(x_n:Int):Option (Dl20Rd×DIns):=
 Option.bind (aA x_r (16:Int)) λv1=>
 Option.bind (aA v1.1 (4:Int)) λv2=>
 Option.bind (aA v2.1 (64:Int)) λv3=>
 Option.bind (Option.bind (bL v3.1 x_n) λv5=>
  cond v5.2
   (Option.bind (aA v5.1 (3:Int)) λv6=>
   cond (decide (v6.2=(0:Int)))
    (Option.bind (aA v6.1 (2:Int)) λv7=>
    some (.go ((w64 ((16:Int)-(w64 (v7.2*(17:Int))))),v7.1.b,v7.1.p,v2.2,v3.2)))
    (cond (decide (v6.2=(1:Int)))
     (some (.go (v1.2,v6.1.b,v6.1.p,(4:Int),v3.2)))
     (Option.bind (aA v6.1 (2:Int)) λv8=>
     some (.go (v1.2,v8.1.b,v8.1.p,v2.2,w64 ((64:Int)-(w64 (v8.2*(65:Int)))))))))
   (some (.go (v1.2,v5.1.b,v5.1.p,v2.2,v3.2)))) λj4=>
  JO.run j4 aNy
noncomputable def bWe:Sw tG:=⟨[.pt 128,.v (.i .i64)],.one (.st 141),qX⟩
theorem cDo:Sjk 205 bWe:=sgy [(64,.w g64),(96,.w g96)] ⟨s64,s96,trivial⟩ (.s .o (.s .o (.j ⟨[4,5],[0],[(.c 5 0,.i .i64),(.d 0 0,.rb 5),(.d 0 1,.i .i64),(.c 5 1,.i .i64),(.c 5 2,.i .i64)]⟩ .o .o))) kr kr kr
noncomputable def pH (x_i:DIns):Option Int:=
 Option.bind (oL x_i) λv1=>
 cond (!v1)
  (some (-1:Int))
  (some (w64 ((w64 ((w64 (x_i.Op*(256:Int)))+(w64 (x_i.A*(64:Int)))))+x_i.N)))
noncomputable def bWd:Sg tG:=⟨[.st 141],.one (.i .i64),pH⟩
theorem cDf:Sok 206 bWd:=sgx [(159,.r bNa)] ⟨bZi,trivial⟩ .o kr kr kr
noncomputable def xF  (s2:(List Int)×(List Int)×Int):Option (Dl20Rd×(List Int)):=some ((Dl20Rd.mk s2.2.1 s2.2.2),s2.1)
noncomputable def xL (s3:(List Int)×Int×(List Int)×Int)(s4:(List Int)×Int×(List Int)):Option (LO ((List Int)×Int×(List Int)×Int) (JO ((List Int)×(List Int)×Int) (Dl20Rd×(List Int)))):=some (.next (s4.1,s4.2.1,s4.2.2,w64 (s3.2.2.2+(1:Int))))
noncomputable def wF (s3:(List Int)×Int×(List Int)×Int)(v11:Dl20Rd×DIns)(s13:(List Int)×Int×Int):Option (JO ((List Int)×Int×(List Int)) (LO ((List Int)×Int×(List Int)×Int) (JO ((List Int)×(List Int)×Int) (Dl20Rd×(List Int))))):=
 Option.bind (pH (DIns.mk s13.2.2 v11.2.A v11.2.N)) λv14=>
 grd ((0:Int)<=s3.2.2.2/\s3.2.2.2<((List.length s3.2.2.1:Nat):Int)) (some (.go (s13.1,s13.2.1,List.set s3.2.2.1 (Int.toNat s3.2.2.2) v14)))
noncomputable def vX (s3:(List Int)×Int×(List Int)×Int)(v11:Dl20Rd×DIns)(s12:(List Int)×Int×Int):Option (JO ((List Int)×Int×(List Int)) (LO ((List Int)×Int×(List Int)×Int) (JO ((List Int)×(List Int)×Int) (Dl20Rd×(List Int))))):=
 Option.bind (cond (decide (s12.2.2=(0:Int)))
  (Option.bind (aA (Dl20Rd.mk s12.1 s12.2.1) (4:Int)) λv15=>
  cond (decide ((0:Int)<v15.2))
   (some (.go (v15.1.b,v15.1.p,(1:Int))))
   (some (.go (v15.1.b,v15.1.p,s12.2.2))))
  (some (.go (s12.1,s12.2.1,s12.2.2)))) λj13=>
  JO.run j13 (wF s3 v11)
noncomputable def xN (s3:(List Int)×Int×(List Int)×Int)(s5:Bool):Option (JO ((List Int)×Int×(List Int)) (LO ((List Int)×Int×(List Int)×Int) (JO ((List Int)×(List Int)×Int) (Dl20Rd×(List Int))))):=
 cond s5
  (Option.bind (aA (Dl20Rd.mk s3.1 s3.2.1) (3:Int)) λv6=>
  cond (decide ((0:Int)<v6.2))
   (Option.bind (aA v6.1 (8:Int)) λv7=>
   Option.bind (aA v7.1 (4:Int)) λv8=>
   Option.bind (aA v8.1 (3:Int)) λv9=>
   Option.bind (dK (DEntry.mk (decide ((0:Int)<v7.2)) (decide ((0:Int)<v8.2)) (decide ((0:Int)<v9.2)) (Int.tmod s3.2.2.2 (8:Int)))) λv10=>
   grd ((0:Int)<=s3.2.2.2/\s3.2.2.2<((List.length s3.2.2.1:Nat):Int)) (some (.go (v9.1.b,v9.1.p,List.set s3.2.2.1 (Int.toNat s3.2.2.2) v10))))
   (some (.go (v6.1.b,v6.1.p,s3.2.2.1))))
  (Option.bind (qX (Dl20Rd.mk s3.1 s3.2.1) (0:Int)) λv11=>
  Option.bind (Option.bind (aA v11.1 (2:Int)) λv16=>
   cond (decide (v16.2=(0:Int)))
    (Option.bind (aA v16.1 (10:Int)) λv17=>
    grd ((0:Int)<=v17.2/\v17.2<((10:Nat):Int)) (some (.go (v17.1.b,v17.1.p,List.getD ([(1:Int),(2:Int),(3:Int),(4:Int),(3:Int),(4:Int),(6:Int),(7:Int),(11:Int),(15:Int)]:List Int) (Int.toNat v17.2) default))))
    (some (.go (v16.1.b,v16.1.p,v11.2.Op)))) λj12=>
   JO.run j12 (vX s3 v11))
noncomputable def qE  (s3:(List Int)×Int×(List Int)×Int):Option (LO ((List Int)×Int×(List Int)×Int) (JO ((List Int)×(List Int)×Int) (Dl20Rd×(List Int)))):=
 cond (decide (s3.2.2.2<((List.length s3.2.2.1:Nat):Int)))
  (Option.bind (Option.bind (cond (decide ((w64 (Int.tdiv s3.2.2.2 (8:Int)))=(1:Int)))
   (some (.go (decide ((w64 (Int.tdiv s3.2.2.2 (8:Int)))=(1:Int)))))
   (some (.go (decide ((w64 (Int.tdiv s3.2.2.2 (8:Int)))=(2:Int)))))) λj5=>
   JO.run j5 (xN s3)) λj4=>
   JO.run j4 (xL s3))
  (some (.ret (.go (s3.2.2.1,s3.1,s3.2.1))))
noncomputable def pU (x_r:Dl20Rd):Option (Dl20Rd×(List Int)):=
 Option.bind (nB x_r (0:Int)) λv1=>
 Option.bind (Option.bind (iter qE (v1.1.b,v1.1.p,v1.2,(0:Int))) LO.val) λj2=>
  JO.run j2 xF
noncomputable def bXa:Sw tG:=⟨[.pt 128],.one (.row 3),pU⟩
theorem cBe:Sjk 173 bXa:=sgy [(174,.w bPa),(64,.w g64),(204,.r bMu),(205,.w bWe),(206,.r bWd)] ⟨bZd,s64,bVx,cDo,cDf,trivial⟩ (.s .o (.s .o (.j ⟨[],[0],[(.s 3,.ro 3),(.d 0 0,.rb 5),(.d 0 1,.i .i64)]⟩ (.s .o (.k (.l ⟨[0],[],[(.c 0 0,.rb 5),(.c 0 1,.i .i64),(.s 3,.ro 3),(.s 4,.i .i64)]⟩ (.s .o (.j ⟨[0,4],[],[(.c 0 0,.rb 5),(.c 0 1,.i .i64),(.s 3,.ro 3)]⟩ (.k (.s .o (.k (.j ⟨[0,3,4],[],[(.s 41,.b)]⟩ .o (.c .o (.s .o (.j ⟨[0,3,4,5],[],[(.c 0 0,.rb 5),(.c 0 1,.i .i64),(.c 5 0,.i .i64)]⟩ .o (.j ⟨[0,3,4,5],[],[(.c 0 0,.rb 5),(.c 0 1,.i .i64),(.c 5 0,.i .i64)]⟩ .o .o)))))))) .o))))) .o))) kr kr kr
noncomputable def aKr (s4:(List Int)×Int×(List Int))(s5:(List Int)×Int×Int×Int×Int×Bool×Int×Int×Int×Bool×Bool×Bool×Bool×(List Int)×Int×(List Int)×(List Int)):Option (Dl20Rd×DBare):=some ((Dl20Rd.mk s5.2.2.2.2.2.2.2.2.2.2.2.2.2.1 s5.2.2.2.2.2.2.2.2.2.2.2.2.2.2.1),DBare.mk (DCore.mk s5.1 s5.2.1 s5.2.2.1 s5.2.2.2.1 s5.2.2.2.2.1 s5.2.2.2.2.2.1 s5.2.2.2.2.2.2.1 s5.2.2.2.2.2.2.2.1 s5.2.2.2.2.2.2.2.2.1 s5.2.2.2.2.2.2.2.2.2.1 s5.2.2.2.2.2.2.2.2.2.2.1 s5.2.2.2.2.2.2.2.2.2.2.2.1 s5.2.2.2.2.2.2.2.2.2.2.2.2.1) s5.2.2.2.2.2.2.2.2.2.2.2.2.2.2.2.1 s5.2.2.2.2.2.2.2.2.2.2.2.2.2.2.2.2 s4.2.2)
noncomputable def xP (x_n:Int)(v1:Dl20Rd×DCore)(v2:Dl20Rd×(List Int))(s3:(List Int)×Int×(List Int))(s4:(List Int)×Int×(List Int)):Option (Dl20Rd×DBare):=
 Option.bind (Option.bind (bL (Dl20Rd.mk s4.1 s4.2.1) x_n) λv6=>
  cond v6.2
   (Option.bind (aA v6.1 (3:Int)) λv7=>
   cond (decide (v7.2=(0:Int)))
    (Option.bind (lW v7.1 (1:Int)) λv8=>
    some (.go (v8.2.Regs,v8.2.Pc,v8.2.Root,v8.2.Vector,v8.2.Saved,v8.2.SavedUser,v8.2.Cause,v8.2.Bad,v8.2.Timer,v8.2.Waits,v8.2.User,v8.2.On,v8.2.Stopped,v8.1.b,v8.1.p,v2.2,s3.2.2)))
    (cond (decide (v7.2=(1:Int)))
     (Option.bind (nB v7.1 (1:Int)) λv9=>
     some (.go (v1.2.Regs,v1.2.Pc,v1.2.Root,v1.2.Vector,v1.2.Saved,v1.2.SavedUser,v1.2.Cause,v1.2.Bad,v1.2.Timer,v1.2.Waits,v1.2.User,v1.2.On,v1.2.Stopped,v9.1.b,v9.1.p,v9.2,s3.2.2)))
     (some (.go (v1.2.Regs,v1.2.Pc,v1.2.Root,v1.2.Vector,v1.2.Saved,v1.2.SavedUser,v1.2.Cause,v1.2.Bad,v1.2.Timer,v1.2.Waits,v1.2.User,v1.2.On,v1.2.Stopped,v7.1.b,v7.1.p,v2.2,List.replicate (Int.toNat (31:Int)) (0:Int))))))
   (some (.go (v1.2.Regs,v1.2.Pc,v1.2.Root,v1.2.Vector,v1.2.Saved,v1.2.SavedUser,v1.2.Cause,v1.2.Bad,v1.2.Timer,v1.2.Waits,v1.2.User,v1.2.On,v1.2.Stopped,v6.1.b,v6.1.p,v2.2,s3.2.2)))) λj5=>
  JO.run j5 (aKr s4)
noncomputable def vW  (s11:(List Int)×Int×(List Int)×Int):Option (LO ((List Int)×Int×(List Int)×Int) (JO ((List Int)×Int×(List Int)) (Dl20Rd×DBare))):=
 cond (decide ((0:Int)<s11.2.2.2))
  (Option.bind (cV (Dl20Rd.mk s11.1 s11.2.1)) λv12=>
  grd ((List.length s11.2.2.1+List.length ([v12.2]:List Int))*8<=2^47/\List.length s11.2.2.1+List.length ([v12.2]:List Int)<=2^47) (some (.next (v12.1.b,v12.1.p,s11.2.2.1++([v12.2]:List Int),w64 (s11.2.2.2-(1:Int))))))
  (some (.ret (.go (s11.1,s11.2.1,s11.2.2.1))))
noncomputable def xH (x_n:Int)(v1:Dl20Rd×DCore)(v2:Dl20Rd×(List Int))(s3:(List Int)×Int×(List Int)):Option (Dl20Rd×DBare):=
 Option.bind (Option.bind (aA (Dl20Rd.mk s3.1 s3.2.1) (3:Int)) λv10=>
  Option.bind (iter vW (v10.1.b,v10.1.p,([]:List Int),v10.2)) LO.val) λj4=>
  JO.run j4 (xP x_n v1 v2 s3)
noncomputable def lF  (s14:(List Int)×Int×(List Int)×Int):Option (LO ((List Int)×Int×(List Int)×Int) (JO ((List Int)×Int×(List Int)) (Dl20Rd×DBare))):=
 cond (decide ((0:Int)<s14.2.2.2))
  (Option.bind (cV (Dl20Rd.mk s14.1 s14.2.1)) λv15=>
  grd ((List.length s14.2.2.1+List.length ([v15.2]:List Int))*8<=2^47/\List.length s14.2.2.1+List.length ([v15.2]:List Int)<=2^47) (some (.next (v15.1.b,v15.1.p,s14.2.2.1++([v15.2]:List Int),w64 (s14.2.2.2-(1:Int))))))
  (some (.ret (.go (s14.1,s14.2.1,s14.2.2.1))))
noncomputable def pL (x_r:Dl20Rd)(x_n:Int):Option (Dl20Rd×DBare):=
 Option.bind (lW x_r (0:Int)) λv1=>
 Option.bind (pU v1.1) λv2=>
 Option.bind (Option.bind (aA v2.1 (4:Int)) λv13=>
  Option.bind (iter lF (v13.1.b,v13.1.p,([]:List Int),v13.2)) LO.val) λj3=>
  JO.run j3 (xH x_n v1 v2)
noncomputable def bZx:Sw tG:=⟨[.pt 128,.v (.i .i64)],.one (.st 41),pL⟩
theorem cCx:Sjk 137 bZx:=sgy [(172,.w bYs),(173,.w bXa),(64,.w g64),(136,.w aWk),(96,.w g96),(174,.w bPa)] ⟨cCm,cBe,s64,bIj,s96,bZd,trivial⟩ (.s .o (.s .o (.j ⟨[0,1,4,5],[],[(.c 0 0,.rb 5),(.c 0 1,.i .i64),(.c 5 14,.ro 3)]⟩ (.s .o (.k (.l ⟨[0,1,4,5],[],[(.c 0 0,.rb 5),(.c 0 1,.i .i64),(.c 5 14,.ro 3),(.s 6,.i .i64)]⟩ (.s .o (.s (.k (.m [0])) .o))))) (.j ⟨[0,1,4,5],[],[(.c 0 0,.rb 5),(.c 0 1,.i .i64),(.c 5 15,.ro 3)]⟩ (.s .o (.k (.l ⟨[0,1,4,5],[],[(.c 0 0,.rb 5),(.c 0 1,.i .i64),(.c 5 15,.ro 3),(.s 7,.i .i64)]⟩ (.s .o (.s (.k (.m [0])) .o))))) (.j ⟨[4,5],[0],[(.c 5 0,.ro 3),(.c 5 1,.i .i64),(.c 5 2,.i .i64),(.c 5 3,.i .i64),(.c 5 4,.i .i64),(.c 5 5,.b),(.c 5 6,.i .i64),(.c 5 7,.i .i64),(.c 5 8,.i .i64),(.c 5 9,.b),(.c 5 10,.b),(.c 5 11,.b),(.c 5 12,.b),(.d 0 0,.rb 5),(.d 0 1,.i .i64),(.c 5 13,.ro 3),(.c 5 14,.ro 3)]⟩ .o .o))))) kr kr kr
theorem aOj:LW 135 ⟨6,[.cell 2 true 2],.seq (.reg false (rg 135 0)) (.seq (.rega [rg 135 1,rg 135 2]) .ret)⟩:=kr
noncomputable def pW (x_none:Int):Option DHost:=some (DHost.mk (List.replicate (Int.toNat (160:Int)) (0:Int)) (List.replicate (Int.toNat (3:Int)) (DGuest.mk false (DCore.mk ([]:List Int) (0:Int) (0:Int) (0:Int) (0:Int) false (0:Int) (0:Int) (0:Int) false false false false) ([]:List DSlot) ([]:List Int) ([]:List Int))))
theorem aRh{x_none:Int}{R_:DHost}(hh:pW x_none=some R_):Fn Tryz.prog 135 [.int .i64 x_none] (.agg [.own 3 1 (List.length R_.Words) (fl (eI .i64) R_.Words),.own 94 17 (List.length R_.Guests) (fl fD R_.Guests)]):=by let z1:=DCore.mk ([]:List Int) (0:Int) (0:Int) (0:Int) (0:Int) false (0:Int) (0:Int) (0:Int) false false false false;let z2:=DGuest.mk false z1 ([]:List DSlot) ([]:List Int) ([]:List Int);unfold pW at hh;refine Fn.start aOj [] (E:=sp 6 []) kr (v:= .agg [sw 0 R_.Words,.sref 1 [] 0 (List.length R_.Guests) 17]) (Hr:=[(1,some (rO94 R_.Guests)),(0,some (rI_3 R_.Words))]) (k:=2) kr (sy [2] [0] (sp 6 [(2,pp 0)]) [(0,some ⟨26,[.nil,.nil]⟩)] 1 (Aw.srega [2] [0,1,2] (bKz ?_ (bKz ?_ bWk))));{refine ys (.mk 3 1 8 [ii 0] (.c (ii 160))) (some 3) (aVq (c:=(eI .i64)) (d:=(0:Int)) (k:=(160:Int)) kr dd kr ?_);refine ys (.mk 94 17 176 zc0 (.c (ii 3))) (some 4) (aXl (z:=(bb false:: .nil::oA [.nil,.nil,.nil])) (k:=(3:Int)) kr dd ?_);let q1:Root:=⟨26,[.sref 1 [] 0 (List.length (List.replicate (Int.toNat (160:Int)) (0:Int))) 1,.sref 2 [] 0 (Int.toNat (3:Int)) 17]⟩;let q2:Root:=(rI_3 (List.replicate (Int.toNat (160:Int)) (0:Int)));let q3:Root:=⟨94,aR (bb false:: .nil::oA [.nil,.nil,.nil]) (Int.toNat (3:Int))⟩;refine yt (sp 6 [(2,pp 0)]) [(0,some q1),(1,some q2),(2,some q3)] 3 (Aw.ent (Ent.foldM (c:=fD) (k:=Int.toNat (3:Int)) (d:=z2) (R:=2) (e:=94) (us2:=sp 6 [(2,pp 0)]) (H2:=[(0,some ⟨26,[.sref 1 [] 0 (List.length (List.replicate (Int.toNat (160:Int)) (0:Int))) 1,.sref 3 [] 0 (List.length (List.replicate (Int.toNat (3:Int)) z2)) 17]⟩),(1,some q2)]) (L:=[none,some none,none,none,none,none,none,none,none,none,none,none,none,none,some none,some none,some none]) (ws:=(bb false:: .own 3 1 0 []::oA [.own 91 3 0 [],.own 3 1 0 [],.own 3 1 0 []])) dd kr kr (eP (aAu (eP (eP (eP (eP (eP (eP (eP (eP (eP (eP (eP (eP (aAu (aAu (aAu bSb))))))))))))))))) rfl (bMh kr (bRu (u:=pp 0) kr (.same _) bRt)) (bHz (t:=q1) rfl kr rfl (aVh (.same _) (aVh (.sref _ _ _ _ eqn) bRw)) (bHz (t:=q2) rfl kr rfl aZd bZw))) (Aw.ret ?_));rw[cW hh];let q4:Root:=(rO94 (List.replicate (Int.toNat (3:Int)) z2));exact qZ (r':= .agg [.sref 1 [] 0 (List.length (List.replicate (Int.toNat (160:Int)) (0:Int))) 1,.sref 3 [] 0 (List.length (List.replicate (Int.toNat (3:Int)) z2)) 17]) kr (Ent.list [some 1,some 3] rfl rfl (Nat.zero_le _) (mB (lU rz)) (hn jJ (hn bK dC)))};refine ys (.mk 94 17 176 zc0 (.c (ii 3))) (some 4) (aXl (z:=(bb false:: .nil::oA [.nil,.nil,.nil])) (k:=(3:Int)) kr dd ?_);refine ys (.mk 3 1 8 [ii 0] (.c (ii 160))) (some 3) (aVq (c:=(eI .i64)) (d:=(0:Int)) (k:=(160:Int)) kr dd kr ?_);let q5:Root:=⟨26,[.sref 2 [] 0 (List.length (List.replicate (Int.toNat (160:Int)) (0:Int))) 1,.sref 1 [] 0 (Int.toNat (3:Int)) 17]⟩;let q6:Root:=⟨94,aR (bb false:: .nil::oA [.nil,.nil,.nil]) (Int.toNat (3:Int))⟩;let q7:Root:=(rI_3 (List.replicate (Int.toNat (160:Int)) (0:Int)));refine yt (sp 6 [(2,pp 0)]) [(0,some q5),(1,some q6),(2,some q7)] 3 (Aw.ent (Ent.foldM (c:=fD) (k:=Int.toNat (3:Int)) (d:=z2) (R:=1) (e:=94) (us2:=sp 6 [(2,pp 0)]) (H2:=[(0,some ⟨26,[.sref 2 [] 0 (List.length (List.replicate (Int.toNat (160:Int)) (0:Int))) 1,.sref 3 [] 0 (List.length (List.replicate (Int.toNat (3:Int)) z2)) 17]⟩),(2,some q7)]) (L:=[none,some none,none,none,none,none,none,none,none,none,none,none,none,none,some none,some none,some none]) (ws:=(bb false:: .own 3 1 0 []::oA [.own 91 3 0 [],.own 3 1 0 [],.own 3 1 0 []])) dd kr kr (eP (aAu (eP (eP (eP (eP (eP (eP (eP (eP (eP (eP (eP (eP (aAu (aAu (aAu bSb))))))))))))))))) rfl (bMh kr (bRu (u:=pp 0) kr (.same _) bRt)) (bHz (t:=q5) rfl kr rfl (aVh (.same _) (aVh (.sref _ _ _ _ eqn) bRw)) (bHz (t:=q7) rfl kr rfl aZd bZw))) (Aw.ret ?_));rw[cW hh];let q8:Root:=(rO94 (List.replicate (Int.toNat (3:Int)) z2));exact qZ (r':= .agg [.sref 2 [] 0 (List.length (List.replicate (Int.toNat (160:Int)) (0:Int))) 1,.sref 3 [] 0 (List.length (List.replicate (Int.toNat (3:Int)) z2)) 17]) kr (Ent.list [some 2,some 3] rfl rfl (Nat.zero_le _) (mB (lU rz)) (hn jJ (hn bK dC)))
noncomputable def bXj:Sg tG:=⟨[.i .i64],.one (.st 2026),pW⟩
theorem cDm:Sok 135 bXj:=λx_none R_ hh=>kc (aRh (x_none:=x_none) hh)
noncomputable def aKp  (s5:(List Int)×(List Int)×Int×(List DGuest)):Option (Dl20Rd×DHost):=some ((Dl20Rd.mk s5.2.1 s5.2.2.1),DHost.mk s5.1 s5.2.2.2)
noncomputable def xT (x_n:Int)(s3:(List Int)×Int×(List Int)×(List DGuest))(s4:(List Int)×Int×(List DGuest)):Option (Dl20Rd×DHost):=
 Option.bind (Option.bind (bL (Dl20Rd.mk s4.1 s4.2.1) x_n) λv6=>
  cond v6.2
   (Option.bind (aA v6.1 (4:Int)) λv7=>
   cond (decide (v7.2=(0:Int)))
    (Option.bind (aA v7.1 (9:Int)) λv8=>
    grd ((0:Int)<=v8.2/\v8.2<((List.length s3.2.2.1:Nat):Int)) (some (.go ((List.set s3.2.2.1 (Int.toNat v8.2) (4096:Int)),v8.1.b,v8.1.p,s4.2.2))))
    (cond (decide (v7.2=(1:Int)))
     (grd ((0:Int)<=(0:Int)/\(0:Int)<=(2:Int)/\(2:Int)<=((List.length s4.2.2:Nat):Int)) (some (.go (s3.2.2.1,v7.1.b,v7.1.p,List.take (Int.toNat (2:Int)-Int.toNat (0:Int)) s4.2.2))))
     (cond (decide (v7.2=(2:Int)))
      (grd ((0:Int)<=(2:Int)/\(2:Int)<((List.length s4.2.2:Nat):Int)) (some (.go (s3.2.2.1,v7.1.b,v7.1.p,List.set s4.2.2 2 (DGuest.mk false (DCore.mk ([]:List Int) (0:Int) (0:Int) (0:Int) (0:Int) false (0:Int) (0:Int) (0:Int) false false false false) ([]:List DSlot) ([(1:Int)]:List Int) ([]:List Int))))))
      (grd ((0:Int)<=(0:Int)/\(0:Int)<((List.length s4.2.2:Nat):Int)) (some (.go (s3.2.2.1,v7.1.b,v7.1.p,List.set s4.2.2 0 (DGuest.mk (List.getD s4.2.2 0 default).Live (List.getD s4.2.2 0 default).C ([DSlot.mk (3:Int) true false,DSlot.mk (3:Int) false false]:List DSlot) (List.getD s4.2.2 0 default).In (List.getD s4.2.2 0 default).Out))))))))
   (some (.go (s3.2.2.1,v6.1.b,v6.1.p,s4.2.2)))) λj5=>
  JO.run j5 aKp
noncomputable def vG (s10:(List Int)×Int×(List DGuest)×Int)(s11:(List Int)×Int×(List DGuest)):Option (LO ((List Int)×Int×(List DGuest)×Int) (JO ((List Int)×Int×(List DGuest)) (Dl20Rd×DHost))):=some (.next (s11.1,s11.2.1,s11.2.2,w64 (s10.2.2.2-(1:Int))))
noncomputable def pC  (s10:(List Int)×Int×(List DGuest)×Int):Option (LO ((List Int)×Int×(List DGuest)×Int) (JO ((List Int)×Int×(List DGuest)) (Dl20Rd×DHost))):=
 cond (decide ((0:Int)<s10.2.2.2))
  (Option.bind (Option.bind (aA (Dl20Rd.mk s10.1 s10.2.1) (3:Int)) λv12=>
   Option.bind (aA v12.1 (3:Int)) λv13=>
   Option.bind (aA v13.1 (8:Int)) λv14=>
   grd ((0:Int)<=v12.2/\v12.2<((List.length s10.2.2.1:Nat):Int)) (cond (List.getD s10.2.2.1 (Int.toNat v12.2) default).Live
    (grd ((0:Int)<=v13.2/\v13.2<((List.length s10.2.2.1:Nat):Int)) (cond (List.getD s10.2.2.1 (Int.toNat v13.2) default).Live
     (grd ((0:Int)<=v12.2/\v12.2<((List.length s10.2.2.1:Nat):Int)) (grd ((0:Int)<=v14.2/\v14.2<((List.length (List.getD s10.2.2.1 (Int.toNat v12.2) default).Pages:Nat):Int)) (cond (decide ((0:Int)<=(List.getD (List.getD s10.2.2.1 (Int.toNat v12.2) default).Pages (Int.toNat v14.2) default).Frame))
      (grd ((0:Int)<=v12.2/\v12.2<((List.length s10.2.2.1:Nat):Int)) (grd ((0:Int)<=v14.2/\v14.2<((List.length (List.getD s10.2.2.1 (Int.toNat v12.2) default).Pages:Nat):Int)) (grd ((0:Int)<=v13.2/\v13.2<((List.length s10.2.2.1:Nat):Int)) (Option.bind (aA v14.1 (8:Int)) λv15=>
       grd ((0:Int)<=v12.2/\v12.2<((List.length s10.2.2.1:Nat):Int)) (grd ((0:Int)<=v14.2/\v14.2<((List.length (List.getD (List.set s10.2.2.1 (Int.toNat v12.2) (DGuest.mk (List.getD s10.2.2.1 (Int.toNat v12.2) default).Live (List.getD s10.2.2.1 (Int.toNat v12.2) default).C (List.set (List.getD s10.2.2.1 (Int.toNat v12.2) default).Pages (Int.toNat v14.2) (DSlot.mk (List.getD (List.getD s10.2.2.1 (Int.toNat v12.2) default).Pages (Int.toNat v14.2) default).Frame false (List.getD (List.getD s10.2.2.1 (Int.toNat v12.2) default).Pages (Int.toNat v14.2) default).Dirty)) (List.getD s10.2.2.1 (Int.toNat v12.2) default).In (List.getD s10.2.2.1 (Int.toNat v12.2) default).Out)) (Int.toNat v12.2) default).Pages:Nat):Int)) (Option.bind (aA v15.1 (2:Int)) λv16=>
        grd ((0:Int)<=v15.2/\v15.2<((List.length (List.getD (List.set s10.2.2.1 (Int.toNat v12.2) (DGuest.mk (List.getD s10.2.2.1 (Int.toNat v12.2) default).Live (List.getD s10.2.2.1 (Int.toNat v12.2) default).C (List.set (List.getD s10.2.2.1 (Int.toNat v12.2) default).Pages (Int.toNat v14.2) (DSlot.mk (List.getD (List.getD s10.2.2.1 (Int.toNat v12.2) default).Pages (Int.toNat v14.2) default).Frame false (List.getD (List.getD s10.2.2.1 (Int.toNat v12.2) default).Pages (Int.toNat v14.2) default).Dirty)) (List.getD s10.2.2.1 (Int.toNat v12.2) default).In (List.getD s10.2.2.1 (Int.toNat v12.2) default).Out)) (Int.toNat v13.2) default).Pages:Nat):Int)) (some (.go (v16.1.b,v16.1.p,List.set (List.set s10.2.2.1 (Int.toNat v12.2) (DGuest.mk (List.getD s10.2.2.1 (Int.toNat v12.2) default).Live (List.getD s10.2.2.1 (Int.toNat v12.2) default).C (List.set (List.getD s10.2.2.1 (Int.toNat v12.2) default).Pages (Int.toNat v14.2) (DSlot.mk (List.getD (List.getD s10.2.2.1 (Int.toNat v12.2) default).Pages (Int.toNat v14.2) default).Frame false (List.getD (List.getD s10.2.2.1 (Int.toNat v12.2) default).Pages (Int.toNat v14.2) default).Dirty)) (List.getD s10.2.2.1 (Int.toNat v12.2) default).In (List.getD s10.2.2.1 (Int.toNat v12.2) default).Out)) (Int.toNat v13.2) (DGuest.mk (List.getD (List.set s10.2.2.1 (Int.toNat v12.2) (DGuest.mk (List.getD s10.2.2.1 (Int.toNat v12.2) default).Live (List.getD s10.2.2.1 (Int.toNat v12.2) default).C (List.set (List.getD s10.2.2.1 (Int.toNat v12.2) default).Pages (Int.toNat v14.2) (DSlot.mk (List.getD (List.getD s10.2.2.1 (Int.toNat v12.2) default).Pages (Int.toNat v14.2) default).Frame false (List.getD (List.getD s10.2.2.1 (Int.toNat v12.2) default).Pages (Int.toNat v14.2) default).Dirty)) (List.getD s10.2.2.1 (Int.toNat v12.2) default).In (List.getD s10.2.2.1 (Int.toNat v12.2) default).Out)) (Int.toNat v13.2) default).Live (List.getD (List.set s10.2.2.1 (Int.toNat v12.2) (DGuest.mk (List.getD s10.2.2.1 (Int.toNat v12.2) default).Live (List.getD s10.2.2.1 (Int.toNat v12.2) default).C (List.set (List.getD s10.2.2.1 (Int.toNat v12.2) default).Pages (Int.toNat v14.2) (DSlot.mk (List.getD (List.getD s10.2.2.1 (Int.toNat v12.2) default).Pages (Int.toNat v14.2) default).Frame false (List.getD (List.getD s10.2.2.1 (Int.toNat v12.2) default).Pages (Int.toNat v14.2) default).Dirty)) (List.getD s10.2.2.1 (Int.toNat v12.2) default).In (List.getD s10.2.2.1 (Int.toNat v12.2) default).Out)) (Int.toNat v13.2) default).C (List.set (List.getD (List.set s10.2.2.1 (Int.toNat v12.2) (DGuest.mk (List.getD s10.2.2.1 (Int.toNat v12.2) default).Live (List.getD s10.2.2.1 (Int.toNat v12.2) default).C (List.set (List.getD s10.2.2.1 (Int.toNat v12.2) default).Pages (Int.toNat v14.2) (DSlot.mk (List.getD (List.getD s10.2.2.1 (Int.toNat v12.2) default).Pages (Int.toNat v14.2) default).Frame false (List.getD (List.getD s10.2.2.1 (Int.toNat v12.2) default).Pages (Int.toNat v14.2) default).Dirty)) (List.getD s10.2.2.1 (Int.toNat v12.2) default).In (List.getD s10.2.2.1 (Int.toNat v12.2) default).Out)) (Int.toNat v13.2) default).Pages (Int.toNat v15.2) (DSlot.mk (List.getD (List.getD (List.set s10.2.2.1 (Int.toNat v12.2) (DGuest.mk (List.getD s10.2.2.1 (Int.toNat v12.2) default).Live (List.getD s10.2.2.1 (Int.toNat v12.2) default).C (List.set (List.getD s10.2.2.1 (Int.toNat v12.2) default).Pages (Int.toNat v14.2) (DSlot.mk (List.getD (List.getD s10.2.2.1 (Int.toNat v12.2) default).Pages (Int.toNat v14.2) default).Frame false (List.getD (List.getD s10.2.2.1 (Int.toNat v12.2) default).Pages (Int.toNat v14.2) default).Dirty)) (List.getD s10.2.2.1 (Int.toNat v12.2) default).In (List.getD s10.2.2.1 (Int.toNat v12.2) default).Out)) (Int.toNat v12.2) default).Pages (Int.toNat v14.2) default).Frame false (decide (v16.2=(0:Int))))) (List.getD (List.set s10.2.2.1 (Int.toNat v12.2) (DGuest.mk (List.getD s10.2.2.1 (Int.toNat v12.2) default).Live (List.getD s10.2.2.1 (Int.toNat v12.2) default).C (List.set (List.getD s10.2.2.1 (Int.toNat v12.2) default).Pages (Int.toNat v14.2) (DSlot.mk (List.getD (List.getD s10.2.2.1 (Int.toNat v12.2) default).Pages (Int.toNat v14.2) default).Frame false (List.getD (List.getD s10.2.2.1 (Int.toNat v12.2) default).Pages (Int.toNat v14.2) default).Dirty)) (List.getD s10.2.2.1 (Int.toNat v12.2) default).In (List.getD s10.2.2.1 (Int.toNat v12.2) default).Out)) (Int.toNat v13.2) default).In (List.getD (List.set s10.2.2.1 (Int.toNat v12.2) (DGuest.mk (List.getD s10.2.2.1 (Int.toNat v12.2) default).Live (List.getD s10.2.2.1 (Int.toNat v12.2) default).C (List.set (List.getD s10.2.2.1 (Int.toNat v12.2) default).Pages (Int.toNat v14.2) (DSlot.mk (List.getD (List.getD s10.2.2.1 (Int.toNat v12.2) default).Pages (Int.toNat v14.2) default).Frame false (List.getD (List.getD s10.2.2.1 (Int.toNat v12.2) default).Pages (Int.toNat v14.2) default).Dirty)) (List.getD s10.2.2.1 (Int.toNat v12.2) default).In (List.getD s10.2.2.1 (Int.toNat v12.2) default).Out)) (Int.toNat v13.2) default).Out))))))))))
      (some (.go (v14.1.b,v14.1.p,s10.2.2.1))))))
     (some (.go (v14.1.b,v14.1.p,s10.2.2.1)))))
    (some (.go (v14.1.b,v14.1.p,s10.2.2.1))))) λj11=>
   JO.run j11 (vG s10))
  (some (.ret (.go (s10.1,s10.2.1,s10.2.2.1))))
noncomputable def xE (x_n:Int)(s3:(List Int)×Int×(List Int)×(List DGuest)):Option (Dl20Rd×DHost):=
 Option.bind (Option.bind (aA (Dl20Rd.mk s3.1 s3.2.1) (4:Int)) λv9=>
  Option.bind (iter pC (v9.1.b,v9.1.p,s3.2.2.2,v9.2)) LO.val) λj4=>
  JO.run j4 (xT x_n s3)
noncomputable def vL (s18:(List Int)×Int×(List Int)×(List DGuest)×(List Int)×Int×Int×Int×Int×Bool×Int×Int×Int×Bool×Bool×Bool×Bool×(List Int)×(List Int)×(List Int)×Int)(s19:(List Int)×Int×(List Int)×(List DGuest)×(List Int)×Int×Int×Int×Int×Bool×Int×Int×Int×Bool×Bool×Bool×Bool×(List Int)×(List Int)×(List Int)):Option (LO ((List Int)×Int×(List Int)×(List DGuest)×(List Int)×Int×Int×Int×Int×Bool×Int×Int×Int×Bool×Bool×Bool×Bool×(List Int)×(List Int)×(List Int)×Int) (JO ((List Int)×Int×(List Int)×(List DGuest)) (Dl20Rd×DHost))):=some (.next (s19.1,s19.2.1,s19.2.2.1,s19.2.2.2.1,s19.2.2.2.2.1,s19.2.2.2.2.2.1,s19.2.2.2.2.2.2.1,s19.2.2.2.2.2.2.2.1,s19.2.2.2.2.2.2.2.2.1,s19.2.2.2.2.2.2.2.2.2.1,s19.2.2.2.2.2.2.2.2.2.2.1,s19.2.2.2.2.2.2.2.2.2.2.2.1,s19.2.2.2.2.2.2.2.2.2.2.2.2.1,s19.2.2.2.2.2.2.2.2.2.2.2.2.2.1,s19.2.2.2.2.2.2.2.2.2.2.2.2.2.2.1,s19.2.2.2.2.2.2.2.2.2.2.2.2.2.2.2.1,s19.2.2.2.2.2.2.2.2.2.2.2.2.2.2.2.2.1,s19.2.2.2.2.2.2.2.2.2.2.2.2.2.2.2.2.2.1,s19.2.2.2.2.2.2.2.2.2.2.2.2.2.2.2.2.2.2.1,s19.2.2.2.2.2.2.2.2.2.2.2.2.2.2.2.2.2.2.2,w64 (s18.2.2.2.2.2.2.2.2.2.2.2.2.2.2.2.2.2.2.2.2-(1:Int))))
noncomputable def wO (s18:(List Int)×Int×(List Int)×(List DGuest)×(List Int)×Int×Int×Int×Int×Bool×Int×Int×Int×Bool×Bool×Bool×Bool×(List Int)×(List Int)×(List Int)×Int)(v20:Dl20Rd×DBare)(s21:(List Int)×Int×(List Int)):Option (JO ((List Int)×Int×(List Int)×(List DGuest)×(List Int)×Int×Int×Int×Int×Bool×Int×Int×Int×Bool×Bool×Bool×Bool×(List Int)×(List Int)×(List Int)) (LO ((List Int)×Int×(List Int)×(List DGuest)×(List Int)×Int×Int×Int×Int×Bool×Int×Int×Int×Bool×Bool×Bool×Bool×(List Int)×(List Int)×(List Int)×Int) (JO ((List Int)×Int×(List Int)×(List DGuest)) (Dl20Rd×DHost)))):=
 Option.bind (nZ (DHost.mk s18.2.2.1 s18.2.2.2.1) (DBare.mk v20.2.C s21.2.2 v20.2.In v20.2.Out)) λv22=>
 cond v22.2.2
  (some (.go (s21.1,s21.2.1,v22.1.Words,v22.1.Guests,v20.2.C.Regs,v20.2.C.Pc,v20.2.C.Root,v20.2.C.Vector,v20.2.C.Saved,v20.2.C.SavedUser,v20.2.C.Cause,v20.2.C.Bad,v20.2.C.Timer,v20.2.C.Waits,v20.2.C.User,v20.2.C.On,v20.2.C.Stopped,s21.2.2,v20.2.In,v20.2.Out)))
  (some (.go (s21.1,s21.2.1,s18.2.2.1,s18.2.2.2.1,v20.2.C.Regs,v20.2.C.Pc,v20.2.C.Root,v20.2.C.Vector,v20.2.C.Saved,v20.2.C.SavedUser,v20.2.C.Cause,v20.2.C.Bad,v20.2.C.Timer,v20.2.C.Waits,v20.2.C.User,v20.2.C.On,v20.2.C.Stopped,s21.2.2,v20.2.In,v20.2.Out)))
noncomputable def wB (s23:(List Int)×Int×(List Int)×Int)(s24:(List Int)×Int×(List Int)):Option (LO ((List Int)×Int×(List Int)×Int) (JO ((List Int)×Int×(List Int)) (JO ((List Int)×Int×(List Int)×(List DGuest)×(List Int)×Int×Int×Int×Int×Bool×Int×Int×Int×Bool×Bool×Bool×Bool×(List Int)×(List Int)×(List Int)) (LO ((List Int)×Int×(List Int)×(List DGuest)×(List Int)×Int×Int×Int×Int×Bool×Int×Int×Int×Bool×Bool×Bool×Bool×(List Int)×(List Int)×(List Int)×Int) (JO ((List Int)×Int×(List Int)×(List DGuest)) (Dl20Rd×DHost)))))):=some (.next (s24.1,s24.2.1,s24.2.2,w64 (s23.2.2.2+(1:Int))))
noncomputable def wN (s18:(List Int)×Int×(List Int)×(List DGuest)×(List Int)×Int×Int×Int×Int×Bool×Int×Int×Int×Bool×Bool×Bool×Bool×(List Int)×(List Int)×(List Int)×Int)(s23:(List Int)×Int×(List Int)×Int)(s25:(List Int)×Int×(List Int)):Option (JO ((List Int)×Int×(List Int)) (LO ((List Int)×Int×(List Int)×Int) (JO ((List Int)×Int×(List Int)) (JO ((List Int)×Int×(List Int)×(List DGuest)×(List Int)×Int×Int×Int×Int×Bool×Int×Int×Int×Bool×Bool×Bool×Bool×(List Int)×(List Int)×(List Int)) (LO ((List Int)×Int×(List Int)×(List DGuest)×(List Int)×Int×Int×Int×Int×Bool×Int×Int×Int×Bool×Bool×Bool×Bool×(List Int)×(List Int)×(List Int)×Int) (JO ((List Int)×Int×(List Int)×(List DGuest)) (Dl20Rd×DHost))))))):=
 cond (decide ((0:Int)<((List.length s18.2.2.2.2.2.2.2.2.2.2.2.2.2.2.2.2.2.1:Nat):Int)))
  (Option.bind (aA (Dl20Rd.mk s25.1 s25.2.1) (3:Int)) λv26=>
  cond (decide (v26.2=(0:Int)))
   (grd ((0:Int)<=(w64 (s23.2.2.2*(8:Int)))/\(w64 (s23.2.2.2*(8:Int)))<=(w64 ((w64 (s23.2.2.2+(1:Int)))*(8:Int)))/\(w64 ((w64 (s23.2.2.2+(1:Int)))*(8:Int)))<=((List.length s25.2.2:Nat):Int)) (grd ((0:Int)<=(w64 (s23.2.2.2*(8:Int)))/\(w64 (s23.2.2.2*(8:Int)))<=((List.length s18.2.2.2.2.2.2.2.2.2.2.2.2.2.2.2.2.2.1:Nat):Int)/\((List.length s18.2.2.2.2.2.2.2.2.2.2.2.2.2.2.2.2.2.1:Nat):Int)<=((List.length s18.2.2.2.2.2.2.2.2.2.2.2.2.2.2.2.2.2.1:Nat):Int)) (some (.go (v26.1.b,v26.1.p,over s25.2.2 (Int.toNat (w64 (s23.2.2.2*(8:Int)))) (Int.toNat (w64 ((w64 (s23.2.2.2+(1:Int)))*(8:Int)))-Int.toNat (w64 (s23.2.2.2*(8:Int)))) (List.take (Int.toNat ((List.length s18.2.2.2.2.2.2.2.2.2.2.2.2.2.2.2.2.2.1:Nat):Int)-Int.toNat (w64 (s23.2.2.2*(8:Int)))) (List.drop (Int.toNat (w64 (s23.2.2.2*(8:Int)))) s18.2.2.2.2.2.2.2.2.2.2.2.2.2.2.2.2.2.1)))))))
   (some (.go (v26.1.b,v26.1.p,s25.2.2))))
  (some (.go (s25.1,s25.2.1,s25.2.2)))
noncomputable def oY (s18:(List Int)×Int×(List Int)×(List DGuest)×(List Int)×Int×Int×Int×Int×Bool×Int×Int×Int×Bool×Bool×Bool×Bool×(List Int)×(List Int)×(List Int)×Int)(s23:(List Int)×Int×(List Int)×Int):Option (LO ((List Int)×Int×(List Int)×Int) (JO ((List Int)×Int×(List Int)) (JO ((List Int)×Int×(List Int)×(List DGuest)×(List Int)×Int×Int×Int×Int×Bool×Int×Int×Int×Bool×Bool×Bool×Bool×(List Int)×(List Int)×(List Int)) (LO ((List Int)×Int×(List Int)×(List DGuest)×(List Int)×Int×Int×Int×Int×Bool×Int×Int×Int×Bool×Bool×Bool×Bool×(List Int)×(List Int)×(List Int)×Int) (JO ((List Int)×Int×(List Int)×(List DGuest)) (Dl20Rd×DHost)))))):=
 cond (decide (s23.2.2.2<(8:Int)))
  (Option.bind (Option.bind (cond (decide ((3:Int)<s23.2.2.2))
   (Option.bind (aA (Dl20Rd.mk s23.1 s23.2.1) (2:Int)) λv27=>
   cond (decide (v27.2=(0:Int)))
    (grd ((0:Int)<=(w64 (s23.2.2.2*(8:Int)))/\(w64 (s23.2.2.2*(8:Int)))<=((List.length s23.2.2.1:Nat):Int)/\((List.length s23.2.2.1:Nat):Int)<=((List.length s23.2.2.1:Nat):Int)) (some (.go (v27.1.b,v27.1.p,over s23.2.2.1 (Int.toNat (w64 (s23.2.2.2*(8:Int)))) (Int.toNat ((List.length s23.2.2.1:Nat):Int)-Int.toNat (w64 (s23.2.2.2*(8:Int)))) (List.replicate (Int.toNat (8:Int)) (0:Int))))))
    (some (.go (v27.1.b,v27.1.p,s23.2.2.1))))
   (some (.go (s23.1,s23.2.1,s23.2.2.1)))) λj25=>
   JO.run j25 (wN s18 s23)) λj24=>
   JO.run j24 (wB s23))
  (some (.ret (.go (s23.1,s23.2.1,s23.2.2.1))))
noncomputable def oM  (s18:(List Int)×Int×(List Int)×(List DGuest)×(List Int)×Int×Int×Int×Int×Bool×Int×Int×Int×Bool×Bool×Bool×Bool×(List Int)×(List Int)×(List Int)×Int):Option (LO ((List Int)×Int×(List Int)×(List DGuest)×(List Int)×Int×Int×Int×Int×Bool×Int×Int×Int×Bool×Bool×Bool×Bool×(List Int)×(List Int)×(List Int)×Int) (JO ((List Int)×Int×(List Int)×(List DGuest)) (Dl20Rd×DHost))):=
 cond (decide ((0:Int)<s18.2.2.2.2.2.2.2.2.2.2.2.2.2.2.2.2.2.2.2.2))
  (Option.bind (Option.bind (pL (Dl20Rd.mk s18.1 s18.2.1) (0:Int)) λv20=>
   Option.bind (Option.bind (iter (oY s18) (v20.1.b,v20.1.p,v20.2.Mem,(0:Int))) LO.val) λj21=>
    JO.run j21 (wO s18 v20)) λj19=>
   JO.run j19 (vL s18))
  (some (.ret (.go (s18.1,s18.2.1,s18.2.2.1,s18.2.2.2.1))))
noncomputable def xD (x_n:Int)(v1:DHost)(s2:(List Int)×Int×(List Int)):Option (Dl20Rd×DHost):=
 Option.bind (Option.bind (aA (Dl20Rd.mk s2.1 s2.2.1) (3:Int)) λv17=>
  Option.bind (iter oM (v17.1.b,v17.1.p,s2.2.2,v1.Guests,([]:List Int),(0:Int),(0:Int),(0:Int),(0:Int),false,(0:Int),(0:Int),(0:Int),false,false,false,false,([]:List Int),([]:List Int),([]:List Int),w64 ((1:Int)+v17.2))) LO.val) λj3=>
  JO.run j3 (xE x_n)
noncomputable def wD (s28:(List Int)×Int×(List Int)×Int)(s29:(List Int)×Int×(List Int)):Option (LO ((List Int)×Int×(List Int)×Int) (JO ((List Int)×Int×(List Int)) (Dl20Rd×DHost))):=some (.next (s29.1,s29.2.1,s29.2.2,w64 (s28.2.2.2+(1:Int))))
noncomputable def oV  (s28:(List Int)×Int×(List Int)×Int):Option (LO ((List Int)×Int×(List Int)×Int) (JO ((List Int)×Int×(List Int)) (Dl20Rd×DHost))):=
 cond (decide (s28.2.2.2<((List.length s28.2.2.1:Nat):Int)))
  (Option.bind (Option.bind (aA (Dl20Rd.mk s28.1 s28.2.1) (4:Int)) λv30=>
   cond (decide (v30.2=(0:Int)))
    (Option.bind (cV v30.1) λv31=>
    grd ((0:Int)<=s28.2.2.2/\s28.2.2.2<((List.length s28.2.2.1:Nat):Int)) (some (.go (v31.1.b,v31.1.p,List.set s28.2.2.1 (Int.toNat s28.2.2.2) v31.2))))
    (some (.go (v30.1.b,v30.1.p,s28.2.2.1)))) λj29=>
   JO.run j29 (wD s28))
  (some (.ret (.go (s28.1,s28.2.1,s28.2.2.1))))
noncomputable def lX (x_r:Dl20Rd)(x_n:Int):Option (Dl20Rd×DHost):=
 Option.bind (pW (0:Int)) λv1=>
 Option.bind (Option.bind (iter oV (x_r.b,x_r.p,v1.Words,(0:Int))) LO.val) λj2=>
  JO.run j2 (xD x_n v1)
noncomputable def g74:Sw tG:=⟨[.pt 128,.v (.i .i64)],.one (.st 2026),lX⟩
theorem s74:Sjk 74 g74:=sgy [(135,.r bXj),(64,.w g64),(136,.w aWk),(137,.w bZx),(138,.r bUy),(96,.w g96)] ⟨cDm,s64,bIj,cCx,cBm,s96,trivial⟩ (.s .o (.s .o (.j ⟨[0,1,4,5],[],[(.c 0 0,.rb 5),(.c 0 1,.i .i64),(.c 5 0,.ro 3)]⟩ (.s .o (.k (.l ⟨[0,1,4,5],[],[(.c 0 0,.rb 5),(.c 0 1,.i .i64),(.c 5 0,.ro 3),(.s 6,.i .i64)]⟩ (.s .o (.j ⟨[0,1,4,5,6],[],[(.c 0 0,.rb 5),(.c 0 1,.i .i64),(.c 5 0,.ro 3)]⟩ (.k (.s .o (.c (.m [0]) .o))) .o))))) (.s .o (.j ⟨[0,1,4,5],[],[(.c 0 0,.rb 5),(.c 0 1,.i .i64),(.c 5 0,.ro 3),(.c 5 1,.ro 1094)]⟩ (.s .o (.k (.l ⟨[0,1,4,5,7],[],[(.c 0 0,.rb 5),(.c 0 1,.i .i64),(.c 5 0,.ro 3),(.c 5 1,.ro 1094),(.c 7 0,.ro 3),(.c 7 1,.i .i64),(.c 7 2,.i .i64),(.c 7 3,.i .i64),(.c 7 4,.i .i64),(.c 7 5,.b),(.c 7 6,.i .i64),(.c 7 7,.i .i64),(.c 7 8,.i .i64),(.c 7 9,.b),(.c 7 10,.b),(.c 7 11,.b),(.c 7 12,.b),(.c 7 13,.ro 3),(.c 7 14,.ro 3),(.c 7 15,.ro 3),(.s 8,.i .i64)]⟩ (.s .o (.j ⟨[0,1,4,5,7,8],[],[(.c 0 0,.rb 5),(.c 0 1,.i .i64),(.c 5 0,.ro 3),(.c 5 1,.ro 1094),(.c 7 0,.ro 3),(.c 7 1,.i .i64),(.c 7 2,.i .i64),(.c 7 3,.i .i64),(.c 7 4,.i .i64),(.c 7 5,.b),(.c 7 6,.i .i64),(.c 7 7,.i .i64),(.c 7 8,.i .i64),(.c 7 9,.b),(.c 7 10,.b),(.c 7 11,.b),(.c 7 12,.b),(.c 7 13,.ro 3),(.c 7 14,.ro 3),(.c 7 15,.ro 3)]⟩ (.k (.s .o (.j ⟨[0,1,4,5,7,8,9],[],[(.c 0 0,.rb 5),(.c 0 1,.i .i64),(.c 9 13,.ro 3)]⟩ (.s .o (.k (.l ⟨[0,1,4,5,7,8,9],[],[(.c 0 0,.rb 5),(.c 0 1,.i .i64),(.c 9 13,.ro 3),(.s 10,.i .i64)]⟩ (.s .o (.j ⟨[0,1,4,5,7,8,9,10],[],[(.c 0 0,.rb 5),(.c 0 1,.i .i64),(.c 9 13,.ro 3)]⟩ (.k (.j ⟨[0,1,4,5,7,8,9,10],[],[(.c 0 0,.rb 5),(.c 0 1,.i .i64),(.c 9 13,.ro 3)]⟩ .o .o)) .o))))) .o))) .o))))) (.j ⟨[0,1,4,5],[],[(.c 0 0,.rb 5),(.c 0 1,.i .i64),(.c 5 1,.ro 1094)]⟩ (.s .o (.k (.l ⟨[0,1,4,5],[],[(.c 0 0,.rb 5),(.c 0 1,.i .i64),(.c 5 1,.ro 1094),(.s 14,.i .i64)]⟩ (.s .o (.j ⟨[0,1,4,5,14],[],[(.c 0 0,.rb 5),(.c 0 1,.i .i64),(.c 5 1,.ro 1094)]⟩ (.k (.s .o (.s .o (.s .o (.s .o (.c (.s .o (.m [0])) .o)))))) .o))))) (.j ⟨[4,5],[0],[(.c 5 0,.ro 3),(.d 0 0,.rb 5),(.d 0 1,.i .i64),(.c 5 1,.ro 1094)]⟩ (.s .o (.c (.s .o (.k (.s .o (.c (.m [0]) (.s .o (.c .o (.s .o (.c (.g [] [] [.fo (.c 5 1) 0]) (.g [] [] [.fo (.c 5 1) 0]))))))))) .o)) .o))))))) kr kr kr
noncomputable def wM  (s1:Unit):Option Bool:=some true
noncomputable def fI (x_a:List Int)(x_b:List Int)(s2:Int):Option (LO Int (JO Unit Bool)):=
 cond (decide (s2<((List.length x_a:Nat):Int)))
  (grd ((0:Int)<=s2/\s2<((List.length x_a:Nat):Int)) (grd ((0:Int)<=s2/\s2<((List.length x_b:Nat):Int)) (cond (!decide ((List.getD x_a (Int.toNat s2) default)=(List.getD x_b (Int.toNat s2) default)))
   (some (.ret (.out false)))
   (some (.next (w64 (s2+(1:Int))))))))
  (some (.ret (.go ())))
noncomputable def dE (x_a:List Int)(x_b:List Int):Option Bool:=
 cond (!decide (((List.length x_a:Nat):Int)=((List.length x_b:Nat):Int)))
  (some false)
  (Option.bind (Option.bind (iter (fI x_a x_b) (0:Int)) LO.val) λj1=>
   JO.run j1 wM)
noncomputable def g63:Sg tG:=⟨[.row 3,.row 3],.one .b,dE⟩
theorem s63:Sok 63 g63:=sgx [] trivial (.s .o (.s .o (.j ⟨[],[],[]⟩ (.s .o (.k (.l ⟨[0,1],[],[(.s 5,.i .i64)]⟩ .o))) .o))) kr kr kr
noncomputable def lG (x_a:DCore)(x_b:DCore):Option Bool:=
 Option.bind (dE x_a.Regs x_b.Regs) λv1=>
 cond (!v1)
  (some false)
  (cond (!decide (x_a.Pc=x_b.Pc))
   (some false)
   (cond (!decide (x_a.Root=x_b.Root))
    (some false)
    (cond (!decide (x_a.Vector=x_b.Vector))
     (some false)
     (cond (!decide (x_a.Saved=x_b.Saved))
      (some false)
      (cond (!(x_a.SavedUser==x_b.SavedUser))
       (some false)
       (cond (decide (x_a.Cause=x_b.Cause))
        (cond (decide (x_a.Bad=x_b.Bad))
         (cond (decide (x_a.Timer=x_b.Timer))
          (cond (x_a.Waits==x_b.Waits)
           (cond (x_a.User==x_b.User)
            (cond (x_a.On==x_b.On)
             (some (x_a.Stopped==x_b.Stopped))
             (some false))
            (some false))
           (some false))
          (some false))
         (some false))
        (some false)))))))
noncomputable def g62:Sg tG:=⟨[.st 39,.st 39],.one .b,lG⟩
theorem s62:Sok 62 g62:=sgx [(63,.r g63)] ⟨s63,trivial⟩ .o kr kr kr
noncomputable def lD (x_a:DBare)(x_b:DBare):Option Bool:=
 Option.bind (lG x_a.C x_b.C) λv1=>
 cond v1
  (Option.bind (dE x_a.Mem x_b.Mem) λv2=>
  cond v2
   (Option.bind (dE x_a.In x_b.In) λv3=>
   cond v3
    (Option.bind (dE x_a.Out x_b.Out) λv4=>
    some v4)
    (some false))
   (some false))
  (some false)
noncomputable def g16:Sg tG:=⟨[.st 41,.st 41],.one .b,lD⟩
theorem s16:Sok 16 g16:=sgx [(62,.r g62),(63,.r g63)] ⟨s62,s63,trivial⟩ .o kr kr kr
noncomputable def aGj  (s4:Unit):Option Bool:=some true
noncomputable def kE (x_a:DGuest)(x_b:DGuest)(s5:Int):Option (LO Int (JO Unit Bool)):=
 cond (decide (s5<((List.length x_a.Pages:Nat):Int)))
  (grd ((0:Int)<=s5/\s5<((List.length x_a.Pages:Nat):Int)) (grd ((0:Int)<=s5/\s5<((List.length x_b.Pages:Nat):Int)) (cond (!(decide ((List.getD x_a.Pages (Int.toNat s5) default).Frame=(List.getD x_b.Pages (Int.toNat s5) default).Frame)&&(((List.getD x_a.Pages (Int.toNat s5) default).Write==(List.getD x_b.Pages (Int.toNat s5) default).Write)&&(((List.getD x_a.Pages (Int.toNat s5) default).Dirty==(List.getD x_b.Pages (Int.toNat s5) default).Dirty)&&true))))
   (some (.ret (.out false)))
   (some (.next (w64 (s5+(1:Int))))))))
  (some (.ret (.go ())))
noncomputable def jR (x_a:DGuest)(x_b:DGuest):Option Bool:=
 cond (!(x_a.Live==x_b.Live))
  (some false)
  (Option.bind (lG x_a.C x_b.C) λv1=>
  cond (!v1)
   (some false)
   (Option.bind (dE x_a.In x_b.In) λv2=>
   cond (!v2)
    (some false)
    (Option.bind (dE x_a.Out x_b.Out) λv3=>
    cond (!v3)
     (some false)
     (cond (!decide (((List.length x_a.Pages:Nat):Int)=((List.length x_b.Pages:Nat):Int)))
      (some false)
      (Option.bind (Option.bind (iter (kE x_a x_b) (0:Int)) LO.val) λj4=>
       JO.run j4 aGj)))))
noncomputable def g70:Sg tG:=⟨[.st 94,.st 94],.one .b,jR⟩
theorem s70:Sok 70 g70:=sgx [(62,.r g62),(63,.r g63)] ⟨s62,s63,trivial⟩ (.s .o (.s .o (.j ⟨[],[],[]⟩ (.s .o (.k (.l ⟨[2,3],[],[(.s 5,.i .i64)]⟩ .o))) .o))) kr kr kr
noncomputable def aGx  (s2:Unit):Option Bool:=some true
noncomputable def lE (x_a:DHost)(x_b:DHost)(s3:Int):Option (LO Int (JO Unit Bool)):=
 cond (decide (s3<((List.length x_a.Guests:Nat):Int)))
  (grd ((0:Int)<=s3/\s3<((List.length x_a.Guests:Nat):Int)) (grd ((0:Int)<=s3/\s3<((List.length x_b.Guests:Nat):Int)) (Option.bind (jR (DGuest.mk (List.getD x_a.Guests (Int.toNat s3) default).Live (DCore.mk ((List.getD x_a.Guests (Int.toNat s3) default).C).Regs ((List.getD x_a.Guests (Int.toNat s3) default).C).Pc ((List.getD x_a.Guests (Int.toNat s3) default).C).Root ((List.getD x_a.Guests (Int.toNat s3) default).C).Vector ((List.getD x_a.Guests (Int.toNat s3) default).C).Saved ((List.getD x_a.Guests (Int.toNat s3) default).C).SavedUser ((List.getD x_a.Guests (Int.toNat s3) default).C).Cause ((List.getD x_a.Guests (Int.toNat s3) default).C).Bad ((List.getD x_a.Guests (Int.toNat s3) default).C).Timer ((List.getD x_a.Guests (Int.toNat s3) default).C).Waits ((List.getD x_a.Guests (Int.toNat s3) default).C).User ((List.getD x_a.Guests (Int.toNat s3) default).C).On ((List.getD x_a.Guests (Int.toNat s3) default).C).Stopped) (List.getD x_a.Guests (Int.toNat s3) default).Pages (List.getD x_a.Guests (Int.toNat s3) default).In (List.getD x_a.Guests (Int.toNat s3) default).Out) (DGuest.mk (List.getD x_b.Guests (Int.toNat s3) default).Live (DCore.mk ((List.getD x_b.Guests (Int.toNat s3) default).C).Regs ((List.getD x_b.Guests (Int.toNat s3) default).C).Pc ((List.getD x_b.Guests (Int.toNat s3) default).C).Root ((List.getD x_b.Guests (Int.toNat s3) default).C).Vector ((List.getD x_b.Guests (Int.toNat s3) default).C).Saved ((List.getD x_b.Guests (Int.toNat s3) default).C).SavedUser ((List.getD x_b.Guests (Int.toNat s3) default).C).Cause ((List.getD x_b.Guests (Int.toNat s3) default).C).Bad ((List.getD x_b.Guests (Int.toNat s3) default).C).Timer ((List.getD x_b.Guests (Int.toNat s3) default).C).Waits ((List.getD x_b.Guests (Int.toNat s3) default).C).User ((List.getD x_b.Guests (Int.toNat s3) default).C).On ((List.getD x_b.Guests (Int.toNat s3) default).C).Stopped) (List.getD x_b.Guests (Int.toNat s3) default).Pages (List.getD x_b.Guests (Int.toNat s3) default).In (List.getD x_b.Guests (Int.toNat s3) default).Out)) λv4=>
   cond (!v4)
    (some (.ret (.out false)))
    (some (.next (w64 (s3+(1:Int))))))))
  (some (.ret (.go ())))
noncomputable def fM (x_a:DHost)(x_b:DHost):Option Bool:=
 Option.bind (dE x_a.Words x_b.Words) λv1=>
 cond (!v1)
  (some false)
  (cond (!decide (((List.length x_a.Guests:Nat):Int)=((List.length x_b.Guests:Nat):Int)))
   (some false)
   (Option.bind (Option.bind (iter (lE x_a x_b) (0:Int)) LO.val) λj2=>
    JO.run j2 aGx))
noncomputable def g21:Sg tG:=⟨[.st 26,.st 26],.one .b,fM⟩
theorem s21:Sok 21 g21:=sgx [(63,.r g63),(70,.r g70)] ⟨s63,s70,trivial⟩ (.s .o (.s .o (.j ⟨[],[],[]⟩ (.s .o (.k (.l ⟨[2,3],[],[(.s 5,.i .i64)]⟩ .o))) .o))) kr kr kr
noncomputable def aGm  (s1:Unit):Option Bool:=some true
noncomputable def nQ (s2:Int)(s3:Unit):Option (LO Int (JO Unit Bool)):=some (.next (w64 (s2+(1:Int))))
noncomputable def kF (x_a:DHost)(x_b:DHost)(x_but:Int)(s2:Int):Option (LO Int (JO Unit Bool)):=
 cond (decide (s2<(3:Int)))
  (Option.bind (Option.bind (eQ x_a s2) λv4=>
   Option.bind (eQ x_b s2) λv5=>
   cond (!decide (s2=x_but))
    (cond (!(v4.2==v5.2))
     (some (.out (.ret (.out false))))
     (Option.bind (lD v4.1 v5.1) λv6=>
     cond (!v6)
      (some (.out (.ret (.out false))))
      (some (.go ()))))
    (some (.go ()))) λj3=>
   JO.run j3 (nQ s2))
  (some (.ret (.go ())))
noncomputable def jY (x_a:DHost)(x_b:DHost)(x_but:Int):Option Bool:=
 Option.bind (Option.bind (iter (kF x_a x_b x_but) (0:Int)) LO.val) λj1=>
  JO.run j1 aGm
noncomputable def g17:Sg tG:=⟨[.st 26,.st 26,.i .i64],.one .b,jY⟩
theorem s17:Sok 17 g17:=sgx [(13,.r g13),(16,.r g16)] ⟨s13,s16,trivial⟩ (.s .o (.j ⟨[],[],[]⟩ (.s .o (.k (.l ⟨[2,3,4],[],[(.s 7,.i .i64)]⟩ (.s .o (.j ⟨[2,3,4,7],[],[]⟩ .o .o))))) .o)) kr kr kr
noncomputable def aMx (v1:Dl20Rd×DHost)(s2:(List Int)×Int×(List DGuest)):Option (Dl20Rd×DHost):=some ((Dl20Rd.mk s2.1 s2.2.1),DHost.mk v1.2.Words s2.2.2)
noncomputable def rB (x_r:Dl20Rd):Option (Dl20Rd×DHost):=
 Option.bind (lX x_r (25:Int)) λv1=>
 Option.bind (cond (decide (((List.length v1.2.Guests:Nat):Int)=(3:Int)))
  (grd ((0:Int)<=(2:Int)/\(2:Int)<((List.length v1.2.Guests:Nat):Int)) (cond (List.getD v1.2.Guests 2 default).Live
   (Option.bind (aA v1.1 (5:Int)) λv3=>
   cond (decide ((0:Int)<v3.2))
    (grd ((0:Int)<=(2:Int)/\(2:Int)<((List.length v1.2.Guests:Nat):Int)) (some (.go (v3.1.b,v3.1.p,List.set v1.2.Guests 2 (DGuest.mk false (DCore.mk ([]:List Int) (0:Int) (0:Int) (0:Int) (0:Int) false (0:Int) (0:Int) (0:Int) false false false false) ([]:List DSlot) ([]:List Int) ([]:List Int))))))
    (some (.go (v3.1.b,v3.1.p,v1.2.Guests))))
   (some (.go (v1.1.b,v1.1.p,v1.2.Guests)))))
  (some (.go (v1.1.b,v1.1.p,v1.2.Guests)))) λj2=>
  JO.run j2 (aMx v1)
noncomputable def g75:Sw tG:=⟨[.pt 128],.one (.st 2026),rB⟩
theorem s75:Sjk 75 g75:=sgy [(74,.w g74),(64,.w g64)] ⟨s74,s64,trivial⟩ (.s .o (.s .o (.j ⟨[2,3],[0],[(.d 0 0,.rb 5),(.d 0 1,.i .i64),(.c 3 1,.ro 1094)]⟩ (.s .o (.c (.g [] [] [.fo (.c 3 1) 0]) .o)) .o))) kr kr kr
noncomputable def aAi  (s2:(List Int)×Int×Int):Option (Dl20Rd×Int):=
 Option.bind (aA (Dl20Rd.mk s2.1 s2.2.1) (25:Int)) λv3=>
 some (v3.1,w64 (s2.2.2-(w64 (Int.tdiv v3.2 (24:Int)))))
noncomputable def tJ (x_r:Dl20Rd)(x_h:DHost):Option (Dl20Rd×Int):=
 Option.bind (aA x_r (3:Int)) λv1=>
 Option.bind (cond (decide (((List.length x_h.Guests:Nat):Int)=(3:Int)))
  (grd ((0:Int)<=v1.2/\v1.2<((List.length x_h.Guests:Nat):Int)) (cond (!(List.getD x_h.Guests (Int.toNat v1.2) default).Live)
   (Option.bind (aA v1.1 (6:Int)) λv4=>
   cond (decide ((0:Int)<v4.2))
    (some (.go (v4.1.b,v4.1.p,(0:Int))))
    (some (.go (v4.1.b,v4.1.p,v1.2))))
   (some (.go (v1.1.b,v1.1.p,v1.2)))))
  (some (.go (v1.1.b,v1.1.p,v1.2)))) λj2=>
  JO.run j2 aAi
noncomputable def g76:Sw tG:=⟨[.pt 128,.v (.st 26)],.one (.i .i64),tJ⟩
theorem s76:Sjk 76 g76:=sgy [(64,.w g64)] ⟨s64,trivial⟩ (.s .o (.s .o (.j ⟨[0],[],[(.c 0 0,.rb 5),(.c 0 1,.i .i64),(.s 5,.i .i64)]⟩ .o .o))) kr kr kr
noncomputable def aIm  (s2:List DSlot):Option (List DSlot):=some s2
noncomputable def aHf (v1:List DSlot)(s3:(List DSlot)×Int):Option (LO ((List DSlot)×Int) (JO (List DSlot) (List DSlot))):=
 cond (decide (s3.2<((List.length v1:Nat):Int)))
  (grd ((0:Int)<=s3.2/\s3.2<((List.length s3.1:Nat):Int)) (some (.next ((List.set s3.1 (Int.toNat s3.2) (DSlot.mk (List.getD s3.1 (Int.toNat s3.2) default).Frame (List.getD s3.1 (Int.toNat s3.2) default).Write false)),w64 (s3.2+(1:Int))))))
  (some (.ret (.go s3.1)))
noncomputable def aBb (x_pages:List DSlot):Option (List DSlot):=
 Option.bind (hU x_pages) λv1=>
 Option.bind (Option.bind (iter (aHf v1) (v1,(0:Int))) LO.val) λj2=>
  JO.run j2 aIm
noncomputable def g99:Sg tG:=⟨[.row 91],.one (.row 91),aBb⟩
theorem s99:Sok 99 g99:=sgx [(150,.r bRf)] ⟨bZl,trivial⟩ (.s .o (.s .o (.j ⟨[],[],[(.s 3,.ro 91)]⟩ (.s .o (.k (.l ⟨[8],[],[(.s 3,.ro 91),(.s 9,.i .i64)]⟩ .o))) .o))) kr kr kr
noncomputable def cN (x_words:List Int)(x_s:DSlot):Option (List Int):=
 cond (decide (x_s.Frame=(-1:Int)))
  (some (List.replicate (Int.toNat (8:Int)) (0:Int)))
  (Option.bind (kP x_words x_s.Frame) λv1=>
  some v1)
noncomputable def bFn:Sg tG:=⟨[.row 3,.st 91],.one (.rb 3),cN⟩
theorem bHd:Sok 100 bFn:=sgx [(151,.r bWv)] ⟨bYb,trivial⟩ .o kr kr kr
theorem aKq{x_words:List Int}{x_s:DSlot}{R_:(List Int)}(hh:cN x_words x_s=some R_):Fn Tryz.prog 100 [bo (eI .i64) x_words,.agg (fX x_s)] (bo (eI .i64) R_):=kc (bHd x_words x_s R_ hh)
noncomputable def nE (x_h:DHost)(x_g:Int)(x_at:Int):Option Int:=
 grd ((0:Int)<=x_g/\x_g<((List.length x_h.Guests:Nat):Int)) (grd ((0:Int)<=(w64 (Int.tdiv x_at (8:Int)))/\(w64 (Int.tdiv x_at (8:Int)))<((List.length (List.getD x_h.Guests (Int.toNat x_g) default).Pages:Nat):Int)) (cond (decide ((List.getD (List.getD x_h.Guests (Int.toNat x_g) default).Pages (Int.toNat (w64 (Int.tdiv x_at (8:Int)))) default).Frame<(0:Int)))
  (some (0:Int))
  (grd ((0:Int)<=(w64 ((w64 ((List.getD (List.getD x_h.Guests (Int.toNat x_g) default).Pages (Int.toNat (w64 (Int.tdiv x_at (8:Int)))) default).Frame*(8:Int)))+(Int.tmod x_at (8:Int))))/\(w64 ((w64 ((List.getD (List.getD x_h.Guests (Int.toNat x_g) default).Pages (Int.toNat (w64 (Int.tdiv x_at (8:Int)))) default).Frame*(8:Int)))+(Int.tmod x_at (8:Int))))<((List.length x_h.Words:Nat):Int)) (some (List.getD x_h.Words (Int.toNat (w64 ((w64 ((List.getD (List.getD x_h.Guests (Int.toNat x_g) default).Pages (Int.toNat (w64 (Int.tdiv x_at (8:Int)))) default).Frame*(8:Int)))+(Int.tmod x_at (8:Int))))) default)))))
noncomputable def bQm:Sg tG:=⟨[.st 26,.i .i64,.i .i64],.one (.i .i64),nE⟩
theorem bXx:Sok 113 bQm:=sgx [] trivial .o kr kr kr
noncomputable def mS (x_w:Int):Option DEntry:=
 Option.bind (fA x_w) λv1=>
 cond (!v1)
  (some (DEntry.mk false false false (0:Int)))
  (some (DEntry.mk (decide ((Int.tmod x_w (2:Int))=(1:Int))) (decide ((Int.tmod (w64 (Int.tdiv x_w (2:Int))) (2:Int))=(1:Int))) (decide ((Int.tmod (w64 (Int.tdiv x_w (4:Int))) (2:Int))=(1:Int))) (Int.tmod (w64 (Int.tdiv x_w (8:Int))) (8:Int))))
noncomputable def bUv:Sg tG:=⟨[.i .i64],.one (.st 181),mS⟩
theorem cBt:Sok 157 bUv:=sgx [(158,.r aTa)] ⟨bAh,trivial⟩ .o kr kr kr
noncomputable def aHb  (s2:List DShade):Option (List DShade):=some s2
noncomputable def oJ (x_h:DHost)(x_g:Int)(s3:(List DShade)×Int)(s4:Bool×Bool×Bool×Int):Option (LO ((List DShade)×Int) (JO (List DShade) (List DShade))):=grd ((0:Int)<=x_g/\x_g<((List.length x_h.Guests:Nat):Int)) (grd ((0:Int)<=s4.2.2.2/\s4.2.2.2<((List.length (List.getD x_h.Guests (Int.toNat x_g) default).Pages:Nat):Int)) (grd ((List.length s3.1+List.length ([DShade.mk s4.1 s4.2.1 s4.2.2.1 s4.2.2.2 (List.getD (List.getD x_h.Guests (Int.toNat x_g) default).Pages (Int.toNat s4.2.2.2) default).Frame (List.getD (List.getD x_h.Guests (Int.toNat x_g) default).Pages (Int.toNat s4.2.2.2) default).Write]:List DShade))*32<=2^47/\List.length s3.1+List.length ([DShade.mk s4.1 s4.2.1 s4.2.2.1 s4.2.2.2 (List.getD (List.getD x_h.Guests (Int.toNat x_g) default).Pages (Int.toNat s4.2.2.2) default).Frame (List.getD (List.getD x_h.Guests (Int.toNat x_g) default).Pages (Int.toNat s4.2.2.2) default).Write]:List DShade)<=2^47) (some (.next ((s3.1++([DShade.mk s4.1 s4.2.1 s4.2.2.1 s4.2.2.2 (List.getD (List.getD x_h.Guests (Int.toNat x_g) default).Pages (Int.toNat s4.2.2.2) default).Frame (List.getD (List.getD x_h.Guests (Int.toNat x_g) default).Pages (Int.toNat s4.2.2.2) default).Write]:List DShade)),w64 (s3.2+(1:Int)))))))
noncomputable def kW (x_h:DHost)(x_g:Int)(s3:(List DShade)×Int):Option (LO ((List DShade)×Int) (JO (List DShade) (List DShade))):=
 cond (decide (s3.2<(8:Int)))
  (Option.bind (grd ((0:Int)<=x_g/\x_g<((List.length x_h.Guests:Nat):Int)) (cond (decide ((0:Int)<=((List.getD x_h.Guests (Int.toNat x_g) default).C).Root))
   (Option.bind (nE x_h x_g (w64 ((w64 (((List.getD x_h.Guests (Int.toNat x_g) default).C).Root*(8:Int)))+s3.2))) λv5=>
   Option.bind (mS v5) λv6=>
   some (.go (v6.There,v6.Write,v6.User,v6.Page)))
   (some (.go (true,true,true,s3.2))))) λj4=>
   JO.run j4 (oJ x_h x_g s3))
  (some (.ret (.go s3.1)))
noncomputable def iC (x_h:DHost)(x_g:Int):Option (List DShade):=
 Option.bind (cY x_h x_g) λv1=>
 cond (!v1)
  (some ([]:List DShade))
  (Option.bind (Option.bind (iter (kW x_h x_g) (([]:List DShade),(0:Int))) LO.val) λj2=>
   JO.run j2 aHb)
noncomputable def bRb:Sg tG:=⟨[.st 26,.i .i64],.one (.row 147),iC⟩
theorem bZp:Sok 106 bRb:=sgx [(102,.r aEm),(113,.r bQm),(157,.r bUv)] ⟨aHo,bXx,cBt,trivial⟩ (.s .o (.s .o (.s .o (.j ⟨[],[],[(.s 5,.ro 147)]⟩ (.s .o (.k (.l ⟨[1,2],[],[(.s 5,.ro 147),(.s 6,.i .i64)]⟩ (.s .o (.s (.k (.s .o (.j ⟨[1,2,5,6,7],[],[(.c 7 0,.b),(.c 7 1,.b),(.c 7 2,.b),(.c 7 3,.i .i64)]⟩ .o .o))) .o))))) .o)))) kr kr kr
noncomputable def sB (x_w:Int):Option DEntry:=
 Option.bind (fC x_w) λv1=>
 cond (!v1)
  (some (DEntry.mk false false false (0:Int)))
  (some (DEntry.mk (decide ((Int.tmod (w64 (Int.tdiv x_w (1:Int))) (2:Int))=(1:Int))) (decide ((Int.tmod (w64 (Int.tdiv x_w (2:Int))) (2:Int))=(1:Int))) (decide ((Int.tmod (w64 (Int.tdiv x_w (4:Int))) (2:Int))=(1:Int))) (Int.tmod (w64 (Int.tdiv x_w (8:Int))) (8:Int))))
noncomputable def bQf:Sg tG:=⟨[.i .i64],.one (.st 181),sB⟩
theorem bZe:Sok 164 bQf:=sgx [(55,.r g55)] ⟨s55,trivial⟩ .o kr kr kr
noncomputable def aCs (x_h:DHost)(x_g:Int)(x_number:Int):Option DEntry:=
 grd ((0:Int)<=x_g/\x_g<((List.length x_h.Guests:Nat):Int)) (cond (decide (((List.getD x_h.Guests (Int.toNat x_g) default).C).Root=(-1:Int)))
  (some (DEntry.mk true true true x_number))
  (grd ((0:Int)<=((List.getD x_h.Guests (Int.toNat x_g) default).C).Root/\((List.getD x_h.Guests (Int.toNat x_g) default).C).Root<((List.length (List.getD x_h.Guests (Int.toNat x_g) default).Pages:Nat):Int)) (Option.bind (cN x_h.Words (DSlot.mk (List.getD (List.getD x_h.Guests (Int.toNat x_g) default).Pages (Int.toNat ((List.getD x_h.Guests (Int.toNat x_g) default).C).Root) default).Frame (List.getD (List.getD x_h.Guests (Int.toNat x_g) default).Pages (Int.toNat ((List.getD x_h.Guests (Int.toNat x_g) default).C).Root) default).Write (List.getD (List.getD x_h.Guests (Int.toNat x_g) default).Pages (Int.toNat ((List.getD x_h.Guests (Int.toNat x_g) default).C).Root) default).Dirty)) λv1=>
   grd ((0:Int)<=x_number/\x_number<((List.length v1:Nat):Int)) (Option.bind (sB (List.getD v1 (Int.toNat x_number) default)) λv2=>
    some v2))))
noncomputable def bVh:Sg tG:=⟨[.st 26,.i .i64,.i .i64],.one (.st 181),aCs⟩
theorem cBo:Sok 227 bVh:=sgx [(100,.r bFn),(164,.r bQf)] ⟨bHd,bZe,trivial⟩ .o kr kr kr
noncomputable def aCz (x_h:DHost)(x_g:Int)(x_number:Int):Option DShade:=
 Option.bind (aCs x_h x_g x_number) λv1=>
 grd ((0:Int)<=x_g/\x_g<((List.length x_h.Guests:Nat):Int)) (grd ((0:Int)<=v1.Page/\v1.Page<((List.length (List.getD x_h.Guests (Int.toNat x_g) default).Pages:Nat):Int)) (some (DShade.mk v1.There v1.Write v1.User v1.Page (List.getD (List.getD x_h.Guests (Int.toNat x_g) default).Pages (Int.toNat v1.Page) default).Frame (List.getD (List.getD x_h.Guests (Int.toNat x_g) default).Pages (Int.toNat v1.Page) default).Write)))
noncomputable def bVm:Sg tG:=⟨[.st 26,.i .i64,.i .i64],.one (.st 147),aCz⟩
theorem cBh:Sok 225 bVm:=sgx [(227,.r bVh)] ⟨cBo,trivial⟩ .o kr kr kr
noncomputable def cA (x_h:DHost):Option DHost:=
 Option.bind (cH x_h.Words) λv1=>
 Option.bind (fZ x_h.Guests) λv2=>
 some (DHost.mk v1 v2)
noncomputable def aMb:Sg tG:=⟨[.st 26],.one (.st 2026),cA⟩
theorem aMn:Sok 131 aMb:=sgx [(117,.r aTe),(169,.r bMz)] ⟨aRp,bZc,trivial⟩ .o kr kr kr
theorem aIw{x_h:DHost}{R_:DHost}(hh:cA x_h=some R_):Fn Tryz.prog 131 [.agg (gW x_h)] (.agg [.own 3 1 (List.length R_.Words) (fl (eI .i64) R_.Words),.own 94 17 (List.length R_.Guests) (fl fD R_.Guests)]):=kc (aMn x_h R_ hh)
theorem aMu:LW 192 ⟨44,[.cell 8 true 2],.seq (.reg false (rg 192 0)) (.seq (.reg false (rg 192 1)) (.seq (.reg false (rg 192 2)) (.seq (.regd (rg 192 3) (rg 192 4)) (.seq (.regt (rg 192 5) (rg 192 6)) (.seq (.reg false (rg 192 7)) .ret)))))⟩:=kr
noncomputable def mF (x_h:DHost)(x_g:Int)(x_page:Int)(x_frame:Int):Option DHost:=
 Option.bind (cA x_h) λv1=>
 grd ((0:Int)<=x_g/\x_g<((List.length x_h.Guests:Nat):Int)) (grd ((0:Int)<=x_page/\x_page<((List.length (List.getD x_h.Guests (Int.toNat x_g) default).Pages:Nat):Int)) (Option.bind (fU v1.Words x_frame) λv2=>
  grd (List.length v2.1=(List.length v1.Words)) (grd (v2.2.1+v2.2.2<=List.length v2.1) (Option.bind (cN x_h.Words (DSlot.mk (List.getD (List.getD x_h.Guests (Int.toNat x_g) default).Pages (Int.toNat x_page) default).Frame (List.getD (List.getD x_h.Guests (Int.toNat x_g) default).Pages (Int.toNat x_page) default).Write (List.getD (List.getD x_h.Guests (Int.toNat x_g) default).Pages (Int.toNat x_page) default).Dirty)) λv3=>
   grd ((0:Int)<=x_g/\x_g<((List.length v1.Guests:Nat):Int)) (grd ((0:Int)<=x_page/\x_page<((List.length (List.getD v1.Guests (Int.toNat x_g) default).Pages:Nat):Int)) (some (DHost.mk (over v2.1 v2.2.1 v2.2.2 v3) (List.set v1.Guests (Int.toNat x_g) (DGuest.mk (List.getD v1.Guests (Int.toNat x_g) default).Live (DCore.mk ((List.getD v1.Guests (Int.toNat x_g) default).C).Regs ((List.getD v1.Guests (Int.toNat x_g) default).C).Pc ((List.getD v1.Guests (Int.toNat x_g) default).C).Root ((List.getD v1.Guests (Int.toNat x_g) default).C).Vector ((List.getD v1.Guests (Int.toNat x_g) default).C).Saved ((List.getD v1.Guests (Int.toNat x_g) default).C).SavedUser ((List.getD v1.Guests (Int.toNat x_g) default).C).Cause ((List.getD v1.Guests (Int.toNat x_g) default).C).Bad ((List.getD v1.Guests (Int.toNat x_g) default).C).Timer ((List.getD v1.Guests (Int.toNat x_g) default).C).Waits ((List.getD v1.Guests (Int.toNat x_g) default).C).User ((List.getD v1.Guests (Int.toNat x_g) default).C).On ((List.getD v1.Guests (Int.toNat x_g) default).C).Stopped) (List.set (List.getD v1.Guests (Int.toNat x_g) default).Pages (Int.toNat x_page) (DSlot.mk x_frame true (List.getD (List.getD x_h.Guests (Int.toNat x_g) default).Pages (Int.toNat x_page) default).Dirty)) (List.getD v1.Guests (Int.toNat x_g) default).In (List.getD v1.Guests (Int.toNat x_g) default).Out)))))))))
theorem aOy{x_h:DHost}{x_g:Int}{x_page:Int}{x_frame:Int}{R_:DHost}(hh:mF x_h x_g x_page x_frame=some R_):Fn Tryz.prog 192 [.agg (gW x_h),.int .i64 x_g,.int .i64 x_page,.int .i64 x_frame] (.agg [.own 3 1 (List.length R_.Words) (fl (eI .i64) R_.Words),.own 94 17 (List.length R_.Guests) (fl fD R_.Guests)]):=by let z7:EH:=(0,some (rB26 x_h));let z8:=(1,ii x_g);let z9:EH:=(1,some ⟨26,[.nil,.nil]⟩);let z10:=(10,pp 5);let z11:=(2,ii x_page);let z12:=(3,ii x_frame);let z13:EV:=(34,.ptr 3 [] (0+(Int.toNat x_g)*17));let z14:EV:=(35,.ptr 3 [] (0+(Int.toNat x_g)*17+14));let z15:=(8,pp 1);let z16:=(9,pp 4);let z1:=List.getD x_h.Guests (Int.toNat x_g) default;let z3:=List.getD z1.Pages (Int.toNat x_page) default;let z4:=DSlot.mk x_frame true z3.Dirty;unfold mF at hh;refine Fn.start aMu [0,1,2,3] (E:=sp 44 [(0,.agg (gW x_h)),z8,z11,z12]) kr (v:= .agg [sw 0 R_.Words,.sref 1 [] 0 (List.length R_.Guests) 17]) (Hr:=[(1,some (rO94 R_.Guests)),(0,some (rI_3 R_.Words))]) (k:=2) kr (sy [1,2,3,4,8] [0,1] (sp 44 [z8,z11,z12,(4,pp 0),z15]) [z7,z9] 2 (Aw.sreg [1,2,3,4,8,9] [0,1,2,3,4] (yu 1 [(11,.agg (gW x_h))] [z7,z9] 2 ?_)));obtain⟨v1,hv1,hh⟩:=bind_some hh;let z17:EV:=(32,.sref 3 [] 0 (List.length v1.Guests) 17);let z2:=List.getD v1.Guests (Int.toNat x_g) default;let z5:=List.set z2.Pages (Int.toNat x_page) z4;let z6:=DGuest.mk z2.Live z2.C z5 z2.In z2.Out;let q1:Root:=(rO94 v1.Guests);let z18:=(3,some q1);let q2:Root:=(rI_3 v1.Words);let z19:=(2,some q2);refine ys (.call 131 [.t 11]) (some 12) (sL (r:= .agg [.own 3 1 (List.length v1.Words) (fl (eI .i64) v1.Words),.own 94 17 (List.length v1.Guests) (fl fD v1.Guests)]) (v:= .agg [sw 2 v1.Words,.sref 3 [] 0 (List.length v1.Guests) 17]) (Hr:=[z18,z19]) (n':=4) (aIw hv1) (xZ (vs:=[.agg (gW x_h)]) kr (kG (aF (aBf (yR _))) pQ)) nrr nrr kr ?_);let q3:Root:=⟨26,[sw 2 v1.Words,.sref 3 [] 0 (List.length v1.Guests) 17]⟩;let z20:=(4,some q3);refine yt (sp 44 [z8,z11,z12,(4,pp 0),z15,z16]) [z7,z9,z19,z18,z20] 5 (Aw.sreg [1,2,3,4,8,9,10] [0,1,2,3,4,5] (yu 3 [(13,.ptr 0 [] 1),(14,bo hC x_h.Guests),(15,ii x_g)] [z7,z9,z19,z18,z20] 5 ?_));obtain⟨hg3,hh⟩:=bG hh;refine ys (.iadr 17 (.t 14) (.t 15)) (some 16) (aSa (kd:= .i64) (c:=hC) (xs:=x_h.Guests) aZe dd kr kr hg3 ?_);refine yu 1 [(16,.bptr (fl hC x_h.Guests) (Int.toNat x_g*17)),(17,.bptr (fl hC x_h.Guests) (Int.toNat x_g*17+14))] [z7,z9,z19,z18,z20] 5 (ys (.load false 1 (.t 17)) (some 18) (bRm (c:=hC) (xs:=x_h.Guests) (o:=Int.toNat x_g*17+14) (i:=(Int.toNat x_g)) (off:=14) (v:=bo fX z1.Pages) aZe kr ltn ltn dd kr ?_));refine yu 1 [(18,bo fX z1.Pages),(19,ii x_page)] [z7,z9,z19,z18,z20] 5 ?_;obtain⟨hg4,hh⟩:=bG hh;refine ys (.iadr 3 (.t 18) (.t 19)) (some 20) (aSa (kd:= .i64) (c:=fX) (xs:=z1.Pages) oP dd kr kr hg4 ?_);refine ys (.load true 3 (.t 20)) (some 21) (aUm (c:=fX) (xs:=z1.Pages) (o:=Int.toNat x_page*3) (i:=(Int.toNat x_page)) (off:=0) (v:= .agg [ii z3.Frame,bb z3.Write,bb z3.Dirty]) oP kr ltn ltn dd kr ?_);let q4:Root:=⟨91,[ii z3.Frame,bb z3.Write,bb z3.Dirty]⟩;let z21:=(5,some q4);refine yt (sp 44 [z8,z11,z12,(4,pp 0),z15,z16,z10]) [z7,z9,z19,z18,z20,z21] 6 (Aw.sregd [1,2,3,8,9,10] [1,2,3,4,5] [2] kr (dj 3 (sp 44 [z8,z11,z12,(4,pp 0),z15,z16,z10,(22,pp 4),(23,sw 2 v1.Words),(24,ii x_frame)]) [z7,z9,z19,z18,z20,z21] 6 ?_));obtain⟨v2,hv2,hh⟩:=bind_some hh;let z22:EH:=(2,some (rI_3 v2.1));obtain⟨hg7,hh⟩:=bG hh;obtain⟨hg8,hh⟩:=bG hh;refine ds (.call 151 [.t 23,.t 24]) (some 25) (aVj rfl (cf (.sref 2 [] (0+v2.2.1*1) v2.2.2 1) [z22] 6 [2] (rP hv2) [sw 2 v1.Words,ii x_frame] rz (hn bK dC) vI (hn bK dC) ⟨⟨⟨by decide,aHj rfl rfl⟩,Hld.un ?_⟩⟩));refine dt (sp 44 [z8,z11,z12,(4,pp 0),z15,z16,z10,(22,pp 4),(23,sw 2 v1.Words),(24,ii x_frame),(25,.sref 2 [] (0+v2.2.1*1) v2.2.2 1),(26,pp 0),(27,bo (eI .i64) x_h.Words),(28,.agg [ii z3.Frame,bb z3.Write,bb z3.Dirty])]) [z22,(2,none),z7,z9,z19,z18,z20,z21] 6 ?_;obtain⟨v3,hv3,hh⟩:=bind_some hh;refine ys (.call 100 [.t 27,.t 28]) (some 29) (aMq (r:=bo (eI .i64) v3) (v:=bo (eI .i64) v3) (Hr:=[]) (n':=6) (aKq hv3) (xZ (vs:=[bo (eI .i64) x_h.Words,.agg [ii z3.Frame,bb z3.Write,bb z3.Dirty]]) kr (kG (aF (aAk (bN cX))) (cz1 pQ))) nrr kr ?_);let q5:Root:=(rI_3 (over v2.1 v2.2.1 v2.2.2 v3));let z23:=(2,some q5);refine ys (.cpy 1 (.t 25) (.t 29)) (some 30) (aIi (c:=(eI .i64)) (xs:=v2.1) (ys:=v3) (e:=3) (r:=2) (π:=[]) (o:=0+v2.2.1*1) (k:=v2.2.2) (i:=v2.2.1) (H':=[z23,z22,(2,none),z7,z9,z19,z18,z20,z21]) cC (rpv kr (aQx (c:=(eI .i64)) (xs:=v3) cC)) kr kr ltn ltn kr ?_);refine yt (sp 44 [z8,z11,z12,z15,z16,z10]) [z9,z23,z18,z20,z21] 6 (Aw.sregt [8,9] [1,2,3,4] ?_);obtain⟨hg12,hh⟩:=bG hh;refine qc (cs:=[(0:Int)<=x_g/\x_g<((List.length v1.Guests:Nat):Int)]) (E':=(sp 44 [z8,z11,z12,z15,z16,z10,(31,.ptr 4 [] 1),z17,(33,ii x_g),z13,z14])) (pre:=(List.take 5 (rg 192 5))) (L':=(List.drop 5 (rg 192 5))) kr (λK=>by kernel_rfl) (.cons hg12 .nil) (qs (.load false 1 (.t 35)) (some 36) (cDb rfl (aRy (c:=fD) (xs:=v1.Guests) (e:=94) (r:=3) (π:=[]) (o:=0+(Int.toNat x_g)*17+14) (i:=(Int.toNat x_g)) (off:=14) (v:= .sref 3 [0+(Int.toNat x_g)*17+14+0] 0 (List.length z2.Pages) 3) uK kr kr ltn ltn dd kr ?_)));obtain⟨hg11,hh⟩:=bG hh;refine qtt (cs:=[(0:Int)<=x_page/\x_page<((List.length z2.Pages:Nat):Int)]) (E':=(sp 44 [z8,z11,z12,z15,z16,z10,(31,.ptr 4 [] 1),z17,(33,ii x_g),z13,z14,(36,.sref 3 [0+(Int.toNat x_g)*17+14+0] 0 (List.length z2.Pages) 3),(37,ii x_page),(38,ii x_frame),(39,.ptr 5 [] 2),(40,bb z3.Dirty),(41,.agg [ii x_frame,bb true,bb z3.Dirty]),(42,.ptr 3 [0+(Int.toNat x_g)*17+14+0] (0+(Int.toNat x_page)*3))])) (λK=>by kernel_rfl) (.cons hg11 .nil) ?_;let q6:Root:=(rO94 (List.set v1.Guests (Int.toNat x_g) z6));refine ys (.store 3 (.t 42) (.t 41)) none (bRk (c:=fX) (xs:=z2.Pages) (e:=91) (r:=3) (π:=[0+(Int.toNat x_g)*17+14+0]) (o:=0+(Int.toNat x_page)*3) (i:=(Int.toNat x_page)) (off:=0) (vs:=[ii x_frame,bb true,bb z3.Dirty]) (y:=z4) (H':=[(3,some q6),z9,z23,z18,z20,z21]) oP kr kr kr (aBu (e:=94) (e':=91) (sz':=3) (m':=(List.length z2.Pages)) (cs':=(fl fX z2.Pages)) (c:=fD) (xs:=v1.Guests) (i:=(Int.toNat x_g)) (off:=14) uK kr ltn ltn dd rfl kr) ltn ltn dd kr (bMm (e:=94) (e':=91) (sz':=3) (m':=(List.length z2.Pages)) (cs':=(fl fX z2.Pages)) (ds:=(fl fX z5)) (c:=fD) (xs:=v1.Guests) (i:=(Int.toNat x_g)) (off:=14) (y:=z6) (m2:=(List.length z5)) uK kr ltn ltn dd rfl kr eqn kr rfl kr) ?_);refine yt (sp 44 [z15,z16]) [z9,z23,(3,some q6),z20] 6 (sy [8] [1,2,3] (sp 44 [z15]) [(1,some q3),z23,(3,some q6)] 6 (Aw.ret ?_));rw[cW hh];exact qZ (r':= .agg [sw 2 v1.Words,.sref 3 [] 0 (List.length v1.Guests) 17]) kr (Ent.list [some 2,some 3] rfl rfl (Nat.zero_le _) (mB (lU rz)) (hn jJ (hn bK dC)))
noncomputable def bPc:Sg tG:=⟨[.st 26,.i .i64,.i .i64,.i .i64],.one (.st 2026),mF⟩
theorem bXp:Sok 192 bPc:=λx_h x_g x_page x_frame R_ hh=>kc (aOy (x_h:=x_h) (x_g:=x_g) (x_page:=x_page) (x_frame:=x_frame) hh)
noncomputable def oK (x_h:DHost)(x_g:Int)(x_page:Int):Option (DHost×Bool):=
 Option.bind (xM x_h.Guests) λv1=>
 cond (decide (((List.length v1:Nat):Int)=(0:Int)))
  (some ((DHost.mk ([]:List Int) ([]:List DGuest)),false))
  (grd ((0:Int)<=(0:Int)/\(0:Int)<((List.length v1:Nat):Int)) (Option.bind (mF x_h x_g x_page (List.getD v1 0 default)) λv2=>
   some (v2,true)))
noncomputable def bOq:Sg tG:=⟨[.st 26,.i .i64,.i .i64],.two (.st 2026) .b,oK⟩
theorem bWu:Sok 191 bOq:=sgx [(216,.r bVz),(192,.r bPc)] ⟨cDj,bXp,trivial⟩ .o kr kr kr
noncomputable def oE (x_h:DHost)(x_g:Int)(x_page:Int):Option (DHost×Bool):=
 Option.bind (cM x_h x_g) λv1=>
 cond (!v1)
  (some ((DHost.mk ([]:List Int) ([]:List DGuest)),false))
  (Option.bind (fB x_page) λv2=>
  cond (!v2)
   (some ((DHost.mk ([]:List Int) ([]:List DGuest)),false))
   (grd ((0:Int)<=x_g/\x_g<((List.length x_h.Guests:Nat):Int)) (grd ((0:Int)<=x_page/\x_page<((List.length (List.getD x_h.Guests (Int.toNat x_g) default).Pages:Nat):Int)) (cond (!decide ((List.getD (List.getD x_h.Guests (Int.toNat x_g) default).Pages (Int.toNat x_page) default).Frame=(-1:Int)))
    (Option.bind (cA x_h) λv3=>
    some (v3,true))
    (Option.bind (oK x_h x_g x_page) λv4=>
    some (v4.1,v4.2))))))
noncomputable def bYj:Sg tG:=⟨[.st 26,.i .i64,.i .i64],.two (.st 2026) .b,oE⟩
theorem bZh:Sok 154 bYj:=sgx [(56,.r g56),(46,.r g46),(131,.r aMb),(191,.r bOq)] ⟨s56,s46,aMn,bWu,trivial⟩ .o kr kr kr
theorem aMy{x_h:DHost}{x_g:Int}{x_page:Int}{R_:DHost×Bool}(hh:oE x_h x_g x_page=some R_):Fn Tryz.prog 154 [.agg (gW x_h),.int .i64 x_g,.int .i64 x_page] (.tup [.agg [.own 3 1 (List.length R_.1.Words) (fl (eI .i64) R_.1.Words),.own 94 17 (List.length R_.1.Guests) (fl fD R_.1.Guests)],.bool R_.2]):=kc (bZh x_h x_g x_page R_ hh)
noncomputable def vH (x_g:Int)(x_page:Int)(v3:DHost)(v4:List Int)(s5:List Int):Option (DHost×Bool):=grd ((0:Int)<=x_g/\x_g<((List.length v3.Guests:Nat):Int)) (grd ((0:Int)<=(0:Int)/\(0:Int)<((List.length v4:Nat):Int)) (grd ((0:Int)<=x_page/\x_page<((List.length (List.getD v3.Guests (Int.toNat x_g) default).Pages:Nat):Int)) (some ((DHost.mk s5 (List.set v3.Guests (Int.toNat x_g) (DGuest.mk (List.getD v3.Guests (Int.toNat x_g) default).Live (DCore.mk ((List.getD v3.Guests (Int.toNat x_g) default).C).Regs ((List.getD v3.Guests (Int.toNat x_g) default).C).Pc ((List.getD v3.Guests (Int.toNat x_g) default).C).Root ((List.getD v3.Guests (Int.toNat x_g) default).C).Vector ((List.getD v3.Guests (Int.toNat x_g) default).C).Saved ((List.getD v3.Guests (Int.toNat x_g) default).C).SavedUser ((List.getD v3.Guests (Int.toNat x_g) default).C).Cause ((List.getD v3.Guests (Int.toNat x_g) default).C).Bad ((List.getD v3.Guests (Int.toNat x_g) default).C).Timer ((List.getD v3.Guests (Int.toNat x_g) default).C).Waits ((List.getD v3.Guests (Int.toNat x_g) default).C).User ((List.getD v3.Guests (Int.toNat x_g) default).C).On ((List.getD v3.Guests (Int.toNat x_g) default).C).Stopped) (List.set (List.getD v3.Guests (Int.toNat x_g) default).Pages (Int.toNat x_page) (DSlot.mk (List.getD v4 0 default) true false)) (List.getD v3.Guests (Int.toNat x_g) default).In (List.getD v3.Guests (Int.toNat x_g) default).Out))),true))))
noncomputable def hY (v4:List Int)(s6:(List Int)×Int):Option (LO ((List Int)×Int) (JO (List Int) (DHost×Bool))):=
 cond (decide (s6.2<(8:Int)))
  (grd ((0:Int)<=(0:Int)/\(0:Int)<((List.length v4:Nat):Int)) (grd ((0:Int)<=(w64 ((w64 ((List.getD v4 0 default)*(8:Int)))+s6.2))/\(w64 ((w64 ((List.getD v4 0 default)*(8:Int)))+s6.2))<((List.length s6.1:Nat):Int)) (some (.next ((List.set s6.1 (Int.toNat (w64 ((w64 ((List.getD v4 0 default)*(8:Int)))+s6.2))) (0:Int)),w64 (s6.2+(1:Int)))))))
  (some (.ret (.go s6.1)))
noncomputable def fO (x_h:DHost)(x_g:Int)(x_page:Int):Option (DHost×Bool):=
 Option.bind (cY x_h x_g) λv1=>
 cond (!v1)
  (some ((DHost.mk ([]:List Int) ([]:List DGuest)),false))
  (Option.bind (bO x_page (0:Int) (7:Int)) λv2=>
  cond (!v2)
   (some ((DHost.mk ([]:List Int) ([]:List DGuest)),false))
   (Option.bind (cU x_h) λv3=>
   grd ((0:Int)<=x_g/\x_g<((List.length x_h.Guests:Nat):Int)) (grd ((0:Int)<=x_page/\x_page<((List.length (List.getD x_h.Guests (Int.toNat x_g) default).Pages:Nat):Int)) (cond (decide ((0:Int)<=(List.getD (List.getD x_h.Guests (Int.toNat x_g) default).Pages (Int.toNat x_page) default).Frame))
    (some (v3,true))
    (Option.bind (iH x_h) λv4=>
    cond (decide (((List.length v4:Nat):Int)=(0:Int)))
     (some ((DHost.mk ([]:List Int) ([]:List DGuest)),false))
     (Option.bind (Option.bind (iter (hY v4) (v3.Words,(0:Int))) LO.val) λj5=>
      JO.run j5 (vH x_g x_page v3 v4)))))))
noncomputable def g53:Sg tG:=⟨[.st 26,.i .i64,.i .i64],.two (.st 2026) .b,fO⟩
theorem s53:Sok 53 g53:=sgx [(102,.r aEm),(51,.r g51),(103,.r aGw),(114,.r bGg)] ⟨aHo,s51,aNl,bQk,trivial⟩ (.s .o (.s .o (.s .o (.s .o (.s .o (.s .o (.j ⟨[1,2,6,8,9],[],[(.c 8 0,.ro 3)]⟩ (.s .o (.k (.l ⟨[1,2,6,8,9],[],[(.c 8 0,.ro 3),(.s 10,.i .i64)]⟩ .o))) .o))))))) kr kr kr
noncomputable def nW (x_h:DHost)(x_g:Int)(x_page:Int):Option (DHost×Bool):=
 Option.bind (cM x_h x_g) λv1=>
 cond (!v1)
  (some ((DHost.mk ([]:List Int) ([]:List DGuest)),false))
  (Option.bind (fB x_page) λv2=>
  cond (!v2)
   (some ((DHost.mk ([]:List Int) ([]:List DGuest)),false))
   (grd ((0:Int)<=x_g/\x_g<((List.length x_h.Guests:Nat):Int)) (grd ((0:Int)<=x_page/\x_page<((List.length (List.getD x_h.Guests (Int.toNat x_g) default).Pages:Nat):Int)) (cond (decide ((List.getD (List.getD x_h.Guests (Int.toNat x_g) default).Pages (Int.toNat x_page) default).Frame=(-1:Int)))
    (some ((DHost.mk ([]:List Int) ([]:List DGuest)),false))
    (Option.bind (fJ x_h.Guests) λv3=>
    grd ((0:Int)<=(List.getD (List.getD x_h.Guests (Int.toNat x_g) default).Pages (Int.toNat x_page) default).Frame/\(List.getD (List.getD x_h.Guests (Int.toNat x_g) default).Pages (Int.toNat x_page) default).Frame<((List.length v3:Nat):Int)) (cond (decide ((List.getD v3 (Int.toNat (List.getD (List.getD x_h.Guests (Int.toNat x_g) default).Pages (Int.toNat x_page) default).Frame) default)=(1:Int)))
     (Option.bind (mF x_h x_g x_page (List.getD (List.getD x_h.Guests (Int.toNat x_g) default).Pages (Int.toNat x_page) default).Frame) λv4=>
     some (v4,true))
     (Option.bind (oK x_h x_g x_page) λv5=>
     some (v5.1,v5.2))))))))
noncomputable def bYf:Sg tG:=⟨[.st 26,.i .i64,.i .i64],.two (.st 2026) .b,nW⟩
theorem bXo:Sok 155 bYf:=sgx [(56,.r g56),(46,.r g46),(134,.r bHk),(192,.r bPc),(191,.r bOq)] ⟨s56,s46,bNj,bXp,bWu,trivial⟩ .o kr kr kr
theorem aMz{x_h:DHost}{x_g:Int}{x_page:Int}{R_:DHost×Bool}(hh:nW x_h x_g x_page=some R_):Fn Tryz.prog 155 [.agg (gW x_h),.int .i64 x_g,.int .i64 x_page] (.tup [.agg [.own 3 1 (List.length R_.1.Words) (fl (eI .i64) R_.1.Words),.own 94 17 (List.length R_.1.Guests) (fl fD R_.1.Guests)],.bool R_.2]):=kc (bXo x_h x_g x_page R_ hh)
noncomputable def lH (x_h:DHost)(x_g:Int)(x_page:Int)(v3:DHost)(s4:(List Int)×Int):Option (DHost×Bool):=grd ((0:Int)<=x_g/\x_g<((List.length v3.Guests:Nat):Int)) (grd ((0:Int)<=x_page/\x_page<((List.length (List.getD v3.Guests (Int.toNat x_g) default).Pages:Nat):Int)) (some ((DHost.mk s4.1 (List.set v3.Guests (Int.toNat x_g) (DGuest.mk (List.getD v3.Guests (Int.toNat x_g) default).Live (DCore.mk ((List.getD v3.Guests (Int.toNat x_g) default).C).Regs ((List.getD v3.Guests (Int.toNat x_g) default).C).Pc ((List.getD v3.Guests (Int.toNat x_g) default).C).Root ((List.getD v3.Guests (Int.toNat x_g) default).C).Vector ((List.getD v3.Guests (Int.toNat x_g) default).C).Saved ((List.getD v3.Guests (Int.toNat x_g) default).C).SavedUser ((List.getD v3.Guests (Int.toNat x_g) default).C).Cause ((List.getD v3.Guests (Int.toNat x_g) default).C).Bad ((List.getD v3.Guests (Int.toNat x_g) default).C).Timer ((List.getD v3.Guests (Int.toNat x_g) default).C).Waits ((List.getD v3.Guests (Int.toNat x_g) default).C).User ((List.getD v3.Guests (Int.toNat x_g) default).C).On ((List.getD v3.Guests (Int.toNat x_g) default).C).Stopped) (List.set (List.getD v3.Guests (Int.toNat x_g) default).Pages (Int.toNat x_page) (DSlot.mk s4.2 true (List.getD (List.getD x_h.Guests (Int.toNat x_g) default).Pages (Int.toNat x_page) default).Dirty)) (List.getD v3.Guests (Int.toNat x_g) default).In (List.getD v3.Guests (Int.toNat x_g) default).Out))),true)))
noncomputable def fT (x_h:DHost)(x_g:Int)(x_page:Int):Option (DHost×Bool):=
 Option.bind (cY x_h x_g) λv1=>
 cond (!v1)
  (some ((DHost.mk ([]:List Int) ([]:List DGuest)),false))
  (Option.bind (bO x_page (0:Int) (7:Int)) λv2=>
  cond (!v2)
   (some ((DHost.mk ([]:List Int) ([]:List DGuest)),false))
   (grd ((0:Int)<=x_g/\x_g<((List.length x_h.Guests:Nat):Int)) (grd ((0:Int)<=x_page/\x_page<((List.length (List.getD x_h.Guests (Int.toNat x_g) default).Pages:Nat):Int)) (cond (decide ((List.getD (List.getD x_h.Guests (Int.toNat x_g) default).Pages (Int.toNat x_page) default).Frame<(0:Int)))
    (some ((DHost.mk ([]:List Int) ([]:List DGuest)),false))
    (Option.bind (cU x_h) λv3=>
    grd ((0:Int)<=x_g/\x_g<((List.length x_h.Guests:Nat):Int)) (grd ((0:Int)<=x_page/\x_page<((List.length (List.getD x_h.Guests (Int.toNat x_g) default).Pages:Nat):Int)) (Option.bind (cond (!(List.getD (List.getD x_h.Guests (Int.toNat x_g) default).Pages (Int.toNat x_page) default).Write)
     (Option.bind (kL x_h) λv5=>
     grd ((0:Int)<=(List.getD (List.getD x_h.Guests (Int.toNat x_g) default).Pages (Int.toNat x_page) default).Frame/\(List.getD (List.getD x_h.Guests (Int.toNat x_g) default).Pages (Int.toNat x_page) default).Frame<((List.length v5:Nat):Int)) (cond (decide ((1:Int)<(List.getD v5 (Int.toNat (List.getD (List.getD x_h.Guests (Int.toNat x_g) default).Pages (Int.toNat x_page) default).Frame) default)))
      (Option.bind (iH x_h) λv6=>
      cond (decide (((List.length v6:Nat):Int)=(0:Int)))
       (some (.out ((DHost.mk ([]:List Int) ([]:List DGuest)),false)))
       (grd ((0:Int)<=(0:Int)/\(0:Int)<((List.length v6:Nat):Int)) (grd ((0:Int)<=(0:Int)/\(0:Int)<((List.length v6:Nat):Int)) (grd ((0:Int)<=(w64 ((List.getD v6 0 default)*(8:Int)))/\(w64 ((List.getD v6 0 default)*(8:Int)))<=(w64 ((w64 ((List.getD v6 0 default)+(1:Int)))*(8:Int)))/\(w64 ((w64 ((List.getD v6 0 default)+(1:Int)))*(8:Int)))<=((List.length v3.Words:Nat):Int)) (grd ((0:Int)<=(w64 ((List.getD (List.getD x_h.Guests (Int.toNat x_g) default).Pages (Int.toNat x_page) default).Frame*(8:Int)))/\(w64 ((List.getD (List.getD x_h.Guests (Int.toNat x_g) default).Pages (Int.toNat x_page) default).Frame*(8:Int)))<=((List.length x_h.Words:Nat):Int)/\((List.length x_h.Words:Nat):Int)<=((List.length x_h.Words:Nat):Int)) (grd ((0:Int)<=(0:Int)/\(0:Int)<((List.length v6:Nat):Int)) (some (.go ((over v3.Words (Int.toNat (w64 ((List.getD v6 0 default)*(8:Int)))) (Int.toNat (w64 ((w64 ((List.getD v6 0 default)+(1:Int)))*(8:Int)))-Int.toNat (w64 ((List.getD v6 0 default)*(8:Int)))) (List.take (Int.toNat ((List.length x_h.Words:Nat):Int)-Int.toNat (w64 ((List.getD (List.getD x_h.Guests (Int.toNat x_g) default).Pages (Int.toNat x_page) default).Frame*(8:Int)))) (List.drop (Int.toNat (w64 ((List.getD (List.getD x_h.Guests (Int.toNat x_g) default).Pages (Int.toNat x_page) default).Frame*(8:Int)))) x_h.Words))),List.getD v6 0 default)))))))))
      (some (.go (v3.Words,(List.getD (List.getD x_h.Guests (Int.toNat x_g) default).Pages (Int.toNat x_page) default).Frame)))))
     (some (.go (v3.Words,(List.getD (List.getD x_h.Guests (Int.toNat x_g) default).Pages (Int.toNat x_page) default).Frame)))) λj4=>
     JO.run j4 (lH x_h x_g x_page v3))))))))
noncomputable def g54:Sg tG:=⟨[.st 26,.i .i64,.i .i64],.two (.st 2026) .b,fT⟩
theorem s54:Sok 54 g54:=sgx [(102,.r aEm),(51,.r g51),(103,.r aGw),(115,.r bNf),(114,.r bGg)] ⟨aHo,s51,aNl,bYz,bQk,trivial⟩ (.s .o (.s .o (.s .o (.s .o (.j ⟨[1,2,6,8,9],[],[(.c 8 0,.ro 3),(.c 9 0,.i .i64)]⟩ .o .o))))) kr kr kr
noncomputable def rH (x_e:DEntry)(x_user:Bool)(x_write:Bool):Option Bool:=
 cond x_e.There
  (cond x_e.Write
   (cond x_e.User
    (some true)
    (some (!x_user)))
   (cond (!x_write)
    (cond x_e.User
     (some true)
     (some (!x_user)))
    (some false)))
  (some false)
noncomputable def bOe:Sg tG:=⟨[.st 181,.b,.b],.one .b,rH⟩
theorem bYq:Sok 165 bOe:=sgx [] trivial .o kr kr kr
noncomputable def vA (x_mem:List Int)(x_root:Int)(x_addr:Int)(x_user:Bool)(x_write:Bool):Option Int:=
 Option.bind (aAa x_mem) λv1=>
 cond (!v1)
  (some (-1:Int))
  (Option.bind (kQ x_root) λv2=>
  cond (!v2)
   (some (-1:Int))
   (Option.bind (cG x_addr) λv3=>
   cond (!v3)
    (some (-1:Int))
    (cond (decide (x_root=(-1:Int)))
     (some x_addr)
     (grd ((0:Int)<=(w64 ((w64 (x_root*(8:Int)))+(w64 (Int.tdiv x_addr (8:Int)))))/\(w64 ((w64 (x_root*(8:Int)))+(w64 (Int.tdiv x_addr (8:Int)))))<((List.length x_mem:Nat):Int)) (Option.bind (sB (List.getD x_mem (Int.toNat (w64 ((w64 (x_root*(8:Int)))+(w64 (Int.tdiv x_addr (8:Int)))))) default)) λv4=>
      Option.bind (rH v4 x_user x_write) λv5=>
      cond (!v5)
       (some (-1:Int))
       (some (w64 ((w64 (v4.Page*(8:Int)))+(Int.tmod x_addr (8:Int))))))))))
noncomputable def bHw:Sg tG:=⟨[.row 3,.i .i64,.i .i64,.b,.b],.one (.i .i64),vA⟩
theorem bNk:Sok 125 bHw:=sgx [(120,.r bMt),(162,.r bQg),(161,.r bRd),(164,.r bQf),(165,.r bOe)] ⟨bXy,bXf,bVb,bZe,bYq,trivial⟩ .o kr kr kr
noncomputable def aHv (x_i:DIns):Option Bool:=
 cond (decide ((0:Int)<=x_i.Op))
  (cond (decide ((0:Int)<=x_i.A))
   (cond (decide ((0:Int)<=x_i.N))
    (cond (decide (x_i.Op<=(15:Int)))
     (cond (decide (x_i.A<(4:Int)))
      (some (decide (x_i.N<(64:Int))))
      (some false))
     (some false))
    (cond (decide (x_i.Op<=(15:Int)))
     (cond (decide (x_i.A<(4:Int)))
      (some false)
      (some false))
     (some false)))
   (cond (decide ((0:Int)<=x_i.N))
    (cond (decide (x_i.Op<=(15:Int)))
     (some false)
     (some false))
    (cond (decide (x_i.Op<=(15:Int)))
     (some false)
     (some false))))
  (cond (decide ((0:Int)<=x_i.A))
   (cond (decide ((0:Int)<=x_i.N))
    (some false)
    (some false))
   (cond (decide ((0:Int)<=x_i.N))
    (some false)
    (some false)))
noncomputable def bXm:Sg tG:=⟨[.st 141],.one .b,aHv⟩
theorem cCz:Sok 218 bXm:=sgx [] trivial .o kr kr kr
noncomputable def aGi  (s2:Bool):Option Bool:=
 cond s2
  (some true)
  (some false)
noncomputable def rJ (x_i:DIns):Option Bool:=
 Option.bind (aHv x_i) λv1=>
 cond (!v1)
  (some false)
  (Option.bind (cond (decide (x_i.Op=(0:Int)))
   (some (.go (decide (x_i.Op=(0:Int)))))
   (cond (decide (x_i.Op=(8:Int)))
    (some (.go (decide (x_i.Op=(8:Int)))))
    (cond (decide (x_i.Op=(9:Int)))
     (some (.go (decide (x_i.Op=(9:Int)))))
     (cond (decide (x_i.Op=(10:Int)))
      (some (.go (decide (x_i.Op=(10:Int)))))
      (cond (decide (x_i.Op=(11:Int)))
       (some (.go (decide (x_i.Op=(11:Int)))))
       (cond (decide (x_i.Op=(12:Int)))
        (some (.go (decide (x_i.Op=(12:Int)))))
        (cond (decide (x_i.Op=(13:Int)))
         (some (.go (decide (x_i.Op=(13:Int)))))
         (some (.go (decide (x_i.Op=(14:Int)))))))))))) λj2=>
   JO.run j2 aGi)
noncomputable def bNu:Sg tG:=⟨[.st 141],.one .b,rJ⟩
theorem bXr:Sok 198 bNu:=sgx [(218,.r bXm)] ⟨cCz,trivial⟩ (.s .o (.s .o (.s (.s .o (.k (.j ⟨[],[],[(.s 8,.b)]⟩ .o .o))) .o))) kr kr kr
noncomputable def pZ (x_w:Int):Option DIns:=
 Option.bind (fC x_w) λv1=>
 cond (!v1)
  (some (DIns.mk (0:Int) (0:Int) (0:Int)))
  (some (DIns.mk (w64 (Int.tdiv x_w (256:Int))) (Int.tmod (w64 (Int.tdiv x_w (64:Int))) (4:Int)) (Int.tmod x_w (64:Int))))
noncomputable def bHo:Sg tG:=⟨[.i .i64],.one (.st 141),pZ⟩
theorem bMx:Sok 128 bHo:=sgx [(55,.r g55)] ⟨s55,trivial⟩ .o kr kr kr
noncomputable def cO (x_i:DIns):Option Bool:=
 Option.bind (oL x_i) λv1=>
 cond v1
  (cond (decide (x_i.Op=(0:Int)))
   (some true)
   (Option.bind (bO x_i.Op (8:Int) (14:Int)) λv2=>
   some v2))
  (some false)
noncomputable def bIk:Sg tG:=⟨[.st 141],.one .b,cO⟩
theorem bQw:Sok 110 bIk:=sgx [(159,.r bNa),(51,.r g51)] ⟨bZi,s51,trivial⟩ .o kr kr kr
noncomputable def lZ (x_w:Int):Option DIns:=
 Option.bind (fA x_w) λv1=>
 cond (!v1)
  (some (DIns.mk (0:Int) (0:Int) (0:Int)))
  (some (DIns.mk (w64 (Int.tdiv x_w (256:Int))) (Int.tmod (w64 (Int.tdiv x_w (64:Int))) (4:Int)) (Int.tmod x_w (64:Int))))
noncomputable def bNv:Sg tG:=⟨[.i .i64],.one (.st 141),lZ⟩
theorem bZz:Sok 109 bNv:=sgx [(158,.r aTa)] ⟨bAh,trivial⟩ .o kr kr kr
noncomputable def aMt (x_c:DCore)(s1:Bool):Option DCore:=some (DCore.mk x_c.Regs x_c.Pc x_c.Root x_c.Vector x_c.Saved x_c.SavedUser x_c.Cause x_c.Bad (w64 (x_c.Timer-(1:Int))) s1 x_c.User x_c.On x_c.Stopped)
noncomputable def rA (x_c:DCore):Option DCore:=
 cond (decide (x_c.Timer=(0:Int)))
  (some x_c)
  (Option.bind (cond (decide ((w64 (x_c.Timer-(1:Int)))=(0:Int)))
   (some (.go true))
   (some (.go x_c.Waits))) λj1=>
   JO.run j1 (aMt x_c))
noncomputable def bGc:Sg tG:=⟨[.st 39],.one (.sb 39),rA⟩
theorem bOk:Sok 122 bGc:=sgx [] trivial (.s .o (.s .o (.s .o (.j ⟨[1,2],[],[(.c 1 9,.b)]⟩ .o .o)))) kr kr kr
noncomputable def jB (x_c:DCore):Option Bool:=
 cond x_c.Waits
  (some x_c.On)
  (some false)
noncomputable def bFx:Sg tG:=⟨[.st 39],.one .b,jB⟩
theorem bOy:Sok 123 bFx:=sgx [] trivial .o kr kr kr
noncomputable def iL (x_c:DCore)(x_from:Int)(x_cause:Int)(x_bad:Int):Option DCore:=some (DCore.mk x_c.Regs x_c.Vector x_c.Root x_c.Vector x_from x_c.User x_cause x_bad x_c.Timer x_c.Waits false false x_c.Stopped)
noncomputable def bHp:Sw tG:=⟨[.os 39,.v (.i .i64),.v (.i .i64),.v (.i .i64)],.one (.st 39),iL⟩
theorem bPm:Sjk 108 bHp:=sgy [] trivial .o kr kr kr
noncomputable def vP (x_c:DCore)(s1:Bool×Int)(s2:Unit):Option (DCore×Bool):=some ((DCore.mk x_c.Regs x_c.Pc x_c.Root x_c.Vector x_c.Saved x_c.SavedUser x_c.Cause x_c.Bad s1.2 s1.1 x_c.User x_c.On x_c.Stopped),false)
noncomputable def vT (x_c:DCore)(s1:Bool×Int):Option (DCore×Bool):=
 Option.bind (cond s1.1
  (cond x_c.On
   (Option.bind (iL (DCore.mk x_c.Regs x_c.Pc x_c.Root x_c.Vector x_c.Saved x_c.SavedUser x_c.Cause x_c.Bad s1.2 false x_c.User x_c.On x_c.Stopped) x_c.Pc (4:Int) (0:Int)) λv3=>
   some (.out (v3,true)))
   (some (.go ())))
  (some (.go ()))) λj2=>
  JO.run j2 (vP x_c s1)
noncomputable def iF (x_c:DCore):Option (DCore×Bool):=
 Option.bind (cond (decide ((0:Int)<x_c.Timer))
  (cond (decide ((w64 (x_c.Timer-(1:Int)))=(0:Int)))
   (some (.go (true,w64 (x_c.Timer-(1:Int)))))
   (some (.go (x_c.Waits,w64 (x_c.Timer-(1:Int))))))
  (some (.go (x_c.Waits,x_c.Timer)))) λj1=>
  JO.run j1 (vT x_c)
noncomputable def bQi:Sw tG:=⟨[.os 39],.two (.st 39) .b,iF⟩
theorem bVo:Sjk 105 bQi:=sgy [(108,.w bHp)] ⟨bPm,trivial⟩ (.s .o (.j ⟨[1,2],[],[(.c 1 9,.b),(.c 1 8,.i .i64)]⟩ .o (.j ⟨[1,2],[],[]⟩ .o .o))) kr kr kr
noncomputable def gM (x_c:DCore)(x_i:DIns):Option Int:=grd ((0:Int)<=(Int.tmod x_i.N (4:Int))/\(Int.tmod x_i.N (4:Int))<((List.length x_c.Regs:Nat):Int)) (some (Int.tmod (List.getD x_c.Regs (Int.toNat (Int.tmod x_i.N (4:Int))) default) (64:Int)))
noncomputable def aSc:Sg tG:=⟨[.st 39,.st 141],.one (.i .i64),gM⟩
theorem bAf:Sok 194 aSc:=sgx [] trivial .o kr kr kr
noncomputable def aEt (x_s:DShade)(x_addr:Int)(s2:Unit):Option (Int×Int):=some ((w64 ((w64 (x_s.Frame*(8:Int)))+(Int.tmod x_addr (8:Int)))),(0:Int))
noncomputable def xR (x_s:DShade)(x_addr:Int)(x_user:Bool)(x_write:Bool):Option (Int×Int):=
 Option.bind (rH (DEntry.mk x_s.There x_s.Write x_s.User x_s.Page) x_user x_write) λv1=>
 cond (!v1)
  (some ((-1:Int),(1:Int)))
  (cond (decide (x_s.Frame=(-1:Int)))
   (some ((-1:Int),(2:Int)))
   (Option.bind (cond x_write
    (cond (!x_s.Ready)
     (some (.out ((-1:Int),(3:Int))))
     (some (.go ())))
    (some (.go ()))) λj2=>
    JO.run j2 (aEt x_s x_addr)))
noncomputable def bZq:Sg tG:=⟨[.st 147,.i .i64,.b,.b],.two (.i .i64) (.i .i64),xR⟩
theorem cAx:Sok 212 bZq:=sgx [(165,.r bOe)] ⟨bYq,trivial⟩ (.s .o (.s .o (.s .o (.s .o (.j ⟨[1,4],[],[]⟩ .o .o))))) kr kr kr
noncomputable def xI (x_table:List DShade)(x_addr:Int)(s1:Unit):Option (Int×Int):=some ((w64 ((w64 ((List.getD x_table (Int.toNat (w64 (Int.tdiv x_addr (8:Int)))) default).Frame*(8:Int)))+(Int.tmod x_addr (8:Int)))),(0:Int))
noncomputable def cS (x_table:List DShade)(x_addr:Int)(x_user:Bool)(x_write:Bool):Option (Int×Int):=
 grd ((0:Int)<=(w64 (Int.tdiv x_addr (8:Int)))/\(w64 (Int.tdiv x_addr (8:Int)))<((List.length x_table:Nat):Int)) (Option.bind (cond (!(List.getD x_table (Int.toNat (w64 (Int.tdiv x_addr (8:Int)))) default).There)
  (some (.out ((-1:Int),(1:Int))))
  (cond x_write
   (cond (!(List.getD x_table (Int.toNat (w64 (Int.tdiv x_addr (8:Int)))) default).Write)
    (some (.out ((-1:Int),(1:Int))))
    (cond x_user
     (cond (!(List.getD x_table (Int.toNat (w64 (Int.tdiv x_addr (8:Int)))) default).User)
      (some (.out ((-1:Int),(1:Int))))
      (cond (decide ((List.getD x_table (Int.toNat (w64 (Int.tdiv x_addr (8:Int)))) default).Frame<(0:Int)))
       (some (.out ((-1:Int),(2:Int))))
       (cond x_write
        (cond (!(List.getD x_table (Int.toNat (w64 (Int.tdiv x_addr (8:Int)))) default).Ready)
         (some (.out ((-1:Int),(3:Int))))
         (some (.go ())))
        (some (.go ())))))
     (cond (decide ((List.getD x_table (Int.toNat (w64 (Int.tdiv x_addr (8:Int)))) default).Frame<(0:Int)))
      (some (.out ((-1:Int),(2:Int))))
      (cond x_write
       (cond (!(List.getD x_table (Int.toNat (w64 (Int.tdiv x_addr (8:Int)))) default).Ready)
        (some (.out ((-1:Int),(3:Int))))
        (some (.go ())))
       (some (.go ()))))))
   (cond x_user
    (cond (!(List.getD x_table (Int.toNat (w64 (Int.tdiv x_addr (8:Int)))) default).User)
     (some (.out ((-1:Int),(1:Int))))
     (cond (decide ((List.getD x_table (Int.toNat (w64 (Int.tdiv x_addr (8:Int)))) default).Frame<(0:Int)))
      (some (.out ((-1:Int),(2:Int))))
      (cond x_write
       (cond (!(List.getD x_table (Int.toNat (w64 (Int.tdiv x_addr (8:Int)))) default).Ready)
        (some (.out ((-1:Int),(3:Int))))
        (some (.go ())))
       (some (.go ())))))
    (cond (decide ((List.getD x_table (Int.toNat (w64 (Int.tdiv x_addr (8:Int)))) default).Frame<(0:Int)))
     (some (.out ((-1:Int),(2:Int))))
     (cond x_write
      (cond (!(List.getD x_table (Int.toNat (w64 (Int.tdiv x_addr (8:Int)))) default).Ready)
       (some (.out ((-1:Int),(3:Int))))
       (some (.go ())))
      (some (.go ()))))))) λj1=>
  JO.run j1 (xI x_table x_addr))
noncomputable def bOa:Sg tG:=⟨[.row 147,.i .i64,.b,.b],.two (.i .i64) (.i .i64),cS⟩
theorem bZo:Sok 107 bOa:=sgx [] trivial (.s .o (.s .o (.j ⟨[1,10],[],[]⟩ .o .o))) kr kr kr
noncomputable def lR (x_h:DHost)(x_g:Int)(x_addr:Int):Option DShade:=
 Option.bind (aCz x_h x_g (w64 (Int.tdiv x_addr (8:Int)))) λv1=>
 some v1
noncomputable def bIf:Sg tG:=⟨[.st 26,.i .i64,.i .i64],.one (.st 147),lR⟩
theorem bPw:Sok 213 bIf:=sgx [(225,.r bVm)] ⟨cBh,trivial⟩ .o kr kr kr
noncomputable def gK (x_h:DHost)(x_g:Int)(x_addr:Int)(x_write:Bool):Option (Int×Int):=
 Option.bind (lR x_h x_g x_addr) λv1=>
 grd ((0:Int)<=x_g/\x_g<((List.length x_h.Guests:Nat):Int)) (Option.bind (xR v1 x_addr ((List.getD x_h.Guests (Int.toNat x_g) default).C).User x_write) λv2=>
  some (v2.1,v2.2))
noncomputable def aRn:Sg tG:=⟨[.st 26,.i .i64,.i .i64,.b],.two (.i .i64) (.i .i64),gK⟩
theorem bAk:Sok 188 aRn:=sgx [(213,.r bIf),(212,.r bZq)] ⟨bPw,cAx,trivial⟩ .o kr kr kr
noncomputable def oH (x_h:DHost)(x_g:Int)(x_addr:Int)(x_why:Int):Option DExit:=
 Option.bind (lR x_h x_g x_addr) λv1=>
 cond (decide (x_why=(2:Int)))
  (some (DExit.mk (2:Int) v1.Page (DIns.mk (0:Int) (0:Int) (0:Int))))
  (cond (decide (x_why=(3:Int)))
   (some (DExit.mk (3:Int) v1.Page (DIns.mk (0:Int) (0:Int) (0:Int))))
   (some (DExit.mk (0:Int) (0:Int) (DIns.mk (0:Int) (0:Int) (0:Int)))))
noncomputable def bOm:Sg tG:=⟨[.st 26,.i .i64,.i .i64,.i .i64],.one (.st 178),oH⟩
theorem bVd:Sok 210 bOm:=sgx [(213,.r bIf)] ⟨bPw,trivial⟩ .o kr kr kr
noncomputable def aKz (x_h:DHost)(x_g:Int)(x_i:DIns)(s2:Unit):Option DExit:=
 Option.bind (gM (DCore.mk ((List.getD x_h.Guests (Int.toNat x_g) default).C).Regs ((List.getD x_h.Guests (Int.toNat x_g) default).C).Pc ((List.getD x_h.Guests (Int.toNat x_g) default).C).Root ((List.getD x_h.Guests (Int.toNat x_g) default).C).Vector ((List.getD x_h.Guests (Int.toNat x_g) default).C).Saved ((List.getD x_h.Guests (Int.toNat x_g) default).C).SavedUser ((List.getD x_h.Guests (Int.toNat x_g) default).C).Cause ((List.getD x_h.Guests (Int.toNat x_g) default).C).Bad ((List.getD x_h.Guests (Int.toNat x_g) default).C).Timer ((List.getD x_h.Guests (Int.toNat x_g) default).C).Waits ((List.getD x_h.Guests (Int.toNat x_g) default).C).User ((List.getD x_h.Guests (Int.toNat x_g) default).C).On ((List.getD x_h.Guests (Int.toNat x_g) default).C).Stopped) x_i) λv3=>
 Option.bind (gK x_h x_g v3 (decide (x_i.Op=(4:Int)))) λv4=>
 Option.bind (oH x_h x_g v3 v4.2) λv5=>
 some v5
noncomputable def aKl (x_h:DHost)(x_g:Int)(x_i:DIns)(s1:Unit):Option DExit:=
 Option.bind (cond (!decide (x_i.Op=(3:Int)))
  (cond (!decide (x_i.Op=(4:Int)))
   (some (.out (DExit.mk (0:Int) (0:Int) (DIns.mk (0:Int) (0:Int) (0:Int)))))
   (some (.go ())))
  (some (.go ()))) λj2=>
  JO.run j2 (aKz x_h x_g x_i)
noncomputable def aBw (x_h:DHost)(x_g:Int)(x_i:DIns):Option DExit:=
 grd ((0:Int)<=x_g/\x_g<((List.length x_h.Guests:Nat):Int)) (Option.bind (Option.bind (rJ x_i) λv6=>
  cond v6
   (cond (!((List.getD x_h.Guests (Int.toNat x_g) default).C).User)
    (some (.out (DExit.mk (1:Int) (0:Int) x_i)))
    (some (.go ())))
   (some (.go ()))) λj1=>
  JO.run j1 (aKl x_h x_g x_i))
noncomputable def bYo:Sg tG:=⟨[.st 26,.i .i64,.st 141],.one (.st 178),aBw⟩
theorem cCk:Sok 211 bYo:=sgx [(198,.r bNu),(194,.r aSc),(188,.r aRn),(210,.r bOm)] ⟨bXr,bAf,bAk,bVd,trivial⟩ (.s .o (.s .o (.j ⟨[1,3,5,6,7],[],[]⟩ .o (.j ⟨[1,3,5,6,7],[],[]⟩ .o .o)))) kr kr kr
noncomputable def wY (x_h:DHost)(x_g:Int):Option DExit:=
 grd ((0:Int)<=x_g/\x_g<((List.length x_h.Guests:Nat):Int)) (cond ((List.getD x_h.Guests (Int.toNat x_g) default).C).Stopped
  (some (DExit.mk (0:Int) (0:Int) (DIns.mk (0:Int) (0:Int) (0:Int))))
  (Option.bind (rA (DCore.mk ((List.getD x_h.Guests (Int.toNat x_g) default).C).Regs ((List.getD x_h.Guests (Int.toNat x_g) default).C).Pc ((List.getD x_h.Guests (Int.toNat x_g) default).C).Root ((List.getD x_h.Guests (Int.toNat x_g) default).C).Vector ((List.getD x_h.Guests (Int.toNat x_g) default).C).Saved ((List.getD x_h.Guests (Int.toNat x_g) default).C).SavedUser ((List.getD x_h.Guests (Int.toNat x_g) default).C).Cause ((List.getD x_h.Guests (Int.toNat x_g) default).C).Bad ((List.getD x_h.Guests (Int.toNat x_g) default).C).Timer ((List.getD x_h.Guests (Int.toNat x_g) default).C).Waits ((List.getD x_h.Guests (Int.toNat x_g) default).C).User ((List.getD x_h.Guests (Int.toNat x_g) default).C).On ((List.getD x_h.Guests (Int.toNat x_g) default).C).Stopped)) λv1=>
  Option.bind (jB v1) λv2=>
  cond v2
   (some (DExit.mk (0:Int) (0:Int) (DIns.mk (0:Int) (0:Int) (0:Int))))
   (Option.bind (gK x_h x_g ((List.getD x_h.Guests (Int.toNat x_g) default).C).Pc false) λv3=>
   cond (!decide (v3.2=(0:Int)))
    (Option.bind (oH x_h x_g ((List.getD x_h.Guests (Int.toNat x_g) default).C).Pc v3.2) λv4=>
    some v4)
    (grd ((0:Int)<=v3.1/\v3.1<((List.length x_h.Words:Nat):Int)) (Option.bind (pZ (List.getD x_h.Words (Int.toNat v3.1) default)) λv5=>
     Option.bind (aBw x_h x_g v5) λv6=>
     some v6)))))
noncomputable def bVl:Sg tG:=⟨[.st 26,.i .i64],.one (.st 178),wY⟩
theorem cDe:Sok 185 bVl:=sgx [(122,.r bGc),(123,.r bFx),(188,.r aRn),(210,.r bOm),(128,.r bHo),(211,.r bYo)] ⟨bOk,bOy,bAk,bVd,bMx,cCk,trivial⟩ .o kr kr kr
noncomputable def zI (x_table:List DShade)(x_addr:Int)(s1:Int):Option DExit:=some (DExit.mk s1 (List.getD x_table (Int.toNat (w64 (Int.tdiv x_addr (8:Int)))) default).Page (DIns.mk (0:Int) (0:Int) (0:Int)))
noncomputable def eZ (x_table:List DShade)(x_addr:Int)(x_why:Int):Option DExit:=
 grd ((0:Int)<=(w64 (Int.tdiv x_addr (8:Int)))/\(w64 (Int.tdiv x_addr (8:Int)))<((List.length x_table:Nat):Int)) (Option.bind (cond (decide (x_why=(2:Int)))
  (some (.go (2:Int)))
  (cond (decide (x_why=(3:Int)))
   (some (.go (3:Int)))
   (some (.out (DExit.mk (0:Int) (0:Int) (DIns.mk (0:Int) (0:Int) (0:Int))))))) λj1=>
  JO.run j1 (zI x_table x_addr))
noncomputable def bVw:Sg tG:=⟨[.row 147,.i .i64,.i .i64],.one (.st 178),eZ⟩
theorem cBa:Sok 193 bVw:=sgx [] trivial (.s .o (.s .o (.j ⟨[6,7],[],[(.c 7 0,.i .i64)]⟩ .o .o))) kr kr kr
noncomputable def aGk  (s8:Unit):Option DExit:=some (DExit.mk (0:Int) (0:Int) (DIns.mk (0:Int) (0:Int) (0:Int)))
noncomputable def jT (x_h:DHost)(x_g:Int):Option DExit:=
 Option.bind (cY x_h x_g) λv1=>
 cond (!v1)
  (some (DExit.mk (0:Int) (0:Int) (DIns.mk (0:Int) (0:Int) (0:Int))))
  (grd ((0:Int)<=x_g/\x_g<((List.length x_h.Guests:Nat):Int)) (cond ((List.getD x_h.Guests (Int.toNat x_g) default).C).Stopped
   (some (DExit.mk (0:Int) (0:Int) (DIns.mk (0:Int) (0:Int) (0:Int))))
   (grd ((0:Int)<=x_g/\x_g<((List.length x_h.Guests:Nat):Int)) (Option.bind (iP (DCore.mk ((List.getD x_h.Guests (Int.toNat x_g) default).C).Regs ((List.getD x_h.Guests (Int.toNat x_g) default).C).Pc ((List.getD x_h.Guests (Int.toNat x_g) default).C).Root ((List.getD x_h.Guests (Int.toNat x_g) default).C).Vector ((List.getD x_h.Guests (Int.toNat x_g) default).C).Saved ((List.getD x_h.Guests (Int.toNat x_g) default).C).SavedUser ((List.getD x_h.Guests (Int.toNat x_g) default).C).Cause ((List.getD x_h.Guests (Int.toNat x_g) default).C).Bad ((List.getD x_h.Guests (Int.toNat x_g) default).C).Timer ((List.getD x_h.Guests (Int.toNat x_g) default).C).Waits ((List.getD x_h.Guests (Int.toNat x_g) default).C).User ((List.getD x_h.Guests (Int.toNat x_g) default).C).On ((List.getD x_h.Guests (Int.toNat x_g) default).C).Stopped)) λv2=>
    Option.bind (iF v2) λv3=>
    cond v3.2
     (some (DExit.mk (0:Int) (0:Int) (DIns.mk (0:Int) (0:Int) (0:Int))))
     (Option.bind (iC x_h x_g) λv4=>
     Option.bind (cS v4 v3.1.Pc v3.1.User false) λv5=>
     cond (!decide (v5.2=(0:Int)))
      (Option.bind (eZ v4 v3.1.Pc v5.2) λv6=>
      some v6)
      (grd ((0:Int)<=v5.1/\v5.1<((List.length x_h.Words:Nat):Int)) (Option.bind (lZ (List.getD x_h.Words (Int.toNat v5.1) default)) λv7=>
       Option.bind (Option.bind (cO v7) λv9=>
        cond v9
         (cond (!v3.1.User)
          (some (.out (DExit.mk (1:Int) (0:Int) v7)))
          (cond (decide (v7.Op=(3:Int)))
           (grd ((0:Int)<=(Int.tmod v7.N (4:Int))/\(Int.tmod v7.N (4:Int))<((List.length v3.1.Regs:Nat):Int)) (Option.bind (cS v4 (Int.tmod (List.getD v3.1.Regs (Int.toNat (Int.tmod v7.N (4:Int))) default) (64:Int)) v3.1.User (decide (v7.Op=(4:Int)))) λv10=>
            Option.bind (eZ v4 (Int.tmod (List.getD v3.1.Regs (Int.toNat (Int.tmod v7.N (4:Int))) default) (64:Int)) v10.2) λv11=>
            some (.out v11)))
           (cond (decide (v7.Op=(4:Int)))
            (grd ((0:Int)<=(Int.tmod v7.N (4:Int))/\(Int.tmod v7.N (4:Int))<((List.length v3.1.Regs:Nat):Int)) (Option.bind (cS v4 (Int.tmod (List.getD v3.1.Regs (Int.toNat (Int.tmod v7.N (4:Int))) default) (64:Int)) v3.1.User (decide (v7.Op=(4:Int)))) λv12=>
             Option.bind (eZ v4 (Int.tmod (List.getD v3.1.Regs (Int.toNat (Int.tmod v7.N (4:Int))) default) (64:Int)) v12.2) λv13=>
             some (.out v13)))
            (some (.go ())))))
         (cond (decide (v7.Op=(3:Int)))
          (grd ((0:Int)<=(Int.tmod v7.N (4:Int))/\(Int.tmod v7.N (4:Int))<((List.length v3.1.Regs:Nat):Int)) (Option.bind (cS v4 (Int.tmod (List.getD v3.1.Regs (Int.toNat (Int.tmod v7.N (4:Int))) default) (64:Int)) v3.1.User (decide (v7.Op=(4:Int)))) λv14=>
           Option.bind (eZ v4 (Int.tmod (List.getD v3.1.Regs (Int.toNat (Int.tmod v7.N (4:Int))) default) (64:Int)) v14.2) λv15=>
           some (.out v15)))
          (cond (decide (v7.Op=(4:Int)))
           (grd ((0:Int)<=(Int.tmod v7.N (4:Int))/\(Int.tmod v7.N (4:Int))<((List.length v3.1.Regs:Nat):Int)) (Option.bind (cS v4 (Int.tmod (List.getD v3.1.Regs (Int.toNat (Int.tmod v7.N (4:Int))) default) (64:Int)) v3.1.User (decide (v7.Op=(4:Int)))) λv16=>
            Option.bind (eZ v4 (Int.tmod (List.getD v3.1.Regs (Int.toNat (Int.tmod v7.N (4:Int))) default) (64:Int)) v16.2) λv17=>
            some (.out v17)))
           (some (.go ()))))) λj8=>
        JO.run j8 aGk)))))))
noncomputable def bUx:Sg tG:=⟨[.st 26,.i .i64],.one (.st 178),jT⟩
theorem cBi:Sok 156 bUx:=sgx [(102,.r aEm),(132,.r bHa),(105,.w bQi),(106,.r bRb),(107,.r bOa),(193,.r bVw),(109,.r bNv),(110,.r bIk)] ⟨aHo,bNl,bVo,bZp,bZo,cBa,bZz,bQw,trivial⟩ (.s .o (.s .o (.s .o (.s .o (.s .o (.s .o (.s .o (.s .o (.j ⟨[4],[],[]⟩ .o .o))))))))) kr kr kr
noncomputable def rW (x_pc:Int):Option Int:=some (Int.tmod (w64 (x_pc+(1:Int))) (64:Int))
noncomputable def bPl:Sg tG:=⟨[.i .i64],.one (.i .i64),rW⟩
theorem bXw:Sok 217 bPl:=sgx [] trivial .o kr kr kr
noncomputable def kJ (x_b:DBare):Option DBare:=
 Option.bind (rW x_b.C.Pc) λv1=>
 some (DBare.mk (DCore.mk x_b.C.Regs v1 x_b.C.Root x_b.C.Vector x_b.C.Saved x_b.C.SavedUser x_b.C.Cause x_b.C.Bad x_b.C.Timer x_b.C.Waits x_b.C.User x_b.C.On x_b.C.Stopped) x_b.Mem x_b.In x_b.Out)
noncomputable def aRz:Sg tG:=⟨[.st 41],.one (.sb 41),kJ⟩
theorem aXe:Sok 197 aRz:=sgx [(217,.r bPl)] ⟨bXw,trivial⟩ .o kr kr kr
noncomputable def aAn (x_c:DCore):Option DCore:=some (DCore.mk x_c.Regs x_c.Saved x_c.Root x_c.Vector x_c.Saved x_c.SavedUser x_c.Cause x_c.Bad x_c.Timer x_c.Waits x_c.SavedUser true x_c.Stopped)
noncomputable def bYx:Sg tG:=⟨[.st 39],.one (.sb 39),aAn⟩
theorem cCb:Sok 221 bYx:=sgx [] trivial .o kr kr kr
noncomputable def aAw (x_word:Int):Option Int:=
 Option.bind (fB (Int.tmod x_word (16:Int))) λv1=>
 cond (!v1)
  (some (-1:Int))
  (some (Int.tmod x_word (16:Int)))
noncomputable def bWt:Sg tG:=⟨[.i .i64],.one (.i .i64),aAw⟩
theorem cBq:Sok 222 bWt:=sgx [(46,.r g46)] ⟨s46,trivial⟩ .o kr kr kr
noncomputable def aDd (x_out:List Int)(x_word:Int):Option (List Int):=
 cond (decide ((30:Int)<=((List.length x_out:Nat):Int)))
  (some x_out)
  (Option.bind (cH x_out) λv1=>
  grd ((List.length v1+List.length ([x_word]:List Int))*8<=2^47/\List.length v1+List.length ([x_word]:List Int)<=2^47) (some (v1++([x_word]:List Int))))
noncomputable def bZm:Sg tG:=⟨[.row 3,.i .i64],.one (.rb 3),aDd⟩
theorem cBs:Sok 223 bZm:=sgx [(117,.r aTe)] ⟨aRp,trivial⟩ .o kr kr kr
noncomputable def pN (x_list:List Int)(x_at:Int)(x_w:Int):Option (List Int):=
 Option.bind (cH x_list) λv1=>
 grd ((0:Int)<=x_at/\x_at<((List.length v1:Nat):Int)) (some (List.set v1 (Int.toNat x_at) x_w))
noncomputable def bFt:Sg tG:=⟨[.row 3,.i .i64,.i .i64],.one (.row 3),pN⟩
theorem bOu:Sok 196 bFt:=sgx [(117,.r aTe)] ⟨aRp,trivial⟩ .o kr kr kr
noncomputable def aBx (x_b:DBare)(x_kind:Int):Option Int:=
 cond (decide (x_kind=(1:Int)))
  (some x_b.C.Cause)
  (cond (decide (x_kind=(2:Int)))
   (some x_b.C.Bad)
   (cond (decide (x_kind=(3:Int)))
    (some x_b.C.Saved)
    (cond (decide (((List.length x_b.In:Nat):Int)=(0:Int)))
     (some (0:Int))
     (grd ((0:Int)<=(0:Int)/\(0:Int)<((List.length x_b.In:Nat):Int)) (some (List.getD x_b.In (Int.toNat (0:Int)) default))))))
noncomputable def bVc:Sg tG:=⟨[.st 41,.i .i64],.one (.i .i64),aBx⟩
theorem cAy:Sok 226 bVc:=sgx [] trivial .o kr kr kr
noncomputable def aNt (x_b:DBare)(v2:List Int)(s3:List Int):Option DBare:=some (DBare.mk (DCore.mk v2 x_b.C.Pc x_b.C.Root x_b.C.Vector x_b.C.Saved x_b.C.SavedUser x_b.C.Cause x_b.C.Bad x_b.C.Timer x_b.C.Waits x_b.C.User x_b.C.On x_b.C.Stopped) x_b.Mem s3 x_b.Out)
noncomputable def aGf (x_b:DBare)(x_i:DIns):Option DBare:=
 Option.bind (aBx x_b (Int.tmod x_i.N (4:Int))) λv1=>
 Option.bind (pN x_b.C.Regs x_i.A v1) λv2=>
 Option.bind (cond (decide ((Int.tmod x_i.N (4:Int))=(0:Int)))
  (cond (decide ((0:Int)<((List.length x_b.In:Nat):Int)))
   (grd ((0:Int)<=(1:Int)/\(1:Int)<=((List.length x_b.In:Nat):Int)/\((List.length x_b.In:Nat):Int)<=((List.length x_b.In:Nat):Int)) (some (.go (List.take (Int.toNat ((List.length x_b.In:Nat):Int)-Int.toNat (1:Int)) (List.drop (Int.toNat (1:Int)) x_b.In)))))
   (some (.go x_b.In)))
  (some (.go x_b.In))) λj3=>
  JO.run j3 (aNt x_b v2)
noncomputable def bZr:Sg tG:=⟨[.st 41,.st 141],.one (.sb 41),aGf⟩
theorem cCu:Sok 224 bZr:=sgx [(226,.r bVc),(196,.r bFt)] ⟨cAy,bOu,trivial⟩ (.s .o (.s .o (.s .o (.j ⟨[2,4],[],[(.c 2 14,.rb 3)]⟩ .o .o)))) kr kr kr
noncomputable def aGh  (s1:Int×Int×Int×Bool×(List Int)×(List Int)×Int×Int×Bool×Int×Int×Bool×Bool×Bool×(List Int)×(List Int)):Option DBare:=
 Option.bind (kJ (DBare.mk (DCore.mk s1.2.2.2.2.2.1 s1.2.2.2.2.2.2.1 s1.1 s1.2.1 s1.2.2.2.2.2.2.2.1 s1.2.2.2.2.2.2.2.2.1 s1.2.2.2.2.2.2.2.2.2.1 s1.2.2.2.2.2.2.2.2.2.2.1 s1.2.2.1 s1.2.2.2.2.2.2.2.2.2.2.2.1 s1.2.2.2.2.2.2.2.2.2.2.2.2.1 s1.2.2.2.1 s1.2.2.2.2.2.2.2.2.2.2.2.2.2.1) s1.2.2.2.2.2.2.2.2.2.2.2.2.2.2.1 s1.2.2.2.2.2.2.2.2.2.2.2.2.2.2.2 s1.2.2.2.2.1)) λv2=>
 some v2
noncomputable def zT (x_b:DBare)(x_i:DIns):Option DBare:=
 grd ((0:Int)<=x_i.A/\x_i.A<((List.length x_b.C.Regs:Nat):Int)) (Option.bind (cond (decide (x_i.Op=(0:Int)))
  (some (.out (DBare.mk (DCore.mk x_b.C.Regs x_b.C.Pc x_b.C.Root x_b.C.Vector x_b.C.Saved x_b.C.SavedUser x_b.C.Cause x_b.C.Bad x_b.C.Timer x_b.C.Waits x_b.C.User x_b.C.On true) x_b.Mem x_b.In x_b.Out)))
  (cond (decide (x_i.Op=(11:Int)))
   (Option.bind (aAn x_b.C) λv3=>
   some (.out (DBare.mk v3 x_b.Mem x_b.In x_b.Out)))
   (cond (decide (x_i.Op=(8:Int)))
    (Option.bind (aAw (List.getD x_b.C.Regs (Int.toNat x_i.A) default)) λv4=>
    some (.go (v4,x_b.C.Vector,x_b.C.Timer,x_b.C.On,x_b.Out,x_b.C.Regs,x_b.C.Pc,x_b.C.Saved,x_b.C.SavedUser,x_b.C.Cause,x_b.C.Bad,x_b.C.Waits,x_b.C.User,x_b.C.Stopped,x_b.Mem,x_b.In)))
    (cond (decide (x_i.Op=(9:Int)))
     (some (.go (x_b.C.Root,Int.tmod (List.getD x_b.C.Regs (Int.toNat x_i.A) default) (64:Int),x_b.C.Timer,x_b.C.On,x_b.Out,x_b.C.Regs,x_b.C.Pc,x_b.C.Saved,x_b.C.SavedUser,x_b.C.Cause,x_b.C.Bad,x_b.C.Waits,x_b.C.User,x_b.C.Stopped,x_b.Mem,x_b.In)))
     (cond (decide (x_i.Op=(10:Int)))
      (some (.go (x_b.C.Root,x_b.C.Vector,List.getD x_b.C.Regs (Int.toNat x_i.A) default,x_b.C.On,x_b.Out,x_b.C.Regs,x_b.C.Pc,x_b.C.Saved,x_b.C.SavedUser,x_b.C.Cause,x_b.C.Bad,x_b.C.Waits,x_b.C.User,x_b.C.Stopped,x_b.Mem,x_b.In)))
      (cond (decide (x_i.Op=(12:Int)))
       (some (.go (x_b.C.Root,x_b.C.Vector,x_b.C.Timer,decide ((Int.tmod x_i.N (2:Int))=(1:Int)),x_b.Out,x_b.C.Regs,x_b.C.Pc,x_b.C.Saved,x_b.C.SavedUser,x_b.C.Cause,x_b.C.Bad,x_b.C.Waits,x_b.C.User,x_b.C.Stopped,x_b.Mem,x_b.In)))
       (cond (decide (x_i.Op=(13:Int)))
        (Option.bind (aDd x_b.Out (List.getD x_b.C.Regs (Int.toNat x_i.A) default)) λv5=>
        some (.go (x_b.C.Root,x_b.C.Vector,x_b.C.Timer,x_b.C.On,v5,x_b.C.Regs,x_b.C.Pc,x_b.C.Saved,x_b.C.SavedUser,x_b.C.Cause,x_b.C.Bad,x_b.C.Waits,x_b.C.User,x_b.C.Stopped,x_b.Mem,x_b.In)))
        (cond (decide (x_i.Op=(14:Int)))
         (Option.bind (aGf x_b x_i) λv6=>
         some (.go (v6.C.Root,v6.C.Vector,v6.C.Timer,v6.C.On,v6.Out,v6.C.Regs,v6.C.Pc,v6.C.Saved,v6.C.SavedUser,v6.C.Cause,v6.C.Bad,v6.C.Waits,v6.C.User,v6.C.Stopped,v6.Mem,v6.In)))
         (some (.go (x_b.C.Root,x_b.C.Vector,x_b.C.Timer,x_b.C.On,x_b.Out,x_b.C.Regs,x_b.C.Pc,x_b.C.Saved,x_b.C.SavedUser,x_b.C.Cause,x_b.C.Bad,x_b.C.Waits,x_b.C.User,x_b.C.Stopped,x_b.Mem,x_b.In))))))))))) λj1=>
  JO.run j1 aGh)
noncomputable def bYt:Sg tG:=⟨[.st 41,.st 141],.one (.sb 41),zT⟩
theorem cBn:Sok 200 bYt:=sgx [(221,.r bYx),(222,.r bWt),(223,.r bZm),(224,.r bZr),(197,.r aRz)] ⟨cCb,cBq,cBs,cCu,aXe,trivial⟩ (.s .o (.s .o (.j ⟨[2,4],[],[(.c 2 2,.i .i64),(.c 2 3,.i .i64),(.c 2 8,.i .i64),(.c 2 11,.b),(.c 2 15,.rb 3),(.c 2 0,.rb 3),(.c 2 1,.i .i64),(.c 2 4,.i .i64),(.c 2 5,.b),(.c 2 6,.i .i64),(.c 2 7,.i .i64),(.c 2 9,.b),(.c 2 10,.b),(.c 2 12,.b),(.c 2 13,.rb 3),(.c 2 14,.rb 3)]⟩ .o .o))) kr kr kr
noncomputable def wS (x_c:DCore)(s1:Int×Int×Int×Bool×Bool×Int×(List Int)×(List Int)×(List Int)):Option (DCore×(List Int)×(List Int)):=some ((DCore.mk s1.2.2.2.2.2.2.2.2 s1.2.2.2.2.2.1 s1.1 s1.2.1 x_c.Saved x_c.SavedUser x_c.Cause x_c.Bad s1.2.2.1 x_c.Waits s1.2.2.2.1 s1.2.2.2.2.1 x_c.Stopped),s1.2.2.2.2.2.2.2.1,s1.2.2.2.2.2.2.1)
noncomputable def vY (x_c:DCore)(x_out:List Int)(x_i:DIns)(s2:(List Int)×Int):Option (JO (Int×Int×Int×Bool×Bool×Int×(List Int)×(List Int)×(List Int)) (DCore×(List Int)×(List Int))):=grd ((0:Int)<=x_i.A/\x_i.A<((List.length x_c.Regs:Nat):Int)) (some (.go (x_c.Root,x_c.Vector,x_c.Timer,x_c.User,x_c.On,Int.tmod (w64 (x_c.Pc+(1:Int))) (64:Int),x_out,s2.1,List.set x_c.Regs (Int.toNat x_i.A) s2.2)))
noncomputable def kY (x_c:DCore)(x_in:List Int)(x_out:List Int)(x_i:DIns):Option (DCore×(List Int)×(List Int)):=
 Option.bind (cond (decide (x_i.Op=(0:Int)))
  (some (.out ((DCore.mk x_c.Regs x_c.Pc x_c.Root x_c.Vector x_c.Saved x_c.SavedUser x_c.Cause x_c.Bad x_c.Timer x_c.Waits x_c.User x_c.On true),x_in,x_out)))
  (cond (decide (x_i.Op=(8:Int)))
   (grd ((0:Int)<=x_i.A/\x_i.A<((List.length x_c.Regs:Nat):Int)) (cond (decide ((Int.tmod (List.getD x_c.Regs (Int.toNat x_i.A) default) (16:Int))<(8:Int)))
    (grd ((0:Int)<=x_i.A/\x_i.A<((List.length x_c.Regs:Nat):Int)) (some (.go ((Int.tmod (List.getD x_c.Regs (Int.toNat x_i.A) default) (16:Int)),x_c.Vector,x_c.Timer,x_c.User,x_c.On,Int.tmod (w64 (x_c.Pc+(1:Int))) (64:Int),x_out,x_in,x_c.Regs))))
    (some (.go ((-1:Int),x_c.Vector,x_c.Timer,x_c.User,x_c.On,Int.tmod (w64 (x_c.Pc+(1:Int))) (64:Int),x_out,x_in,x_c.Regs)))))
   (cond (decide (x_i.Op=(9:Int)))
    (grd ((0:Int)<=x_i.A/\x_i.A<((List.length x_c.Regs:Nat):Int)) (some (.go (x_c.Root,Int.tmod (List.getD x_c.Regs (Int.toNat x_i.A) default) (64:Int),x_c.Timer,x_c.User,x_c.On,Int.tmod (w64 (x_c.Pc+(1:Int))) (64:Int),x_out,x_in,x_c.Regs))))
    (cond (decide (x_i.Op=(10:Int)))
     (grd ((0:Int)<=x_i.A/\x_i.A<((List.length x_c.Regs:Nat):Int)) (some (.go (x_c.Root,x_c.Vector,List.getD x_c.Regs (Int.toNat x_i.A) default,x_c.User,x_c.On,Int.tmod (w64 (x_c.Pc+(1:Int))) (64:Int),x_out,x_in,x_c.Regs))))
     (cond (decide (x_i.Op=(11:Int)))
      (some (.go (x_c.Root,x_c.Vector,x_c.Timer,x_c.SavedUser,true,x_c.Saved,x_out,x_in,x_c.Regs)))
      (cond (decide (x_i.Op=(12:Int)))
       (some (.go (x_c.Root,x_c.Vector,x_c.Timer,x_c.User,decide ((Int.tmod x_i.N (2:Int))=(1:Int)),Int.tmod (w64 (x_c.Pc+(1:Int))) (64:Int),x_out,x_in,x_c.Regs)))
       (cond (decide (x_i.Op=(13:Int)))
        (cond (decide (((List.length x_out:Nat):Int)<(30:Int)))
         (grd ((0:Int)<=x_i.A/\x_i.A<((List.length x_c.Regs:Nat):Int)) (grd ((List.length x_out+List.length ([List.getD x_c.Regs (Int.toNat x_i.A) default]:List Int))*8<=2^47/\List.length x_out+List.length ([List.getD x_c.Regs (Int.toNat x_i.A) default]:List Int)<=2^47) (some (.go (x_c.Root,x_c.Vector,x_c.Timer,x_c.User,x_c.On,Int.tmod (w64 (x_c.Pc+(1:Int))) (64:Int),x_out++([List.getD x_c.Regs (Int.toNat x_i.A) default]:List Int),x_in,x_c.Regs)))))
         (some (.go (x_c.Root,x_c.Vector,x_c.Timer,x_c.User,x_c.On,Int.tmod (w64 (x_c.Pc+(1:Int))) (64:Int),x_out,x_in,x_c.Regs))))
        (cond (decide (x_i.Op=(14:Int)))
         (grd ((0:Int)<=(Int.tmod x_i.N (4:Int))/\(Int.tmod x_i.N (4:Int))<((4:Nat):Int)) (Option.bind (cond (decide ((Int.tmod x_i.N (4:Int))=(0:Int)))
          (cond (decide ((0:Int)<((List.length x_in:Nat):Int)))
           (grd ((0:Int)<=(0:Int)/\(0:Int)<((List.length x_in:Nat):Int)) (grd ((0:Int)<=(1:Int)/\(1:Int)<=((List.length x_in:Nat):Int)/\((List.length x_in:Nat):Int)<=((List.length x_in:Nat):Int)) (some (.go ((List.take (Int.toNat ((List.length x_in:Nat):Int)-Int.toNat (1:Int)) (List.drop 1 x_in)),List.getD x_in 0 default)))))
           (some (.go (x_in,List.getD ([(0:Int),x_c.Cause,x_c.Bad,x_c.Saved]:List Int) (Int.toNat (Int.tmod x_i.N (4:Int))) default))))
          (some (.go (x_in,List.getD ([(0:Int),x_c.Cause,x_c.Bad,x_c.Saved]:List Int) (Int.toNat (Int.tmod x_i.N (4:Int))) default)))) λj2=>
          JO.run j2 (vY x_c x_out x_i)))
         (some (.go (x_c.Root,x_c.Vector,x_c.Timer,x_c.User,x_c.On,Int.tmod (w64 (x_c.Pc+(1:Int))) (64:Int),x_out,x_in,x_c.Regs))))))))))) λj1=>
  JO.run j1 (wS x_c)
noncomputable def bXu:Sw tG:=⟨[.os 39,.ow 3,.ow 3,.v (.st 141)],.three (.st 39) (.row 3) (.row 3),kY⟩
theorem cBd:Sjk 160 bXu:=sgy [] trivial (.s .o (.s .o (.j ⟨[4,8],[],[(.c 4 2,.i .i64),(.c 4 3,.i .i64),(.c 4 8,.i .i64),(.c 4 10,.b),(.c 4 11,.b),(.s 11,.i .i64),(.s 2,.ro 3),(.s 1,.ro 3),(.c 4 0,.ro 3)]⟩ (.s .o (.k (.s .o (.c .o (.s .o (.c .o (.s .o (.c .o (.s .o (.c .o (.s .o (.c .o (.s .o (.c .o (.s .o (.c .o (.s .o (.c (.s .o (.j ⟨[2,4,7,8,11],[],[(.s 1,.ro 3),(.s 12,.i .i64)]⟩ (.s .o (.c (.s .o (.g [] [] [.ct 1])) .o)) .o)) .o)))))))))))))))))) .o))) kr kr kr
noncomputable def cB (x_h:DHost)(x_g:Int)(x_b:DBare):Option DHost:=
 Option.bind (cA x_h) λv1=>
 Option.bind (fV x_b) λv2=>
 grd ((0:Int)<=x_g/\x_g<((List.length v1.Guests:Nat):Int)) (grd ((0:Int)<=x_g/\x_g<((List.length v1.Guests:Nat):Int)) (grd ((0:Int)<=x_g/\x_g<((List.length v1.Guests:Nat):Int)) (some (DHost.mk v1.Words (let z0:=List.set v1.Guests (Int.toNat x_g) (DGuest.mk (List.getD v1.Guests (Int.toNat x_g) default).Live v2.C (List.getD v1.Guests (Int.toNat x_g) default).Pages (List.getD v1.Guests (Int.toNat x_g) default).In (List.getD v1.Guests (Int.toNat x_g) default).Out);let z1:=List.set z0 (Int.toNat x_g) (DGuest.mk (List.getD z0 (Int.toNat x_g) default).Live (DCore.mk ((List.getD z0 (Int.toNat x_g) default).C).Regs ((List.getD z0 (Int.toNat x_g) default).C).Pc ((List.getD z0 (Int.toNat x_g) default).C).Root ((List.getD z0 (Int.toNat x_g) default).C).Vector ((List.getD z0 (Int.toNat x_g) default).C).Saved ((List.getD z0 (Int.toNat x_g) default).C).SavedUser ((List.getD z0 (Int.toNat x_g) default).C).Cause ((List.getD z0 (Int.toNat x_g) default).C).Bad ((List.getD z0 (Int.toNat x_g) default).C).Timer ((List.getD z0 (Int.toNat x_g) default).C).Waits ((List.getD z0 (Int.toNat x_g) default).C).User ((List.getD z0 (Int.toNat x_g) default).C).On ((List.getD z0 (Int.toNat x_g) default).C).Stopped) (List.getD z0 (Int.toNat x_g) default).Pages v2.In (List.getD z0 (Int.toNat x_g) default).Out);List.set z1 (Int.toNat x_g) (DGuest.mk (List.getD z1 (Int.toNat x_g) default).Live (DCore.mk ((List.getD z1 (Int.toNat x_g) default).C).Regs ((List.getD z1 (Int.toNat x_g) default).C).Pc ((List.getD z1 (Int.toNat x_g) default).C).Root ((List.getD z1 (Int.toNat x_g) default).C).Vector ((List.getD z1 (Int.toNat x_g) default).C).Saved ((List.getD z1 (Int.toNat x_g) default).C).SavedUser ((List.getD z1 (Int.toNat x_g) default).C).Cause ((List.getD z1 (Int.toNat x_g) default).C).Bad ((List.getD z1 (Int.toNat x_g) default).C).Timer ((List.getD z1 (Int.toNat x_g) default).C).Waits ((List.getD z1 (Int.toNat x_g) default).C).User ((List.getD z1 (Int.toNat x_g) default).C).On ((List.getD z1 (Int.toNat x_g) default).C).Stopped) (List.getD z1 (Int.toNat x_g) default).Pages (List.getD z1 (Int.toNat x_g) default).In v2.Out))))))
noncomputable def g67:Sg tG:=⟨[.st 26,.i .i64,.st 41],.one (.st 2026),cB⟩
theorem s67:Sok 67 g67:=sgx [(131,.r aMb),(57,.r g57)] ⟨aMn,s57,trivial⟩ (.s .o (.s .o (.s .o (.s (.g [] [] [.fo (.c 7 1) 0]) (.s (.g [] [] [.fo (.c 7 1) 0]) (.s (.g [] [] [.fo (.c 7 1) 0]) .o)))))) kr kr kr
noncomputable def jV (x_h:DHost)(x_g:Int):Option DBare:=grd ((0:Int)<=x_g/\x_g<((List.length x_h.Guests:Nat):Int)) (some (DBare.mk (DCore.mk ((List.getD x_h.Guests (Int.toNat x_g) default).C).Regs ((List.getD x_h.Guests (Int.toNat x_g) default).C).Pc ((List.getD x_h.Guests (Int.toNat x_g) default).C).Root ((List.getD x_h.Guests (Int.toNat x_g) default).C).Vector ((List.getD x_h.Guests (Int.toNat x_g) default).C).Saved ((List.getD x_h.Guests (Int.toNat x_g) default).C).SavedUser ((List.getD x_h.Guests (Int.toNat x_g) default).C).Cause ((List.getD x_h.Guests (Int.toNat x_g) default).C).Bad ((List.getD x_h.Guests (Int.toNat x_g) default).C).Timer ((List.getD x_h.Guests (Int.toNat x_g) default).C).Waits ((List.getD x_h.Guests (Int.toNat x_g) default).C).User ((List.getD x_h.Guests (Int.toNat x_g) default).C).On ((List.getD x_h.Guests (Int.toNat x_g) default).C).Stopped) ([]:List Int) (List.getD x_h.Guests (Int.toNat x_g) default).In (List.getD x_h.Guests (Int.toNat x_g) default).Out))
noncomputable def g68:Sg tG:=⟨[.st 26,.i .i64],.one (.sb 41),jV⟩
theorem s68:Sok 68 g68:=sgx [] trivial .o kr kr kr
noncomputable def fF (x_h:DHost)(x_g:Int)(x_i:DIns):Option (DHost×Bool):=
 Option.bind (cY x_h x_g) λv1=>
 cond (!v1)
  (some ((DHost.mk ([]:List Int) ([]:List DGuest)),false))
  (Option.bind (cO x_i) λv2=>
  cond (!v2)
   (some ((DHost.mk ([]:List Int) ([]:List DGuest)),false))
   (Option.bind (cU x_h) λv3=>
   grd ((0:Int)<=x_g/\x_g<((List.length v3.Guests:Nat):Int)) (Option.bind (kY (DCore.mk ((List.getD v3.Guests (Int.toNat x_g) default).C).Regs ((List.getD v3.Guests (Int.toNat x_g) default).C).Pc ((List.getD v3.Guests (Int.toNat x_g) default).C).Root ((List.getD v3.Guests (Int.toNat x_g) default).C).Vector ((List.getD v3.Guests (Int.toNat x_g) default).C).Saved ((List.getD v3.Guests (Int.toNat x_g) default).C).SavedUser ((List.getD v3.Guests (Int.toNat x_g) default).C).Cause ((List.getD v3.Guests (Int.toNat x_g) default).C).Bad ((List.getD v3.Guests (Int.toNat x_g) default).C).Timer ((List.getD v3.Guests (Int.toNat x_g) default).C).Waits ((List.getD v3.Guests (Int.toNat x_g) default).C).User ((List.getD v3.Guests (Int.toNat x_g) default).C).On ((List.getD v3.Guests (Int.toNat x_g) default).C).Stopped) (List.getD v3.Guests (Int.toNat x_g) default).In (List.getD v3.Guests (Int.toNat x_g) default).Out x_i) λv4=>
    grd ((0:Int)<=x_g/\x_g<((List.length v3.Guests:Nat):Int)) (grd ((Int.toNat x_g)=(Int.toNat x_g)) (grd ((Int.toNat x_g)=(Int.toNat x_g)) (grd ((Int.toNat x_g)=(Int.toNat x_g)) (grd ((Int.toNat x_g)=(Int.toNat x_g)) (some ((DHost.mk v3.Words (List.set v3.Guests (Int.toNat x_g) (DGuest.mk (List.getD v3.Guests (Int.toNat x_g) default).Live v4.1 (List.getD v3.Guests (Int.toNat x_g) default).Pages v4.2.1 v4.2.2))),true)))))))))
noncomputable def bZa:Sg tG:=⟨[.st 26,.i .i64,.st 141],.two (.st 2026) .b,fF⟩
theorem cBl:Sok 111 bZa:=sgx [(102,.r aEm),(110,.r bIk),(103,.r aGw),(160,.w bXu)] ⟨aHo,bQw,aNl,cBd,trivial⟩ (.s .o (.s .o (.s .o (.s .o (.s (.g [.uf (.c 9 1) 0 1,.uf (.c 9 15) 0 15,.uf (.c 9 16) 0 16] [] []) (.s (.g [.uf (.c 9 14) 0 14] [] [.fo (.c 8 1) 0]) .o)))))) kr kr kr
noncomputable def lY (x_c:DCore)(x_cause:Int)(x_bad:Int)(x_saved:Int):Option DCore:=some (DCore.mk x_c.Regs x_c.Vector x_c.Root x_c.Vector x_saved x_c.User x_cause x_bad x_c.Timer x_c.Waits false false x_c.Stopped)
noncomputable def aWd:Sg tG:=⟨[.st 39,.i .i64,.i .i64,.i .i64],.one (.sb 39),lY⟩
theorem bFp:Sok 163 aWd:=sgx [] trivial .o kr kr kr
noncomputable def kC (x_b:DBare)(x_a:Int)(x_w:Int):Option DBare:=
 Option.bind (pN x_b.C.Regs x_a x_w) λv1=>
 Option.bind (kJ (DBare.mk (DCore.mk v1 x_b.C.Pc x_b.C.Root x_b.C.Vector x_b.C.Saved x_b.C.SavedUser x_b.C.Cause x_b.C.Bad x_b.C.Timer x_b.C.Waits x_b.C.User x_b.C.On x_b.C.Stopped) x_b.Mem x_b.In x_b.Out)) λv2=>
 some v2
noncomputable def bFl:Sg tG:=⟨[.st 41,.i .i64,.i .i64],.one (.sb 41),kC⟩
theorem bNd:Sok 195 bFl:=sgx [(196,.r bFt),(197,.r aRz)] ⟨bOu,aXe,trivial⟩ (.s .o (.s .o (.s (.g [.fr (.c 3 0) 0] [] []) .o))) kr kr kr
noncomputable def aMg (x_b:DBare)(x_i:DIns)(s1:Unit):Option DBare:=some (DBare.mk (DCore.mk x_b.C.Regs x_i.N x_b.C.Root x_b.C.Vector x_b.C.Saved x_b.C.SavedUser x_b.C.Cause x_b.C.Bad x_b.C.Timer x_b.C.Waits x_b.C.User x_b.C.On x_b.C.Stopped) x_b.Mem x_b.In x_b.Out)
noncomputable def aGb (x_b:DBare)(x_i:DIns):Option DBare:=
 Option.bind (cond (decide (x_i.Op=(6:Int)))
  (grd ((0:Int)<=x_i.A/\x_i.A<((List.length x_b.C.Regs:Nat):Int)) (cond (decide ((List.getD x_b.C.Regs (Int.toNat x_i.A) default)=(0:Int)))
   (Option.bind (kJ x_b) λv2=>
   some (.out v2))
   (some (.go ()))))
  (some (.go ()))) λj1=>
  JO.run j1 (aMg x_b x_i)
noncomputable def bVr:Sg tG:=⟨[.st 41,.st 141],.one (.sb 41),aGb⟩
theorem cDk:Sok 219 bVr:=sgx [(197,.r aRz)] ⟨aXe,trivial⟩ (.s .o (.j ⟨[2,3,4],[],[]⟩ .o .o)) kr kr kr
noncomputable def aBv (x_regs:List Int)(x_i:DIns):Option Int:=
 grd ((0:Int)<=(Int.tmod x_i.N (4:Int))/\(Int.tmod x_i.N (4:Int))<((List.length x_regs:Nat):Int)) (cond (decide (x_i.Op=(2:Int)))
  (grd ((0:Int)<=x_i.A/\x_i.A<((List.length x_regs:Nat):Int)) (some (Int.tmod (w64 ((List.getD x_regs (Int.toNat x_i.A) default)+(List.getD x_regs (Int.toNat (Int.tmod x_i.N (4:Int))) default))) (4096:Int))))
  (cond (decide (x_i.Op=(15:Int)))
   (grd ((0:Int)<=x_i.A/\x_i.A<((List.length x_regs:Nat):Int)) (some (Int.tmod (w64 ((w64 ((List.getD x_regs (Int.toNat x_i.A) default)-(List.getD x_regs (Int.toNat (Int.tmod x_i.N (4:Int))) default)))+(4096:Int))) (4096:Int))))
   (some x_i.N)))
noncomputable def bZt:Sg tG:=⟨[.row 3,.st 141],.one (.i .i64),aBv⟩
theorem cBc:Sok 220 bZt:=sgx [] trivial .o kr kr kr
noncomputable def aKt (x_b:DBare)(x_i:DIns)(s3:Bool):Option DBare:=
 cond s3
  (Option.bind (aGb x_b x_i) λv4=>
  some v4)
  (Option.bind (aBv x_b.C.Regs x_i) λv5=>
  Option.bind (kC x_b x_i.A v5) λv6=>
  some v6)
noncomputable def aCo (x_b:DBare)(x_i:DIns):Option DBare:=
 cond (decide (x_i.Op=(7:Int)))
  (Option.bind (rW x_b.C.Pc) λv1=>
  Option.bind (lY x_b.C (1:Int) (0:Int) v1) λv2=>
  some (DBare.mk v2 x_b.Mem x_b.In x_b.Out))
  (Option.bind (cond (decide (x_i.Op=(5:Int)))
   (some (.go (decide (x_i.Op=(5:Int)))))
   (some (.go (decide (x_i.Op=(6:Int)))))) λj3=>
   JO.run j3 (aKt x_b x_i))
noncomputable def cAa:Sg tG:=⟨[.st 41,.st 141],.one (.sb 41),aCo⟩
theorem cDg:Sok 199 cAa:=sgx [(217,.r bPl),(163,.r aWd),(219,.r bVr),(220,.r bZt),(195,.r bFl)] ⟨bXw,bFp,cDk,cBc,bNd,trivial⟩ (.s .o (.s (.s .o (.k (.s .o (.c .o (.j ⟨[2,3,4],[],[(.s 18,.b)]⟩ .o .o))))) .o)) kr kr kr
noncomputable def rT (x_b:DBare)(x_i:DIns):Option DBare:=
 Option.bind (rJ x_i) λv1=>
 cond (!v1)
  (Option.bind (aCo x_b x_i) λv2=>
  some v2)
  (cond x_b.C.User
   (Option.bind (lY x_b.C (3:Int) (0:Int) x_b.C.Pc) λv3=>
   some (DBare.mk v3 x_b.Mem x_b.In x_b.Out))
   (Option.bind (zT x_b x_i) λv4=>
   some v4))
noncomputable def bQq:Sg tG:=⟨[.st 41,.st 141],.one (.sb 41),rT⟩
theorem bWx:Sok 168 bQq:=sgx [(198,.r bNu),(199,.r cAa),(163,.r aWd),(200,.r bYt)] ⟨bXr,cDg,bFp,cBn,trivial⟩ .o kr kr kr
end Go.Proofs.YtcgggihjcelmhaaGreat
