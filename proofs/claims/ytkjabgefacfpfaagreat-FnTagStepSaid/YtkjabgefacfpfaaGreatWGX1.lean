/- Plain functions of the program, and that it hands back what they say. Made by program. -/
import Derived.Test.YtkjabgefacfpfaaGreatWTD
import Derived.Test.YtkjabgefacfpfaaGreatProg
namespace Go.Proofs.YtkjabgefacfpfaaGreat
open Go.RowKit
set_option maxRecDepth 100000
set_option linter.all false
set_option maxHeartbeats 0
noncomputable def fK (x_n:Int):Option Bool:=
 cond (decide ((0:Int)<=x_n))
  (some (decide (x_n<=(4095:Int))))
  (some false)
noncomputable def g55:Sg tG:=⟨[.i .i64],.one .b,fK⟩
theorem s55:Sok 55 g55:=sgx [] trivial .o kr kr kr
noncomputable def aKq  (s1:Unit):Option Bool:=some true
noncomputable def xV (x_list:List Int)(s2:Int):Option (LO Int (JO Unit Bool)):=
 cond (decide (s2<((List.length x_list:Nat):Int)))
  (grd ((0:Int)<=s2/\s2<((List.length x_list:Nat):Int)) (Option.bind (fK (List.getD x_list (Int.toNat s2) default)) λv3=>
   cond (!v3)
    (some (.ret (.out false)))
    (some (.next (w64 (s2+(1:Int)))))))
  (some (.ret (.go ())))
noncomputable def iB (x_list:List Int):Option Bool:=
 Option.bind (Option.bind (iter (xV x_list) (0:Int)) LO.val) λj1=>
  JO.run j1 aKq
noncomputable def g52:Sg tG:=⟨[.row 3],.one .b,iB⟩
theorem s52:Sok 52 g52:=sgx [(55,.r g55)] ⟨s55,trivial⟩ (.s .o (.j ⟨[],[],[]⟩ (.s .o (.k (.l ⟨[5,6],[],[(.s 7,.i .i64)]⟩ .o))) .o)) kr kr kr
noncomputable def cP (x_addr:Int):Option Bool:=
 cond (decide ((0:Int)<=x_addr))
  (some (decide (x_addr<(64:Int))))
  (some false)
noncomputable def bNu:Sg tG:=⟨[.i .i64],.one .b,cP⟩
theorem bVg:Sok 157 bNu:=sgx [] trivial .o kr kr kr
noncomputable def gK (x_page:Int):Option Bool:=
 cond (decide ((0:Int)<=x_page))
  (some (decide (x_page<(8:Int))))
  (some false)
noncomputable def aRl:Sg tG:=⟨[.i .i64],.one .b,gK⟩
theorem aYv:Sok 138 aRl:=sgx [] trivial .o kr kr kr
noncomputable def kZ (x_root:Int):Option Bool:=
 cond (decide (x_root=(-1:Int)))
  (some true)
  (Option.bind (gK x_root) λv1=>
  some v1)
noncomputable def bMw:Sg tG:=⟨[.i .i64],.one .b,kZ⟩
theorem bRh:Sok 158 bMw:=sgx [(138,.r aRl)] ⟨aYv,trivial⟩ .o kr kr kr
noncomputable def nT (x_c:DCore):Option Bool:=
 cond (decide (((List.length x_c.Regs:Nat):Int)=(4:Int)))
  (Option.bind (iB x_c.Regs) λv1=>
  Option.bind (cP x_c.Pc) λv2=>
  cond v2
   (Option.bind (cP x_c.Vector) λv3=>
   cond v3
    (Option.bind (cP x_c.Saved) λv4=>
    cond v4
     (Option.bind (cP x_c.Bad) λv5=>
     cond (decide ((0:Int)<=x_c.Cause))
      (cond v1
       (cond v5
        (Option.bind (kZ x_c.Root) λv6=>
        cond v6
         (cond (decide (x_c.Cause<=(4:Int)))
          (Option.bind (fK x_c.Timer) λv7=>
          some v7)
          (some false))
         (some false))
        (some false))
       (some false))
      (cond v1
       (cond v5
        (Option.bind (kZ x_c.Root) λv8=>
        cond v8
         (some false)
         (some false))
        (some false))
       (some false)))
     (cond (decide ((0:Int)<=x_c.Cause))
      (cond v1
       (some false)
       (some false))
      (cond v1
       (some false)
       (some false))))
    (cond (decide ((0:Int)<=x_c.Cause))
     (cond v1
      (some false)
      (some false))
     (cond v1
      (some false)
      (some false))))
   (cond (decide ((0:Int)<=x_c.Cause))
    (cond v1
     (some false)
     (some false))
    (cond v1
     (some false)
     (some false))))
  (Option.bind (cP x_c.Pc) λv9=>
  cond v9
   (Option.bind (cP x_c.Vector) λv10=>
   cond v10
    (Option.bind (cP x_c.Saved) λv11=>
    cond v11
     (Option.bind (cP x_c.Bad) λv12=>
     cond (decide ((0:Int)<=x_c.Cause))
      (some false)
      (some false))
     (cond (decide ((0:Int)<=x_c.Cause))
      (some false)
      (some false)))
    (cond (decide ((0:Int)<=x_c.Cause))
     (some false)
     (some false)))
   (cond (decide ((0:Int)<=x_c.Cause))
    (some false)
    (some false)))
noncomputable def bNy:Sg tG:=⟨[.st 35],.one .b,nT⟩
theorem bTu:Sok 123 bNy:=sgx [(52,.r g52),(157,.r bNu),(158,.r bMw),(55,.r g55)] ⟨s52,bVg,bRh,s55,trivial⟩ .o kr kr kr
noncomputable def aAo (x_mem:List Int):Option Bool:=
 cond (decide (((List.length x_mem:Nat):Int)=(64:Int)))
  (Option.bind (iB x_mem) λv1=>
  some v1)
  (some false)
noncomputable def bNk:Sg tG:=⟨[.row 3],.one .b,aAo⟩
theorem bSk:Sok 124 bNk:=sgx [(52,.r g52)] ⟨s52,trivial⟩ .o kr kr kr
noncomputable def kD (x_words:List Int):Option Bool:=
 cond (decide (((List.length x_words:Nat):Int)<=(30:Int)))
  (Option.bind (iB x_words) λv1=>
  some v1)
  (some false)
noncomputable def bOj:Sg tG:=⟨[.row 3],.one .b,kD⟩
theorem bUl:Sok 125 bOj:=sgx [(52,.r g52)] ⟨s52,trivial⟩ .o kr kr kr
noncomputable def aGo (x_b:DBare):Option Bool:=
 Option.bind (nT x_b.C) λv1=>
 cond v1
  (Option.bind (aAo x_b.Mem) λv2=>
  cond v2
   (Option.bind (kD x_b.In) λv3=>
   cond v3
    (Option.bind (kD x_b.Out) λv4=>
    some v4)
    (some false))
   (some false))
  (some false)
noncomputable def g77:Sg tG:=⟨[.st 47],.one .b,aGo⟩
theorem s77:Sok 77 g77:=sgx [(123,.r bNy),(124,.r bNk),(125,.r bOj)] ⟨bTu,bSk,bUl,trivial⟩ .o kr kr kr
noncomputable def bU (x_n:Int)(x_low:Int)(x_high:Int):Option Bool:=
 cond (decide (x_low<=x_n))
  (some (decide (x_n<=x_high)))
  (some false)
noncomputable def g97:Sg tG:=⟨[.i .i64,.i .i64,.i .i64],.one .b,bU⟩
theorem s97:Sok 97 g97:=sgx [] trivial .o kr kr kr
noncomputable def fH (x_n:Int):Option Bool:=
 Option.bind (bU x_n (0:Int) (4095:Int)) λv1=>
 some v1
noncomputable def aQw:Sg tG:=⟨[.i .i64],.one .b,fH⟩
theorem aYn:Sok 120 aQw:=sgx [(97,.r g97)] ⟨s97,trivial⟩ .o kr kr kr
noncomputable def rM (x_list:List Int)(x_most:Int)(s1:Unit):Option Bool:=some (decide (((List.length x_list:Nat):Int)<=x_most))
noncomputable def rL (x_list:List Int)(s2:Int):Option (LO Int (JO Unit Bool)):=
 cond (decide (s2<((List.length x_list:Nat):Int)))
  (grd ((0:Int)<=s2/\s2<((List.length x_list:Nat):Int)) (Option.bind (fH (List.getD x_list (Int.toNat s2) default)) λv3=>
   cond (!v3)
    (some (.ret (.out false)))
    (some (.next (w64 (s2+(1:Int)))))))
  (some (.ret (.go ())))
noncomputable def dZ (x_list:List Int)(x_most:Int):Option Bool:=
 Option.bind (Option.bind (iter (rL x_list) (0:Int)) LO.val) λj1=>
  JO.run j1 (rM x_list x_most)
noncomputable def g94:Sg tG:=⟨[.row 3,.i .i64],.one .b,dZ⟩
theorem s94:Sok 94 g94:=sgx [(120,.r aQw)] ⟨aYn,trivial⟩ (.s .o (.j ⟨[0,1],[],[]⟩ (.s .o (.k (.l ⟨[0,1],[],[(.s 5,.i .i64)]⟩ .o))) .o)) kr kr kr
noncomputable def zN (x_c:DCore)(s1:Unit):Option Bool:=
 cond (decide (((List.length x_c.Regs:Nat):Int)=(4:Int)))
  (Option.bind (bU x_c.Pc (0:Int) (63:Int)) λv2=>
  cond v2
   (Option.bind (bU x_c.Vector (0:Int) (63:Int)) λv3=>
   cond v3
    (Option.bind (bU x_c.Saved (0:Int) (63:Int)) λv4=>
    cond v4
     (Option.bind (bU x_c.Bad (0:Int) (63:Int)) λv5=>
     cond v5
      (Option.bind (bU x_c.Root (-1:Int) (7:Int)) λv6=>
      cond v6
       (Option.bind (bU x_c.Cause (0:Int) (4:Int)) λv7=>
       cond v7
        (Option.bind (fH x_c.Timer) λv8=>
        some v8)
        (some false))
       (some false))
      (some false))
     (some false))
    (some false))
   (some false))
  (some false)
noncomputable def zS (x_c:DCore)(s9:Int):Option (LO Int (JO Unit Bool)):=
 cond (decide (s9<((List.length x_c.Regs:Nat):Int)))
  (grd ((0:Int)<=s9/\s9<((List.length x_c.Regs:Nat):Int)) (Option.bind (fH (List.getD x_c.Regs (Int.toNat s9) default)) λv10=>
   cond (!v10)
    (some (.ret (.out false)))
    (some (.next (w64 (s9+(1:Int)))))))
  (some (.ret (.go ())))
noncomputable def kW (x_c:DCore):Option Bool:=
 Option.bind (Option.bind (iter (zS x_c) (0:Int)) LO.val) λj1=>
  JO.run j1 (zN x_c)
noncomputable def g96:Sg tG:=⟨[.st 35],.one .b,kW⟩
theorem s96:Sok 96 g96:=sgx [(120,.r aQw),(97,.r g97)] ⟨aYn,s97,trivial⟩ (.s .o (.j ⟨[1],[],[]⟩ (.s .o (.k (.l ⟨[1],[],[(.s 3,.i .i64)]⟩ .o))) .o)) kr kr kr
noncomputable def aBv (x_mem:List Int)(s1:Unit):Option Bool:=some (decide (((List.length x_mem:Nat):Int)=(64:Int)))
noncomputable def aBz (x_mem:List Int)(s2:Int):Option (LO Int (JO Unit Bool)):=
 cond (decide (s2<((List.length x_mem:Nat):Int)))
  (grd ((0:Int)<=s2/\s2<((List.length x_mem:Nat):Int)) (Option.bind (fH (List.getD x_mem (Int.toNat s2) default)) λv3=>
   cond (!v3)
    (some (.ret (.out false)))
    (some (.next (w64 (s2+(1:Int)))))))
  (some (.ret (.go ())))
noncomputable def uF (x_mem:List Int):Option Bool:=
 Option.bind (Option.bind (iter (aBz x_mem) (0:Int)) LO.val) λj1=>
  JO.run j1 (aBv x_mem)
noncomputable def bUa:Sg tG:=⟨[.row 3],.one .b,uF⟩
theorem bWv:Sok 190 bUa:=sgx [(120,.r aQw)] ⟨aYn,trivial⟩ (.s .o (.j ⟨[0],[],[]⟩ (.s .o (.k (.l ⟨[0],[],[(.s 3,.i .i64)]⟩ .o))) .o)) kr kr kr
noncomputable def sF (x_b:DBare):Option Bool:=
 Option.bind (kW x_b.C) λv1=>
 cond v1
  (Option.bind (uF x_b.Mem) λv2=>
  cond v2
   (Option.bind (dZ x_b.In (30:Int)) λv3=>
   cond v3
    (Option.bind (dZ x_b.Out (30:Int)) λv4=>
    some v4)
    (some false))
   (some false))
  (some false)
noncomputable def bVj:Sg tG:=⟨[.st 47],.one .b,sF⟩
theorem bYp:Sok 172 bVj:=sgx [(96,.r g96),(190,.r bUa),(94,.r g94)] ⟨s96,bWv,s94,trivial⟩ .o kr kr kr
noncomputable def oW (x_c:DCore):Option Bool:=
 cond (decide (x_c.Pc=(0:Int)))
  (cond (decide (x_c.Root=(0:Int)))
   (cond (decide (x_c.Vector=(0:Int)))
    (cond (decide (x_c.Saved=(0:Int)))
     (cond x_c.SavedUser
      (cond (decide (((List.length x_c.Regs:Nat):Int)=(0:Int)))
       (cond (decide (x_c.Bad=(0:Int)))
        (cond (decide (x_c.Cause=(0:Int)))
         (cond (decide (x_c.Timer=(0:Int)))
          (some false)
          (some false))
         (some false))
        (some false))
       (some false))
      (cond x_c.Waits
       (cond (decide (((List.length x_c.Regs:Nat):Int)=(0:Int)))
        (cond (decide (x_c.Bad=(0:Int)))
         (cond (decide (x_c.Cause=(0:Int)))
          (cond (decide (x_c.Timer=(0:Int)))
           (some false)
           (some false))
          (some false))
         (some false))
        (some false))
       (cond x_c.User
        (cond (decide (((List.length x_c.Regs:Nat):Int)=(0:Int)))
         (cond (decide (x_c.Bad=(0:Int)))
          (cond (decide (x_c.Cause=(0:Int)))
           (cond (decide (x_c.Timer=(0:Int)))
            (some false)
            (some false))
           (some false))
          (some false))
         (some false))
        (cond x_c.On
         (cond (decide (((List.length x_c.Regs:Nat):Int)=(0:Int)))
          (cond (decide (x_c.Bad=(0:Int)))
           (cond (decide (x_c.Cause=(0:Int)))
            (cond (decide (x_c.Timer=(0:Int)))
             (some false)
             (some false))
            (some false))
           (some false))
          (some false))
         (cond (decide (((List.length x_c.Regs:Nat):Int)=(0:Int)))
          (cond (decide (x_c.Bad=(0:Int)))
           (cond (decide (x_c.Cause=(0:Int)))
            (cond (decide (x_c.Timer=(0:Int)))
             (some (!x_c.Stopped))
             (some false))
            (some false))
           (some false))
          (some false))))))
     (cond x_c.SavedUser
      (cond (decide (((List.length x_c.Regs:Nat):Int)=(0:Int)))
       (some false)
       (some false))
      (cond x_c.Waits
       (cond (decide (((List.length x_c.Regs:Nat):Int)=(0:Int)))
        (some false)
        (some false))
       (cond x_c.User
        (cond (decide (((List.length x_c.Regs:Nat):Int)=(0:Int)))
         (some false)
         (some false))
        (cond x_c.On
         (cond (decide (((List.length x_c.Regs:Nat):Int)=(0:Int)))
          (some false)
          (some false))
         (cond (decide (((List.length x_c.Regs:Nat):Int)=(0:Int)))
          (some false)
          (some false)))))))
    (cond x_c.SavedUser
     (cond (decide (((List.length x_c.Regs:Nat):Int)=(0:Int)))
      (some false)
      (some false))
     (cond x_c.Waits
      (cond (decide (((List.length x_c.Regs:Nat):Int)=(0:Int)))
       (some false)
       (some false))
      (cond x_c.User
       (cond (decide (((List.length x_c.Regs:Nat):Int)=(0:Int)))
        (some false)
        (some false))
       (cond x_c.On
        (cond (decide (((List.length x_c.Regs:Nat):Int)=(0:Int)))
         (some false)
         (some false))
        (cond (decide (((List.length x_c.Regs:Nat):Int)=(0:Int)))
         (some false)
         (some false)))))))
   (cond x_c.SavedUser
    (cond (decide (((List.length x_c.Regs:Nat):Int)=(0:Int)))
     (some false)
     (some false))
    (cond x_c.Waits
     (cond (decide (((List.length x_c.Regs:Nat):Int)=(0:Int)))
      (some false)
      (some false))
     (cond x_c.User
      (cond (decide (((List.length x_c.Regs:Nat):Int)=(0:Int)))
       (some false)
       (some false))
      (cond x_c.On
       (cond (decide (((List.length x_c.Regs:Nat):Int)=(0:Int)))
        (some false)
        (some false))
       (cond (decide (((List.length x_c.Regs:Nat):Int)=(0:Int)))
        (some false)
        (some false)))))))
  (cond x_c.SavedUser
   (cond (decide (((List.length x_c.Regs:Nat):Int)=(0:Int)))
    (some false)
    (some false))
   (cond x_c.Waits
    (cond (decide (((List.length x_c.Regs:Nat):Int)=(0:Int)))
     (some false)
     (some false))
    (cond x_c.User
     (cond (decide (((List.length x_c.Regs:Nat):Int)=(0:Int)))
      (some false)
      (some false))
     (cond x_c.On
      (cond (decide (((List.length x_c.Regs:Nat):Int)=(0:Int)))
       (some false)
       (some false))
      (cond (decide (((List.length x_c.Regs:Nat):Int)=(0:Int)))
       (some false)
       (some false))))))
noncomputable def bUd:Sg tG:=⟨[.st 35],.one .b,oW⟩
theorem bYm:Sok 176 bUd:=sgx [] trivial .o kr kr kr
noncomputable def mF (x_guest:DGuest):Option Bool:=
 Option.bind (oW x_guest.C) λv1=>
 cond v1
  (cond (decide (((List.length x_guest.Pages:Nat):Int)=(0:Int)))
   (cond (decide (((List.length x_guest.In:Nat):Int)=(0:Int)))
    (some (decide (((List.length x_guest.Out:Nat):Int)=(0:Int))))
    (some false))
   (some false))
  (some false)
noncomputable def bUx:Sg tG:=⟨[.st 38],.one .b,mF⟩
theorem bXg:Sok 144 bUx:=sgx [(176,.r bUd)] ⟨bYm,trivial⟩ .o kr kr kr
noncomputable def sE (x_s:DSlot):Option Bool:=
 cond (decide (x_s.Frame=(-1:Int)))
  (cond (!x_s.Write)
   (some (!x_s.Dirty))
   (some false))
  (cond (decide ((0:Int)<=x_s.Frame))
   (some (decide (x_s.Frame<(20:Int))))
   (some false))
noncomputable def bSx:Sg tG:=⟨[.st 53],.one .b,sE⟩
theorem bXe:Sok 177 bSx:=sgx [] trivial .o kr kr kr
noncomputable def aKp  (s1:Unit):Option Bool:=some true
noncomputable def yJ (x_pages:List DSlot)(s2:Int):Option (LO Int (JO Unit Bool)):=
 cond (decide (s2<((List.length x_pages:Nat):Int)))
  (grd ((0:Int)<=s2/\s2<((List.length x_pages:Nat):Int)) (Option.bind (sE (DSlot.mk (List.getD x_pages (Int.toNat s2) default).Frame (List.getD x_pages (Int.toNat s2) default).Write (List.getD x_pages (Int.toNat s2) default).Dirty)) λv3=>
   cond (!v3)
    (some (.ret (.out false)))
    (some (.next (w64 (s2+(1:Int)))))))
  (some (.ret (.go ())))
noncomputable def qC (x_pages:List DSlot):Option Bool:=
 cond (!decide (((List.length x_pages:Nat):Int)=(8:Int)))
  (some false)
  (Option.bind (Option.bind (iter (yJ x_pages) (0:Int)) LO.val) λj1=>
   JO.run j1 aKp)
noncomputable def bTp:Sg tG:=⟨[.row 53],.one .b,qC⟩
theorem bWk:Sok 145 bTp:=sgx [(177,.r bSx)] ⟨bXe,trivial⟩ (.s .o (.s .o (.j ⟨[],[],[]⟩ (.s .o (.k (.l ⟨[8,9],[],[(.s 10,.i .i64)]⟩ .o))) .o))) kr kr kr
noncomputable def mN (x_guest:DGuest):Option Bool:=
 cond (!x_guest.Live)
  (Option.bind (mF x_guest) λv1=>
  some v1)
  (Option.bind (nT x_guest.C) λv2=>
  cond v2
   (Option.bind (qC x_guest.Pages) λv3=>
   cond v3
    (Option.bind (kD x_guest.In) λv4=>
    cond v4
     (Option.bind (kD x_guest.Out) λv5=>
     some v5)
     (some false))
    (some false))
   (some false))
noncomputable def g99:Sg tG:=⟨[.st 38],.one .b,mN⟩
theorem s99:Sok 99 g99:=sgx [(144,.r bUx),(123,.r bNy),(145,.r bTp),(125,.r bOj)] ⟨bXg,bTu,bWk,bUl,trivial⟩ .o kr kr kr
noncomputable def aJf  (s1:Unit):Option Bool:=some true
noncomputable def lO (x_guests:List DGuest)(s2:Int):Option (LO Int (JO Unit Bool)):=
 cond (decide (s2<((List.length x_guests:Nat):Int)))
  (grd ((0:Int)<=s2/\s2<((List.length x_guests:Nat):Int)) (Option.bind (mN (DGuest.mk (List.getD x_guests (Int.toNat s2) default).Live (DCore.mk ((List.getD x_guests (Int.toNat s2) default).C).Regs ((List.getD x_guests (Int.toNat s2) default).C).Pc ((List.getD x_guests (Int.toNat s2) default).C).Root ((List.getD x_guests (Int.toNat s2) default).C).Vector ((List.getD x_guests (Int.toNat s2) default).C).Saved ((List.getD x_guests (Int.toNat s2) default).C).SavedUser ((List.getD x_guests (Int.toNat s2) default).C).Cause ((List.getD x_guests (Int.toNat s2) default).C).Bad ((List.getD x_guests (Int.toNat s2) default).C).Timer ((List.getD x_guests (Int.toNat s2) default).C).Waits ((List.getD x_guests (Int.toNat s2) default).C).User ((List.getD x_guests (Int.toNat s2) default).C).On ((List.getD x_guests (Int.toNat s2) default).C).Stopped) (List.getD x_guests (Int.toNat s2) default).Pages (List.getD x_guests (Int.toNat s2) default).In (List.getD x_guests (Int.toNat s2) default).Out)) λv3=>
   cond (!v3)
    (some (.ret (.out false)))
    (some (.next (w64 (s2+(1:Int)))))))
  (some (.ret (.go ())))
noncomputable def oX (x_guests:List DGuest):Option Bool:=
 cond (!decide (((List.length x_guests:Nat):Int)=(3:Int)))
  (some false)
  (Option.bind (Option.bind (iter (lO x_guests) (0:Int)) LO.val) λj1=>
   JO.run j1 aJf)
noncomputable def g53:Sg tG:=⟨[.row 38],.one .b,oX⟩
theorem s53:Sok 53 g53:=sgx [(99,.r g99)] ⟨s99,trivial⟩ (.s .o (.s .o (.j ⟨[],[],[]⟩ (.s .o (.k (.l ⟨[8,9],[],[(.s 10,.i .i64)]⟩ .o))) .o))) kr kr kr
noncomputable def tB  (s1:List Int):Option (List Int):=some s1
noncomputable def sY (s2:(List Int)×Int)(s3:List Int):Option (LO ((List Int)×Int) (JO (List Int) (List Int))):=some (.next (s3,w64 (s2.2+(1:Int))))
noncomputable def tF (s4:(List Int)×Int)(s5:List Int):Option (LO ((List Int)×Int) (JO (List Int) (LO ((List Int)×Int) (JO (List Int) (List Int))))):=some (.next (s5,w64 (s4.2+(1:Int))))
noncomputable def fQ (x_guests:List DGuest)(s2:(List Int)×Int)(s4:(List Int)×Int):Option (LO ((List Int)×Int) (JO (List Int) (LO ((List Int)×Int) (JO (List Int) (List Int))))):=
 cond (decide (s4.2<((List.length (List.getD x_guests (Int.toNat s2.2) default).Pages:Nat):Int)))
  (Option.bind (grd ((0:Int)<=s4.2/\s4.2<((List.length (List.getD x_guests (Int.toNat s2.2) default).Pages:Nat):Int)) (cond (!decide ((List.getD (List.getD x_guests (Int.toNat s2.2) default).Pages (Int.toNat s4.2) default).Frame=(-1:Int)))
   (grd ((0:Int)<=(List.getD (List.getD x_guests (Int.toNat s2.2) default).Pages (Int.toNat s4.2) default).Frame/\(List.getD (List.getD x_guests (Int.toNat s2.2) default).Pages (Int.toNat s4.2) default).Frame<((List.length s4.1:Nat):Int)) (grd ((0:Int)<=(List.getD (List.getD x_guests (Int.toNat s2.2) default).Pages (Int.toNat s4.2) default).Frame/\(List.getD (List.getD x_guests (Int.toNat s2.2) default).Pages (Int.toNat s4.2) default).Frame<((List.length s4.1:Nat):Int)) (some (.go (List.set s4.1 (Int.toNat (List.getD (List.getD x_guests (Int.toNat s2.2) default).Pages (Int.toNat s4.2) default).Frame) (w64 ((List.getD s4.1 (Int.toNat (List.getD (List.getD x_guests (Int.toNat s2.2) default).Pages (Int.toNat s4.2) default).Frame) default)+(1:Int))))))))
   (some (.go s4.1)))) λj5=>
   JO.run j5 (tF s4))
  (some (.ret (.go s4.1)))
noncomputable def iS (x_guests:List DGuest)(s2:(List Int)×Int):Option (LO ((List Int)×Int) (JO (List Int) (List Int))):=
 cond (decide (s2.2<((List.length x_guests:Nat):Int)))
  (Option.bind (grd ((0:Int)<=s2.2/\s2.2<((List.length x_guests:Nat):Int)) (Option.bind (iter (fQ x_guests s2) (s2.1,(0:Int))) LO.val)) λj3=>
   JO.run j3 (sY s2))
  (some (.ret (.go s2.1)))
noncomputable def fT (x_guests:List DGuest):Option (List Int):=
 Option.bind (Option.bind (iter (iS x_guests) ((List.replicate (Int.toNat (20:Int)) (0:Int)),(0:Int))) LO.val) λj1=>
  JO.run j1 tB
noncomputable def g91:Sg tG:=⟨[.row 38],.one (.row 3),fT⟩
theorem s91:Sok 91 g91:=sgx [] trivial (.s .o (.s .o (.j ⟨[],[],[(.s 3,.ro 3)]⟩ (.s .o (.k (.l ⟨[9,10],[],[(.s 3,.ro 3),(.s 11,.i .i64)]⟩ (.s .o (.s .o (.j ⟨[9,10,11],[],[(.s 3,.ro 3)]⟩ (.k (.s .o (.s .o (.k (.l ⟨[9,10,11,16,17],[],[(.s 3,.ro 3),(.s 18,.i .i64)]⟩ (.s .o (.s .o (.j ⟨[9,10,11,16,17,18],[],[(.s 3,.ro 3)]⟩ .o .o)))))))) .o)))))) .o))) kr kr kr
noncomputable def yO  (s2:Unit):Option Bool:=some true
noncomputable def oU (s3:Int)(s4:Unit):Option (LO Int (JO Unit Bool)):=some (.next (w64 (s3+(1:Int))))
noncomputable def jO (s5:Int)(s6:Unit):Option (LO Int (JO Unit (LO Int (JO Unit Bool)))):=some (.next (w64 (s5+(1:Int))))
noncomputable def eH (x_guests:List DGuest)(v1:List Int)(s3:Int)(s5:Int):Option (LO Int (JO Unit (LO Int (JO Unit Bool)))):=
 cond (decide (s5<((List.length (List.getD x_guests (Int.toNat s3) default).Pages:Nat):Int)))
  (Option.bind (grd ((0:Int)<=s5/\s5<((List.length (List.getD x_guests (Int.toNat s3) default).Pages:Nat):Int)) (cond (List.getD (List.getD x_guests (Int.toNat s3) default).Pages (Int.toNat s5) default).Write
   (grd ((0:Int)<=(List.getD (List.getD x_guests (Int.toNat s3) default).Pages (Int.toNat s5) default).Frame/\(List.getD (List.getD x_guests (Int.toNat s3) default).Pages (Int.toNat s5) default).Frame<((List.length v1:Nat):Int)) (cond (decide ((1:Int)<(List.getD v1 (Int.toNat (List.getD (List.getD x_guests (Int.toNat s3) default).Pages (Int.toNat s5) default).Frame) default)))
    (some (.out (.ret (.out (.ret (.out false))))))
    (some (.go ()))))
   (some (.go ())))) λj6=>
   JO.run j6 (jO s5))
  (some (.ret (.go ())))
noncomputable def fV (x_guests:List DGuest)(v1:List Int)(s3:Int):Option (LO Int (JO Unit Bool)):=
 cond (decide (s3<((List.length x_guests:Nat):Int)))
  (Option.bind (grd ((0:Int)<=s3/\s3<((List.length x_guests:Nat):Int)) (Option.bind (iter (eH x_guests v1 s3) (0:Int)) LO.val)) λj4=>
   JO.run j4 (oU s3))
  (some (.ret (.go ())))
noncomputable def iC (x_guests:List DGuest):Option Bool:=
 Option.bind (fT x_guests) λv1=>
 Option.bind (Option.bind (iter (fV x_guests v1) (0:Int)) LO.val) λj2=>
  JO.run j2 yO
noncomputable def g54:Sg tG:=⟨[.row 38],.one .b,iC⟩
theorem s54:Sok 54 g54:=sgx [(91,.r g91)] ⟨s91,trivial⟩ (.s .o (.s .o (.j ⟨[],[],[]⟩ (.s .o (.k (.l ⟨[3,10,11],[],[(.s 12,.i .i64)]⟩ (.s .o (.s .o (.j ⟨[3,10,11,12],[],[]⟩ (.k (.s .o (.s .o (.k (.l ⟨[3,10,11,12,17,18],[],[(.s 19,.i .i64)]⟩ (.s .o (.s .o (.j ⟨[3,10,11,12,17,18,19],[],[]⟩ .o .o)))))))) .o)))))) .o))) kr kr kr
noncomputable def nW (x_h:DHost):Option Bool:=
 cond (decide (((List.length x_h.Words:Nat):Int)=(160:Int)))
  (Option.bind (iB x_h.Words) λv1=>
  cond v1
   (Option.bind (oX x_h.Guests) λv2=>
   cond v2
    (Option.bind (iC x_h.Guests) λv3=>
    some v3)
    (some false))
   (some false))
  (some false)
noncomputable def g15:Sg tG:=⟨[.st 26],.one .b,nW⟩
theorem s15:Sok 15 g15:=sgx [(52,.r g52),(53,.r g53),(54,.r g54)] ⟨s52,s53,s54,trivial⟩ .o kr kr kr
noncomputable def oD (x_g:DGuest):Option Bool:=
 cond (decide (((List.length x_g.C.Regs:Nat):Int)=(0:Int)))
  (cond (decide (x_g.C.Pc=(0:Int)))
   (cond (decide (x_g.C.Root=(0:Int)))
    (cond (decide (x_g.C.Vector=(0:Int)))
     (cond (decide (x_g.C.Saved=(0:Int)))
      (cond (!x_g.C.SavedUser)
       (cond (decide (x_g.C.Cause=(0:Int)))
        (cond (decide (x_g.C.Bad=(0:Int)))
         (cond (decide (x_g.C.Timer=(0:Int)))
          (cond (!x_g.C.Waits)
           (cond (!x_g.C.User)
            (cond (!x_g.C.On)
             (cond (!x_g.C.Stopped)
              (cond (decide (((List.length x_g.Pages:Nat):Int)=(0:Int)))
               (cond (decide (((List.length x_g.In:Nat):Int)=(0:Int)))
                (some (decide (((List.length x_g.Out:Nat):Int)=(0:Int))))
                (some false))
               (some false))
              (some false))
             (some false))
            (some false))
           (some false))
          (some false))
         (some false))
        (some false))
       (some false))
      (some false))
     (some false))
    (some false))
   (some false))
  (some false)
noncomputable def g95:Sg tG:=⟨[.st 38],.one .b,oD⟩
theorem s95:Sok 95 g95:=sgx [] trivial .o kr kr kr
noncomputable def aLy  (s3:Unit):Option Bool:=some true
noncomputable def sN (s4:Int)(s5:Unit):Option (LO Int (JO Unit Bool)):=some (.next (w64 (s4+(1:Int))))
noncomputable def nI (s2:(List Int)×(List Bool))(s4:Int):Option (LO Int (JO Unit Bool)):=
 cond (decide (s4<(20:Int)))
  (Option.bind (grd ((0:Int)<=s4/\s4<((List.length s2.1:Nat):Int)) (cond (decide ((1:Int)<(List.getD s2.1 (Int.toNat s4) default)))
   (grd ((0:Int)<=s4/\s4<((List.length s2.2:Nat):Int)) (cond (List.getD s2.2 (Int.toNat s4) default)
    (some (.out (.ret (.out false))))
    (some (.go ()))))
   (some (.go ())))) λj5=>
   JO.run j5 (sN s4))
  (some (.ret (.go ())))
noncomputable def aAq  (s2:(List Int)×(List Bool)):Option Bool:=
 Option.bind (Option.bind (iter (nI s2) (0:Int)) LO.val) λj3=>
  JO.run j3 aLy
noncomputable def sV (s6:(List Int)×(List Bool)×Int)(s7:(List Int)×(List Bool)):Option (LO ((List Int)×(List Bool)×Int) (JO ((List Int)×(List Bool)) Bool)):=some (.next (s7.1,s7.2,w64 (s6.2.2+(1:Int))))
noncomputable def rE (s12:(List Int)×(List Bool)×Int)(s13:(List Bool)×(List Int)):Option (LO ((List Int)×(List Bool)×Int) (JO ((List Int)×(List Bool)) (LO ((List Int)×(List Bool)×Int) (JO ((List Int)×(List Bool)) Bool)))):=some (.next (s13.2,s13.1,w64 (s12.2.2+(1:Int))))
noncomputable def rF (x_h:DHost)(s6:(List Int)×(List Bool)×Int)(s12:(List Int)×(List Bool)×Int)(s14:Unit):Option (JO ((List Bool)×(List Int)) (LO ((List Int)×(List Bool)×Int) (JO ((List Int)×(List Bool)) (LO ((List Int)×(List Bool)×Int) (JO ((List Int)×(List Bool)) Bool))))):=
 cond (decide ((0:Int)<=(List.getD (List.getD x_h.Guests (Int.toNat s6.2.2) default).Pages (Int.toNat s12.2.2) default).Frame))
  (grd ((0:Int)<=(List.getD (List.getD x_h.Guests (Int.toNat s6.2.2) default).Pages (Int.toNat s12.2.2) default).Frame/\(List.getD (List.getD x_h.Guests (Int.toNat s6.2.2) default).Pages (Int.toNat s12.2.2) default).Frame<((List.length s12.1:Nat):Int)) (grd ((0:Int)<=(List.getD (List.getD x_h.Guests (Int.toNat s6.2.2) default).Pages (Int.toNat s12.2.2) default).Frame/\(List.getD (List.getD x_h.Guests (Int.toNat s6.2.2) default).Pages (Int.toNat s12.2.2) default).Frame<((List.length s12.1:Nat):Int)) (grd ((0:Int)<=(List.getD (List.getD x_h.Guests (Int.toNat s6.2.2) default).Pages (Int.toNat s12.2.2) default).Frame/\(List.getD (List.getD x_h.Guests (Int.toNat s6.2.2) default).Pages (Int.toNat s12.2.2) default).Frame<((List.length s12.2.1:Nat):Int)) (cond (List.getD s12.2.1 (Int.toNat (List.getD (List.getD x_h.Guests (Int.toNat s6.2.2) default).Pages (Int.toNat s12.2.2) default).Frame) default)
   (grd ((0:Int)<=(List.getD (List.getD x_h.Guests (Int.toNat s6.2.2) default).Pages (Int.toNat s12.2.2) default).Frame/\(List.getD (List.getD x_h.Guests (Int.toNat s6.2.2) default).Pages (Int.toNat s12.2.2) default).Frame<((List.length s12.2.1:Nat):Int)) (some (.go ((List.set s12.2.1 (Int.toNat (List.getD (List.getD x_h.Guests (Int.toNat s6.2.2) default).Pages (Int.toNat s12.2.2) default).Frame) true),List.set s12.1 (Int.toNat (List.getD (List.getD x_h.Guests (Int.toNat s6.2.2) default).Pages (Int.toNat s12.2.2) default).Frame) (w64 ((List.getD s12.1 (Int.toNat (List.getD (List.getD x_h.Guests (Int.toNat s6.2.2) default).Pages (Int.toNat s12.2.2) default).Frame) default)+(1:Int)))))))
   (grd ((0:Int)<=(List.getD (List.getD x_h.Guests (Int.toNat s6.2.2) default).Pages (Int.toNat s12.2.2) default).Frame/\(List.getD (List.getD x_h.Guests (Int.toNat s6.2.2) default).Pages (Int.toNat s12.2.2) default).Frame<((List.length s12.2.1:Nat):Int)) (some (.go ((List.set s12.2.1 (Int.toNat (List.getD (List.getD x_h.Guests (Int.toNat s6.2.2) default).Pages (Int.toNat s12.2.2) default).Frame) (List.getD (List.getD x_h.Guests (Int.toNat s6.2.2) default).Pages (Int.toNat s12.2.2) default).Write),List.set s12.1 (Int.toNat (List.getD (List.getD x_h.Guests (Int.toNat s6.2.2) default).Pages (Int.toNat s12.2.2) default).Frame) (w64 ((List.getD s12.1 (Int.toNat (List.getD (List.getD x_h.Guests (Int.toNat s6.2.2) default).Pages (Int.toNat s12.2.2) default).Frame) default)+(1:Int)))))))))))
  (some (.go (s12.2.1,s12.1)))
noncomputable def jF (x_h:DHost)(s6:(List Int)×(List Bool)×Int)(s12:(List Int)×(List Bool)×Int):Option (LO ((List Int)×(List Bool)×Int) (JO ((List Int)×(List Bool)) (LO ((List Int)×(List Bool)×Int) (JO ((List Int)×(List Bool)) Bool)))):=
 cond (decide (s12.2.2<((List.length (List.getD x_h.Guests (Int.toNat s6.2.2) default).Pages:Nat):Int)))
  (Option.bind (grd ((0:Int)<=s12.2.2/\s12.2.2<((List.length (List.getD x_h.Guests (Int.toNat s6.2.2) default).Pages:Nat):Int)) (Option.bind (Option.bind (bU (List.getD (List.getD x_h.Guests (Int.toNat s6.2.2) default).Pages (Int.toNat s12.2.2) default).Frame (-1:Int) (19:Int)) λv15=>
   cond (!v15)
    (some (.out (.out (.ret (.out (.ret (.out false)))))))
    (cond (decide ((List.getD (List.getD x_h.Guests (Int.toNat s6.2.2) default).Pages (Int.toNat s12.2.2) default).Frame=(-1:Int)))
     (cond (List.getD (List.getD x_h.Guests (Int.toNat s6.2.2) default).Pages (Int.toNat s12.2.2) default).Write
      (some (.out (.out (.ret (.out (.ret (.out false)))))))
      (cond (List.getD (List.getD x_h.Guests (Int.toNat s6.2.2) default).Pages (Int.toNat s12.2.2) default).Dirty
       (some (.out (.out (.ret (.out (.ret (.out false)))))))
       (some (.go ()))))
     (some (.go ())))) λj14=>
   JO.run j14 (rF x_h s6 s12))) λj13=>
   JO.run j13 (rE s12))
  (some (.ret (.go (s12.1,s12.2.1))))
noncomputable def kL (x_h:DHost)(s6:(List Int)×(List Bool)×Int):Option (LO ((List Int)×(List Bool)×Int) (JO ((List Int)×(List Bool)) Bool)):=
 cond (decide (s6.2.2<((List.length x_h.Guests:Nat):Int)))
  (Option.bind (grd ((0:Int)<=s6.2.2/\s6.2.2<((List.length x_h.Guests:Nat):Int)) (cond (!(List.getD x_h.Guests (Int.toNat s6.2.2) default).Live)
   (Option.bind (oD (DGuest.mk (List.getD x_h.Guests (Int.toNat s6.2.2) default).Live (DCore.mk ((List.getD x_h.Guests (Int.toNat s6.2.2) default).C).Regs ((List.getD x_h.Guests (Int.toNat s6.2.2) default).C).Pc ((List.getD x_h.Guests (Int.toNat s6.2.2) default).C).Root ((List.getD x_h.Guests (Int.toNat s6.2.2) default).C).Vector ((List.getD x_h.Guests (Int.toNat s6.2.2) default).C).Saved ((List.getD x_h.Guests (Int.toNat s6.2.2) default).C).SavedUser ((List.getD x_h.Guests (Int.toNat s6.2.2) default).C).Cause ((List.getD x_h.Guests (Int.toNat s6.2.2) default).C).Bad ((List.getD x_h.Guests (Int.toNat s6.2.2) default).C).Timer ((List.getD x_h.Guests (Int.toNat s6.2.2) default).C).Waits ((List.getD x_h.Guests (Int.toNat s6.2.2) default).C).User ((List.getD x_h.Guests (Int.toNat s6.2.2) default).C).On ((List.getD x_h.Guests (Int.toNat s6.2.2) default).C).Stopped) (List.getD x_h.Guests (Int.toNat s6.2.2) default).Pages (List.getD x_h.Guests (Int.toNat s6.2.2) default).In (List.getD x_h.Guests (Int.toNat s6.2.2) default).Out)) λv8=>
   cond (!v8)
    (some (.out (.ret (.out false))))
    (some (.go (s6.1,s6.2.1))))
   (Option.bind (kW (DCore.mk ((List.getD x_h.Guests (Int.toNat s6.2.2) default).C).Regs ((List.getD x_h.Guests (Int.toNat s6.2.2) default).C).Pc ((List.getD x_h.Guests (Int.toNat s6.2.2) default).C).Root ((List.getD x_h.Guests (Int.toNat s6.2.2) default).C).Vector ((List.getD x_h.Guests (Int.toNat s6.2.2) default).C).Saved ((List.getD x_h.Guests (Int.toNat s6.2.2) default).C).SavedUser ((List.getD x_h.Guests (Int.toNat s6.2.2) default).C).Cause ((List.getD x_h.Guests (Int.toNat s6.2.2) default).C).Bad ((List.getD x_h.Guests (Int.toNat s6.2.2) default).C).Timer ((List.getD x_h.Guests (Int.toNat s6.2.2) default).C).Waits ((List.getD x_h.Guests (Int.toNat s6.2.2) default).C).User ((List.getD x_h.Guests (Int.toNat s6.2.2) default).C).On ((List.getD x_h.Guests (Int.toNat s6.2.2) default).C).Stopped)) λv9=>
   cond (!v9)
    (some (.out (.ret (.out false))))
    (cond (!decide (((List.length (List.getD x_h.Guests (Int.toNat s6.2.2) default).Pages:Nat):Int)=(8:Int)))
     (some (.out (.ret (.out false))))
     (Option.bind (dZ (List.getD x_h.Guests (Int.toNat s6.2.2) default).In (30:Int)) λv10=>
     cond (!v10)
      (some (.out (.ret (.out false))))
      (Option.bind (dZ (List.getD x_h.Guests (Int.toNat s6.2.2) default).Out (30:Int)) λv11=>
      cond (!v11)
       (some (.out (.ret (.out false))))
       (Option.bind (iter (jF x_h s6) (s6.1,s6.2.1,(0:Int))) LO.val))))))) λj7=>
   JO.run j7 (sV s6))
  (some (.ret (.go (s6.1,s6.2.1))))
noncomputable def jD (x_h:DHost):Option Bool:=
 Option.bind (dZ x_h.Words (160:Int)) λv1=>
 cond (!v1)
  (some false)
  (cond (!decide (((List.length x_h.Words:Nat):Int)=(160:Int)))
   (some false)
   (cond (!decide (((List.length x_h.Guests:Nat):Int)=(3:Int)))
    (some false)
    (Option.bind (Option.bind (iter (kL x_h) ((List.replicate (Int.toNat (20:Int)) (0:Int)),List.replicate (Int.toNat (20:Int)) false,(0:Int))) LO.val) λj2=>
     JO.run j2 aAq)))
noncomputable def g47:Sg tG:=⟨[.st 26],.one .b,jD⟩
theorem s47:Sok 47 g47:=sgx [(94,.r g94),(95,.r g95),(96,.r g96),(97,.r g97)] ⟨s94,s95,s96,s97,trivial⟩ (.s .o (.s .o (.s .o (.s .o (.j ⟨[],[],[(.s 3,.ro 3),(.s 4,.ro 4)]⟩ (.s .o (.k (.l ⟨[1],[],[(.s 3,.ro 3),(.s 4,.ro 4),(.s 5,.i .i64)]⟩ (.s .o (.j ⟨[1,5],[],[(.s 3,.ro 3),(.s 4,.ro 4)]⟩ (.k (.s .o (.s .o (.s .o (.s .o (.k (.l ⟨[1,5,6],[],[(.s 3,.ro 3),(.s 4,.ro 4),(.s 7,.i .i64)]⟩ (.s .o (.j ⟨[1,5,6,7],[],[(.s 4,.ro 4),(.s 3,.ro 3)]⟩ (.k (.s .o (.j ⟨[1,3,4,5,6,7,8],[],[]⟩ .o .o))) .o))))))))) .o))))) (.j ⟨[],[],[]⟩ (.s .o (.k (.l ⟨[3,4],[],[(.s 9,.i .i64)]⟩ (.s .o (.j ⟨[3,4,9],[],[]⟩ .o .o))))) .o)))))) kr kr kr
noncomputable def dC (x_list:List Int):Option (List Int):=grd ((0:Int)<=((List.length x_list:Nat):Int)/\((List.length x_list:Nat):Int)*8<=2^47/\((List.length x_list:Nat):Int)<=2^47) (some (over (List.replicate (Int.toNat ((List.length x_list:Nat):Int)) (0:Int)) 0 (List.length (List.replicate (Int.toNat ((List.length x_list:Nat):Int)) (0:Int))) x_list))
noncomputable def g42:Sg tG:=⟨[.row 3],.one (.row 3),dC⟩
theorem s42:Sok 42 g42:=sgx [] trivial .o kr kr kr
noncomputable def jC (x_c:DCore):Option DCore:=grd ((List.length ([]:List Int)+List.length x_c.Regs)*8<=2^47/\List.length ([]:List Int)+List.length x_c.Regs<=2^47) (some (DCore.mk (([]:List Int)++x_c.Regs) x_c.Pc x_c.Root x_c.Vector x_c.Saved x_c.SavedUser x_c.Cause x_c.Bad x_c.Timer x_c.Waits x_c.User x_c.On x_c.Stopped))
noncomputable def bGe:Sg tG:=⟨[.st 35],.one (.st 35),jC⟩
theorem bMq:Sok 143 bGe:=sgx [] trivial .o kr kr kr
noncomputable def mU (x_guests:List DGuest)(x_g:Int):Option Bool:=
 cond (decide ((0:Int)<=x_g))
  (cond (decide (x_g<(3:Int)))
   (grd ((0:Int)<=x_g/\x_g<((List.length x_guests:Nat):Int)) (some (List.getD x_guests (Int.toNat x_g) default).Live))
   (some false))
  (some false)
noncomputable def bLs:Sg tG:=⟨[.row 38,.i .i64],.one .b,mU⟩
theorem bTs:Sok 102 bLs:=sgx [] trivial .o kr kr kr
noncomputable def iZ (x_h:DHost)(x_g:Int):Option Bool:=
 Option.bind (nW x_h) λv1=>
 cond v1
  (Option.bind (mU x_h.Guests x_g) λv2=>
  some v2)
  (some false)
noncomputable def g62:Sg tG:=⟨[.st 26,.i .i64],.one .b,iZ⟩
theorem s62:Sok 62 g62:=sgx [(15,.r g15),(102,.r bLs)] ⟨s15,bTs,trivial⟩ .o kr kr kr
noncomputable def dI (x_h:DHost)(x_g:Int):Option Bool:=
 Option.bind (jD x_h) λv1=>
 cond v1
  (Option.bind (bU x_g (0:Int) (2:Int)) λv2=>
  cond v2
   (grd ((0:Int)<=x_g/\x_g<((List.length x_h.Guests:Nat):Int)) (some (List.getD x_h.Guests (Int.toNat x_g) default).Live))
   (some false))
  (some false)
noncomputable def g58:Sg tG:=⟨[.st 26,.i .i64],.one .b,dI⟩
theorem s58:Sok 58 g58:=sgx [(47,.r g47),(97,.r g97)] ⟨s47,s97,trivial⟩ .o kr kr kr
theorem aSm{x_h:DHost}{x_g:Int}{R_:Bool}(hh:dI x_h x_g=some R_):Fn Tryz.prog 58 [.agg (fM x_h),.int .i64 x_g] (.bool R_):=kc (s58 x_h x_g R_ hh)
noncomputable def jH (x_b:DBare):Option DBare:=
 Option.bind (dC x_b.C.Regs) λv1=>
 Option.bind (dC x_b.Mem) λv2=>
 Option.bind (dC x_b.In) λv3=>
 Option.bind (dC x_b.Out) λv4=>
 some (DBare.mk (DCore.mk v1 x_b.C.Pc x_b.C.Root x_b.C.Vector x_b.C.Saved x_b.C.SavedUser x_b.C.Cause x_b.C.Bad x_b.C.Timer x_b.C.Waits x_b.C.User x_b.C.On x_b.C.Stopped) v2 v3 v4)
noncomputable def g74:Sg tG:=⟨[.st 47],.one (.st 47),jH⟩
theorem s74:Sok 74 g74:=sgx [(42,.r g42)] ⟨s42,trivial⟩ .o kr kr kr
theorem aPm:LW 142 ⟨12,[.tmp 4],.seq (.reg false (rg 142 0)) (.seq (.reg false (rg 142 1)) .ret)⟩:=kr
noncomputable def sD (x_words:List Int)(x_page:Int):Option (List Int):=grd ((0:Int)<=(w64 (x_page*(8:Int)))/\(w64 (x_page*(8:Int)))<=(w64 ((w64 (x_page+(1:Int)))*(8:Int)))/\(w64 ((w64 (x_page+(1:Int)))*(8:Int)))<=((List.length x_words:Nat):Int)) (some (List.take (Int.toNat (w64 ((w64 (x_page+(1:Int)))*(8:Int)))-Int.toNat (w64 (x_page*(8:Int)))) (List.drop (Int.toNat (w64 (x_page*(8:Int)))) x_words)))
noncomputable def bTe:Sg tG:=⟨[.row 3,.i .i64],.one (.rb 3),sD⟩
theorem bWq:Sok 142 bTe:=sgx [] trivial .o kr kr kr
noncomputable def lQ (x_words:List Int)(x_page:Int):Option ((List Int)×(Nat×Nat)):=grd ((0:Int)<=(w64 (x_page*(8:Int)))/\(w64 (x_page*(8:Int)))<=(w64 ((w64 (x_page+(1:Int)))*(8:Int)))/\(w64 ((w64 (x_page+(1:Int)))*(8:Int)))<=((List.length x_words:Nat):Int)) (some (x_words,((Int.toNat (w64 (x_page*(8:Int)))),(Int.toNat (w64 ((w64 (x_page+(1:Int)))*(8:Int)))-Int.toNat (w64 (x_page*(8:Int)))))))
theorem aNk{x_words:List Int}{x_page:Int}{R_:(List Int)×(Nat×Nat)}(hh:lQ x_words x_page=some R_):Inl Tryz.prog 142 [.sref 0 [] 0 (List.length x_words) 1,.int .i64 x_page] [(0,some (rI_3 x_words))] 1 (.sref 0 [] (0+R_.2.1*1) R_.2.2 1) [(0,some (rI_3 R_.1))] 1:=by unfold lQ at hh;let q1:Root:=(rI_3 x_words);refine Inl.start aPm [0,1] [0] (E:=sp 12 [(0,sw 0 x_words),(1,ii x_page)]) (H1:=[(0,some q1)]) kr kr (sy [0,1] [0] (sp 12 [(0,sw 0 x_words),(1,ii x_page)]) [(0,some q1)] 1 (Aw.sreg [4] [0] (yu 6 [(5,sw 0 x_words),(6,ii x_page),(7,ii (w64 (x_page*(8:Int)))),(8,ii x_page),(9,ii (w64 (x_page+(1:Int)))),(10,ii (w64 ((w64 (x_page+(1:Int)))*(8:Int))))] [(0,some q1)] 1 ?_)));obtain⟨hg2,hh⟩:=aQ hh;refine ys (.slc 1 (.t 5) (some (.t 7)) (some (.t 10))) (some 11) (aYp (r:=0) (π:=[]) (o:=0) (k:=(List.length x_words)) (sz:=1) (l:=(w64 (x_page*(8:Int)))) (h:=(w64 ((w64 (x_page+(1:Int)))*(8:Int)))) kr kr kr hg2 ?_);refine yt (sp 12 [(4,.sref 0 [] (0+Int.toNat (w64 (x_page*(8:Int)))*1) (Int.toNat (w64 ((w64 (x_page+(1:Int)))*(8:Int)))-Int.toNat (w64 (x_page*(8:Int)))) 1)]) [(0,some q1)] 1 (Aw.ret ?_);rw[bM hh];exact lN (r':= .sref 0 [] (0+Int.toNat (w64 (x_page*(8:Int)))*1) (Int.toNat (w64 ((w64 (x_page+(1:Int)))*(8:Int)))-Int.toNat (w64 (x_page*(8:Int)))) 1) kr (el [some 0] (aDe aOv) (hn bY dE))
noncomputable def nZ (x_a:List Int)(x_left:Int):Option Int:=
 cond (decide ((w64 (x_left-((List.length x_a:Nat):Int)))<(0:Int)))
  (some (-1:Int))
  (some (w64 (x_left-((List.length x_a:Nat):Int))))
noncomputable def g79:Sg tG:=⟨[.row 3,.i .i64],.one (.i .i64),nZ⟩
theorem s79:Sok 79 g79:=sgx [] trivial .o kr kr kr
noncomputable def aGn (x_a:DCore)(x_left:Int):Option Int:=
 Option.bind (nZ x_a.Regs x_left) λv1=>
 cond (decide (v1<(0:Int)))
  (some (-1:Int))
  (some v1)
noncomputable def bQz:Sg tG:=⟨[.st 148,.i .i64],.one (.i .i64),aGn⟩
theorem bXp:Sok 163 bQz:=sgx [(79,.r g79)] ⟨s79,trivial⟩ .o kr kr kr
noncomputable def aIc  (s1:Int):Option Int:=some s1
noncomputable def aIm (x_a:List Int)(s2:Int×Int):Option (LO (Int×Int) (JO Int Int)):=
 cond (decide (s2.2<((List.length x_a:Nat):Int)))
  (grd ((0:Int)<=s2.2/\s2.2<((List.length x_a:Nat):Int)) (cond (!decide ((List.getD x_a (Int.toNat s2.2) default)=s2.1))
   (some (.ret (.out (-1:Int))))
   (some (.next ((w64 (s2.1+(1:Int))),w64 (s2.2+(1:Int)))))))
  (some (.ret (.go s2.1)))
noncomputable def lW (x_a:List Int)(x_k:Int):Option Int:=
 Option.bind (Option.bind (iter (aIm x_a) (x_k,(0:Int))) LO.val) λj1=>
  JO.run j1 aIc
noncomputable def g84:Sg tG:=⟨[.row 3,.i .i64],.one (.i .i64),lW⟩
theorem s84:Sok 84 g84:=sgx [] trivial (.s .o (.j ⟨[],[],[(.s 1,.i .i64)]⟩ (.s .o (.k (.l ⟨[0],[],[(.s 1,.i .i64),(.s 5,.i .i64)]⟩ .o))) .o)) kr kr kr
noncomputable def lH (x_pages:List DSlot):Option (List DSlot):=grd ((0:Int)<=((List.length x_pages:Nat):Int)/\((List.length x_pages:Nat):Int)*16<=2^47/\((List.length x_pages:Nat):Int)<=2^47) (some (over (List.replicate (Int.toNat ((List.length x_pages:Nat):Int)) (DSlot.mk (0:Int) false false)) 0 (List.length (List.replicate (Int.toNat ((List.length x_pages:Nat):Int)) (DSlot.mk (0:Int) false false))) x_pages))
noncomputable def bRy:Sg tG:=⟨[.row 53],.one (.row 53),lH⟩
theorem bWx:Sok 175 bRy:=sgx [] trivial .o kr kr kr
noncomputable def iL (x_guest:DGuest):Option DGuest:=
 cond (!x_guest.Live)
  (some (DGuest.mk false (DCore.mk ([]:List Int) (0:Int) (0:Int) (0:Int) (0:Int) false (0:Int) (0:Int) (0:Int) false false false false) ([]:List DSlot) ([]:List Int) ([]:List Int)))
  (Option.bind (dC x_guest.C.Regs) λv1=>
  Option.bind (lH x_guest.Pages) λv2=>
  Option.bind (dC x_guest.In) λv3=>
  Option.bind (dC x_guest.Out) λv4=>
  some (DGuest.mk x_guest.Live (DCore.mk v1 x_guest.C.Pc x_guest.C.Root x_guest.C.Vector x_guest.C.Saved x_guest.C.SavedUser x_guest.C.Cause x_guest.C.Bad x_guest.C.Timer x_guest.C.Waits x_guest.C.User x_guest.C.On x_guest.C.Stopped) v2 v3 v4))
noncomputable def bSb:Sg tG:=⟨[.st 38],.one (.st 38),iL⟩
theorem bXz:Sok 140 bSb:=sgx [(42,.r g42),(175,.r bRy)] ⟨s42,bWx,trivial⟩ .o kr kr kr
noncomputable def aCj  (s1:List DGuest):Option (List DGuest):=some s1
noncomputable def fG (x_guests:List DGuest)(s2:(List DGuest)×Int):Option (LO ((List DGuest)×Int) (JO (List DGuest) (List DGuest))):=
 cond (decide (s2.2<((List.length x_guests:Nat):Int)))
  (grd ((0:Int)<=s2.2/\s2.2<((List.length x_guests:Nat):Int)) (Option.bind (iL (DGuest.mk (List.getD x_guests (Int.toNat s2.2) default).Live (DCore.mk ((List.getD x_guests (Int.toNat s2.2) default).C).Regs ((List.getD x_guests (Int.toNat s2.2) default).C).Pc ((List.getD x_guests (Int.toNat s2.2) default).C).Root ((List.getD x_guests (Int.toNat s2.2) default).C).Vector ((List.getD x_guests (Int.toNat s2.2) default).C).Saved ((List.getD x_guests (Int.toNat s2.2) default).C).SavedUser ((List.getD x_guests (Int.toNat s2.2) default).C).Cause ((List.getD x_guests (Int.toNat s2.2) default).C).Bad ((List.getD x_guests (Int.toNat s2.2) default).C).Timer ((List.getD x_guests (Int.toNat s2.2) default).C).Waits ((List.getD x_guests (Int.toNat s2.2) default).C).User ((List.getD x_guests (Int.toNat s2.2) default).C).On ((List.getD x_guests (Int.toNat s2.2) default).C).Stopped) (List.getD x_guests (Int.toNat s2.2) default).Pages (List.getD x_guests (Int.toNat s2.2) default).In (List.getD x_guests (Int.toNat s2.2) default).Out)) λv3=>
   grd ((0:Int)<=s2.2/\s2.2<((List.length s2.1:Nat):Int)) (some (.next ((List.set s2.1 (Int.toNat s2.2) v3),w64 (s2.2+(1:Int)))))))
  (some (.ret (.go s2.1)))
noncomputable def kP (x_guests:List DGuest):Option (List DGuest):=
 grd ((0:Int)<=((List.length x_guests:Nat):Int)/\((List.length x_guests:Nat):Int)*176<=2^47/\((List.length x_guests:Nat):Int)<=2^47) (Option.bind (Option.bind (iter (fG x_guests) ((List.replicate (Int.toNat ((List.length x_guests:Nat):Int)) (DGuest.mk false (DCore.mk ([]:List Int) (0:Int) (0:Int) (0:Int) (0:Int) false (0:Int) (0:Int) (0:Int) false false false false) ([]:List DSlot) ([]:List Int) ([]:List Int))),(0:Int))) LO.val) λj1=>
  JO.run j1 aCj)
noncomputable def g92:Sg tG:=⟨[.row 38],.one (.row 1038),kP⟩
theorem s92:Sok 92 g92:=sgx [(140,.r bSb)] ⟨bXz,trivial⟩ (.s .o (.s (.g [] [] [.fo (.s 3) 0]) (.j ⟨[],[],[(.s 3,.ro 1038)]⟩ (.s .o (.k (.l ⟨[9,10],[],[(.s 3,.ro 1038),(.s 11,.i .i64)]⟩ (.s .o (.s .o (.s (.k (.s .o (.g [] [] [.fo (.s 3) 0]))) .o)))))) .o))) kr kr kr
noncomputable def mW (x_g:DGuest):Option DGuest:=
 cond (!x_g.Live)
  (some (DGuest.mk false (DCore.mk ([]:List Int) (0:Int) (0:Int) (0:Int) (0:Int) false (0:Int) (0:Int) (0:Int) false false false false) ([]:List DSlot) ([]:List Int) ([]:List Int)))
  (Option.bind (jC x_g.C) λv1=>
  grd (List.length x_g.Pages*16<=2^47/\List.length x_g.Pages<=2^47) (grd (List.length x_g.In*8<=2^47/\List.length x_g.In<=2^47) (grd (List.length x_g.Out*8<=2^47/\List.length x_g.Out<=2^47) (some (DGuest.mk true v1 x_g.Pages x_g.In x_g.Out)))))
noncomputable def g98:Sg tG:=⟨[.st 38],.one (.st 38),mW⟩
theorem s98:Sok 98 g98:=sgx [(143,.r bGe)] ⟨bMq,trivial⟩ .o kr kr kr
noncomputable def aNf (x_h:DHost)(s1:List DGuest):Option DHost:=some (DHost.mk (([]:List Int)++x_h.Words) s1)
noncomputable def nM (x_h:DHost)(s2:(List DGuest)×Int):Option (LO ((List DGuest)×Int) (JO (List DGuest) DHost)):=
 cond (decide (s2.2<((List.length x_h.Guests:Nat):Int)))
  (grd ((0:Int)<=s2.2/\s2.2<((List.length x_h.Guests:Nat):Int)) (Option.bind (mW (DGuest.mk (List.getD x_h.Guests (Int.toNat s2.2) default).Live (DCore.mk ((List.getD x_h.Guests (Int.toNat s2.2) default).C).Regs ((List.getD x_h.Guests (Int.toNat s2.2) default).C).Pc ((List.getD x_h.Guests (Int.toNat s2.2) default).C).Root ((List.getD x_h.Guests (Int.toNat s2.2) default).C).Vector ((List.getD x_h.Guests (Int.toNat s2.2) default).C).Saved ((List.getD x_h.Guests (Int.toNat s2.2) default).C).SavedUser ((List.getD x_h.Guests (Int.toNat s2.2) default).C).Cause ((List.getD x_h.Guests (Int.toNat s2.2) default).C).Bad ((List.getD x_h.Guests (Int.toNat s2.2) default).C).Timer ((List.getD x_h.Guests (Int.toNat s2.2) default).C).Waits ((List.getD x_h.Guests (Int.toNat s2.2) default).C).User ((List.getD x_h.Guests (Int.toNat s2.2) default).C).On ((List.getD x_h.Guests (Int.toNat s2.2) default).C).Stopped) (List.getD x_h.Guests (Int.toNat s2.2) default).Pages (List.getD x_h.Guests (Int.toNat s2.2) default).In (List.getD x_h.Guests (Int.toNat s2.2) default).Out)) λv3=>
   grd ((List.length s2.1+1)*176<=2^47/\List.length s2.1+1<=2^47) (some (.next ((s2.1++([v3]:List DGuest)),w64 (s2.2+(1:Int)))))))
  (some (.ret (.go s2.1)))
noncomputable def eR (x_h:DHost):Option DHost:=
 grd ((List.length ([]:List Int)+List.length x_h.Words)*8<=2^47/\List.length ([]:List Int)+List.length x_h.Words<=2^47) (Option.bind (Option.bind (iter (nM x_h) (([]:List DGuest),(0:Int))) LO.val) λj1=>
  JO.run j1 (aNf x_h))
noncomputable def g48:Sg tG:=⟨[.st 26],.one (.st 2026),eR⟩
theorem s48:Sok 48 g48:=sgx [(98,.r g98)] ⟨s98,trivial⟩ (.s .o (.s .o (.j ⟨[2,3],[],[(.c 3 1,.ro 1038)]⟩ (.s .o (.k (.l ⟨[1,2,3],[],[(.c 3 1,.ro 1038),(.s 4,.i .i64)]⟩ (.s .o (.s (.k (.g [] [] [.fo (.c 3 1) 0])) .o))))) .o))) kr kr kr
theorem aCu{x_h:DHost}{R_:DHost}(hh:eR x_h=some R_):Fn Tryz.prog 48 [.agg (fM x_h)] (.agg [.own 3 1 (List.length R_.Words) (fl (eI .i64) R_.Words),.own 38 17 (List.length R_.Guests) (fl bJ R_.Guests)]):=kc (s48 x_h R_ hh)
noncomputable def nH (x_w:Int):Option DEntry:=
 Option.bind (fH x_w) λv1=>
 cond (!v1)
  (some (DEntry.mk false false false (0:Int)))
  (some (DEntry.mk (decide ((Int.tmod x_w (2:Int))=(1:Int))) (decide ((Int.tmod (w64 (Int.tdiv x_w (2:Int))) (2:Int))=(1:Int))) (decide ((Int.tmod (w64 (Int.tdiv x_w (4:Int))) (2:Int))=(1:Int))) (Int.tmod (w64 (Int.tdiv x_w (8:Int))) (8:Int))))
noncomputable def bTc:Sg tG:=⟨[.i .i64],.one (.st 139),nH⟩
theorem bWs:Sok 118 bTc:=sgx [(120,.r aQw)] ⟨aYn,trivial⟩ .o kr kr kr
noncomputable def rY (x_h:DHost)(x_g:Int)(x_at:Int):Option Int:=
 grd ((0:Int)<=x_g/\x_g<((List.length x_h.Guests:Nat):Int)) (grd ((0:Int)<=(w64 (Int.tdiv x_at (8:Int)))/\(w64 (Int.tdiv x_at (8:Int)))<((List.length (List.getD x_h.Guests (Int.toNat x_g) default).Pages:Nat):Int)) (cond (decide ((List.getD (List.getD x_h.Guests (Int.toNat x_g) default).Pages (Int.toNat (w64 (Int.tdiv x_at (8:Int)))) default).Frame<(0:Int)))
  (some (0:Int))
  (grd ((0:Int)<=(w64 ((w64 ((List.getD (List.getD x_h.Guests (Int.toNat x_g) default).Pages (Int.toNat (w64 (Int.tdiv x_at (8:Int)))) default).Frame*(8:Int)))+(Int.tmod x_at (8:Int))))/\(w64 ((w64 ((List.getD (List.getD x_h.Guests (Int.toNat x_g) default).Pages (Int.toNat (w64 (Int.tdiv x_at (8:Int)))) default).Frame*(8:Int)))+(Int.tmod x_at (8:Int))))<((List.length x_h.Words:Nat):Int)) (some (List.getD x_h.Words (Int.toNat (w64 ((w64 ((List.getD (List.getD x_h.Guests (Int.toNat x_g) default).Pages (Int.toNat (w64 (Int.tdiv x_at (8:Int)))) default).Frame*(8:Int)))+(Int.tmod x_at (8:Int))))) default)))))
noncomputable def bSt:Sg tG:=⟨[.st 26,.i .i64,.i .i64],.one (.i .i64),rY⟩
theorem bXr:Sok 119 bSt:=sgx [] trivial .o kr kr kr
noncomputable def aHw  (s2:List DShade):Option (List DShade):=some s2
noncomputable def pE (x_h:DHost)(x_g:Int)(s3:(List DShade)×Int)(s4:Bool×Bool×Bool×Int):Option (LO ((List DShade)×Int) (JO (List DShade) (List DShade))):=grd ((0:Int)<=x_g/\x_g<((List.length x_h.Guests:Nat):Int)) (grd ((0:Int)<=s4.2.2.2/\s4.2.2.2<((List.length (List.getD x_h.Guests (Int.toNat x_g) default).Pages:Nat):Int)) (grd ((List.length s3.1+List.length ([DShade.mk s4.1 s4.2.1 s4.2.2.1 s4.2.2.2 (List.getD (List.getD x_h.Guests (Int.toNat x_g) default).Pages (Int.toNat s4.2.2.2) default).Frame (List.getD (List.getD x_h.Guests (Int.toNat x_g) default).Pages (Int.toNat s4.2.2.2) default).Write]:List DShade))*32<=2^47/\List.length s3.1+List.length ([DShade.mk s4.1 s4.2.1 s4.2.2.1 s4.2.2.2 (List.getD (List.getD x_h.Guests (Int.toNat x_g) default).Pages (Int.toNat s4.2.2.2) default).Frame (List.getD (List.getD x_h.Guests (Int.toNat x_g) default).Pages (Int.toNat s4.2.2.2) default).Write]:List DShade)<=2^47) (some (.next ((s3.1++([DShade.mk s4.1 s4.2.1 s4.2.2.1 s4.2.2.2 (List.getD (List.getD x_h.Guests (Int.toNat x_g) default).Pages (Int.toNat s4.2.2.2) default).Frame (List.getD (List.getD x_h.Guests (Int.toNat x_g) default).Pages (Int.toNat s4.2.2.2) default).Write]:List DShade)),w64 (s3.2+(1:Int)))))))
noncomputable def lV (x_h:DHost)(x_g:Int)(s3:(List DShade)×Int):Option (LO ((List DShade)×Int) (JO (List DShade) (List DShade))):=
 cond (decide (s3.2<(8:Int)))
  (Option.bind (grd ((0:Int)<=x_g/\x_g<((List.length x_h.Guests:Nat):Int)) (cond (decide ((0:Int)<=((List.getD x_h.Guests (Int.toNat x_g) default).C).Root))
   (Option.bind (rY x_h x_g (w64 ((w64 (((List.getD x_h.Guests (Int.toNat x_g) default).C).Root*(8:Int)))+s3.2))) λv5=>
   Option.bind (nH v5) λv6=>
   some (.go (v6.There,v6.Write,v6.User,v6.Page)))
   (some (.go (true,true,true,s3.2))))) λj4=>
   JO.run j4 (pE x_h x_g s3))
  (some (.ret (.go s3.1)))
noncomputable def eM (x_h:DHost)(x_g:Int):Option (List DShade):=
 Option.bind (dI x_h x_g) λv1=>
 cond (!v1)
  (some ([]:List DShade))
  (Option.bind (Option.bind (iter (lV x_h x_g) (([]:List DShade),(0:Int))) LO.val) λj2=>
   JO.run j2 aHw)
noncomputable def g67:Sg tG:=⟨[.st 26,.i .i64],.one (.row 103),eM⟩
theorem s67:Sok 67 g67:=sgx [(58,.r g58),(119,.r bSt),(118,.r bTc)] ⟨s58,bXr,bWs,trivial⟩ (.s .o (.s .o (.s .o (.j ⟨[],[],[(.s 5,.ro 103)]⟩ (.s .o (.k (.l ⟨[1,2],[],[(.s 5,.ro 103),(.s 6,.i .i64)]⟩ (.s .o (.s (.k (.s .o (.j ⟨[1,2,5,6,7],[],[(.c 7 0,.b),(.c 7 1,.b),(.c 7 2,.b),(.c 7 3,.i .i64)]⟩ .o .o))) .o))))) .o)))) kr kr kr
theorem aMv{x_h:DHost}{x_g:Int}{R_:(List DShade)}(hh:eM x_h x_g=some R_):Fn Tryz.prog 67 [.agg (fM x_h),.int .i64 x_g] (.own 103 6 (List.length R_) (fl oR R_)):=kc (s67 x_h x_g R_ hh)
noncomputable def kO (x_w:Int):Option DEntry:=
 Option.bind (fK x_w) λv1=>
 cond (!v1)
  (some (DEntry.mk false false false (0:Int)))
  (some (DEntry.mk (decide ((Int.tmod (w64 (Int.tdiv x_w (1:Int))) (2:Int))=(1:Int))) (decide ((Int.tmod (w64 (Int.tdiv x_w (2:Int))) (2:Int))=(1:Int))) (decide ((Int.tmod (w64 (Int.tdiv x_w (4:Int))) (2:Int))=(1:Int))) (Int.tmod (w64 (Int.tdiv x_w (8:Int))) (8:Int))))
noncomputable def bMu:Sg tG:=⟨[.i .i64],.one (.st 139),kO⟩
theorem bUo:Sok 159 bMu:=sgx [(55,.r g55)] ⟨s55,trivial⟩ .o kr kr kr
noncomputable def eQ (x_words:List Int)(x_s:DSlot):Option (List Int):=
 cond (decide (x_s.Frame=(-1:Int)))
  (some (List.replicate (Int.toNat (8:Int)) (0:Int)))
  (Option.bind (sD x_words x_s.Frame) λv1=>
  some v1)
noncomputable def bUq:Sg tG:=⟨[.row 3,.st 53],.one (.rb 3),eQ⟩
theorem bUp:Sok 191 bUq:=sgx [(142,.r bTe)] ⟨bWq,trivial⟩ .o kr kr kr
theorem aKk{x_words:List Int}{x_s:DSlot}{R_:(List Int)}(hh:eQ x_words x_s=some R_):Fn Tryz.prog 191 [bo (eI .i64) x_words,.agg (kS x_s)] (bo (eI .i64) R_):=kc (bUp x_words x_s R_ hh)
noncomputable def qT (x_h:DHost)(x_g:Int)(x_number:Int):Option DEntry:=
 grd ((0:Int)<=x_g/\x_g<((List.length x_h.Guests:Nat):Int)) (cond (decide (((List.getD x_h.Guests (Int.toNat x_g) default).C).Root=(-1:Int)))
  (some (DEntry.mk true true true x_number))
  (grd ((0:Int)<=((List.getD x_h.Guests (Int.toNat x_g) default).C).Root/\((List.getD x_h.Guests (Int.toNat x_g) default).C).Root<((List.length (List.getD x_h.Guests (Int.toNat x_g) default).Pages:Nat):Int)) (Option.bind (eQ x_h.Words (DSlot.mk (List.getD (List.getD x_h.Guests (Int.toNat x_g) default).Pages (Int.toNat ((List.getD x_h.Guests (Int.toNat x_g) default).C).Root) default).Frame (List.getD (List.getD x_h.Guests (Int.toNat x_g) default).Pages (Int.toNat ((List.getD x_h.Guests (Int.toNat x_g) default).C).Root) default).Write (List.getD (List.getD x_h.Guests (Int.toNat x_g) default).Pages (Int.toNat ((List.getD x_h.Guests (Int.toNat x_g) default).C).Root) default).Dirty)) λv1=>
   grd ((0:Int)<=x_number/\x_number<((List.length v1:Nat):Int)) (Option.bind (kO (List.getD v1 (Int.toNat x_number) default)) λv2=>
    some v2))))
noncomputable def bSi:Sg tG:=⟨[.st 26,.i .i64,.i .i64],.one (.st 139),qT⟩
theorem bYg:Sok 174 bSi:=sgx [(191,.r bUq),(159,.r bMu)] ⟨bUp,bUo,trivial⟩ .o kr kr kr
noncomputable def mO (x_h:DHost)(x_g:Int)(x_number:Int):Option DShade:=
 Option.bind (qT x_h x_g x_number) λv1=>
 grd ((0:Int)<=x_g/\x_g<((List.length x_h.Guests:Nat):Int)) (grd ((0:Int)<=v1.Page/\v1.Page<((List.length (List.getD x_h.Guests (Int.toNat x_g) default).Pages:Nat):Int)) (some (DShade.mk v1.There v1.Write v1.User v1.Page (List.getD (List.getD x_h.Guests (Int.toNat x_g) default).Pages (Int.toNat v1.Page) default).Frame (List.getD (List.getD x_h.Guests (Int.toNat x_g) default).Pages (Int.toNat v1.Page) default).Write)))
noncomputable def bOm:Sg tG:=⟨[.st 26,.i .i64,.i .i64],.one (.st 103),mO⟩
theorem bSz:Sok 139 bOm:=sgx [(174,.r bSi)] ⟨bYg,trivial⟩ .o kr kr kr
noncomputable def nS (x_h:DHost)(x_line:DLine):Option Bool:=
 Option.bind (mU x_h.Guests x_line.Tag) λv1=>
 cond v1
  (Option.bind (gK x_line.At) λv2=>
  cond v2
   (Option.bind (mO x_h x_line.Tag x_line.At) λv3=>
   some ((x_line.What.There==v3.There)&&((x_line.What.Write==v3.Write)&&((x_line.What.User==v3.User)&&(decide (x_line.What.Page=v3.Page)&&(decide (x_line.What.Frame=v3.Frame)&&((x_line.What.Ready==v3.Ready)&&true)))))))
   (some false))
  (some false)
noncomputable def g88:Sg tG:=⟨[.st 26,.st 114],.one .b,nS⟩
theorem s88:Sok 88 g88:=sgx [(102,.r bLs),(138,.r aRl),(139,.r bOm)] ⟨bTs,aYv,bSz,trivial⟩ .o kr kr kr
noncomputable def aKs  (s1:Unit):Option Int:=some (-1:Int)
noncomputable def xT (s2:Int)(s3:Unit):Option (LO Int (JO Unit Int)):=some (.next (w64 (s2+(1:Int))))
noncomputable def mH (x_tags:List DLine)(x_g:Int)(x_number:Int)(s2:Int):Option (LO Int (JO Unit Int)):=
 cond (decide (s2<((List.length x_tags:Nat):Int)))
  (Option.bind (grd ((0:Int)<=s2/\s2<((List.length x_tags:Nat):Int)) (cond (decide ((List.getD x_tags (Int.toNat s2) default).Tag=x_g))
   (cond (decide ((List.getD x_tags (Int.toNat s2) default).At=x_number))
    (some (.out (.ret (.out s2))))
    (some (.go ())))
   (some (.go ())))) λj3=>
   JO.run j3 (xT s2))
  (some (.ret (.go ())))
noncomputable def pW (x_tags:List DLine)(x_g:Int)(x_number:Int):Option Int:=
 Option.bind (Option.bind (iter (mH x_tags x_g x_number) (0:Int)) LO.val) λj1=>
  JO.run j1 aKs
noncomputable def g89:Sg tG:=⟨[.row 114,.i .i64,.i .i64],.one (.i .i64),pW⟩
theorem s89:Sok 89 g89:=sgx [] trivial (.s .o (.j ⟨[],[],[]⟩ (.s .o (.k (.l ⟨[1,2,9,10],[],[(.s 11,.i .i64)]⟩ (.s .o (.s .o (.j ⟨[1,2,9,10,11],[],[]⟩ .o .o)))))) .o)) kr kr kr
noncomputable def aNc  (s2:Unit):Option Bool:=some true
noncomputable def nP (x_h:DHost)(x_tags:List DLine)(s3:Int):Option (LO Int (JO Unit Bool)):=
 cond (decide (s3<((List.length x_tags:Nat):Int)))
  (grd ((0:Int)<=s3/\s3<((List.length x_tags:Nat):Int)) (Option.bind (nS x_h (DLine.mk (List.getD x_tags (Int.toNat s3) default).Tag (List.getD x_tags (Int.toNat s3) default).At (DShade.mk ((List.getD x_tags (Int.toNat s3) default).What).There ((List.getD x_tags (Int.toNat s3) default).What).Write ((List.getD x_tags (Int.toNat s3) default).What).User ((List.getD x_tags (Int.toNat s3) default).What).Page ((List.getD x_tags (Int.toNat s3) default).What).Frame ((List.getD x_tags (Int.toNat s3) default).What).Ready))) λv4=>
   cond (!v4)
    (some (.ret (.out false)))
    (grd ((0:Int)<=(0:Int)/\(0:Int)<=s3/\s3<=((List.length x_tags:Nat):Int)) (Option.bind (pW (List.take (Int.toNat s3-Int.toNat (0:Int)) (List.drop (Int.toNat (0:Int)) x_tags)) (List.getD x_tags (Int.toNat s3) default).Tag (List.getD x_tags (Int.toNat s3) default).At) λv5=>
     cond (!decide (v5=(-1:Int)))
      (some (.ret (.out false)))
      (some (.next (w64 (s3+(1:Int)))))))))
  (some (.ret (.go ())))
noncomputable def rU (x_h:DHost)(x_tags:List DLine):Option Bool:=
 Option.bind (nW x_h) λv1=>
 cond (!v1)
  (some false)
  (cond (decide ((6:Int)<((List.length x_tags:Nat):Int)))
   (some false)
   (Option.bind (Option.bind (iter (nP x_h x_tags) (0:Int)) LO.val) λj2=>
    JO.run j2 aNc))
noncomputable def g37:Sg tG:=⟨[.st 26,.row 114],.one .b,rU⟩
theorem s37:Sok 37 g37:=sgx [(15,.r g15),(88,.r g88),(89,.r g89)] ⟨s15,s88,s89,trivial⟩ (.s .o (.s .o (.j ⟨[],[],[]⟩ (.s .o (.k (.l ⟨[1,2,15,16],[],[(.s 17,.i .i64)]⟩ .o))) .o))) kr kr kr
noncomputable def aMo  (s2:Unit):Option Bool:=some true
noncomputable def zY (s3:Int)(s4:Unit):Option (LO Int (JO Unit Bool)):=some (.next (w64 (s3+(1:Int))))
noncomputable def sR (s8:Int)(s9:Unit):Option (LO Int (JO Unit (LO Int (JO Unit Bool)))):=some (.next (w64 (s8+(1:Int))))
noncomputable def nO (x_tags:List DLine)(s3:Int)(s8:Int):Option (LO Int (JO Unit (LO Int (JO Unit Bool)))):=
 cond (decide (s8<s3))
  (Option.bind (grd ((0:Int)<=s8/\s8<((List.length x_tags:Nat):Int)) (cond (decide ((List.getD x_tags (Int.toNat s8) default).Tag=(List.getD x_tags (Int.toNat s3) default).Tag))
   (grd ((0:Int)<=s8/\s8<((List.length x_tags:Nat):Int)) (cond (decide ((List.getD x_tags (Int.toNat s8) default).At=(List.getD x_tags (Int.toNat s3) default).At))
    (some (.out (.ret (.out (.ret (.out false))))))
    (some (.go ()))))
   (some (.go ())))) λj9=>
   JO.run j9 (sR s8))
  (some (.ret (.go ())))
noncomputable def nG (x_h:DHost)(x_tags:List DLine)(s3:Int):Option (LO Int (JO Unit Bool)):=
 cond (decide (s3<((List.length x_tags:Nat):Int)))
  (Option.bind (grd ((0:Int)<=s3/\s3<((List.length x_tags:Nat):Int)) (Option.bind (dI x_h (List.getD x_tags (Int.toNat s3) default).Tag) λv5=>
   cond (!v5)
    (some (.out (.ret (.out false))))
    (Option.bind (bU (List.getD x_tags (Int.toNat s3) default).At (0:Int) (7:Int)) λv6=>
    cond (!v6)
     (some (.out (.ret (.out false))))
     (Option.bind (eM x_h (List.getD x_tags (Int.toNat s3) default).Tag) λv7=>
     grd ((0:Int)<=(List.getD x_tags (Int.toNat s3) default).At/\(List.getD x_tags (Int.toNat s3) default).At<((List.length v7:Nat):Int)) (cond (!(((List.getD v7 (Int.toNat (List.getD x_tags (Int.toNat s3) default).At) default).There==((List.getD x_tags (Int.toNat s3) default).What).There)&&(((List.getD v7 (Int.toNat (List.getD x_tags (Int.toNat s3) default).At) default).Write==((List.getD x_tags (Int.toNat s3) default).What).Write)&&(((List.getD v7 (Int.toNat (List.getD x_tags (Int.toNat s3) default).At) default).User==((List.getD x_tags (Int.toNat s3) default).What).User)&&(decide ((List.getD v7 (Int.toNat (List.getD x_tags (Int.toNat s3) default).At) default).Page=((List.getD x_tags (Int.toNat s3) default).What).Page)&&(decide ((List.getD v7 (Int.toNat (List.getD x_tags (Int.toNat s3) default).At) default).Frame=((List.getD x_tags (Int.toNat s3) default).What).Frame)&&(((List.getD v7 (Int.toNat (List.getD x_tags (Int.toNat s3) default).At) default).Ready==((List.getD x_tags (Int.toNat s3) default).What).Ready)&&true)))))))
      (some (.out (.ret (.out false))))
      (Option.bind (iter (nO x_tags s3) (0:Int)) LO.val)))))) λj4=>
   JO.run j4 (zY s3))
  (some (.ret (.go ())))
noncomputable def sG (x_h:DHost)(x_tags:List DLine):Option Bool:=
 Option.bind (jD x_h) λv1=>
 cond (!v1)
  (some false)
  (cond (decide ((6:Int)<((List.length x_tags:Nat):Int)))
   (some false)
   (Option.bind (Option.bind (iter (nG x_h x_tags) (0:Int)) LO.val) λj2=>
    JO.run j2 aMo))
noncomputable def bVh:Sg tG:=⟨[.st 26,.row 114],.one .b,sG⟩
theorem bXa:Sok 173 bVh:=sgx [(47,.r g47),(58,.r g58),(97,.r g97),(67,.r g67)] ⟨s47,s58,s97,s67,trivial⟩ (.s .o (.s .o (.j ⟨[],[],[]⟩ (.s .o (.k (.l ⟨[1,2],[],[(.s 5,.i .i64)]⟩ (.s .o (.j ⟨[1,2,5],[],[]⟩ (.k (.s .o (.s .o (.s .o (.k (.l ⟨[1,2,5,6],[],[(.s 7,.i .i64)]⟩ (.s .o (.j ⟨[1,2,5,6,7],[],[]⟩ .o .o)))))))) .o))))) .o))) kr kr kr
noncomputable def nF (x_e:DEntry)(x_user:Bool)(x_write:Bool):Option Bool:=
 cond x_e.There
  (cond x_e.Write
   (cond x_e.User
    (some true)
    (some (!x_user)))
   (cond (!x_write)
    (cond x_e.User
     (some true)
     (some (!x_user)))
    (some false)))
  (some false)
noncomputable def bMx:Sg tG:=⟨[.st 139,.b,.b],.one .b,nF⟩
theorem bSe:Sok 160 bMx:=sgx [] trivial .o kr kr kr
noncomputable def vU (x_mem:List Int)(x_root:Int)(x_addr:Int)(x_user:Bool)(x_write:Bool):Option Int:=
 Option.bind (aAo x_mem) λv1=>
 cond (!v1)
  (some (-1:Int))
  (Option.bind (kZ x_root) λv2=>
  cond (!v2)
   (some (-1:Int))
   (Option.bind (cP x_addr) λv3=>
   cond (!v3)
    (some (-1:Int))
    (cond (decide (x_root=(-1:Int)))
     (some x_addr)
     (grd ((0:Int)<=(w64 ((w64 (x_root*(8:Int)))+(w64 (Int.tdiv x_addr (8:Int)))))/\(w64 ((w64 (x_root*(8:Int)))+(w64 (Int.tdiv x_addr (8:Int)))))<((List.length x_mem:Nat):Int)) (Option.bind (kO (List.getD x_mem (Int.toNat (w64 ((w64 (x_root*(8:Int)))+(w64 (Int.tdiv x_addr (8:Int)))))) default)) λv4=>
      Option.bind (nF v4 x_user x_write) λv5=>
      cond (!v5)
       (some (-1:Int))
       (some (w64 ((w64 (v4.Page*(8:Int)))+(Int.tmod x_addr (8:Int))))))))))
noncomputable def bEo:Sg tG:=⟨[.row 3,.i .i64,.i .i64,.b,.b],.one (.i .i64),vU⟩
theorem bMk:Sok 126 bEo:=sgx [(124,.r bNk),(158,.r bMw),(157,.r bNu),(159,.r bMu),(160,.r bMx)] ⟨bSk,bRh,bVg,bUo,bSe,trivial⟩ .o kr kr kr
noncomputable def nE (x_s:DShade)(x_addr:Int)(s2:Unit):Option (Int×Int):=some ((w64 ((w64 (x_s.Frame*(8:Int)))+(Int.tmod x_addr (8:Int)))),(0:Int))
noncomputable def mI (x_s:DShade)(x_addr:Int)(x_user:Bool)(x_write:Bool):Option (Int×Int):=
 Option.bind (nF (DEntry.mk x_s.There x_s.Write x_s.User x_s.Page) x_user x_write) λv1=>
 cond (!v1)
  (some ((-1:Int),(1:Int)))
  (cond (decide (x_s.Frame=(-1:Int)))
   (some ((-1:Int),(2:Int)))
   (Option.bind (cond x_write
    (cond (!x_s.Ready)
     (some (.out ((-1:Int),(3:Int))))
     (some (.go ())))
    (some (.go ()))) λj2=>
    JO.run j2 (nE x_s x_addr)))
noncomputable def bUc:Sg tG:=⟨[.st 103,.i .i64,.b,.b],.two (.i .i64) (.i .i64),mI⟩
theorem bWt:Sok 151 bUc:=sgx [(160,.r bMx)] ⟨bSe,trivial⟩ (.s .o (.s .o (.s .o (.s .o (.j ⟨[1,4],[],[]⟩ .o .o))))) kr kr kr
noncomputable def yB (x_table:List DShade)(x_addr:Int)(s1:Unit):Option (Int×Int):=some ((w64 ((w64 ((List.getD x_table (Int.toNat (w64 (Int.tdiv x_addr (8:Int)))) default).Frame*(8:Int)))+(Int.tmod x_addr (8:Int)))),(0:Int))
noncomputable def cM (x_table:List DShade)(x_addr:Int)(x_user:Bool)(x_write:Bool):Option (Int×Int):=
 grd ((0:Int)<=(w64 (Int.tdiv x_addr (8:Int)))/\(w64 (Int.tdiv x_addr (8:Int)))<((List.length x_table:Nat):Int)) (Option.bind (cond (!(List.getD x_table (Int.toNat (w64 (Int.tdiv x_addr (8:Int)))) default).There)
  (some (.out ((-1:Int),(1:Int))))
  (cond x_write
   (cond (!(List.getD x_table (Int.toNat (w64 (Int.tdiv x_addr (8:Int)))) default).Write)
    (some (.out ((-1:Int),(1:Int))))
    (cond x_user
     (cond (!(List.getD x_table (Int.toNat (w64 (Int.tdiv x_addr (8:Int)))) default).User)
      (some (.out ((-1:Int),(1:Int))))
      (cond (decide ((List.getD x_table (Int.toNat (w64 (Int.tdiv x_addr (8:Int)))) default).Frame<(0:Int)))
       (some (.out ((-1:Int),(2:Int))))
       (cond x_write
        (cond (!(List.getD x_table (Int.toNat (w64 (Int.tdiv x_addr (8:Int)))) default).Ready)
         (some (.out ((-1:Int),(3:Int))))
         (some (.go ())))
        (some (.go ())))))
     (cond (decide ((List.getD x_table (Int.toNat (w64 (Int.tdiv x_addr (8:Int)))) default).Frame<(0:Int)))
      (some (.out ((-1:Int),(2:Int))))
      (cond x_write
       (cond (!(List.getD x_table (Int.toNat (w64 (Int.tdiv x_addr (8:Int)))) default).Ready)
        (some (.out ((-1:Int),(3:Int))))
        (some (.go ())))
       (some (.go ()))))))
   (cond x_user
    (cond (!(List.getD x_table (Int.toNat (w64 (Int.tdiv x_addr (8:Int)))) default).User)
     (some (.out ((-1:Int),(1:Int))))
     (cond (decide ((List.getD x_table (Int.toNat (w64 (Int.tdiv x_addr (8:Int)))) default).Frame<(0:Int)))
      (some (.out ((-1:Int),(2:Int))))
      (cond x_write
       (cond (!(List.getD x_table (Int.toNat (w64 (Int.tdiv x_addr (8:Int)))) default).Ready)
        (some (.out ((-1:Int),(3:Int))))
        (some (.go ())))
       (some (.go ())))))
    (cond (decide ((List.getD x_table (Int.toNat (w64 (Int.tdiv x_addr (8:Int)))) default).Frame<(0:Int)))
     (some (.out ((-1:Int),(2:Int))))
     (cond x_write
      (cond (!(List.getD x_table (Int.toNat (w64 (Int.tdiv x_addr (8:Int)))) default).Ready)
       (some (.out ((-1:Int),(3:Int))))
       (some (.go ())))
      (some (.go ()))))))) λj1=>
  JO.run j1 (yB x_table x_addr))
noncomputable def g68:Sg tG:=⟨[.row 103,.i .i64,.b,.b],.two (.i .i64) (.i .i64),cM⟩
theorem s68:Sok 68 g68:=sgx [] trivial (.s .o (.s .o (.j ⟨[1,10],[],[]⟩ .o .o))) kr kr kr
theorem aBd{x_table:List DShade}{x_addr:Int}{x_user:Bool}{x_write:Bool}{R_:Int×Int}(hh:cM x_table x_addr x_user x_write=some R_):Fn Tryz.prog 68 [bo oR x_table,.int .i64 x_addr,.bool x_user,.bool x_write] (.tup [.int .i64 R_.1,.int .i64 R_.2]):=kc (s68 x_table x_addr x_user x_write R_ hh)
noncomputable def mB (x_addr:Int)(x_user:Bool)(x_write:Bool)(s5:(List DLine)×(List DShade)):Option ((List DLine)×Int×Int):=
 Option.bind (cM s5.2 x_addr x_user x_write) λv6=>
 some (s5.1,v6.1,v6.2)
noncomputable def yH (x_h:DHost)(x_tags:List DLine)(x_g:Int)(x_addr:Int)(x_user:Bool)(x_write:Bool)(s4:(List DShade)×Bool):Option ((List DLine)×Int×Int):=
 Option.bind (cond (!s4.2)
  (Option.bind (eM x_h x_g) λv7=>
  grd ((0:Int)<=(w64 (Int.tdiv x_addr (8:Int)))/\(w64 (Int.tdiv x_addr (8:Int)))<((List.length v7:Nat):Int)) (grd ((List.length (([]:List DLine)++x_tags)+List.length ([DLine.mk x_g (w64 (Int.tdiv x_addr (8:Int))) (DShade.mk (List.getD v7 (Int.toNat (w64 (Int.tdiv x_addr (8:Int)))) default).There (List.getD v7 (Int.toNat (w64 (Int.tdiv x_addr (8:Int)))) default).Write (List.getD v7 (Int.toNat (w64 (Int.tdiv x_addr (8:Int)))) default).User (List.getD v7 (Int.toNat (w64 (Int.tdiv x_addr (8:Int)))) default).Page (List.getD v7 (Int.toNat (w64 (Int.tdiv x_addr (8:Int)))) default).Frame (List.getD v7 (Int.toNat (w64 (Int.tdiv x_addr (8:Int)))) default).Ready)]:List DLine))*48<=2^47/\List.length (([]:List DLine)++x_tags)+List.length ([DLine.mk x_g (w64 (Int.tdiv x_addr (8:Int))) (DShade.mk (List.getD v7 (Int.toNat (w64 (Int.tdiv x_addr (8:Int)))) default).There (List.getD v7 (Int.toNat (w64 (Int.tdiv x_addr (8:Int)))) default).Write (List.getD v7 (Int.toNat (w64 (Int.tdiv x_addr (8:Int)))) default).User (List.getD v7 (Int.toNat (w64 (Int.tdiv x_addr (8:Int)))) default).Page (List.getD v7 (Int.toNat (w64 (Int.tdiv x_addr (8:Int)))) default).Frame (List.getD v7 (Int.toNat (w64 (Int.tdiv x_addr (8:Int)))) default).Ready)]:List DLine)<=2^47) (cond (decide ((6:Int)<((List.length ((([]:List DLine)++x_tags)++([DLine.mk x_g (w64 (Int.tdiv x_addr (8:Int))) (DShade.mk (List.getD v7 (Int.toNat (w64 (Int.tdiv x_addr (8:Int)))) default).There (List.getD v7 (Int.toNat (w64 (Int.tdiv x_addr (8:Int)))) default).Write (List.getD v7 (Int.toNat (w64 (Int.tdiv x_addr (8:Int)))) default).User (List.getD v7 (Int.toNat (w64 (Int.tdiv x_addr (8:Int)))) default).Page (List.getD v7 (Int.toNat (w64 (Int.tdiv x_addr (8:Int)))) default).Frame (List.getD v7 (Int.toNat (w64 (Int.tdiv x_addr (8:Int)))) default).Ready)]:List DLine)):Nat):Int)))
   (grd ((0:Int)<=(1:Int)/\(1:Int)<=((List.length ((([]:List DLine)++x_tags)++([DLine.mk x_g (w64 (Int.tdiv x_addr (8:Int))) (DShade.mk (List.getD v7 (Int.toNat (w64 (Int.tdiv x_addr (8:Int)))) default).There (List.getD v7 (Int.toNat (w64 (Int.tdiv x_addr (8:Int)))) default).Write (List.getD v7 (Int.toNat (w64 (Int.tdiv x_addr (8:Int)))) default).User (List.getD v7 (Int.toNat (w64 (Int.tdiv x_addr (8:Int)))) default).Page (List.getD v7 (Int.toNat (w64 (Int.tdiv x_addr (8:Int)))) default).Frame (List.getD v7 (Int.toNat (w64 (Int.tdiv x_addr (8:Int)))) default).Ready)]:List DLine)):Nat):Int)/\((List.length ((([]:List DLine)++x_tags)++([DLine.mk x_g (w64 (Int.tdiv x_addr (8:Int))) (DShade.mk (List.getD v7 (Int.toNat (w64 (Int.tdiv x_addr (8:Int)))) default).There (List.getD v7 (Int.toNat (w64 (Int.tdiv x_addr (8:Int)))) default).Write (List.getD v7 (Int.toNat (w64 (Int.tdiv x_addr (8:Int)))) default).User (List.getD v7 (Int.toNat (w64 (Int.tdiv x_addr (8:Int)))) default).Page (List.getD v7 (Int.toNat (w64 (Int.tdiv x_addr (8:Int)))) default).Frame (List.getD v7 (Int.toNat (w64 (Int.tdiv x_addr (8:Int)))) default).Ready)]:List DLine)):Nat):Int)<=((List.length ((([]:List DLine)++x_tags)++([DLine.mk x_g (w64 (Int.tdiv x_addr (8:Int))) (DShade.mk (List.getD v7 (Int.toNat (w64 (Int.tdiv x_addr (8:Int)))) default).There (List.getD v7 (Int.toNat (w64 (Int.tdiv x_addr (8:Int)))) default).Write (List.getD v7 (Int.toNat (w64 (Int.tdiv x_addr (8:Int)))) default).User (List.getD v7 (Int.toNat (w64 (Int.tdiv x_addr (8:Int)))) default).Page (List.getD v7 (Int.toNat (w64 (Int.tdiv x_addr (8:Int)))) default).Frame (List.getD v7 (Int.toNat (w64 (Int.tdiv x_addr (8:Int)))) default).Ready)]:List DLine)):Nat):Int)) (some (.go ((List.take (Int.toNat ((List.length ((([]:List DLine)++x_tags)++([DLine.mk x_g (w64 (Int.tdiv x_addr (8:Int))) (DShade.mk (List.getD v7 (Int.toNat (w64 (Int.tdiv x_addr (8:Int)))) default).There (List.getD v7 (Int.toNat (w64 (Int.tdiv x_addr (8:Int)))) default).Write (List.getD v7 (Int.toNat (w64 (Int.tdiv x_addr (8:Int)))) default).User (List.getD v7 (Int.toNat (w64 (Int.tdiv x_addr (8:Int)))) default).Page (List.getD v7 (Int.toNat (w64 (Int.tdiv x_addr (8:Int)))) default).Frame (List.getD v7 (Int.toNat (w64 (Int.tdiv x_addr (8:Int)))) default).Ready)]:List DLine)):Nat):Int)-Int.toNat (1:Int)) (List.drop 1 ((([]:List DLine)++x_tags)++([DLine.mk x_g (w64 (Int.tdiv x_addr (8:Int))) (DShade.mk (List.getD v7 (Int.toNat (w64 (Int.tdiv x_addr (8:Int)))) default).There (List.getD v7 (Int.toNat (w64 (Int.tdiv x_addr (8:Int)))) default).Write (List.getD v7 (Int.toNat (w64 (Int.tdiv x_addr (8:Int)))) default).User (List.getD v7 (Int.toNat (w64 (Int.tdiv x_addr (8:Int)))) default).Page (List.getD v7 (Int.toNat (w64 (Int.tdiv x_addr (8:Int)))) default).Frame (List.getD v7 (Int.toNat (w64 (Int.tdiv x_addr (8:Int)))) default).Ready)]:List DLine)))),v7))))
   (some (.go (((([]:List DLine)++x_tags)++([DLine.mk x_g (w64 (Int.tdiv x_addr (8:Int))) (DShade.mk (List.getD v7 (Int.toNat (w64 (Int.tdiv x_addr (8:Int)))) default).There (List.getD v7 (Int.toNat (w64 (Int.tdiv x_addr (8:Int)))) default).Write (List.getD v7 (Int.toNat (w64 (Int.tdiv x_addr (8:Int)))) default).User (List.getD v7 (Int.toNat (w64 (Int.tdiv x_addr (8:Int)))) default).Page (List.getD v7 (Int.toNat (w64 (Int.tdiv x_addr (8:Int)))) default).Frame (List.getD v7 (Int.toNat (w64 (Int.tdiv x_addr (8:Int)))) default).Ready)]:List DLine)),v7))))))
  (some (.go ((([]:List DLine)++x_tags),s4.1)))) λj5=>
  JO.run j5 (mB x_addr x_user x_write)
noncomputable def mJ (s8:(List DShade)×Bool×Int)(s9:(List DShade)×Bool):Option (LO ((List DShade)×Bool×Int) (JO ((List DShade)×Bool) ((List DLine)×Int×Int))):=some (.next (s9.1,s9.2,w64 (s8.2.2+(1:Int))))
noncomputable def mK (x_tags:List DLine)(x_g:Int)(x_addr:Int)(s8:(List DShade)×Bool×Int):Option (LO ((List DShade)×Bool×Int) (JO ((List DShade)×Bool) ((List DLine)×Int×Int))):=
 cond (decide (s8.2.2<((List.length x_tags:Nat):Int)))
  (Option.bind (grd ((0:Int)<=s8.2.2/\s8.2.2<((List.length x_tags:Nat):Int)) (cond (decide ((List.getD x_tags (Int.toNat s8.2.2) default).Tag=x_g))
   (grd ((0:Int)<=s8.2.2/\s8.2.2<((List.length x_tags:Nat):Int)) (cond (decide ((List.getD x_tags (Int.toNat s8.2.2) default).At=(w64 (Int.tdiv x_addr (8:Int)))))
    (grd ((0:Int)<=s8.2.2/\s8.2.2<((List.length x_tags:Nat):Int)) (grd ((0:Int)<=(w64 (Int.tdiv x_addr (8:Int)))/\(w64 (Int.tdiv x_addr (8:Int)))<((List.length s8.1:Nat):Int)) (some (.go ((List.set s8.1 (Int.toNat (w64 (Int.tdiv x_addr (8:Int)))) (DShade.mk ((List.getD x_tags (Int.toNat s8.2.2) default).What).There ((List.getD x_tags (Int.toNat s8.2.2) default).What).Write ((List.getD x_tags (Int.toNat s8.2.2) default).What).User ((List.getD x_tags (Int.toNat s8.2.2) default).What).Page ((List.getD x_tags (Int.toNat s8.2.2) default).What).Frame ((List.getD x_tags (Int.toNat s8.2.2) default).What).Ready)),true)))))
    (some (.go (s8.1,s8.2.1)))))
   (some (.go (s8.1,s8.2.1))))) λj9=>
   JO.run j9 (mJ s8))
  (some (.ret (.go (s8.1,s8.2.1))))
noncomputable def qG (x_h:DHost)(x_tags:List DLine)(x_g:Int)(x_addr:Int)(x_user:Bool)(x_write:Bool):Option ((List DLine)×Int×Int):=
 Option.bind (sG x_h x_tags) λv1=>
 cond (!v1)
  (some (([]:List DLine),(-1:Int),(-1:Int)))
  (Option.bind (dI x_h x_g) λv2=>
  cond (!v2)
   (some (([]:List DLine),(-1:Int),(-1:Int)))
   (Option.bind (bU x_addr (0:Int) (63:Int)) λv3=>
   cond (!v3)
    (some (([]:List DLine),(-1:Int),(-1:Int)))
    (grd ((List.length ([]:List DLine)+List.length x_tags)*48<=2^47/\List.length ([]:List DLine)+List.length x_tags<=2^47) (Option.bind (Option.bind (iter (mK x_tags x_g x_addr) ((List.replicate (Int.toNat (8:Int)) (DShade.mk false false false (0:Int) (0:Int) false)),false,(0:Int))) LO.val) λj4=>
     JO.run j4 (yH x_h x_tags x_g x_addr x_user x_write)))))
noncomputable def bRl:Sg tG:=⟨[.st 26,.row 114,.i .i64,.i .i64,.b,.b],.three (.row 114) (.i .i64) (.i .i64),qG⟩
theorem bXc:Sok 137 bRl:=sgx [(173,.r bVh),(58,.r g58),(97,.r g97),(67,.r g67),(68,.r g68)] ⟨bXa,s58,s97,s67,s68,trivial⟩ (.s .o (.s .o (.s .o (.s .o (.s .o (.s .o (.j ⟨[2,3,4,5,6,15],[],[(.s 16,.ro 103),(.s 17,.b)]⟩ (.s .o (.k (.l ⟨[1,2,3,4,5,6,15],[],[(.s 16,.ro 103),(.s 17,.b),(.s 18,.i .i64)]⟩ (.s .o (.j ⟨[1,2,3,4,5,6,15,18],[],[(.s 16,.ro 103),(.s 17,.b)]⟩ .o .o))))) (.j ⟨[3,4,5],[],[(.s 15,.ro 114),(.s 16,.ro 103)]⟩ (.s .o (.c (.s .o (.s .o (.s .o (.c (.g [] [] [.ct 15]) .o)))) .o)) .o)))))))) kr kr kr
noncomputable def aEc  (s1:List Int):Option (List Int):=some s1
noncomputable def tR (s3:(List Int)×Int)(s4:List Int):Option (LO ((List Int)×Int) (JO (List Int) (List Int))):=some (.next (s4,w64 (s3.2+(1:Int))))
noncomputable def jM (v2:List Int)(s3:(List Int)×Int):Option (LO ((List Int)×Int) (JO (List Int) (List Int))):=
 cond (decide (s3.2<((List.length v2:Nat):Int)))
  (Option.bind (grd ((0:Int)<=s3.2/\s3.2<((List.length v2:Nat):Int)) (cond (decide ((List.getD v2 (Int.toNat s3.2) default)=(0:Int)))
   (grd ((List.length s3.1+List.length ([s3.2]:List Int))*8<=2^47/\List.length s3.1+List.length ([s3.2]:List Int)<=2^47) (some (.go (s3.1++([s3.2]:List Int)))))
   (some (.go s3.1)))) λj4=>
   JO.run j4 (tR s3))
  (some (.ret (.go s3.1)))
noncomputable def mD (x_guests:List DGuest):Option (List Int):=
 Option.bind (Option.bind (fT x_guests) λv2=>
  Option.bind (iter (jM v2) (([]:List Int),(0:Int))) LO.val) λj1=>
  JO.run j1 aEc
noncomputable def bSg:Sg tG:=⟨[.row 38],.one (.row 3),mD⟩
theorem bWo:Sok 193 bSg:=sgx [(91,.r g91)] ⟨s91,trivial⟩ (.s .o (.s .o (.j ⟨[],[],[(.s 3,.ro 3)]⟩ (.s .o (.k (.l ⟨[8,9],[],[(.s 3,.ro 3),(.s 10,.i .i64)]⟩ (.s .o (.s .o (.j ⟨[8,9,10],[],[(.s 3,.ro 3)]⟩ .o .o)))))) .o))) kr kr kr
noncomputable def aAc  (s1:List Int):Option (List Int):=some s1
noncomputable def aAi (s2:(List Int)×Int)(s3:List Int):Option (LO ((List Int)×Int) (JO (List Int) (List Int))):=some (.next (s3,w64 (s2.2+(1:Int))))
noncomputable def sS (s4:(List Int)×Int)(s5:List Int):Option (LO ((List Int)×Int) (JO (List Int) (LO ((List Int)×Int) (JO (List Int) (List Int))))):=some (.next (s5,w64 (s4.2+(1:Int))))
noncomputable def kE (x_h:DHost)(s2:(List Int)×Int)(s4:(List Int)×Int):Option (LO ((List Int)×Int) (JO (List Int) (LO ((List Int)×Int) (JO (List Int) (List Int))))):=
 grd ((0:Int)<=s2.2/\s2.2<((List.length x_h.Guests:Nat):Int)) (cond (decide (s4.2<((List.length (List.getD x_h.Guests (Int.toNat s2.2) default).Pages:Nat):Int)))
  (Option.bind (grd ((0:Int)<=s2.2/\s2.2<((List.length x_h.Guests:Nat):Int)) (grd ((0:Int)<=s4.2/\s4.2<((List.length (List.getD x_h.Guests (Int.toNat s2.2) default).Pages:Nat):Int)) (cond (decide ((0:Int)<=(List.getD (List.getD x_h.Guests (Int.toNat s2.2) default).Pages (Int.toNat s4.2) default).Frame))
   (grd ((0:Int)<=(List.getD (List.getD x_h.Guests (Int.toNat s2.2) default).Pages (Int.toNat s4.2) default).Frame/\(List.getD (List.getD x_h.Guests (Int.toNat s2.2) default).Pages (Int.toNat s4.2) default).Frame<((List.length s4.1:Nat):Int)) (grd ((0:Int)<=(List.getD (List.getD x_h.Guests (Int.toNat s2.2) default).Pages (Int.toNat s4.2) default).Frame/\(List.getD (List.getD x_h.Guests (Int.toNat s2.2) default).Pages (Int.toNat s4.2) default).Frame<((List.length s4.1:Nat):Int)) (some (.go (List.set s4.1 (Int.toNat (List.getD (List.getD x_h.Guests (Int.toNat s2.2) default).Pages (Int.toNat s4.2) default).Frame) (w64 ((List.getD s4.1 (Int.toNat (List.getD (List.getD x_h.Guests (Int.toNat s2.2) default).Pages (Int.toNat s4.2) default).Frame) default)+(1:Int))))))))
   (some (.go s4.1))))) λj5=>
   JO.run j5 (sS s4))
  (some (.ret (.go s4.1))))
noncomputable def nL (x_h:DHost)(s2:(List Int)×Int):Option (LO ((List Int)×Int) (JO (List Int) (List Int))):=
 cond (decide (s2.2<((List.length x_h.Guests:Nat):Int)))
  (Option.bind (Option.bind (iter (kE x_h s2) (s2.1,(0:Int))) LO.val) λj3=>
   JO.run j3 (aAi s2))
  (some (.ret (.go s2.1)))
noncomputable def kV (x_h:DHost):Option (List Int):=
 Option.bind (Option.bind (iter (nL x_h) ((List.replicate (Int.toNat (20:Int)) (0:Int)),(0:Int))) LO.val) λj1=>
  JO.run j1 aAc
noncomputable def g49:Sg tG:=⟨[.st 26],.one (.row 3),kV⟩
theorem s49:Sok 49 g49:=sgx [] trivial (.s .o (.s .o (.j ⟨[],[],[(.s 3,.ro 3)]⟩ (.s .o (.k (.l ⟨[1],[],[(.s 3,.ro 3),(.s 4,.i .i64)]⟩ (.s .o (.j ⟨[1,4],[],[(.s 3,.ro 3)]⟩ (.k (.s .o (.k (.l ⟨[1,4],[],[(.s 3,.ro 3),(.s 5,.i .i64)]⟩ (.s .o (.j ⟨[1,4,5],[],[(.s 3,.ro 3)]⟩ .o .o)))))) .o))))) .o))) kr kr kr
noncomputable def aIb  (s3:List Int):Option (List Int):=some s3
noncomputable def wU (s4:(List Int)×Int)(s5:List Int):Option (LO ((List Int)×Int) (JO (List Int) (List Int))):=some (.next (s5,w64 (s4.2+(1:Int))))
noncomputable def lI (v2:List Int)(s4:(List Int)×Int):Option (LO ((List Int)×Int) (JO (List Int) (List Int))):=
 cond (decide (s4.2<(20:Int)))
  (Option.bind (grd ((0:Int)<=s4.2/\s4.2<((List.length v2:Nat):Int)) (cond (decide ((List.getD v2 (Int.toNat s4.2) default)=(0:Int)))
   (grd ((List.length s4.1+List.length ([s4.2]:List Int))*8<=2^47/\List.length s4.1+List.length ([s4.2]:List Int)<=2^47) (some (.go (s4.1++([s4.2]:List Int)))))
   (some (.go s4.1)))) λj5=>
   JO.run j5 (wU s4))
  (some (.ret (.go s4.1)))
noncomputable def iX (x_h:DHost):Option (List Int):=
 Option.bind (jD x_h) λv1=>
 cond (!v1)
  (some ([]:List Int))
  (Option.bind (kV x_h) λv2=>
  Option.bind (Option.bind (iter (lI v2) (([]:List Int),(0:Int))) LO.val) λj3=>
   JO.run j3 aIb)
noncomputable def g90:Sg tG:=⟨[.st 26],.one (.row 3),iX⟩
theorem s90:Sok 90 g90:=sgx [(47,.r g47),(49,.r g49)] ⟨s47,s49,trivial⟩ (.s .o (.s .o (.s .o (.s .o (.j ⟨[],[],[(.s 3,.ro 3)]⟩ (.s .o (.k (.l ⟨[4],[],[(.s 3,.ro 3),(.s 5,.i .i64)]⟩ (.s .o (.j ⟨[4,5],[],[(.s 3,.ro 3)]⟩ .o .o))))) .o))))) kr kr kr
noncomputable def wW (x_b:DBare)(v3:DHost)(s4:Int)(v6:DCore)(s7:(List Int)×(List DSlot)):Option (DHost×Int×Bool):=
 cond (decide (s4<(0:Int)))
  (some ((DHost.mk ([]:List Int) ([]:List DGuest)),(-1:Int),false))
  (grd ((0:Int)<=s4/\s4<((List.length v3.Guests:Nat):Int)) (some ((DHost.mk s7.1 (List.set v3.Guests (Int.toNat s4) (DGuest.mk true v6 s7.2 x_b.In x_b.Out))),s4,true)))
noncomputable def pK (s8:(List Int)×(List Int)×(List DSlot)×Int)(s9:(List Int)×(List Int)×(List DSlot)):Option (LO ((List Int)×(List Int)×(List DSlot)×Int) (JO ((List Int)×(List DSlot)) (DHost×Int×Bool))):=some (.next (s9.1,s9.2.1,s9.2.2,w64 (s8.2.2.2+(1:Int))))
noncomputable def uS (x_b:DBare)(s8:(List Int)×(List Int)×(List DSlot)×Int)(s10:Bool):Option (JO ((List Int)×(List Int)×(List DSlot)) (LO ((List Int)×(List Int)×(List DSlot)×Int) (JO ((List Int)×(List DSlot)) (DHost×Int×Bool)))):=
 cond s10
  (grd ((List.length s8.2.2.1+List.length ([DSlot.mk (-1:Int) false false]:List DSlot))*16<=2^47/\List.length s8.2.2.1+List.length ([DSlot.mk (-1:Int) false false]:List DSlot)<=2^47) (some (.go (s8.1,s8.2.1,s8.2.2.1++([DSlot.mk (-1:Int) false false]:List DSlot)))))
  (cond (decide (((List.length s8.2.1:Nat):Int)=(0:Int)))
   (some (.out (.ret (.out ((DHost.mk ([]:List Int) ([]:List DGuest)),(-1:Int),false)))))
   (grd ((0:Int)<=(0:Int)/\(0:Int)<((List.length s8.2.1:Nat):Int)) (grd ((0:Int)<=(w64 ((List.getD s8.2.1 (Int.toNat (0:Int)) default)*(8:Int)))/\(w64 ((List.getD s8.2.1 (Int.toNat (0:Int)) default)*(8:Int)))<=((List.length s8.1:Nat):Int)/\((List.length s8.1:Nat):Int)<=((List.length s8.1:Nat):Int)) (grd ((0:Int)<=(0:Int)/\(0:Int)<((List.length s8.2.1:Nat):Int)) (grd ((List.length s8.2.2.1+List.length ([DSlot.mk (List.getD s8.2.1 (Int.toNat (0:Int)) default) true false]:List DSlot))*16<=2^47/\List.length s8.2.2.1+List.length ([DSlot.mk (List.getD s8.2.1 (Int.toNat (0:Int)) default) true false]:List DSlot)<=2^47) (grd ((0:Int)<=(1:Int)/\(1:Int)<=((List.length s8.2.1:Nat):Int)/\((List.length s8.2.1:Nat):Int)<=((List.length s8.2.1:Nat):Int)) (some (.go ((over s8.1 (Int.toNat (w64 ((List.getD s8.2.1 (Int.toNat (0:Int)) default)*(8:Int)))) (Int.toNat ((List.length s8.1:Nat):Int)-Int.toNat (w64 ((List.getD s8.2.1 (Int.toNat (0:Int)) default)*(8:Int)))) (List.take (Int.toNat (w64 ((w64 (s8.2.2.2+(1:Int)))*(8:Int)))-Int.toNat (w64 (s8.2.2.2*(8:Int)))) (List.drop (Int.toNat (w64 (s8.2.2.2*(8:Int)))) x_b.Mem))),List.take (Int.toNat ((List.length s8.2.1:Nat):Int)-Int.toNat (1:Int)) (List.drop (Int.toNat (1:Int)) s8.2.1),s8.2.2.1++([DSlot.mk (List.getD s8.2.1 (Int.toNat (0:Int)) default) true false]:List DSlot))))))))))
noncomputable def oK (s11:Bool×Int)(s12:Bool):Option (LO (Bool×Int) (JO Bool (JO ((List Int)×(List Int)×(List DSlot)) (LO ((List Int)×(List Int)×(List DSlot)×Int) (JO ((List Int)×(List DSlot)) (DHost×Int×Bool)))))):=some (.next (s12,w64 (s11.2+(1:Int))))
noncomputable def gT (x_b:DBare)(s8:(List Int)×(List Int)×(List DSlot)×Int)(s11:Bool×Int):Option (LO (Bool×Int) (JO Bool (JO ((List Int)×(List Int)×(List DSlot)) (LO ((List Int)×(List Int)×(List DSlot)×Int) (JO ((List Int)×(List DSlot)) (DHost×Int×Bool)))))):=
 cond (decide (s11.2<(8:Int)))
  (Option.bind (cond s11.1
   (grd ((0:Int)<=s11.2/\s11.2<((List.length (List.take (Int.toNat (w64 ((w64 (s8.2.2.2+(1:Int)))*(8:Int)))-Int.toNat (w64 (s8.2.2.2*(8:Int)))) (List.drop (Int.toNat (w64 (s8.2.2.2*(8:Int)))) x_b.Mem)):Nat):Int)) (some (.go (decide ((List.getD (List.take (Int.toNat (w64 ((w64 (s8.2.2.2+(1:Int)))*(8:Int)))-Int.toNat (w64 (s8.2.2.2*(8:Int)))) (List.drop (Int.toNat (w64 (s8.2.2.2*(8:Int)))) x_b.Mem)) (Int.toNat s11.2) default)=(0:Int))))))
   (some (.go false))) λj12=>
   JO.run j12 (oK s11))
  (some (.ret (.go s11.1)))
noncomputable def fS (x_b:DBare)(s4:Int)(s8:(List Int)×(List Int)×(List DSlot)×Int):Option (LO ((List Int)×(List Int)×(List DSlot)×Int) (JO ((List Int)×(List DSlot)) (DHost×Int×Bool))):=
 cond (decide (s8.2.2.2<(8:Int)))
  (cond (decide ((0:Int)<=s4))
   (Option.bind (grd ((0:Int)<=(w64 (s8.2.2.2*(8:Int)))/\(w64 (s8.2.2.2*(8:Int)))<=(w64 ((w64 (s8.2.2.2+(1:Int)))*(8:Int)))/\(w64 ((w64 (s8.2.2.2+(1:Int)))*(8:Int)))<=((List.length x_b.Mem:Nat):Int)) (Option.bind (Option.bind (iter (gT x_b s8) (true,(0:Int))) LO.val) λj10=>
    JO.run j10 (uS x_b s8))) λj9=>
    JO.run j9 (pK s8))
   (some (.ret (.go (s8.1,s8.2.2.1)))))
  (some (.ret (.go (s8.1,s8.2.2.1))))
noncomputable def xD (x_h:DHost)(x_b:DBare)(v3:DHost)(s4:Int):Option (DHost×Int×Bool):=
 Option.bind (iX x_h) λv5=>
 Option.bind (jC x_b.C) λv6=>
 grd (List.length x_b.In*8<=2^47/\List.length x_b.In<=2^47) (grd (List.length x_b.Out*8<=2^47/\List.length x_b.Out<=2^47) (Option.bind (Option.bind (iter (fS x_b s4) (v3.Words,v5,([]:List DSlot),(0:Int))) LO.val) λj7=>
  JO.run j7 (wW x_b v3 s4 v6)))
noncomputable def uQ (s13:Int×Int)(s14:Int):Option (LO (Int×Int) (JO Int (DHost×Int×Bool))):=some (.next (s14,w64 (s13.2-(1:Int))))
noncomputable def fE (x_h:DHost)(s13:Int×Int):Option (LO (Int×Int) (JO Int (DHost×Int×Bool))):=
 cond (decide ((0:Int)<=s13.2))
  (Option.bind (grd ((0:Int)<=s13.2/\s13.2<((List.length x_h.Guests:Nat):Int)) (cond (!(List.getD x_h.Guests (Int.toNat s13.2) default).Live)
   (some (.go s13.2))
   (some (.go s13.1)))) λj14=>
   JO.run j14 (uQ s13))
  (some (.ret (.go s13.1)))
noncomputable def oO (x_h:DHost)(x_b:DBare):Option (DHost×Int×Bool):=
 Option.bind (jD x_h) λv1=>
 cond (!v1)
  (some ((DHost.mk ([]:List Int) ([]:List DGuest)),(-1:Int),false))
  (Option.bind (sF x_b) λv2=>
  cond (!v2)
   (some ((DHost.mk ([]:List Int) ([]:List DGuest)),(-1:Int),false))
   (Option.bind (eR x_h) λv3=>
   Option.bind (Option.bind (iter (fE x_h) ((-1:Int),(2:Int))) LO.val) λj4=>
    JO.run j4 (xD x_h x_b v3)))
noncomputable def bRw:Sg tG:=⟨[.st 26,.st 47],.three (.st 2026) (.i .i64) .b,oO⟩
theorem bXl:Sok 136 bRw:=sgx [(47,.r g47),(172,.r bVj),(48,.r g48),(90,.r g90),(143,.r bGe)] ⟨s47,bYp,s48,s90,bMq,trivial⟩ (.s .o (.s .o (.s .o (.s .o (.j ⟨[2,3,4,7],[],[(.s 8,.i .i64)]⟩ (.s .o (.k (.l ⟨[2,3,4,7],[],[(.s 8,.i .i64),(.s 9,.i .i64)]⟩ (.s .o (.j ⟨[2,3,4,7,9],[],[(.s 8,.i .i64)]⟩ .o .o))))) (.s .o (.s (.g [.fr (.s 10) 0] [] []) (.j ⟨[4,7,8,11],[],[(.c 7 0,.ro 3),(.c 11 14,.ro 53)]⟩ (.s .o (.k (.l ⟨[3,4,7,8,11],[],[(.c 7 0,.ro 3),(.s 10,.rb 3),(.c 11 14,.ro 53),(.s 12,.i .i64)]⟩ (.s .o (.j ⟨[3,4,7,8,11,12],[],[(.c 7 0,.ro 3),(.s 10,.rb 3),(.c 11 14,.ro 53)]⟩ (.k (.s .o (.s .o (.j ⟨[3,4,7,8,10,11,12,13],[],[(.s 14,.b)]⟩ (.s .o (.k (.l ⟨[3,4,7,8,10,11,12,13],[],[(.s 14,.b),(.s 15,.i .i64)]⟩ (.s .o (.j ⟨[3,4,7,8,10,11,12,13,15],[],[(.s 14,.b)]⟩ .o .o))))) .o)))) .o))))) (.s .o (.s (.g [] [] [.fo (.c 7 1) 0]) .o)))))))))) kr kr kr
theorem aLw:LW 39 ⟨11,[.tmp 2],.seq (.reg false (rg 39 0)) (.seq (.seq (.reg false (rg 39 1)) (.cond (.t 5) (.reg false (rg 39 2)) .skip)) (.seq (.reg false (rg 39 3)) .ret))⟩:=kr
noncomputable def rI  (s1:List Int):Option Dl20Rd:=some (Dl20Rd.mk s1 (0:Int))
noncomputable def jW (x_code:List Int):Option Dl20Rd:=
 Option.bind (cond (decide ((2000:Int)<((List.length x_code:Nat):Int)))
  (grd ((0:Int)<=(0:Int)/\(0:Int)<=(2000:Int)/\(2000:Int)<=((List.length x_code:Nat):Int)) (some (.go (List.take (Int.toNat (2000:Int)-Int.toNat (0:Int)) (List.drop (Int.toNat (0:Int)) x_code)))))
  (some (.go x_code))) λj1=>
  JO.run j1 rI
theorem aOq{x_code:List Int}{R_:Dl20Rd}(hh:jW x_code=some R_):Inl Tryz.prog 39 [bo (eI .u8) x_code] [] 0 (pp 0) [(0,some ⟨118,[bo (eI .u8) R_.b,.int .i64 R_.p]⟩)] 1:=by let z3:=(0,bo (eI .u8) x_code);let z4:=(5,bb (decide ((2000:Int)<((List.length x_code:Nat):Int))));let z1:=List.drop (Int.toNat (0:Int)) x_code;let z2:=List.take (Int.toNat (2000:Int)-Int.toNat (0:Int)) z1;unfold jW at hh;refine Inl.start aLw [0] [] (E:=sp 11 [z3]) (H1:=[]) kr kr (sy [0] [] (sp 11 [z3]) [] 0 ?_);obtain⟨j1,hh,hk1⟩:=bind_some hh;refine Aw.join (S:=(List Int)) (λs1=>sp 11 [(0,bo (eI .u8) s1)]) (λs1=>[]) 0 (λs1=>rI s1=some R_) ?_ ?_;{intro s1 hh;unfold rI at hh;refine Aw.sreg [2] [0] ?_;let q1:Root:=⟨118,[bo (eI .u8) s1,ii 0]⟩;refine yt (sp 11 [(2,pp 0)]) [(0,some q1)] 1 (Aw.ret ?_);rw[bM hh];exact lN (r':=pp 0) kr (el [some 0] (aDe (aDv dd rfl)) (hq q1 rz dE))};intro Q1 hN1 hR1 hE1;refine sy [0,5] [] (sp 11 [z3,z4]) [] 0 ?_;rcases zJ hh with⟨hb,hh⟩|⟨hb,hh⟩;{refine cF hb (Aw.skip ?_);obtain rfl:=bM hh;exact hN1 x_code _ _ _ hk1 (el [] (tK kr (ro bY aHs)) dE)};refine cT hb (Aw.oreg (yu 1 [(6,bo (eI .u8) x_code)] [] 0 ?_));obtain⟨hg6,hh⟩:=aQ hh;refine ys (.slc 1 (.t 6) none (some (.c (ii 2000)))) (some 7) (bJo (c:=(eI .u8)) (xs:=x_code) (l:=(0:Int)) (h:=(2000:Int)) bK kr kr kr hg6 ?_);refine ye (sp 11 [(0,bo (eI .u8) z2),z4,(6,bo (eI .u8) x_code),(7,bo (eI .u8) z2)]) [] 0 ?_;obtain rfl:=bM hh;exact hN1 z2 _ _ _ hk1 (el [] (tK kr (ro bY aHs)) dE)
noncomputable def g39:So tG:=⟨[.row 5],118,jW⟩
theorem s39:Sop 39 g39:=λx_code R_ hh=>kc (aOq (x_code:=x_code) hh)
noncomputable def aA (x_r:Dl20Rd)(x_n:Int):Option (Dl20Rd×Int):=
 cond (decide (x_n<(1:Int)))
  (some ((Dl20Rd.mk x_r.b (w64 (x_r.p+(1:Int)))),(0:Int)))
  (cond (decide (((List.length x_r.b:Nat):Int)=(0:Int)))
   (some ((Dl20Rd.mk x_r.b (w64 (x_r.p+(1:Int)))),(0:Int)))
   (cond (decide ((w64 ((w64 (x_r.p+(1:Int)))-(1:Int)))<((List.length x_r.b:Nat):Int)))
    (grd ((0:Int)<=(w64 ((w64 (x_r.p+(1:Int)))-(1:Int)))/\(w64 ((w64 (x_r.p+(1:Int)))-(1:Int)))<((List.length x_r.b:Nat):Int)) (grd (x_n≠0) (some ((Dl20Rd.mk x_r.b (w64 (x_r.p+(1:Int)))),Int.tmod (IntKind.wrap .i64 (List.getD x_r.b (Int.toNat (w64 ((w64 (x_r.p+(1:Int)))-(1:Int)))) default)) x_n))))
    (grd (((List.length x_r.b:Nat):Int)≠0) (grd ((0:Int)<=(Int.tmod (w64 ((w64 (x_r.p+(1:Int)))-(1:Int))) ((List.length x_r.b:Nat):Int))/\(Int.tmod (w64 ((w64 (x_r.p+(1:Int)))-(1:Int))) ((List.length x_r.b:Nat):Int))<((List.length x_r.b:Nat):Int)) (grd (((List.length x_r.b:Nat):Int)≠0) (grd ((0:Int)<=(Int.tmod (w64 ((w64 ((w64 ((w64 (x_r.p+(1:Int)))-(1:Int)))*(7:Int)))+(3:Int))) ((List.length x_r.b:Nat):Int))/\(Int.tmod (w64 ((w64 ((w64 ((w64 (x_r.p+(1:Int)))-(1:Int)))*(7:Int)))+(3:Int))) ((List.length x_r.b:Nat):Int))<((List.length x_r.b:Nat):Int)) (grd (((List.length x_r.b:Nat):Int)≠0) (grd (x_n≠0) (some ((Dl20Rd.mk x_r.b (w64 (x_r.p+(1:Int)))),Int.tmod (bits .xor .i64 (w64 ((w64 ((w64 ((w64 ((IntKind.wrap .i64 (List.getD x_r.b (Int.toNat (Int.tmod (w64 ((w64 (x_r.p+(1:Int)))-(1:Int))) ((List.length x_r.b:Nat):Int))) default))*(131:Int)))+(w64 ((IntKind.wrap .i64 (List.getD x_r.b (Int.toNat (Int.tmod (w64 ((w64 ((w64 ((w64 (x_r.p+(1:Int)))-(1:Int)))*(7:Int)))+(3:Int))) ((List.length x_r.b:Nat):Int))) default))*(1117:Int)))))+(w64 ((w64 ((w64 (x_r.p+(1:Int)))-(1:Int)))*(29:Int)))))+(w64 ((w64 (Int.tdiv (w64 ((w64 (x_r.p+(1:Int)))-(1:Int))) ((List.length x_r.b:Nat):Int)))*(53:Int))))) (w64 (Int.tdiv (w64 ((w64 ((w64 ((w64 ((IntKind.wrap .i64 (List.getD x_r.b (Int.toNat (Int.tmod (w64 ((w64 (x_r.p+(1:Int)))-(1:Int))) ((List.length x_r.b:Nat):Int))) default))*(131:Int)))+(w64 ((IntKind.wrap .i64 (List.getD x_r.b (Int.toNat (Int.tmod (w64 ((w64 ((w64 ((w64 (x_r.p+(1:Int)))-(1:Int)))*(7:Int)))+(3:Int))) ((List.length x_r.b:Nat):Int))) default))*(1117:Int)))))+(w64 ((w64 ((w64 (x_r.p+(1:Int)))-(1:Int)))*(29:Int)))))+(w64 ((w64 (Int.tdiv (w64 ((w64 (x_r.p+(1:Int)))-(1:Int))) ((List.length x_r.b:Nat):Int)))*(53:Int))))) (64:Int)))) x_n))))))))))
noncomputable def g57:Sw tG:=⟨[.pt 118,.v (.i .i64)],.one (.i .i64),aA⟩
theorem s57:Sjk 57 g57:=sgy [] trivial .o kr kr kr
noncomputable def bX (x_r:Dl20Rd)(x_n:Int):Option (Dl20Rd×Bool):=
 cond (decide ((0:Int)<x_n))
  (Option.bind (aA x_r x_n) λv1=>
  some (v1.1,decide (v1.2=(w64 (x_n-(1:Int))))))
  (some (x_r,false))
noncomputable def aLu:Sw tG:=⟨[.pt 118,.v (.i .i64)],.one .b,bX⟩
theorem aQq:Sjk 101 aLu:=sgy [(57,.w g57)] ⟨s57,trivial⟩ .o kr kr kr
noncomputable def dD (x_r:Dl20Rd):Option (Dl20Rd×Int):=
 Option.bind (aA x_r (16:Int)) λv1=>
 Option.bind (aA v1.1 (256:Int)) λv2=>
 some (v2.1,w64 ((w64 (v1.2*(256:Int)))+v2.2))
noncomputable def aYf:Sw tG:=⟨[.pt 118],.one (.i .i64),dD⟩
theorem bGg:Sjk 134 aYf:=sgy [(57,.w g57)] ⟨s57,trivial⟩ .o kr kr kr
noncomputable def aGy  (s4:Int):Option Int:=some s4
noncomputable def aGw (x_e:DEntry)(s3:Int):Option Int:=
 Option.bind (cond x_e.User
  (some (.go (w64 (s3+(4:Int)))))
  (some (.go s3))) λj4=>
  JO.run j4 aGy
noncomputable def aGx (x_e:DEntry)(s2:Int):Option Int:=
 Option.bind (cond x_e.Write
  (some (.go (w64 (s2+(2:Int)))))
  (some (.go s2))) λj3=>
  JO.run j3 (aGw x_e)
noncomputable def dP (x_e:DEntry):Option Int:=
 Option.bind (bU x_e.Page (0:Int) (7:Int)) λv1=>
 cond (!v1)
  (some (-1:Int))
  (Option.bind (cond x_e.There
   (some (.go (w64 ((w64 (x_e.Page*(8:Int)))+(1:Int)))))
   (some (.go (w64 (x_e.Page*(8:Int)))))) λj2=>
   JO.run j2 (aGx x_e))
noncomputable def bNs:Sg tG:=⟨[.st 139],.one (.i .i64),dP⟩
theorem bTn:Sok 189 bNs:=sgx [(97,.r g97)] ⟨s97,trivial⟩ (.s .o (.s .o (.s .o (.j ⟨[1],[],[(.s 3,.i .i64)]⟩ .o (.j ⟨[1],[],[(.s 3,.i .i64)]⟩ .o (.j ⟨[],[],[(.s 3,.i .i64)]⟩ .o .o)))))) kr kr kr
noncomputable def aNi  (s2:(List Int)×Int×(List Int)):Option (Dl20Rd×(List Int)):=some ((Dl20Rd.mk s2.1 s2.2.1),s2.2.2)
noncomputable def zO (x_n:Int)(s1:(List Int)×Int×(List Int)):Option (Dl20Rd×(List Int)):=
 Option.bind (Option.bind (bX (Dl20Rd.mk s1.1 s1.2.1) x_n) λv3=>
  cond v3.2
   (Option.bind (aA v3.1 (2:Int)) λv4=>
   cond (decide (v4.2=(0:Int)))
    (grd ((0:Int)<=(0:Int)/\(0:Int)<=(63:Int)/\(63:Int)<=((List.length s1.2.2:Nat):Int)) (some (.go (v4.1.b,v4.1.p,List.take (Int.toNat (63:Int)-Int.toNat (0:Int)) s1.2.2))))
    (Option.bind (aA v4.1 (64:Int)) λv5=>
    Option.bind (aA v5.1 (2:Int)) λv6=>
    grd ((0:Int)<=v5.2/\v5.2<((List.length s1.2.2:Nat):Int)) (some (.go (v6.1.b,v6.1.p,List.set s1.2.2 (Int.toNat v5.2) (w64 ((4096:Int)-(w64 (v6.2*(4097:Int))))))))))
   (some (.go (v3.1.b,v3.1.p,s1.2.2)))) λj2=>
  JO.run j2 aNi
noncomputable def aAh (s7:(List Int)×Int×(List Int)×Int)(s9:(List Int)×Int×Int):Option (LO ((List Int)×Int×(List Int)×Int) (JO ((List Int)×Int×(List Int)) (Dl20Rd×(List Int)))):=grd ((List.length s7.2.2.1+List.length ([s9.2.2]:List Int))*8<=2^47/\List.length s7.2.2.1+List.length ([s9.2.2]:List Int)<=2^47) (some (.next (s9.1,s9.2.1,s7.2.2.1++([s9.2.2]:List Int),w64 (s7.2.2.2+(1:Int)))))
noncomputable def aAr (s7:(List Int)×Int×(List Int)×Int)(s8:(List Int)×Int×Int):Option (LO ((List Int)×Int×(List Int)×Int) (JO ((List Int)×Int×(List Int)) (Dl20Rd×(List Int)))):=
 Option.bind (cond (decide ((w64 (Int.tdiv s7.2.2.2 (8:Int)))=(1:Int)))
  (Option.bind (aA (Dl20Rd.mk s8.1 s8.2.1) (5:Int)) λv10=>
  Option.bind (aA v10.1 (4:Int)) λv11=>
  Option.bind (aA v11.1 (3:Int)) λv12=>
  Option.bind (aA v12.1 (8:Int)) λv13=>
  Option.bind (dP (DEntry.mk (decide ((0:Int)<v10.2)) (decide ((0:Int)<v11.2)) (decide ((0:Int)<v12.2)) v13.2)) λv14=>
  some (.go (v13.1.b,v13.1.p,v14)))
  (cond (decide ((w64 (Int.tdiv s7.2.2.2 (8:Int)))=(2:Int)))
   (Option.bind (aA (Dl20Rd.mk s8.1 s8.2.1) (5:Int)) λv15=>
   Option.bind (aA v15.1 (4:Int)) λv16=>
   Option.bind (aA v16.1 (3:Int)) λv17=>
   Option.bind (aA v17.1 (8:Int)) λv18=>
   Option.bind (dP (DEntry.mk (decide ((0:Int)<v15.2)) (decide ((0:Int)<v16.2)) (decide ((0:Int)<v17.2)) v18.2)) λv19=>
   some (.go (v18.1.b,v18.1.p,v19)))
   (some (.go (s8.1,s8.2.1,s8.2.2))))) λj9=>
  JO.run j9 (aAh s7)
noncomputable def sM  (s7:(List Int)×Int×(List Int)×Int):Option (LO ((List Int)×Int×(List Int)×Int) (JO ((List Int)×Int×(List Int)) (Dl20Rd×(List Int)))):=
 cond (decide (s7.2.2.2<(64:Int)))
  (Option.bind (Option.bind (aA (Dl20Rd.mk s7.1 s7.2.1) (2:Int)) λv20=>
   cond (decide (v20.2=(0:Int)))
    (Option.bind (dD v20.1) λv21=>
    some (.go (v21.1.b,v21.1.p,v21.2)))
    (some (.go (v20.1.b,v20.1.p,(0:Int))))) λj8=>
   JO.run j8 (aAr s7))
  (some (.ret (.go (s7.1,s7.2.1,s7.2.2.1))))
noncomputable def oC (x_r:Dl20Rd)(x_n:Int):Option (Dl20Rd×(List Int)):=
 Option.bind (Option.bind (iter sM (x_r.b,x_r.p,([]:List Int),(0:Int))) LO.val) λj1=>
  JO.run j1 (zO x_n)
noncomputable def bLe:Sw tG:=⟨[.pt 118,.v (.i .i64)],.one (.row 3),oC⟩
theorem bTo:Sjk 171 bLe:=sgy [(57,.w g57),(134,.w aYf),(189,.r bNs),(101,.w aLu)] ⟨s57,bGg,bTn,aQq,trivial⟩ (.s .o (.s .o (.j ⟨[0,1],[],[(.c 0 0,.rb 5),(.c 0 1,.i .i64),(.s 5,.ro 3)]⟩ (.s .o (.k (.l ⟨[0,1],[],[(.c 0 0,.rb 5),(.c 0 1,.i .i64),(.s 5,.ro 3),(.s 6,.i .i64)]⟩ (.s .o (.s (.k (.s .o (.j ⟨[0,1,5,6],[],[(.c 0 0,.rb 5),(.c 0 1,.i .i64),(.s 7,.i .i64)]⟩ .o (.j ⟨[0,1,5,6],[],[(.c 0 0,.rb 5),(.c 0 1,.i .i64),(.s 7,.i .i64)]⟩ .o .o)))) .o))))) (.j ⟨[],[0],[(.d 0 0,.rb 5),(.d 0 1,.i .i64),(.s 5,.ro 3)]⟩ .o .o)))) kr kr kr
noncomputable def mT:Option Bool:=
 Option.bind (fK (5:Int)) λv1=>
 cond v1
  (Option.bind (fK (-1:Int)) λv2=>
  some (!v2))
  (some false)
noncomputable def g18:Sg tG:=⟨[],.one .b,mT⟩
theorem s18:Sok 18 g18:=sgx [(55,.r g55)] ⟨s55,trivial⟩ .o kr kr kr
noncomputable def pO (x_i:DIns):Option Bool:=
 Option.bind (bU x_i.Op (0:Int) (15:Int)) λv1=>
 cond v1
  (Option.bind (bU x_i.A (0:Int) (3:Int)) λv2=>
  cond v2
   (Option.bind (bU x_i.N (0:Int) (63:Int)) λv3=>
   some v3)
   (some false))
  (some false)
noncomputable def bNh:Sg tG:=⟨[.st 89],.one .b,pO⟩
theorem bSw:Sok 100 bNh:=sgx [(97,.r g97)] ⟨s97,trivial⟩ .o kr kr kr
noncomputable def aHx (v3:Dl20Rd×Int)(v4:Dl20Rd×Int)(v5:Dl20Rd×Int)(v6:Dl20Rd×Int)(v7:Dl20Rd×Int)(v8:Dl20Rd×Int)(v9:Dl20Rd×Int)(v10:Dl20Rd×Int)(v11:Dl20Rd×Int)(v12:Dl20Rd×Int)(v13:Dl20Rd×Int)(s15:(List Int)×Int×(List Int)×Int×Int):Option (Dl20Rd×DCore):=some ((Dl20Rd.mk s15.1 s15.2.1),DCore.mk s15.2.2.1 s15.2.2.2.1 s15.2.2.2.2 (w64 ((24:Int)+v3.2)) v4.2 (decide (v9.2=(0:Int))) v5.2 v6.2 (w64 (v7.2*v8.2)) (decide (v10.2=(0:Int))) (decide (v11.2=(0:Int))) (decide (v12.2=(0:Int))) (decide (v13.2=(0:Int))))
noncomputable def wJ (x_n:Int)(v1:Dl20Rd×Int)(v2:Dl20Rd×Int)(v3:Dl20Rd×Int)(v4:Dl20Rd×Int)(v5:Dl20Rd×Int)(v6:Dl20Rd×Int)(v7:Dl20Rd×Int)(v8:Dl20Rd×Int)(v9:Dl20Rd×Int)(v10:Dl20Rd×Int)(v11:Dl20Rd×Int)(v12:Dl20Rd×Int)(v13:Dl20Rd×Int)(s14:(List Int)×Int×(List Int)):Option (Dl20Rd×DCore):=
 Option.bind (Option.bind (bX (Dl20Rd.mk s14.1 s14.2.1) x_n) λv16=>
  cond v16.2
   (Option.bind (aA v16.1 (4:Int)) λv17=>
   cond (decide (v17.2=(0:Int)))
    (grd ((0:Int)<=(0:Int)/\(0:Int)<=(3:Int)/\(3:Int)<=((List.length s14.2.2:Nat):Int)) (some (.go (v17.1.b,v17.1.p,List.take (Int.toNat (3:Int)-Int.toNat (0:Int)) s14.2.2,v1.2,List.getD ([(-1:Int),(1:Int),(2:Int)]:List Int) (Int.toNat v2.2) default))))
    (cond (decide (v17.2=(1:Int)))
     (Option.bind (aA v17.1 (2:Int)) λv18=>
     some (.go (v18.1.b,v18.1.p,s14.2.2,w64 ((64:Int)-(w64 (v18.2*(65:Int)))),List.getD ([(-1:Int),(1:Int),(2:Int)]:List Int) (Int.toNat v2.2) default)))
     (cond (decide (v17.2=(2:Int)))
      (Option.bind (aA v17.1 (2:Int)) λv19=>
      some (.go (v19.1.b,v19.1.p,s14.2.2,v1.2,w64 ((8:Int)-(w64 (v19.2*(10:Int)))))))
      (Option.bind (aA v17.1 (4:Int)) λv20=>
      grd ((0:Int)<=v20.2/\v20.2<((List.length s14.2.2:Nat):Int)) (some (.go (v20.1.b,v20.1.p,List.set s14.2.2 (Int.toNat v20.2) (-1:Int),v1.2,List.getD ([(-1:Int),(1:Int),(2:Int)]:List Int) (Int.toNat v2.2) default)))))))
   (some (.go (v16.1.b,v16.1.p,s14.2.2,v1.2,List.getD ([(-1:Int),(1:Int),(2:Int)]:List Int) (Int.toNat v2.2) default)))) λj15=>
  JO.run j15 (aHx v3 v4 v5 v6 v7 v8 v9 v10 v11 v12 v13)
noncomputable def pR  (s21:(List Int)×Int×(List Int)×Int):Option (LO ((List Int)×Int×(List Int)×Int) (JO ((List Int)×Int×(List Int)) (Dl20Rd×DCore))):=
 cond (decide (s21.2.2.2<(4:Int)))
  (Option.bind (aA (Dl20Rd.mk s21.1 s21.2.1) (64:Int)) λv22=>
  Option.bind (aA v22.1 (16:Int)) λv23=>
  Option.bind (dD v23.1) λv24=>
  Option.bind (aA v24.1 (3:Int)) λv25=>
  grd ((0:Int)<=v25.2/\v25.2<((List.length ([v22.2,v23.2,v24.2]:List Int):Nat):Int)) (grd ((List.length s21.2.2.1+List.length ([List.getD ([v22.2,v23.2,v24.2]:List Int) (Int.toNat v25.2) default]:List Int))*8<=2^47/\List.length s21.2.2.1+List.length ([List.getD ([v22.2,v23.2,v24.2]:List Int) (Int.toNat v25.2) default]:List Int)<=2^47) (some (.next (v25.1.b,v25.1.p,s21.2.2.1++([List.getD ([v22.2,v23.2,v24.2]:List Int) (Int.toNat v25.2) default]:List Int),w64 (s21.2.2.2+(1:Int)))))))
  (some (.ret (.go (s21.1,s21.2.1,s21.2.2.1))))
noncomputable def mX (x_r:Dl20Rd)(x_n:Int):Option (Dl20Rd×DCore):=
 Option.bind (aA x_r (64:Int)) λv1=>
 Option.bind (aA v1.1 (3:Int)) λv2=>
 grd ((0:Int)<=v2.2/\v2.2<((List.length ([(-1:Int),(1:Int),(2:Int)]:List Int):Nat):Int)) (Option.bind (aA v2.1 (4:Int)) λv3=>
  Option.bind (aA v3.1 (64:Int)) λv4=>
  Option.bind (aA v4.1 (5:Int)) λv5=>
  Option.bind (aA v5.1 (64:Int)) λv6=>
  Option.bind (aA v6.1 (4:Int)) λv7=>
  Option.bind (aA v7.1 (6:Int)) λv8=>
  Option.bind (aA v8.1 (2:Int)) λv9=>
  Option.bind (aA v9.1 (6:Int)) λv10=>
  Option.bind (aA v10.1 (3:Int)) λv11=>
  Option.bind (aA v11.1 (2:Int)) λv12=>
  Option.bind (aA v12.1 (25:Int)) λv13=>
  Option.bind (Option.bind (iter pR (v13.1.b,v13.1.p,([]:List Int),(0:Int))) LO.val) λj14=>
   JO.run j14 (wJ x_n v1 v2 v3 v4 v5 v6 v7 v8 v9 v10 v11 v12 v13))
noncomputable def bSd:Sw tG:=⟨[.pt 118,.v (.i .i64)],.one (.st 35),mX⟩
theorem bYa:Sjk 169 bSd:=sgy [(57,.w g57),(134,.w aYf),(101,.w aLu)] ⟨s57,bGg,aQq,trivial⟩ (.s .o (.s (.m [0]) (.s .o (.s .o (.s .o (.s .o (.s .o (.j ⟨[0,1,4,5],[],[(.c 0 0,.rb 5),(.c 0 1,.i .i64),(.c 5 0,.ro 3)]⟩ (.s .o (.k (.l ⟨[0,1,4,5],[],[(.c 0 0,.rb 5),(.c 0 1,.i .i64),(.c 5 0,.ro 3),(.s 6,.i .i64)]⟩ (.s .o (.s (.k (.m [0])) .o))))) (.j ⟨[4,5],[0],[(.d 0 0,.rb 5),(.d 0 1,.i .i64),(.c 5 0,.ro 3),(.c 5 1,.i .i64),(.c 5 2,.i .i64)]⟩ (.s .o (.c (.s .o (.k (.s .o (.c .o (.s .o (.c .o (.s .o (.c .o (.m [0]))))))))) .o)) .o))))))))) kr kr kr
noncomputable def qP (x_i:DIns):Option Int:=
 Option.bind (pO x_i) λv1=>
 cond (!v1)
  (some (-1:Int))
  (some (w64 ((w64 ((w64 (x_i.Op*(256:Int)))+(w64 (x_i.A*(64:Int)))))+x_i.N)))
noncomputable def g60:Sg tG:=⟨[.st 89],.one (.i .i64),qP⟩
theorem s60:Sok 60 g60:=sgx [(100,.r bNh)] ⟨bSw,trivial⟩ .o kr kr kr
noncomputable def aMx  (s4:Int×(List Int)×Int×Int×Int):Option (Dl20Rd×DIns):=some ((Dl20Rd.mk s4.2.1 s4.2.2.1),DIns.mk s4.1 s4.2.2.2.1 s4.2.2.2.2)
noncomputable def rV (x_r:Dl20Rd)(x_n:Int):Option (Dl20Rd×DIns):=
 Option.bind (aA x_r (16:Int)) λv1=>
 Option.bind (aA v1.1 (4:Int)) λv2=>
 Option.bind (aA v2.1 (64:Int)) λv3=>
 Option.bind (Option.bind (bX v3.1 x_n) λv5=>
  cond v5.2
   (Option.bind (aA v5.1 (3:Int)) λv6=>
   cond (decide (v6.2=(0:Int)))
    (Option.bind (aA v6.1 (2:Int)) λv7=>
    some (.go ((w64 ((16:Int)-(w64 (v7.2*(17:Int))))),v7.1.b,v7.1.p,v2.2,v3.2)))
    (cond (decide (v6.2=(1:Int)))
     (some (.go (v1.2,v6.1.b,v6.1.p,(4:Int),v3.2)))
     (Option.bind (aA v6.1 (2:Int)) λv8=>
     some (.go (v1.2,v8.1.b,v8.1.p,v2.2,w64 ((64:Int)-(w64 (v8.2*(65:Int)))))))))
   (some (.go (v1.2,v5.1.b,v5.1.p,v2.2,v3.2)))) λj4=>
  JO.run j4 aMx
noncomputable def g61:Sw tG:=⟨[.pt 118,.v (.i .i64)],.one (.st 89),rV⟩
theorem s61:Sjk 61 g61:=sgy [(57,.w g57),(101,.w aLu)] ⟨s57,aQq,trivial⟩ (.s .o (.s .o (.j ⟨[4,5],[0],[(.c 5 0,.i .i64),(.d 0 0,.rb 5),(.d 0 1,.i .i64),(.c 5 1,.i .i64),(.c 5 2,.i .i64)]⟩ .o .o))) kr kr kr
noncomputable def yG  (s2:(List Int)×(List Int)×Int):Option (Dl20Rd×(List Int)):=some ((Dl20Rd.mk s2.2.1 s2.2.2),s2.1)
noncomputable def xS (s3:(List Int)×Int×(List Int)×Int)(s4:(List Int)×Int×(List Int)):Option (LO ((List Int)×Int×(List Int)×Int) (JO ((List Int)×(List Int)×Int) (Dl20Rd×(List Int)))):=some (.next (s4.1,s4.2.1,s4.2.2,w64 (s3.2.2.2+(1:Int))))
noncomputable def vZ (s3:(List Int)×Int×(List Int)×Int)(v11:Dl20Rd×DIns)(s13:(List Int)×Int×Int):Option (JO ((List Int)×Int×(List Int)) (LO ((List Int)×Int×(List Int)×Int) (JO ((List Int)×(List Int)×Int) (Dl20Rd×(List Int))))):=
 Option.bind (qP (DIns.mk s13.2.2 v11.2.A v11.2.N)) λv14=>
 grd ((0:Int)<=s3.2.2.2/\s3.2.2.2<((List.length s3.2.2.1:Nat):Int)) (some (.go (s13.1,s13.2.1,List.set s3.2.2.1 (Int.toNat s3.2.2.2) v14)))
noncomputable def wI (s3:(List Int)×Int×(List Int)×Int)(v11:Dl20Rd×DIns)(s12:(List Int)×Int×Int):Option (JO ((List Int)×Int×(List Int)) (LO ((List Int)×Int×(List Int)×Int) (JO ((List Int)×(List Int)×Int) (Dl20Rd×(List Int))))):=
 Option.bind (cond (decide (s12.2.2=(0:Int)))
  (Option.bind (aA (Dl20Rd.mk s12.1 s12.2.1) (4:Int)) λv15=>
  cond (decide ((0:Int)<v15.2))
   (some (.go (v15.1.b,v15.1.p,(1:Int))))
   (some (.go (v15.1.b,v15.1.p,s12.2.2))))
  (some (.go (s12.1,s12.2.1,s12.2.2)))) λj13=>
  JO.run j13 (vZ s3 v11)
noncomputable def xW (s3:(List Int)×Int×(List Int)×Int)(s5:Bool):Option (JO ((List Int)×Int×(List Int)) (LO ((List Int)×Int×(List Int)×Int) (JO ((List Int)×(List Int)×Int) (Dl20Rd×(List Int))))):=
 cond s5
  (Option.bind (aA (Dl20Rd.mk s3.1 s3.2.1) (3:Int)) λv6=>
  cond (decide ((0:Int)<v6.2))
   (Option.bind (aA v6.1 (8:Int)) λv7=>
   Option.bind (aA v7.1 (4:Int)) λv8=>
   Option.bind (aA v8.1 (3:Int)) λv9=>
   Option.bind (dP (DEntry.mk (decide ((0:Int)<v7.2)) (decide ((0:Int)<v8.2)) (decide ((0:Int)<v9.2)) (Int.tmod s3.2.2.2 (8:Int)))) λv10=>
   grd ((0:Int)<=s3.2.2.2/\s3.2.2.2<((List.length s3.2.2.1:Nat):Int)) (some (.go (v9.1.b,v9.1.p,List.set s3.2.2.1 (Int.toNat s3.2.2.2) v10))))
   (some (.go (v6.1.b,v6.1.p,s3.2.2.1))))
  (Option.bind (rV (Dl20Rd.mk s3.1 s3.2.1) (0:Int)) λv11=>
  Option.bind (Option.bind (aA v11.1 (2:Int)) λv16=>
   cond (decide (v16.2=(0:Int)))
    (Option.bind (aA v16.1 (10:Int)) λv17=>
    grd ((0:Int)<=v17.2/\v17.2<((10:Nat):Int)) (some (.go (v17.1.b,v17.1.p,List.getD ([(1:Int),(2:Int),(3:Int),(4:Int),(3:Int),(4:Int),(6:Int),(7:Int),(11:Int),(15:Int)]:List Int) (Int.toNat v17.2) default))))
    (some (.go (v16.1.b,v16.1.p,v11.2.Op)))) λj12=>
   JO.run j12 (wI s3 v11))
noncomputable def rK  (s3:(List Int)×Int×(List Int)×Int):Option (LO ((List Int)×Int×(List Int)×Int) (JO ((List Int)×(List Int)×Int) (Dl20Rd×(List Int)))):=
 cond (decide (s3.2.2.2<((List.length s3.2.2.1:Nat):Int)))
  (Option.bind (Option.bind (cond (decide ((w64 (Int.tdiv s3.2.2.2 (8:Int)))=(1:Int)))
   (some (.go (decide ((w64 (Int.tdiv s3.2.2.2 (8:Int)))=(1:Int)))))
   (some (.go (decide ((w64 (Int.tdiv s3.2.2.2 (8:Int)))=(2:Int)))))) λj5=>
   JO.run j5 (xW s3)) λj4=>
   JO.run j4 (xS s3))
  (some (.ret (.go (s3.2.2.1,s3.1,s3.2.1))))
noncomputable def pV (x_r:Dl20Rd):Option (Dl20Rd×(List Int)):=
 Option.bind (oC x_r (0:Int)) λv1=>
 Option.bind (Option.bind (iter rK (v1.1.b,v1.1.p,v1.2,(0:Int))) LO.val) λj2=>
  JO.run j2 yG
noncomputable def bRc:Sw tG:=⟨[.pt 118],.one (.row 3),pV⟩
theorem bWz:Sjk 170 bRc:=sgy [(171,.w bLe),(57,.w g57),(189,.r bNs),(61,.w g61),(60,.r g60)] ⟨bTo,s57,bTn,s61,s60,trivial⟩ (.s .o (.s .o (.j ⟨[],[0],[(.s 3,.ro 3),(.d 0 0,.rb 5),(.d 0 1,.i .i64)]⟩ (.s .o (.k (.l ⟨[0],[],[(.c 0 0,.rb 5),(.c 0 1,.i .i64),(.s 3,.ro 3),(.s 4,.i .i64)]⟩ (.s .o (.j ⟨[0,4],[],[(.c 0 0,.rb 5),(.c 0 1,.i .i64),(.s 3,.ro 3)]⟩ (.k (.s .o (.k (.j ⟨[0,3,4],[],[(.s 41,.b)]⟩ .o (.c .o (.s .o (.j ⟨[0,3,4,5],[],[(.c 0 0,.rb 5),(.c 0 1,.i .i64),(.c 5 0,.i .i64)]⟩ .o (.j ⟨[0,3,4,5],[],[(.c 0 0,.rb 5),(.c 0 1,.i .i64),(.c 5 0,.i .i64)]⟩ .o .o)))))))) .o))))) .o))) kr kr kr
noncomputable def aKm (s4:(List Int)×Int×(List Int))(s5:(List Int)×Int×Int×Int×Int×Bool×Int×Int×Int×Bool×Bool×Bool×Bool×(List Int)×Int×(List Int)×(List Int)):Option (Dl20Rd×DBare):=some ((Dl20Rd.mk s5.2.2.2.2.2.2.2.2.2.2.2.2.2.1 s5.2.2.2.2.2.2.2.2.2.2.2.2.2.2.1),DBare.mk (DCore.mk s5.1 s5.2.1 s5.2.2.1 s5.2.2.2.1 s5.2.2.2.2.1 s5.2.2.2.2.2.1 s5.2.2.2.2.2.2.1 s5.2.2.2.2.2.2.2.1 s5.2.2.2.2.2.2.2.2.1 s5.2.2.2.2.2.2.2.2.2.1 s5.2.2.2.2.2.2.2.2.2.2.1 s5.2.2.2.2.2.2.2.2.2.2.2.1 s5.2.2.2.2.2.2.2.2.2.2.2.2.1) s5.2.2.2.2.2.2.2.2.2.2.2.2.2.2.2.1 s5.2.2.2.2.2.2.2.2.2.2.2.2.2.2.2.2 s4.2.2)
noncomputable def xU (x_n:Int)(v1:Dl20Rd×DCore)(v2:Dl20Rd×(List Int))(s3:(List Int)×Int×(List Int))(s4:(List Int)×Int×(List Int)):Option (Dl20Rd×DBare):=
 Option.bind (Option.bind (bX (Dl20Rd.mk s4.1 s4.2.1) x_n) λv6=>
  cond v6.2
   (Option.bind (aA v6.1 (3:Int)) λv7=>
   cond (decide (v7.2=(0:Int)))
    (Option.bind (mX v7.1 (1:Int)) λv8=>
    some (.go (v8.2.Regs,v8.2.Pc,v8.2.Root,v8.2.Vector,v8.2.Saved,v8.2.SavedUser,v8.2.Cause,v8.2.Bad,v8.2.Timer,v8.2.Waits,v8.2.User,v8.2.On,v8.2.Stopped,v8.1.b,v8.1.p,v2.2,s3.2.2)))
    (cond (decide (v7.2=(1:Int)))
     (Option.bind (oC v7.1 (1:Int)) λv9=>
     some (.go (v1.2.Regs,v1.2.Pc,v1.2.Root,v1.2.Vector,v1.2.Saved,v1.2.SavedUser,v1.2.Cause,v1.2.Bad,v1.2.Timer,v1.2.Waits,v1.2.User,v1.2.On,v1.2.Stopped,v9.1.b,v9.1.p,v9.2,s3.2.2)))
     (some (.go (v1.2.Regs,v1.2.Pc,v1.2.Root,v1.2.Vector,v1.2.Saved,v1.2.SavedUser,v1.2.Cause,v1.2.Bad,v1.2.Timer,v1.2.Waits,v1.2.User,v1.2.On,v1.2.Stopped,v7.1.b,v7.1.p,v2.2,List.replicate (Int.toNat (31:Int)) (0:Int))))))
   (some (.go (v1.2.Regs,v1.2.Pc,v1.2.Root,v1.2.Vector,v1.2.Saved,v1.2.SavedUser,v1.2.Cause,v1.2.Bad,v1.2.Timer,v1.2.Waits,v1.2.User,v1.2.On,v1.2.Stopped,v6.1.b,v6.1.p,v2.2,s3.2.2)))) λj5=>
  JO.run j5 (aKm s4)
noncomputable def wP  (s11:(List Int)×Int×(List Int)×Int):Option (LO ((List Int)×Int×(List Int)×Int) (JO ((List Int)×Int×(List Int)) (Dl20Rd×DBare))):=
 cond (decide ((0:Int)<s11.2.2.2))
  (Option.bind (dD (Dl20Rd.mk s11.1 s11.2.1)) λv12=>
  grd ((List.length s11.2.2.1+List.length ([v12.2]:List Int))*8<=2^47/\List.length s11.2.2.1+List.length ([v12.2]:List Int)<=2^47) (some (.next (v12.1.b,v12.1.p,s11.2.2.1++([v12.2]:List Int),w64 (s11.2.2.2-(1:Int))))))
  (some (.ret (.go (s11.1,s11.2.1,s11.2.2.1))))
noncomputable def yA (x_n:Int)(v1:Dl20Rd×DCore)(v2:Dl20Rd×(List Int))(s3:(List Int)×Int×(List Int)):Option (Dl20Rd×DBare):=
 Option.bind (Option.bind (aA (Dl20Rd.mk s3.1 s3.2.1) (3:Int)) λv10=>
  Option.bind (iter wP (v10.1.b,v10.1.p,([]:List Int),v10.2)) LO.val) λj4=>
  JO.run j4 (xU x_n v1 v2 s3)
noncomputable def lR  (s14:(List Int)×Int×(List Int)×Int):Option (LO ((List Int)×Int×(List Int)×Int) (JO ((List Int)×Int×(List Int)) (Dl20Rd×DBare))):=
 cond (decide ((0:Int)<s14.2.2.2))
  (Option.bind (dD (Dl20Rd.mk s14.1 s14.2.1)) λv15=>
  grd ((List.length s14.2.2.1+List.length ([v15.2]:List Int))*8<=2^47/\List.length s14.2.2.1+List.length ([v15.2]:List Int)<=2^47) (some (.next (v15.1.b,v15.1.p,s14.2.2.1++([v15.2]:List Int),w64 (s14.2.2.2-(1:Int))))))
  (some (.ret (.go (s14.1,s14.2.1,s14.2.2.1))))
noncomputable def qL (x_r:Dl20Rd)(x_n:Int):Option (Dl20Rd×DBare):=
 Option.bind (mX x_r (0:Int)) λv1=>
 Option.bind (pV v1.1) λv2=>
 Option.bind (Option.bind (aA v2.1 (4:Int)) λv13=>
  Option.bind (iter lR (v13.1.b,v13.1.p,([]:List Int),v13.2)) LO.val) λj3=>
  JO.run j3 (yA x_n v1 v2)
noncomputable def bUz:Sw tG:=⟨[.pt 118,.v (.i .i64)],.one (.st 47),qL⟩
theorem bYl:Sjk 135 bUz:=sgy [(169,.w bSd),(170,.w bRc),(57,.w g57),(134,.w aYf),(101,.w aLu),(171,.w bLe)] ⟨bYa,bWz,s57,bGg,aQq,bTo,trivial⟩ (.s .o (.s .o (.j ⟨[0,1,4,5],[],[(.c 0 0,.rb 5),(.c 0 1,.i .i64),(.c 5 14,.ro 3)]⟩ (.s .o (.k (.l ⟨[0,1,4,5],[],[(.c 0 0,.rb 5),(.c 0 1,.i .i64),(.c 5 14,.ro 3),(.s 6,.i .i64)]⟩ (.s .o (.s (.k (.m [0])) .o))))) (.j ⟨[0,1,4,5],[],[(.c 0 0,.rb 5),(.c 0 1,.i .i64),(.c 5 15,.ro 3)]⟩ (.s .o (.k (.l ⟨[0,1,4,5],[],[(.c 0 0,.rb 5),(.c 0 1,.i .i64),(.c 5 15,.ro 3),(.s 7,.i .i64)]⟩ (.s .o (.s (.k (.m [0])) .o))))) (.j ⟨[4,5],[0],[(.c 5 0,.ro 3),(.c 5 1,.i .i64),(.c 5 2,.i .i64),(.c 5 3,.i .i64),(.c 5 4,.i .i64),(.c 5 5,.b),(.c 5 6,.i .i64),(.c 5 7,.i .i64),(.c 5 8,.i .i64),(.c 5 9,.b),(.c 5 10,.b),(.c 5 11,.b),(.c 5 12,.b),(.d 0 0,.rb 5),(.d 0 1,.i .i64),(.c 5 13,.ro 3),(.c 5 14,.ro 3)]⟩ .o .o))))) kr kr kr
theorem aNs:LW 133 ⟨6,[.cell 2 true 2],.seq (.reg false (rg 133 0)) (.seq (.rega [rg 133 1,rg 133 2]) .ret)⟩:=kr
noncomputable def qH (x_none:Int):Option DHost:=some (DHost.mk (List.replicate (Int.toNat (160:Int)) (0:Int)) (List.replicate (Int.toNat (3:Int)) (DGuest.mk false (DCore.mk ([]:List Int) (0:Int) (0:Int) (0:Int) (0:Int) false (0:Int) (0:Int) (0:Int) false false false false) ([]:List DSlot) ([]:List Int) ([]:List Int))))
theorem aOy{x_none:Int}{R_:DHost}(hh:qH x_none=some R_):Fn Tryz.prog 133 [.int .i64 x_none] (.agg [.own 3 1 (List.length R_.Words) (fl (eI .i64) R_.Words),.own 38 17 (List.length R_.Guests) (fl bJ R_.Guests)]):=by let z1:=DCore.mk ([]:List Int) (0:Int) (0:Int) (0:Int) (0:Int) false (0:Int) (0:Int) (0:Int) false false false false;let z2:=DGuest.mk false z1 ([]:List DSlot) ([]:List Int) ([]:List Int);unfold qH at hh;refine Fn.start aNs [] (E:=sp 6 []) kr (v:= .agg [sw 0 R_.Words,.sref 1 [] 0 (List.length R_.Guests) 17]) (Hr:=[(1,some (rO38 R_.Guests)),(0,some (rI_3 R_.Words))]) (k:=2) kr (sy [2] [0] (sp 6 [(2,pp 0)]) [(0,some ⟨26,[.nil,.nil]⟩)] 1 (Aw.srega [2] [0,1,2] (bIj ?_ (bIj ?_ bVo))));{refine ys (.mk 3 1 8 [ii 0] (.c (ii 160))) (some 3) (bEl (c:=(eI .i64)) (d:=(0:Int)) (k:=(160:Int)) kr dd kr ?_);refine ys (.mk 38 17 176 zc0 (.c (ii 3))) (some 4) (aWw (z:=(bb false:: .nil::aGd [.nil,.nil,.nil])) (k:=(3:Int)) kr dd ?_);let q1:Root:=⟨26,[.sref 1 [] 0 (List.length (List.replicate (Int.toNat (160:Int)) (0:Int))) 1,.sref 2 [] 0 (Int.toNat (3:Int)) 17]⟩;let q2:Root:=(rI_3 (List.replicate (Int.toNat (160:Int)) (0:Int)));let q3:Root:=⟨38,aW (bb false:: .nil::aGd [.nil,.nil,.nil]) (Int.toNat (3:Int))⟩;refine yt (sp 6 [(2,pp 0)]) [(0,some q1),(1,some q2),(2,some q3)] 3 (Aw.ent (Ent.foldM (c:=bJ) (k:=Int.toNat (3:Int)) (d:=z2) (R:=2) (e:=38) (us2:=sp 6 [(2,pp 0)]) (H2:=[(0,some ⟨26,[.sref 1 [] 0 (List.length (List.replicate (Int.toNat (160:Int)) (0:Int))) 1,.sref 3 [] 0 (List.length (List.replicate (Int.toNat (3:Int)) z2)) 17]⟩),(1,some q2)]) (L:=[none,some none,none,none,none,none,none,none,none,none,none,none,none,none,some none,some none,some none]) (ws:=(bb false:: .own 3 1 0 []::aGd [.own 53 3 0 [],.own 3 1 0 [],.own 3 1 0 []])) dd kr kr (aI (aBe (aI (aI (aI (aI (aI (aI (aI (aI (aI (aI (aI (aI (aBe (aBe (aBe yU))))))))))))))))) rfl (uM kr (jR (u:=pp 0) kr (.same _) yY)) (iH (t:=q1) rfl kr rfl (dU (.same _) (dU (.sref _ _ _ _ eqn) vY)) (iH (t:=q2) rfl kr rfl fC aGg))) (Aw.ret ?_));rw[bM hh];let q4:Root:=(rO38 (List.replicate (Int.toNat (3:Int)) z2));exact lN (r':= .agg [.sref 1 [] 0 (List.length (List.replicate (Int.toNat (160:Int)) (0:Int))) 1,.sref 3 [] 0 (List.length (List.replicate (Int.toNat (3:Int)) z2)) 17]) kr (Ent.list [some 1,some 3] rfl rfl (Nat.zero_le _) (aDe (gF rz)) (hn gE (hn bY dE)))};refine ys (.mk 38 17 176 zc0 (.c (ii 3))) (some 4) (aWw (z:=(bb false:: .nil::aGd [.nil,.nil,.nil])) (k:=(3:Int)) kr dd ?_);refine ys (.mk 3 1 8 [ii 0] (.c (ii 160))) (some 3) (bEl (c:=(eI .i64)) (d:=(0:Int)) (k:=(160:Int)) kr dd kr ?_);let q5:Root:=⟨26,[.sref 2 [] 0 (List.length (List.replicate (Int.toNat (160:Int)) (0:Int))) 1,.sref 1 [] 0 (Int.toNat (3:Int)) 17]⟩;let q6:Root:=⟨38,aW (bb false:: .nil::aGd [.nil,.nil,.nil]) (Int.toNat (3:Int))⟩;let q7:Root:=(rI_3 (List.replicate (Int.toNat (160:Int)) (0:Int)));refine yt (sp 6 [(2,pp 0)]) [(0,some q5),(1,some q6),(2,some q7)] 3 (Aw.ent (Ent.foldM (c:=bJ) (k:=Int.toNat (3:Int)) (d:=z2) (R:=1) (e:=38) (us2:=sp 6 [(2,pp 0)]) (H2:=[(0,some ⟨26,[.sref 2 [] 0 (List.length (List.replicate (Int.toNat (160:Int)) (0:Int))) 1,.sref 3 [] 0 (List.length (List.replicate (Int.toNat (3:Int)) z2)) 17]⟩),(2,some q7)]) (L:=[none,some none,none,none,none,none,none,none,none,none,none,none,none,none,some none,some none,some none]) (ws:=(bb false:: .own 3 1 0 []::aGd [.own 53 3 0 [],.own 3 1 0 [],.own 3 1 0 []])) dd kr kr (aI (aBe (aI (aI (aI (aI (aI (aI (aI (aI (aI (aI (aI (aI (aBe (aBe (aBe yU))))))))))))))))) rfl (uM kr (jR (u:=pp 0) kr (.same _) yY)) (iH (t:=q5) rfl kr rfl (dU (.same _) (dU (.sref _ _ _ _ eqn) vY)) (iH (t:=q7) rfl kr rfl fC aGg))) (Aw.ret ?_));rw[bM hh];let q8:Root:=(rO38 (List.replicate (Int.toNat (3:Int)) z2));exact lN (r':= .agg [.sref 2 [] 0 (List.length (List.replicate (Int.toNat (160:Int)) (0:Int))) 1,.sref 3 [] 0 (List.length (List.replicate (Int.toNat (3:Int)) z2)) 17]) kr (Ent.list [some 2,some 3] rfl rfl (Nat.zero_le _) (aDe (gF rz)) (hn gE (hn bY dE)))
noncomputable def bRm:Sg tG:=⟨[.i .i64],.one (.st 2026),qH⟩
theorem bXu:Sok 133 bRm:=λx_none R_ hh=>kc (aOy (x_none:=x_none) hh)
noncomputable def aKo  (s5:(List Int)×(List Int)×Int×(List DGuest)):Option (Dl20Rd×DHost):=some ((Dl20Rd.mk s5.2.1 s5.2.2.1),DHost.mk s5.1 s5.2.2.2)
noncomputable def yE (x_n:Int)(s3:(List Int)×Int×(List Int)×(List DGuest))(s4:(List Int)×Int×(List DGuest)):Option (Dl20Rd×DHost):=
 Option.bind (Option.bind (bX (Dl20Rd.mk s4.1 s4.2.1) x_n) λv6=>
  cond v6.2
   (Option.bind (aA v6.1 (4:Int)) λv7=>
   cond (decide (v7.2=(0:Int)))
    (Option.bind (aA v7.1 (9:Int)) λv8=>
    grd ((0:Int)<=v8.2/\v8.2<((List.length s3.2.2.1:Nat):Int)) (some (.go ((List.set s3.2.2.1 (Int.toNat v8.2) (4096:Int)),v8.1.b,v8.1.p,s4.2.2))))
    (cond (decide (v7.2=(1:Int)))
     (grd ((0:Int)<=(0:Int)/\(0:Int)<=(2:Int)/\(2:Int)<=((List.length s4.2.2:Nat):Int)) (some (.go (s3.2.2.1,v7.1.b,v7.1.p,List.take (Int.toNat (2:Int)-Int.toNat (0:Int)) s4.2.2))))
     (cond (decide (v7.2=(2:Int)))
      (grd ((0:Int)<=(2:Int)/\(2:Int)<((List.length s4.2.2:Nat):Int)) (some (.go (s3.2.2.1,v7.1.b,v7.1.p,List.set s4.2.2 2 (DGuest.mk false (DCore.mk ([]:List Int) (0:Int) (0:Int) (0:Int) (0:Int) false (0:Int) (0:Int) (0:Int) false false false false) ([]:List DSlot) ([(1:Int)]:List Int) ([]:List Int))))))
      (grd ((0:Int)<=(0:Int)/\(0:Int)<((List.length s4.2.2:Nat):Int)) (some (.go (s3.2.2.1,v7.1.b,v7.1.p,List.set s4.2.2 0 (DGuest.mk (List.getD s4.2.2 0 default).Live (List.getD s4.2.2 0 default).C ([DSlot.mk (3:Int) true false,DSlot.mk (3:Int) false false]:List DSlot) (List.getD s4.2.2 0 default).In (List.getD s4.2.2 0 default).Out))))))))
   (some (.go (s3.2.2.1,v6.1.b,v6.1.p,s4.2.2)))) λj5=>
  JO.run j5 aKo
noncomputable def wA (s10:(List Int)×Int×(List DGuest)×Int)(s11:(List Int)×Int×(List DGuest)):Option (LO ((List Int)×Int×(List DGuest)×Int) (JO ((List Int)×Int×(List DGuest)) (Dl20Rd×DHost))):=some (.next (s11.1,s11.2.1,s11.2.2,w64 (s10.2.2.2-(1:Int))))
noncomputable def pS  (s10:(List Int)×Int×(List DGuest)×Int):Option (LO ((List Int)×Int×(List DGuest)×Int) (JO ((List Int)×Int×(List DGuest)) (Dl20Rd×DHost))):=
 cond (decide ((0:Int)<s10.2.2.2))
  (Option.bind (Option.bind (aA (Dl20Rd.mk s10.1 s10.2.1) (3:Int)) λv12=>
   Option.bind (aA v12.1 (3:Int)) λv13=>
   Option.bind (aA v13.1 (8:Int)) λv14=>
   grd ((0:Int)<=v12.2/\v12.2<((List.length s10.2.2.1:Nat):Int)) (cond (List.getD s10.2.2.1 (Int.toNat v12.2) default).Live
    (grd ((0:Int)<=v13.2/\v13.2<((List.length s10.2.2.1:Nat):Int)) (cond (List.getD s10.2.2.1 (Int.toNat v13.2) default).Live
     (grd ((0:Int)<=v12.2/\v12.2<((List.length s10.2.2.1:Nat):Int)) (grd ((0:Int)<=v14.2/\v14.2<((List.length (List.getD s10.2.2.1 (Int.toNat v12.2) default).Pages:Nat):Int)) (cond (decide ((0:Int)<=(List.getD (List.getD s10.2.2.1 (Int.toNat v12.2) default).Pages (Int.toNat v14.2) default).Frame))
      (grd ((0:Int)<=v12.2/\v12.2<((List.length s10.2.2.1:Nat):Int)) (grd ((0:Int)<=v14.2/\v14.2<((List.length (List.getD s10.2.2.1 (Int.toNat v12.2) default).Pages:Nat):Int)) (grd ((0:Int)<=v13.2/\v13.2<((List.length s10.2.2.1:Nat):Int)) (Option.bind (aA v14.1 (8:Int)) λv15=>
       grd ((0:Int)<=v12.2/\v12.2<((List.length s10.2.2.1:Nat):Int)) (grd ((0:Int)<=v14.2/\v14.2<((List.length (List.getD (List.set s10.2.2.1 (Int.toNat v12.2) (DGuest.mk (List.getD s10.2.2.1 (Int.toNat v12.2) default).Live (List.getD s10.2.2.1 (Int.toNat v12.2) default).C (List.set (List.getD s10.2.2.1 (Int.toNat v12.2) default).Pages (Int.toNat v14.2) (DSlot.mk (List.getD (List.getD s10.2.2.1 (Int.toNat v12.2) default).Pages (Int.toNat v14.2) default).Frame false (List.getD (List.getD s10.2.2.1 (Int.toNat v12.2) default).Pages (Int.toNat v14.2) default).Dirty)) (List.getD s10.2.2.1 (Int.toNat v12.2) default).In (List.getD s10.2.2.1 (Int.toNat v12.2) default).Out)) (Int.toNat v12.2) default).Pages:Nat):Int)) (Option.bind (aA v15.1 (2:Int)) λv16=>
        grd ((0:Int)<=v15.2/\v15.2<((List.length (List.getD (List.set s10.2.2.1 (Int.toNat v12.2) (DGuest.mk (List.getD s10.2.2.1 (Int.toNat v12.2) default).Live (List.getD s10.2.2.1 (Int.toNat v12.2) default).C (List.set (List.getD s10.2.2.1 (Int.toNat v12.2) default).Pages (Int.toNat v14.2) (DSlot.mk (List.getD (List.getD s10.2.2.1 (Int.toNat v12.2) default).Pages (Int.toNat v14.2) default).Frame false (List.getD (List.getD s10.2.2.1 (Int.toNat v12.2) default).Pages (Int.toNat v14.2) default).Dirty)) (List.getD s10.2.2.1 (Int.toNat v12.2) default).In (List.getD s10.2.2.1 (Int.toNat v12.2) default).Out)) (Int.toNat v13.2) default).Pages:Nat):Int)) (some (.go (v16.1.b,v16.1.p,List.set (List.set s10.2.2.1 (Int.toNat v12.2) (DGuest.mk (List.getD s10.2.2.1 (Int.toNat v12.2) default).Live (List.getD s10.2.2.1 (Int.toNat v12.2) default).C (List.set (List.getD s10.2.2.1 (Int.toNat v12.2) default).Pages (Int.toNat v14.2) (DSlot.mk (List.getD (List.getD s10.2.2.1 (Int.toNat v12.2) default).Pages (Int.toNat v14.2) default).Frame false (List.getD (List.getD s10.2.2.1 (Int.toNat v12.2) default).Pages (Int.toNat v14.2) default).Dirty)) (List.getD s10.2.2.1 (Int.toNat v12.2) default).In (List.getD s10.2.2.1 (Int.toNat v12.2) default).Out)) (Int.toNat v13.2) (DGuest.mk (List.getD (List.set s10.2.2.1 (Int.toNat v12.2) (DGuest.mk (List.getD s10.2.2.1 (Int.toNat v12.2) default).Live (List.getD s10.2.2.1 (Int.toNat v12.2) default).C (List.set (List.getD s10.2.2.1 (Int.toNat v12.2) default).Pages (Int.toNat v14.2) (DSlot.mk (List.getD (List.getD s10.2.2.1 (Int.toNat v12.2) default).Pages (Int.toNat v14.2) default).Frame false (List.getD (List.getD s10.2.2.1 (Int.toNat v12.2) default).Pages (Int.toNat v14.2) default).Dirty)) (List.getD s10.2.2.1 (Int.toNat v12.2) default).In (List.getD s10.2.2.1 (Int.toNat v12.2) default).Out)) (Int.toNat v13.2) default).Live (List.getD (List.set s10.2.2.1 (Int.toNat v12.2) (DGuest.mk (List.getD s10.2.2.1 (Int.toNat v12.2) default).Live (List.getD s10.2.2.1 (Int.toNat v12.2) default).C (List.set (List.getD s10.2.2.1 (Int.toNat v12.2) default).Pages (Int.toNat v14.2) (DSlot.mk (List.getD (List.getD s10.2.2.1 (Int.toNat v12.2) default).Pages (Int.toNat v14.2) default).Frame false (List.getD (List.getD s10.2.2.1 (Int.toNat v12.2) default).Pages (Int.toNat v14.2) default).Dirty)) (List.getD s10.2.2.1 (Int.toNat v12.2) default).In (List.getD s10.2.2.1 (Int.toNat v12.2) default).Out)) (Int.toNat v13.2) default).C (List.set (List.getD (List.set s10.2.2.1 (Int.toNat v12.2) (DGuest.mk (List.getD s10.2.2.1 (Int.toNat v12.2) default).Live (List.getD s10.2.2.1 (Int.toNat v12.2) default).C (List.set (List.getD s10.2.2.1 (Int.toNat v12.2) default).Pages (Int.toNat v14.2) (DSlot.mk (List.getD (List.getD s10.2.2.1 (Int.toNat v12.2) default).Pages (Int.toNat v14.2) default).Frame false (List.getD (List.getD s10.2.2.1 (Int.toNat v12.2) default).Pages (Int.toNat v14.2) default).Dirty)) (List.getD s10.2.2.1 (Int.toNat v12.2) default).In (List.getD s10.2.2.1 (Int.toNat v12.2) default).Out)) (Int.toNat v13.2) default).Pages (Int.toNat v15.2) (DSlot.mk (List.getD (List.getD (List.set s10.2.2.1 (Int.toNat v12.2) (DGuest.mk (List.getD s10.2.2.1 (Int.toNat v12.2) default).Live (List.getD s10.2.2.1 (Int.toNat v12.2) default).C (List.set (List.getD s10.2.2.1 (Int.toNat v12.2) default).Pages (Int.toNat v14.2) (DSlot.mk (List.getD (List.getD s10.2.2.1 (Int.toNat v12.2) default).Pages (Int.toNat v14.2) default).Frame false (List.getD (List.getD s10.2.2.1 (Int.toNat v12.2) default).Pages (Int.toNat v14.2) default).Dirty)) (List.getD s10.2.2.1 (Int.toNat v12.2) default).In (List.getD s10.2.2.1 (Int.toNat v12.2) default).Out)) (Int.toNat v12.2) default).Pages (Int.toNat v14.2) default).Frame false (decide (v16.2=(0:Int))))) (List.getD (List.set s10.2.2.1 (Int.toNat v12.2) (DGuest.mk (List.getD s10.2.2.1 (Int.toNat v12.2) default).Live (List.getD s10.2.2.1 (Int.toNat v12.2) default).C (List.set (List.getD s10.2.2.1 (Int.toNat v12.2) default).Pages (Int.toNat v14.2) (DSlot.mk (List.getD (List.getD s10.2.2.1 (Int.toNat v12.2) default).Pages (Int.toNat v14.2) default).Frame false (List.getD (List.getD s10.2.2.1 (Int.toNat v12.2) default).Pages (Int.toNat v14.2) default).Dirty)) (List.getD s10.2.2.1 (Int.toNat v12.2) default).In (List.getD s10.2.2.1 (Int.toNat v12.2) default).Out)) (Int.toNat v13.2) default).In (List.getD (List.set s10.2.2.1 (Int.toNat v12.2) (DGuest.mk (List.getD s10.2.2.1 (Int.toNat v12.2) default).Live (List.getD s10.2.2.1 (Int.toNat v12.2) default).C (List.set (List.getD s10.2.2.1 (Int.toNat v12.2) default).Pages (Int.toNat v14.2) (DSlot.mk (List.getD (List.getD s10.2.2.1 (Int.toNat v12.2) default).Pages (Int.toNat v14.2) default).Frame false (List.getD (List.getD s10.2.2.1 (Int.toNat v12.2) default).Pages (Int.toNat v14.2) default).Dirty)) (List.getD s10.2.2.1 (Int.toNat v12.2) default).In (List.getD s10.2.2.1 (Int.toNat v12.2) default).Out)) (Int.toNat v13.2) default).Out))))))))))
      (some (.go (v14.1.b,v14.1.p,s10.2.2.1))))))
     (some (.go (v14.1.b,v14.1.p,s10.2.2.1)))))
    (some (.go (v14.1.b,v14.1.p,s10.2.2.1))))) λj11=>
   JO.run j11 (wA s10))
  (some (.ret (.go (s10.1,s10.2.1,s10.2.2.1))))
noncomputable def xZ (x_n:Int)(s3:(List Int)×Int×(List Int)×(List DGuest)):Option (Dl20Rd×DHost):=
 Option.bind (Option.bind (aA (Dl20Rd.mk s3.1 s3.2.1) (4:Int)) λv9=>
  Option.bind (iter pS (v9.1.b,v9.1.p,s3.2.2.2,v9.2)) LO.val) λj4=>
  JO.run j4 (yE x_n s3)
noncomputable def wE (s18:(List Int)×Int×(List Int)×(List DGuest)×(List Int)×Int×Int×Int×Int×Bool×Int×Int×Int×Bool×Bool×Bool×Bool×(List Int)×(List Int)×(List Int)×Int)(s19:(List Int)×Int×(List Int)×(List DGuest)×(List Int)×Int×Int×Int×Int×Bool×Int×Int×Int×Bool×Bool×Bool×Bool×(List Int)×(List Int)×(List Int)):Option (LO ((List Int)×Int×(List Int)×(List DGuest)×(List Int)×Int×Int×Int×Int×Bool×Int×Int×Int×Bool×Bool×Bool×Bool×(List Int)×(List Int)×(List Int)×Int) (JO ((List Int)×Int×(List Int)×(List DGuest)) (Dl20Rd×DHost))):=some (.next (s19.1,s19.2.1,s19.2.2.1,s19.2.2.2.1,s19.2.2.2.2.1,s19.2.2.2.2.2.1,s19.2.2.2.2.2.2.1,s19.2.2.2.2.2.2.2.1,s19.2.2.2.2.2.2.2.2.1,s19.2.2.2.2.2.2.2.2.2.1,s19.2.2.2.2.2.2.2.2.2.2.1,s19.2.2.2.2.2.2.2.2.2.2.2.1,s19.2.2.2.2.2.2.2.2.2.2.2.2.1,s19.2.2.2.2.2.2.2.2.2.2.2.2.2.1,s19.2.2.2.2.2.2.2.2.2.2.2.2.2.2.1,s19.2.2.2.2.2.2.2.2.2.2.2.2.2.2.2.1,s19.2.2.2.2.2.2.2.2.2.2.2.2.2.2.2.2.1,s19.2.2.2.2.2.2.2.2.2.2.2.2.2.2.2.2.2.1,s19.2.2.2.2.2.2.2.2.2.2.2.2.2.2.2.2.2.2.1,s19.2.2.2.2.2.2.2.2.2.2.2.2.2.2.2.2.2.2.2,w64 (s18.2.2.2.2.2.2.2.2.2.2.2.2.2.2.2.2.2.2.2.2-(1:Int))))
noncomputable def wG (s18:(List Int)×Int×(List Int)×(List DGuest)×(List Int)×Int×Int×Int×Int×Bool×Int×Int×Int×Bool×Bool×Bool×Bool×(List Int)×(List Int)×(List Int)×Int)(v20:Dl20Rd×DBare)(s21:(List Int)×Int×(List Int)):Option (JO ((List Int)×Int×(List Int)×(List DGuest)×(List Int)×Int×Int×Int×Int×Bool×Int×Int×Int×Bool×Bool×Bool×Bool×(List Int)×(List Int)×(List Int)) (LO ((List Int)×Int×(List Int)×(List DGuest)×(List Int)×Int×Int×Int×Int×Bool×Int×Int×Int×Bool×Bool×Bool×Bool×(List Int)×(List Int)×(List Int)×Int) (JO ((List Int)×Int×(List Int)×(List DGuest)) (Dl20Rd×DHost)))):=
 Option.bind (oO (DHost.mk s18.2.2.1 s18.2.2.2.1) (DBare.mk v20.2.C s21.2.2 v20.2.In v20.2.Out)) λv22=>
 cond v22.2.2
  (some (.go (s21.1,s21.2.1,v22.1.Words,v22.1.Guests,v20.2.C.Regs,v20.2.C.Pc,v20.2.C.Root,v20.2.C.Vector,v20.2.C.Saved,v20.2.C.SavedUser,v20.2.C.Cause,v20.2.C.Bad,v20.2.C.Timer,v20.2.C.Waits,v20.2.C.User,v20.2.C.On,v20.2.C.Stopped,s21.2.2,v20.2.In,v20.2.Out)))
  (some (.go (s21.1,s21.2.1,s18.2.2.1,s18.2.2.2.1,v20.2.C.Regs,v20.2.C.Pc,v20.2.C.Root,v20.2.C.Vector,v20.2.C.Saved,v20.2.C.SavedUser,v20.2.C.Cause,v20.2.C.Bad,v20.2.C.Timer,v20.2.C.Waits,v20.2.C.User,v20.2.C.On,v20.2.C.Stopped,s21.2.2,v20.2.In,v20.2.Out)))
noncomputable def wC (s23:(List Int)×Int×(List Int)×Int)(s24:(List Int)×Int×(List Int)):Option (LO ((List Int)×Int×(List Int)×Int) (JO ((List Int)×Int×(List Int)) (JO ((List Int)×Int×(List Int)×(List DGuest)×(List Int)×Int×Int×Int×Int×Bool×Int×Int×Int×Bool×Bool×Bool×Bool×(List Int)×(List Int)×(List Int)) (LO ((List Int)×Int×(List Int)×(List DGuest)×(List Int)×Int×Int×Int×Int×Bool×Int×Int×Int×Bool×Bool×Bool×Bool×(List Int)×(List Int)×(List Int)×Int) (JO ((List Int)×Int×(List Int)×(List DGuest)) (Dl20Rd×DHost)))))):=some (.next (s24.1,s24.2.1,s24.2.2,w64 (s23.2.2.2+(1:Int))))
noncomputable def wQ (s18:(List Int)×Int×(List Int)×(List DGuest)×(List Int)×Int×Int×Int×Int×Bool×Int×Int×Int×Bool×Bool×Bool×Bool×(List Int)×(List Int)×(List Int)×Int)(s23:(List Int)×Int×(List Int)×Int)(s25:(List Int)×Int×(List Int)):Option (JO ((List Int)×Int×(List Int)) (LO ((List Int)×Int×(List Int)×Int) (JO ((List Int)×Int×(List Int)) (JO ((List Int)×Int×(List Int)×(List DGuest)×(List Int)×Int×Int×Int×Int×Bool×Int×Int×Int×Bool×Bool×Bool×Bool×(List Int)×(List Int)×(List Int)) (LO ((List Int)×Int×(List Int)×(List DGuest)×(List Int)×Int×Int×Int×Int×Bool×Int×Int×Int×Bool×Bool×Bool×Bool×(List Int)×(List Int)×(List Int)×Int) (JO ((List Int)×Int×(List Int)×(List DGuest)) (Dl20Rd×DHost))))))):=
 cond (decide ((0:Int)<((List.length s18.2.2.2.2.2.2.2.2.2.2.2.2.2.2.2.2.2.1:Nat):Int)))
  (Option.bind (aA (Dl20Rd.mk s25.1 s25.2.1) (3:Int)) λv26=>
  cond (decide (v26.2=(0:Int)))
   (grd ((0:Int)<=(w64 (s23.2.2.2*(8:Int)))/\(w64 (s23.2.2.2*(8:Int)))<=(w64 ((w64 (s23.2.2.2+(1:Int)))*(8:Int)))/\(w64 ((w64 (s23.2.2.2+(1:Int)))*(8:Int)))<=((List.length s25.2.2:Nat):Int)) (grd ((0:Int)<=(w64 (s23.2.2.2*(8:Int)))/\(w64 (s23.2.2.2*(8:Int)))<=((List.length s18.2.2.2.2.2.2.2.2.2.2.2.2.2.2.2.2.2.1:Nat):Int)/\((List.length s18.2.2.2.2.2.2.2.2.2.2.2.2.2.2.2.2.2.1:Nat):Int)<=((List.length s18.2.2.2.2.2.2.2.2.2.2.2.2.2.2.2.2.2.1:Nat):Int)) (some (.go (v26.1.b,v26.1.p,over s25.2.2 (Int.toNat (w64 (s23.2.2.2*(8:Int)))) (Int.toNat (w64 ((w64 (s23.2.2.2+(1:Int)))*(8:Int)))-Int.toNat (w64 (s23.2.2.2*(8:Int)))) (List.take (Int.toNat ((List.length s18.2.2.2.2.2.2.2.2.2.2.2.2.2.2.2.2.2.1:Nat):Int)-Int.toNat (w64 (s23.2.2.2*(8:Int)))) (List.drop (Int.toNat (w64 (s23.2.2.2*(8:Int)))) s18.2.2.2.2.2.2.2.2.2.2.2.2.2.2.2.2.2.1)))))))
   (some (.go (v26.1.b,v26.1.p,s25.2.2))))
  (some (.go (s25.1,s25.2.1,s25.2.2)))
noncomputable def pD (s18:(List Int)×Int×(List Int)×(List DGuest)×(List Int)×Int×Int×Int×Int×Bool×Int×Int×Int×Bool×Bool×Bool×Bool×(List Int)×(List Int)×(List Int)×Int)(s23:(List Int)×Int×(List Int)×Int):Option (LO ((List Int)×Int×(List Int)×Int) (JO ((List Int)×Int×(List Int)) (JO ((List Int)×Int×(List Int)×(List DGuest)×(List Int)×Int×Int×Int×Int×Bool×Int×Int×Int×Bool×Bool×Bool×Bool×(List Int)×(List Int)×(List Int)) (LO ((List Int)×Int×(List Int)×(List DGuest)×(List Int)×Int×Int×Int×Int×Bool×Int×Int×Int×Bool×Bool×Bool×Bool×(List Int)×(List Int)×(List Int)×Int) (JO ((List Int)×Int×(List Int)×(List DGuest)) (Dl20Rd×DHost)))))):=
 cond (decide (s23.2.2.2<(8:Int)))
  (Option.bind (Option.bind (cond (decide ((3:Int)<s23.2.2.2))
   (Option.bind (aA (Dl20Rd.mk s23.1 s23.2.1) (2:Int)) λv27=>
   cond (decide (v27.2=(0:Int)))
    (grd ((0:Int)<=(w64 (s23.2.2.2*(8:Int)))/\(w64 (s23.2.2.2*(8:Int)))<=((List.length s23.2.2.1:Nat):Int)/\((List.length s23.2.2.1:Nat):Int)<=((List.length s23.2.2.1:Nat):Int)) (some (.go (v27.1.b,v27.1.p,over s23.2.2.1 (Int.toNat (w64 (s23.2.2.2*(8:Int)))) (Int.toNat ((List.length s23.2.2.1:Nat):Int)-Int.toNat (w64 (s23.2.2.2*(8:Int)))) (List.replicate (Int.toNat (8:Int)) (0:Int))))))
    (some (.go (v27.1.b,v27.1.p,s23.2.2.1))))
   (some (.go (s23.1,s23.2.1,s23.2.2.1)))) λj25=>
   JO.run j25 (wQ s18 s23)) λj24=>
   JO.run j24 (wC s23))
  (some (.ret (.go (s23.1,s23.2.1,s23.2.2.1))))
noncomputable def pM  (s18:(List Int)×Int×(List Int)×(List DGuest)×(List Int)×Int×Int×Int×Int×Bool×Int×Int×Int×Bool×Bool×Bool×Bool×(List Int)×(List Int)×(List Int)×Int):Option (LO ((List Int)×Int×(List Int)×(List DGuest)×(List Int)×Int×Int×Int×Int×Bool×Int×Int×Int×Bool×Bool×Bool×Bool×(List Int)×(List Int)×(List Int)×Int) (JO ((List Int)×Int×(List Int)×(List DGuest)) (Dl20Rd×DHost))):=
 cond (decide ((0:Int)<s18.2.2.2.2.2.2.2.2.2.2.2.2.2.2.2.2.2.2.2.2))
  (Option.bind (Option.bind (qL (Dl20Rd.mk s18.1 s18.2.1) (0:Int)) λv20=>
   Option.bind (Option.bind (iter (pD s18) (v20.1.b,v20.1.p,v20.2.Mem,(0:Int))) LO.val) λj21=>
    JO.run j21 (wG s18 v20)) λj19=>
   JO.run j19 (wE s18))
  (some (.ret (.go (s18.1,s18.2.1,s18.2.2.1,s18.2.2.2.1))))
noncomputable def yC (x_n:Int)(v1:DHost)(s2:(List Int)×Int×(List Int)):Option (Dl20Rd×DHost):=
 Option.bind (Option.bind (aA (Dl20Rd.mk s2.1 s2.2.1) (3:Int)) λv17=>
  Option.bind (iter pM (v17.1.b,v17.1.p,s2.2.2,v1.Guests,([]:List Int),(0:Int),(0:Int),(0:Int),(0:Int),false,(0:Int),(0:Int),(0:Int),false,false,false,false,([]:List Int),([]:List Int),([]:List Int),w64 ((1:Int)+v17.2))) LO.val) λj3=>
  JO.run j3 (xZ x_n)
noncomputable def wN (s28:(List Int)×Int×(List Int)×Int)(s29:(List Int)×Int×(List Int)):Option (LO ((List Int)×Int×(List Int)×Int) (JO ((List Int)×Int×(List Int)) (Dl20Rd×DHost))):=some (.next (s29.1,s29.2.1,s29.2.2,w64 (s28.2.2.2+(1:Int))))
noncomputable def pL  (s28:(List Int)×Int×(List Int)×Int):Option (LO ((List Int)×Int×(List Int)×Int) (JO ((List Int)×Int×(List Int)) (Dl20Rd×DHost))):=
 cond (decide (s28.2.2.2<((List.length s28.2.2.1:Nat):Int)))
  (Option.bind (Option.bind (aA (Dl20Rd.mk s28.1 s28.2.1) (4:Int)) λv30=>
   cond (decide (v30.2=(0:Int)))
    (Option.bind (dD v30.1) λv31=>
    grd ((0:Int)<=s28.2.2.2/\s28.2.2.2<((List.length s28.2.2.1:Nat):Int)) (some (.go (v31.1.b,v31.1.p,List.set s28.2.2.1 (Int.toNat s28.2.2.2) v31.2))))
    (some (.go (v30.1.b,v30.1.p,s28.2.2.1)))) λj29=>
   JO.run j29 (wN s28))
  (some (.ret (.go (s28.1,s28.2.1,s28.2.2.1))))
noncomputable def pU (x_r:Dl20Rd)(x_n:Int):Option (Dl20Rd×DHost):=
 Option.bind (qH (0:Int)) λv1=>
 Option.bind (Option.bind (iter pL (x_r.b,x_r.p,v1.Words,(0:Int))) LO.val) λj2=>
  JO.run j2 (yC x_n v1)
noncomputable def g86:Sw tG:=⟨[.pt 118,.v (.i .i64)],.one (.st 2026),pU⟩
theorem s86:Sjk 86 g86:=sgy [(133,.r bRm),(57,.w g57),(134,.w aYf),(135,.w bUz),(136,.r bRw),(101,.w aLu)] ⟨bXu,s57,bGg,bYl,bXl,aQq,trivial⟩ (.s .o (.s .o (.j ⟨[0,1,4,5],[],[(.c 0 0,.rb 5),(.c 0 1,.i .i64),(.c 5 0,.ro 3)]⟩ (.s .o (.k (.l ⟨[0,1,4,5],[],[(.c 0 0,.rb 5),(.c 0 1,.i .i64),(.c 5 0,.ro 3),(.s 6,.i .i64)]⟩ (.s .o (.j ⟨[0,1,4,5,6],[],[(.c 0 0,.rb 5),(.c 0 1,.i .i64),(.c 5 0,.ro 3)]⟩ (.k (.s .o (.c (.m [0]) .o))) .o))))) (.s .o (.j ⟨[0,1,4,5],[],[(.c 0 0,.rb 5),(.c 0 1,.i .i64),(.c 5 0,.ro 3),(.c 5 1,.ro 1038)]⟩ (.s .o (.k (.l ⟨[0,1,4,5,7],[],[(.c 0 0,.rb 5),(.c 0 1,.i .i64),(.c 5 0,.ro 3),(.c 5 1,.ro 1038),(.c 7 0,.ro 3),(.c 7 1,.i .i64),(.c 7 2,.i .i64),(.c 7 3,.i .i64),(.c 7 4,.i .i64),(.c 7 5,.b),(.c 7 6,.i .i64),(.c 7 7,.i .i64),(.c 7 8,.i .i64),(.c 7 9,.b),(.c 7 10,.b),(.c 7 11,.b),(.c 7 12,.b),(.c 7 13,.ro 3),(.c 7 14,.ro 3),(.c 7 15,.ro 3),(.s 8,.i .i64)]⟩ (.s .o (.j ⟨[0,1,4,5,7,8],[],[(.c 0 0,.rb 5),(.c 0 1,.i .i64),(.c 5 0,.ro 3),(.c 5 1,.ro 1038),(.c 7 0,.ro 3),(.c 7 1,.i .i64),(.c 7 2,.i .i64),(.c 7 3,.i .i64),(.c 7 4,.i .i64),(.c 7 5,.b),(.c 7 6,.i .i64),(.c 7 7,.i .i64),(.c 7 8,.i .i64),(.c 7 9,.b),(.c 7 10,.b),(.c 7 11,.b),(.c 7 12,.b),(.c 7 13,.ro 3),(.c 7 14,.ro 3),(.c 7 15,.ro 3)]⟩ (.k (.s .o (.j ⟨[0,1,4,5,7,8,9],[],[(.c 0 0,.rb 5),(.c 0 1,.i .i64),(.c 9 13,.ro 3)]⟩ (.s .o (.k (.l ⟨[0,1,4,5,7,8,9],[],[(.c 0 0,.rb 5),(.c 0 1,.i .i64),(.c 9 13,.ro 3),(.s 10,.i .i64)]⟩ (.s .o (.j ⟨[0,1,4,5,7,8,9,10],[],[(.c 0 0,.rb 5),(.c 0 1,.i .i64),(.c 9 13,.ro 3)]⟩ (.k (.j ⟨[0,1,4,5,7,8,9,10],[],[(.c 0 0,.rb 5),(.c 0 1,.i .i64),(.c 9 13,.ro 3)]⟩ .o .o)) .o))))) .o))) .o))))) (.j ⟨[0,1,4,5],[],[(.c 0 0,.rb 5),(.c 0 1,.i .i64),(.c 5 1,.ro 1038)]⟩ (.s .o (.k (.l ⟨[0,1,4,5],[],[(.c 0 0,.rb 5),(.c 0 1,.i .i64),(.c 5 1,.ro 1038),(.s 14,.i .i64)]⟩ (.s .o (.j ⟨[0,1,4,5,14],[],[(.c 0 0,.rb 5),(.c 0 1,.i .i64),(.c 5 1,.ro 1038)]⟩ (.k (.s .o (.s .o (.s .o (.s .o (.c (.s .o (.m [0])) .o)))))) .o))))) (.j ⟨[4,5],[0],[(.c 5 0,.ro 3),(.d 0 0,.rb 5),(.d 0 1,.i .i64),(.c 5 1,.ro 1038)]⟩ (.s .o (.c (.s .o (.k (.s .o (.c (.m [0]) (.s .o (.c .o (.s .o (.c (.g [] [] [.fo (.c 5 1) 0]) (.g [] [] [.fo (.c 5 1) 0]))))))))) .o)) .o))))))) kr kr kr
noncomputable def xY  (s2:(List Int)×Int×(List DLine)):Option (Dl20Rd×(List DLine)):=some ((Dl20Rd.mk s2.1 s2.2.1),s2.2.2)
noncomputable def xX (x_n:Int)(s1:(List Int)×Int×(List DLine)):Option (Dl20Rd×(List DLine)):=
 Option.bind (cond (decide ((0:Int)<((List.length s1.2.2:Nat):Int)))
  (Option.bind (bX (Dl20Rd.mk s1.1 s1.2.1) x_n) λv3=>
  cond v3.2
   (Option.bind (aA v3.1 (3:Int)) λv4=>
   cond (decide (v4.2=(0:Int)))
    (grd ((0:Int)<=(0:Int)/\(0:Int)<((List.length s1.2.2:Nat):Int)) (grd ((0:Int)<=(0:Int)/\(0:Int)<((List.length s1.2.2:Nat):Int)) (some (.go (v4.1.b,v4.1.p,List.set s1.2.2 0 (DLine.mk (List.getD s1.2.2 0 default).Tag (List.getD s1.2.2 0 default).At (DShade.mk ((List.getD s1.2.2 0 default).What).There (!((List.getD s1.2.2 0 default).What).Write) ((List.getD s1.2.2 0 default).What).User ((List.getD s1.2.2 0 default).What).Page ((List.getD s1.2.2 0 default).What).Frame ((List.getD s1.2.2 0 default).What).Ready)))))))
    (cond (decide (v4.2=(1:Int)))
     (grd ((0:Int)<=(0:Int)/\(0:Int)<((List.length s1.2.2:Nat):Int)) (grd ((List.length s1.2.2+List.length ([DLine.mk (List.getD s1.2.2 0 default).Tag (List.getD s1.2.2 0 default).At (DShade.mk ((List.getD s1.2.2 0 default).What).There ((List.getD s1.2.2 0 default).What).Write ((List.getD s1.2.2 0 default).What).User ((List.getD s1.2.2 0 default).What).Page ((List.getD s1.2.2 0 default).What).Frame ((List.getD s1.2.2 0 default).What).Ready)]:List DLine))*48<=2^47/\List.length s1.2.2+List.length ([DLine.mk (List.getD s1.2.2 0 default).Tag (List.getD s1.2.2 0 default).At (DShade.mk ((List.getD s1.2.2 0 default).What).There ((List.getD s1.2.2 0 default).What).Write ((List.getD s1.2.2 0 default).What).User ((List.getD s1.2.2 0 default).What).Page ((List.getD s1.2.2 0 default).What).Frame ((List.getD s1.2.2 0 default).What).Ready)]:List DLine)<=2^47) (some (.go (v4.1.b,v4.1.p,s1.2.2++([DLine.mk (List.getD s1.2.2 0 default).Tag (List.getD s1.2.2 0 default).At (DShade.mk ((List.getD s1.2.2 0 default).What).There ((List.getD s1.2.2 0 default).What).Write ((List.getD s1.2.2 0 default).What).User ((List.getD s1.2.2 0 default).What).Page ((List.getD s1.2.2 0 default).What).Frame ((List.getD s1.2.2 0 default).What).Ready)]:List DLine))))))
     (Option.bind (aA v4.1 (4:Int)) λv5=>
     grd ((0:Int)<=(0:Int)/\(0:Int)<((List.length s1.2.2:Nat):Int)) (some (.go (v5.1.b,v5.1.p,List.set s1.2.2 0 (DLine.mk v5.2 (List.getD s1.2.2 0 default).At (DShade.mk ((List.getD s1.2.2 0 default).What).There ((List.getD s1.2.2 0 default).What).Write ((List.getD s1.2.2 0 default).What).User ((List.getD s1.2.2 0 default).What).Page ((List.getD s1.2.2 0 default).What).Frame ((List.getD s1.2.2 0 default).What).Ready))))))))
   (some (.go (v3.1.b,v3.1.p,s1.2.2))))
  (some (.go (s1.1,s1.2.1,s1.2.2)))) λj2=>
  JO.run j2 xY
noncomputable def yF (s7:(List Int)×Int×(List DLine)×Int)(s8:(List Int)×Int×(List DLine)):Option (LO ((List Int)×Int×(List DLine)×Int) (JO ((List Int)×Int×(List DLine)) (Dl20Rd×(List DLine)))):=some (.next (s8.1,s8.2.1,s8.2.2,w64 (s7.2.2.2-(1:Int))))
noncomputable def mG (x_h:DHost)(s7:(List Int)×Int×(List DLine)×Int):Option (LO ((List Int)×Int×(List DLine)×Int) (JO ((List Int)×Int×(List DLine)) (Dl20Rd×(List DLine)))):=
 cond (decide ((0:Int)<s7.2.2.2))
  (Option.bind (Option.bind (aA (Dl20Rd.mk s7.1 s7.2.1) (3:Int)) λv9=>
   Option.bind (aA v9.1 (64:Int)) λv10=>
   Option.bind (qG x_h s7.2.2.1 v9.2 v10.2 true true) λv11=>
   cond (decide ((0:Int)<=v11.2.2))
    (some (.go (v10.1.b,v10.1.p,v11.1)))
    (some (.go (v10.1.b,v10.1.p,s7.2.2.1)))) λj8=>
   JO.run j8 (yF s7))
  (some (.ret (.go (s7.1,s7.2.1,s7.2.2.1))))
noncomputable def qF (x_r:Dl20Rd)(x_h:DHost)(x_n:Int):Option (Dl20Rd×(List DLine)):=
 Option.bind (Option.bind (aA x_r (10:Int)) λv6=>
  Option.bind (iter (mG x_h) (v6.1.b,v6.1.p,([]:List DLine),v6.2)) LO.val) λj1=>
  JO.run j1 (xX x_n)
noncomputable def g87:Sw tG:=⟨[.pt 118,.v (.st 26),.v (.i .i64)],.one (.row 114),qF⟩
theorem s87:Sjk 87 g87:=sgy [(57,.w g57),(137,.r bRl),(101,.w aLu)] ⟨s57,bXc,aQq,trivial⟩ (.s .o (.s .o (.j ⟨[0,2],[],[(.c 0 0,.rb 5),(.c 0 1,.i .i64),(.s 7,.ro 114)]⟩ (.s .o (.k (.l ⟨[0,2,4],[],[(.c 0 0,.rb 5),(.c 0 1,.i .i64),(.s 7,.ro 114),(.s 8,.i .i64)]⟩ (.s .o (.j ⟨[0,2,4,8],[],[(.c 0 0,.rb 5),(.c 0 1,.i .i64),(.s 7,.ro 114)]⟩ (.k (.s (.m [0]) .o)) .o))))) (.j ⟨[],[0],[(.d 0 0,.rb 5),(.d 0 1,.i .i64),(.s 7,.ro 114)]⟩ .o .o)))) kr kr kr
noncomputable def aBf  (s2:(List Int)×Int×Int):Option (Dl20Rd×Int):=
 Option.bind (aA (Dl20Rd.mk s2.1 s2.2.1) (25:Int)) λv3=>
 some (v3.1,w64 (s2.2.2-(w64 (Int.tdiv v3.2 (24:Int)))))
noncomputable def uH (x_r:Dl20Rd)(x_h:DHost):Option (Dl20Rd×Int):=
 Option.bind (aA x_r (3:Int)) λv1=>
 Option.bind (cond (decide (((List.length x_h.Guests:Nat):Int)=(3:Int)))
  (grd ((0:Int)<=v1.2/\v1.2<((List.length x_h.Guests:Nat):Int)) (cond (!(List.getD x_h.Guests (Int.toNat v1.2) default).Live)
   (Option.bind (aA v1.1 (6:Int)) λv4=>
   cond (decide ((0:Int)<v4.2))
    (some (.go (v4.1.b,v4.1.p,(0:Int))))
    (some (.go (v4.1.b,v4.1.p,v1.2))))
   (some (.go (v1.1.b,v1.1.p,v1.2)))))
  (some (.go (v1.1.b,v1.1.p,v1.2)))) λj2=>
  JO.run j2 aBf
noncomputable def g56:Sw tG:=⟨[.pt 118,.v (.st 26)],.one (.i .i64),uH⟩
theorem s56:Sjk 56 g56:=sgy [(57,.w g57)] ⟨s57,trivial⟩ (.s .o (.s .o (.j ⟨[0],[],[(.c 0 0,.rb 5),(.c 0 1,.i .i64),(.s 5,.i .i64)]⟩ .o .o))) kr kr kr
noncomputable def aDl (x_a:List DSlot)(x_left:Int):Option Int:=
 cond (decide ((w64 (x_left-((List.length x_a:Nat):Int)))<(0:Int)))
  (some (-1:Int))
  (some (w64 (x_left-((List.length x_a:Nat):Int))))
noncomputable def bUi:Sg tG:=⟨[.row 184,.i .i64],.one (.i .i64),aDl⟩
theorem bYc:Sok 164 bUi:=sgx [] trivial .o kr kr kr
noncomputable def aDp (x_a:DGuest)(x_left:Int):Option Int:=
 Option.bind (aGn x_a.C x_left) λv1=>
 cond (decide (v1<(0:Int)))
  (some (-1:Int))
  (Option.bind (aDl x_a.Pages v1) λv2=>
  cond (decide (v2<(0:Int)))
   (some (-1:Int))
   (Option.bind (nZ x_a.In v2) λv3=>
   cond (decide (v3<(0:Int)))
    (some (-1:Int))
    (Option.bind (nZ x_a.Out v3) λv4=>
    cond (decide (v4<(0:Int)))
     (some (-1:Int))
     (some v4))))
noncomputable def bTb:Sg tG:=⟨[.st 151,.i .i64],.one (.i .i64),aDp⟩
theorem bYq:Sok 128 bTb:=sgx [(163,.r bQz),(164,.r bUi),(79,.r g79)] ⟨bXp,bYc,s79,trivial⟩ .o kr kr kr
noncomputable def aHr  (s1:Int):Option Int:=some s1
noncomputable def aJg (x_a:List DGuest)(s2:Int×Int):Option (LO (Int×Int) (JO Int Int)):=
 cond (decide (s2.2<((List.length x_a:Nat):Int)))
  (grd ((0:Int)<=s2.2/\s2.2<((List.length x_a:Nat):Int)) (Option.bind (aDp (DGuest.mk (List.getD x_a (Int.toNat s2.2) default).Live (DCore.mk ((List.getD x_a (Int.toNat s2.2) default).C).Regs ((List.getD x_a (Int.toNat s2.2) default).C).Pc ((List.getD x_a (Int.toNat s2.2) default).C).Root ((List.getD x_a (Int.toNat s2.2) default).C).Vector ((List.getD x_a (Int.toNat s2.2) default).C).Saved ((List.getD x_a (Int.toNat s2.2) default).C).SavedUser ((List.getD x_a (Int.toNat s2.2) default).C).Cause ((List.getD x_a (Int.toNat s2.2) default).C).Bad ((List.getD x_a (Int.toNat s2.2) default).C).Timer ((List.getD x_a (Int.toNat s2.2) default).C).Waits ((List.getD x_a (Int.toNat s2.2) default).C).User ((List.getD x_a (Int.toNat s2.2) default).C).On ((List.getD x_a (Int.toNat s2.2) default).C).Stopped) (List.getD x_a (Int.toNat s2.2) default).Pages (List.getD x_a (Int.toNat s2.2) default).In (List.getD x_a (Int.toNat s2.2) default).Out) s2.1) λv3=>
   cond (decide (v3<(0:Int)))
    (some (.ret (.out (-1:Int))))
    (some (.next (v3,w64 (s2.2+(1:Int)))))))
  (some (.ret (.go s2.1)))
noncomputable def aBu (x_a:List DGuest)(x_left:Int):Option Int:=
 cond (decide ((w64 (x_left-((List.length x_a:Nat):Int)))<(0:Int)))
  (some (-1:Int))
  (Option.bind (Option.bind (iter (aJg x_a) ((w64 (x_left-((List.length x_a:Nat):Int))),(0:Int))) LO.val) λj1=>
   JO.run j1 aHr)
noncomputable def g80:Sg tG:=⟨[.row 151,.i .i64],.one (.i .i64),aBu⟩
theorem s80:Sok 80 g80:=sgx [(128,.r bTb)] ⟨bYq,trivial⟩ (.s .o (.s .o (.s .o (.j ⟨[],[],[(.s 1,.i .i64)]⟩ (.s .o (.k (.l ⟨[0],[],[(.s 1,.i .i64),(.s 5,.i .i64)]⟩ .o))) .o)))) kr kr kr
noncomputable def aUa (x_a:DHost)(x_left:Int):Option Int:=
 Option.bind (nZ x_a.Words x_left) λv1=>
 cond (decide (v1<(0:Int)))
  (some (-1:Int))
  (Option.bind (aBu x_a.Guests v1) λv2=>
  cond (decide (v2<(0:Int)))
   (some (-1:Int))
   (some v2))
noncomputable def g25:Sg tG:=⟨[.st 56,.i .i64],.one (.i .i64),aUa⟩
theorem s25:Sok 25 g25:=sgx [(79,.r g79),(80,.r g80)] ⟨s79,s80,trivial⟩ .o kr kr kr
noncomputable def aGz  (s1:Int):Option Int:=some s1
noncomputable def aGu (x_a:List DSlot)(s2:Int×Int):Option (LO (Int×Int) (JO Int Int)):=
 cond (decide (s2.2<((List.length x_a:Nat):Int)))
  (grd ((0:Int)<=s2.2/\s2.2<((List.length x_a:Nat):Int)) (cond (!decide ((List.getD x_a (Int.toNat s2.2) default).Frame=s2.1))
   (some (.ret (.out (-1:Int))))
   (grd ((0:Int)<=s2.2/\s2.2<((List.length x_a:Nat):Int)) (cond (!((List.getD x_a (Int.toNat s2.2) default).Write==(decide ((Int.tmod (w64 (s2.1+(1:Int))) (3:Int))=(0:Int)))))
    (some (.ret (.out (-1:Int))))
    (grd ((0:Int)<=s2.2/\s2.2<((List.length x_a:Nat):Int)) (cond (!((List.getD x_a (Int.toNat s2.2) default).Dirty==(decide ((Int.tmod (w64 ((w64 (s2.1+(1:Int)))+(1:Int))) (3:Int))=(0:Int)))))
     (some (.ret (.out (-1:Int))))
     (some (.next ((w64 ((w64 ((w64 (s2.1+(1:Int)))+(1:Int)))+(1:Int))),w64 (s2.2+(1:Int)))))))))))
  (some (.ret (.go s2.1)))
noncomputable def aAd (x_a:List DSlot)(x_k:Int):Option Int:=
 Option.bind (Option.bind (iter (aGu x_a) (x_k,(0:Int))) LO.val) λj1=>
  JO.run j1 aGz
noncomputable def bTj:Sg tG:=⟨[.row 53,.i .i64],.one (.i .i64),aAd⟩
theorem bXf:Sok 132 bTj:=sgx [] trivial (.s .o (.j ⟨[],[],[(.s 1,.i .i64)]⟩ (.s .o (.k (.l ⟨[0],[],[(.s 1,.i .i64),(.s 5,.i .i64)]⟩ .o))) .o)) kr kr kr
noncomputable def aFe  (s1:Int):Option Int:=some s1
noncomputable def aGb (x_a:List DGuest)(s2:Int×Int):Option (LO (Int×Int) (JO Int Int)):=
 cond (decide (s2.2<((List.length x_a:Nat):Int)))
  (grd ((0:Int)<=s2.2/\s2.2<((List.length x_a:Nat):Int)) (cond (!((List.getD x_a (Int.toNat s2.2) default).Live==(decide ((Int.tmod s2.1 (3:Int))=(0:Int)))))
   (some (.ret (.out (-1:Int))))
   (grd ((0:Int)<=s2.2/\s2.2<((List.length x_a:Nat):Int)) (Option.bind (lW ((List.getD x_a (Int.toNat s2.2) default).C).Regs (w64 (s2.1+(1:Int)))) λv3=>
    cond (decide (v3<(0:Int)))
     (some (.ret (.out (-1:Int))))
     (grd ((0:Int)<=s2.2/\s2.2<((List.length x_a:Nat):Int)) (cond (!decide (((List.getD x_a (Int.toNat s2.2) default).C).Pc=v3))
      (some (.ret (.out (-1:Int))))
      (grd ((0:Int)<=s2.2/\s2.2<((List.length x_a:Nat):Int)) (cond (!decide (((List.getD x_a (Int.toNat s2.2) default).C).Root=(w64 (v3+(1:Int)))))
       (some (.ret (.out (-1:Int))))
       (grd ((0:Int)<=s2.2/\s2.2<((List.length x_a:Nat):Int)) (cond (!decide (((List.getD x_a (Int.toNat s2.2) default).C).Vector=(w64 ((w64 (v3+(1:Int)))+(1:Int)))))
        (some (.ret (.out (-1:Int))))
        (grd ((0:Int)<=s2.2/\s2.2<((List.length x_a:Nat):Int)) (cond (!decide (((List.getD x_a (Int.toNat s2.2) default).C).Saved=(w64 ((w64 ((w64 (v3+(1:Int)))+(1:Int)))+(1:Int)))))
         (some (.ret (.out (-1:Int))))
         (grd ((0:Int)<=s2.2/\s2.2<((List.length x_a:Nat):Int)) (cond (!(((List.getD x_a (Int.toNat s2.2) default).C).SavedUser==(decide ((Int.tmod (w64 ((w64 ((w64 ((w64 (v3+(1:Int)))+(1:Int)))+(1:Int)))+(1:Int))) (3:Int))=(0:Int)))))
          (some (.ret (.out (-1:Int))))
          (grd ((0:Int)<=s2.2/\s2.2<((List.length x_a:Nat):Int)) (cond (!decide (((List.getD x_a (Int.toNat s2.2) default).C).Cause=(w64 ((w64 ((w64 ((w64 ((w64 (v3+(1:Int)))+(1:Int)))+(1:Int)))+(1:Int)))+(1:Int)))))
           (some (.ret (.out (-1:Int))))
           (grd ((0:Int)<=s2.2/\s2.2<((List.length x_a:Nat):Int)) (cond (!decide (((List.getD x_a (Int.toNat s2.2) default).C).Bad=(w64 ((w64 ((w64 ((w64 ((w64 ((w64 (v3+(1:Int)))+(1:Int)))+(1:Int)))+(1:Int)))+(1:Int)))+(1:Int)))))
            (some (.ret (.out (-1:Int))))
            (grd ((0:Int)<=s2.2/\s2.2<((List.length x_a:Nat):Int)) (cond (!decide (((List.getD x_a (Int.toNat s2.2) default).C).Timer=(w64 ((w64 ((w64 ((w64 ((w64 ((w64 ((w64 (v3+(1:Int)))+(1:Int)))+(1:Int)))+(1:Int)))+(1:Int)))+(1:Int)))+(1:Int)))))
             (some (.ret (.out (-1:Int))))
             (grd ((0:Int)<=s2.2/\s2.2<((List.length x_a:Nat):Int)) (cond (!(((List.getD x_a (Int.toNat s2.2) default).C).Waits==(decide ((Int.tmod (w64 ((w64 ((w64 ((w64 ((w64 ((w64 ((w64 ((w64 (v3+(1:Int)))+(1:Int)))+(1:Int)))+(1:Int)))+(1:Int)))+(1:Int)))+(1:Int)))+(1:Int))) (3:Int))=(0:Int)))))
              (some (.ret (.out (-1:Int))))
              (grd ((0:Int)<=s2.2/\s2.2<((List.length x_a:Nat):Int)) (cond (!(((List.getD x_a (Int.toNat s2.2) default).C).User==(decide ((Int.tmod (w64 ((w64 ((w64 ((w64 ((w64 ((w64 ((w64 ((w64 ((w64 (v3+(1:Int)))+(1:Int)))+(1:Int)))+(1:Int)))+(1:Int)))+(1:Int)))+(1:Int)))+(1:Int)))+(1:Int))) (3:Int))=(0:Int)))))
               (some (.ret (.out (-1:Int))))
               (grd ((0:Int)<=s2.2/\s2.2<((List.length x_a:Nat):Int)) (cond (!(((List.getD x_a (Int.toNat s2.2) default).C).On==(decide ((Int.tmod (w64 ((w64 ((w64 ((w64 ((w64 ((w64 ((w64 ((w64 ((w64 ((w64 (v3+(1:Int)))+(1:Int)))+(1:Int)))+(1:Int)))+(1:Int)))+(1:Int)))+(1:Int)))+(1:Int)))+(1:Int)))+(1:Int))) (3:Int))=(0:Int)))))
                (some (.ret (.out (-1:Int))))
                (grd ((0:Int)<=s2.2/\s2.2<((List.length x_a:Nat):Int)) (cond (!(((List.getD x_a (Int.toNat s2.2) default).C).Stopped==(decide ((Int.tmod (w64 ((w64 ((w64 ((w64 ((w64 ((w64 ((w64 ((w64 ((w64 ((w64 ((w64 (v3+(1:Int)))+(1:Int)))+(1:Int)))+(1:Int)))+(1:Int)))+(1:Int)))+(1:Int)))+(1:Int)))+(1:Int)))+(1:Int)))+(1:Int))) (3:Int))=(0:Int)))))
                 (some (.ret (.out (-1:Int))))
                 (grd ((0:Int)<=s2.2/\s2.2<((List.length x_a:Nat):Int)) (Option.bind (aAd (List.getD x_a (Int.toNat s2.2) default).Pages (w64 ((w64 ((w64 ((w64 ((w64 ((w64 ((w64 ((w64 ((w64 ((w64 ((w64 ((w64 (v3+(1:Int)))+(1:Int)))+(1:Int)))+(1:Int)))+(1:Int)))+(1:Int)))+(1:Int)))+(1:Int)))+(1:Int)))+(1:Int)))+(1:Int)))+(1:Int)))) λv4=>
                  cond (decide (v4<(0:Int)))
                   (some (.ret (.out (-1:Int))))
                   (grd ((0:Int)<=s2.2/\s2.2<((List.length x_a:Nat):Int)) (Option.bind (lW (List.getD x_a (Int.toNat s2.2) default).In v4) λv5=>
                    cond (decide (v5<(0:Int)))
                     (some (.ret (.out (-1:Int))))
                     (grd ((0:Int)<=s2.2/\s2.2<((List.length x_a:Nat):Int)) (Option.bind (lW (List.getD x_a (Int.toNat s2.2) default).Out v5) λv6=>
                      cond (decide (v6<(0:Int)))
                       (some (.ret (.out (-1:Int))))
                       (some (.next (v6,w64 (s2.2+(1:Int)))))))))))))))))))))))))))))))))))))))
  (some (.ret (.go s2.1)))
noncomputable def xR (x_a:List DGuest)(x_k:Int):Option Int:=
 Option.bind (Option.bind (iter (aGb x_a) (x_k,(0:Int))) LO.val) λj1=>
  JO.run j1 aFe
noncomputable def g85:Sg tG:=⟨[.row 38,.i .i64],.one (.i .i64),xR⟩
theorem s85:Sok 85 g85:=sgx [(84,.r g84),(132,.r bTj)] ⟨s84,bXf,trivial⟩ (.s .o (.j ⟨[],[],[(.s 1,.i .i64)]⟩ (.s .o (.k (.l ⟨[0],[],[(.s 1,.i .i64),(.s 5,.i .i64)]⟩ .o))) .o)) kr kr kr
noncomputable def aPu (x_a:DHost)(x_k:Int):Option Int:=
 Option.bind (lW x_a.Words x_k) λv1=>
 cond (decide (v1<(0:Int)))
  (some (-1:Int))
  (Option.bind (xR x_a.Guests v1) λv2=>
  cond (decide (v2<(0:Int)))
   (some (-1:Int))
   (some v2))
noncomputable def g29:Sg tG:=⟨[.st 26,.i .i64],.one (.i .i64),aPu⟩
theorem s29:Sok 29 g29:=sgx [(84,.r g84),(85,.r g85)] ⟨s84,s85,trivial⟩ .o kr kr kr
noncomputable def aKr  (s1:List DLine):Option (List DLine):=some s1
noncomputable def rC (s2:(List DLine)×Int)(s3:List DLine):Option (LO ((List DLine)×Int) (JO (List DLine) (List DLine))):=some (.next (s3,w64 (s2.2+(1:Int))))
noncomputable def jJ (x_tags:List DLine)(x_g:Int)(s2:(List DLine)×Int):Option (LO ((List DLine)×Int) (JO (List DLine) (List DLine))):=
 cond (decide (s2.2<((List.length x_tags:Nat):Int)))
  (Option.bind (grd ((0:Int)<=s2.2/\s2.2<((List.length x_tags:Nat):Int)) (cond (!decide ((List.getD x_tags (Int.toNat s2.2) default).Tag=x_g))
   (grd ((List.length s2.1+List.length ([DLine.mk (List.getD x_tags (Int.toNat s2.2) default).Tag (List.getD x_tags (Int.toNat s2.2) default).At (DShade.mk ((List.getD x_tags (Int.toNat s2.2) default).What).There ((List.getD x_tags (Int.toNat s2.2) default).What).Write ((List.getD x_tags (Int.toNat s2.2) default).What).User ((List.getD x_tags (Int.toNat s2.2) default).What).Page ((List.getD x_tags (Int.toNat s2.2) default).What).Frame ((List.getD x_tags (Int.toNat s2.2) default).What).Ready)]:List DLine))*48<=2^47/\List.length s2.1+List.length ([DLine.mk (List.getD x_tags (Int.toNat s2.2) default).Tag (List.getD x_tags (Int.toNat s2.2) default).At (DShade.mk ((List.getD x_tags (Int.toNat s2.2) default).What).There ((List.getD x_tags (Int.toNat s2.2) default).What).Write ((List.getD x_tags (Int.toNat s2.2) default).What).User ((List.getD x_tags (Int.toNat s2.2) default).What).Page ((List.getD x_tags (Int.toNat s2.2) default).What).Frame ((List.getD x_tags (Int.toNat s2.2) default).What).Ready)]:List DLine)<=2^47) (some (.go (s2.1++([DLine.mk (List.getD x_tags (Int.toNat s2.2) default).Tag (List.getD x_tags (Int.toNat s2.2) default).At (DShade.mk ((List.getD x_tags (Int.toNat s2.2) default).What).There ((List.getD x_tags (Int.toNat s2.2) default).What).Write ((List.getD x_tags (Int.toNat s2.2) default).What).User ((List.getD x_tags (Int.toNat s2.2) default).What).Page ((List.getD x_tags (Int.toNat s2.2) default).What).Frame ((List.getD x_tags (Int.toNat s2.2) default).What).Ready)]:List DLine)))))
   (some (.go s2.1)))) λj3=>
   JO.run j3 (rC s2))
  (some (.ret (.go s2.1)))
noncomputable def qQ (x_tags:List DLine)(x_g:Int):Option (List DLine):=
 Option.bind (Option.bind (iter (jJ x_tags x_g) (([]:List DLine),(0:Int))) LO.val) λj1=>
  JO.run j1 aKr
noncomputable def g38:Sg tG:=⟨[.row 114,.i .i64],.one (.row 114),qQ⟩
theorem s38:Sok 38 g38:=sgx [] trivial (.s .o (.s .o (.j ⟨[],[],[(.s 5,.ro 114)]⟩ (.s .o (.k (.l ⟨[1,9,10],[],[(.s 5,.ro 114),(.s 11,.i .i64)]⟩ (.s .o (.s .o (.j ⟨[1,9,10,11],[],[(.s 5,.ro 114)]⟩ .o .o)))))) .o))) kr kr kr
noncomputable def uJ (x_i:DIns):Option Bool:=
 cond (decide ((0:Int)<=x_i.Op))
  (cond (decide ((0:Int)<=x_i.A))
   (cond (decide ((0:Int)<=x_i.N))
    (cond (decide (x_i.Op<=(15:Int)))
     (cond (decide (x_i.A<(4:Int)))
      (some (decide (x_i.N<(64:Int))))
      (some false))
     (some false))
    (cond (decide (x_i.Op<=(15:Int)))
     (cond (decide (x_i.A<(4:Int)))
      (some false)
      (some false))
     (some false)))
   (cond (decide ((0:Int)<=x_i.N))
    (cond (decide (x_i.Op<=(15:Int)))
     (some false)
     (some false))
    (cond (decide (x_i.Op<=(15:Int)))
     (some false)
     (some false))))
  (cond (decide ((0:Int)<=x_i.A))
   (cond (decide ((0:Int)<=x_i.N))
    (some false)
    (some false))
   (cond (decide ((0:Int)<=x_i.N))
    (some false)
    (some false)))
noncomputable def bTk:Sg tG:=⟨[.st 89],.one .b,uJ⟩
theorem bXt:Sok 192 bTk:=sgx [] trivial .o kr kr kr
noncomputable def aGv  (s2:Bool):Option Bool:=
 cond s2
  (some true)
  (some false)
noncomputable def kM (x_i:DIns):Option Bool:=
 Option.bind (uJ x_i) λv1=>
 cond (!v1)
  (some false)
  (Option.bind (cond (decide (x_i.Op=(0:Int)))
   (some (.go (decide (x_i.Op=(0:Int)))))
   (cond (decide (x_i.Op=(8:Int)))
    (some (.go (decide (x_i.Op=(8:Int)))))
    (cond (decide (x_i.Op=(9:Int)))
     (some (.go (decide (x_i.Op=(9:Int)))))
     (cond (decide (x_i.Op=(10:Int)))
      (some (.go (decide (x_i.Op=(10:Int)))))
      (cond (decide (x_i.Op=(11:Int)))
       (some (.go (decide (x_i.Op=(11:Int)))))
       (cond (decide (x_i.Op=(12:Int)))
        (some (.go (decide (x_i.Op=(12:Int)))))
        (cond (decide (x_i.Op=(13:Int)))
         (some (.go (decide (x_i.Op=(13:Int)))))
         (some (.go (decide (x_i.Op=(14:Int)))))))))))) λj2=>
   JO.run j2 aGv)
noncomputable def bLu:Sg tG:=⟨[.st 89],.one .b,kM⟩
theorem bUy:Sok 178 bLu:=sgx [(192,.r bTk)] ⟨bXt,trivial⟩ (.s .o (.s .o (.s (.s .o (.k (.j ⟨[],[],[(.s 8,.b)]⟩ .o .o))) .o))) kr kr kr
noncomputable def kA (x_w:Int):Option DIns:=
 Option.bind (fK x_w) λv1=>
 cond (!v1)
  (some (DIns.mk (0:Int) (0:Int) (0:Int)))
  (some (DIns.mk (w64 (Int.tdiv x_w (256:Int))) (Int.tmod (w64 (Int.tdiv x_w (64:Int))) (4:Int)) (Int.tmod x_w (64:Int))))
noncomputable def bEs:Sg tG:=⟨[.i .i64],.one (.st 89),kA⟩
theorem bOe:Sok 114 bEs:=sgx [(55,.r g55)] ⟨s55,trivial⟩ .o kr kr kr
noncomputable def cO (x_i:DIns):Option Bool:=
 Option.bind (pO x_i) λv1=>
 cond v1
  (cond (decide (x_i.Op=(0:Int)))
   (some true)
   (Option.bind (bU x_i.Op (8:Int) (14:Int)) λv2=>
   some v2))
  (some false)
noncomputable def g71:Sg tG:=⟨[.st 89],.one .b,cO⟩
theorem s71:Sok 71 g71:=sgx [(100,.r bNh),(97,.r g97)] ⟨bSw,s97,trivial⟩ .o kr kr kr
theorem rN{x_i:DIns}{R_:Bool}(hh:cO x_i=some R_):Fn Tryz.prog 71 [.agg (eU x_i)] (.bool R_):=kc (s71 x_i R_ hh)
noncomputable def jX (x_w:Int):Option DIns:=
 Option.bind (fH x_w) λv1=>
 cond (!v1)
  (some (DIns.mk (0:Int) (0:Int) (0:Int)))
  (some (DIns.mk (w64 (Int.tdiv x_w (256:Int))) (Int.tmod (w64 (Int.tdiv x_w (64:Int))) (4:Int)) (Int.tmod x_w (64:Int))))
noncomputable def g70:Sg tG:=⟨[.i .i64],.one (.st 89),jX⟩
theorem s70:Sok 70 g70:=sgx [(120,.r aQw)] ⟨aYn,trivial⟩ .o kr kr kr
theorem aOa{x_w:Int}{R_:DIns}(hh:jX x_w=some R_):Fn Tryz.prog 70 [.int .i64 x_w] (.agg [.int .i64 R_.Op,.int .i64 R_.A,.int .i64 R_.N]):=kc (s70 x_w R_ hh)
noncomputable def aAu (x_c:DCore)(s1:Bool):Option DCore:=some (DCore.mk x_c.Regs x_c.Pc x_c.Root x_c.Vector x_c.Saved x_c.SavedUser x_c.Cause x_c.Bad (w64 (x_c.Timer-(1:Int))) s1 x_c.User x_c.On x_c.Stopped)
noncomputable def gH (x_c:DCore):Option DCore:=
 cond (decide (x_c.Timer=(0:Int)))
  (some x_c)
  (Option.bind (cond (decide ((w64 (x_c.Timer-(1:Int)))=(0:Int)))
   (some (.go true))
   (some (.go x_c.Waits))) λj1=>
   JO.run j1 (aAu x_c))
noncomputable def bEc:Sg tG:=⟨[.st 35],.one (.sb 35),gH⟩
theorem bOf:Sok 107 bEc:=sgx [] trivial (.s .o (.s .o (.s .o (.j ⟨[1,2],[],[(.c 1 9,.b)]⟩ .o .o)))) kr kr kr
noncomputable def eT (x_c:DCore):Option Bool:=
 cond x_c.Waits
  (some x_c.On)
  (some false)
noncomputable def bEy:Sg tG:=⟨[.st 35],.one .b,eT⟩
theorem bKt:Sok 108 bEy:=sgx [] trivial .o kr kr kr
noncomputable def gI (x_c:DCore)(x_from:Int)(x_cause:Int)(x_bad:Int):Option DCore:=some (DCore.mk x_c.Regs x_c.Vector x_c.Root x_c.Vector x_from x_c.User x_cause x_bad x_c.Timer x_c.Waits false false x_c.Stopped)
noncomputable def g69:Sw tG:=⟨[.os 35,.v (.i .i64),.v (.i .i64),.v (.i .i64)],.one (.st 35),gI⟩
theorem s69:Sjk 69 g69:=sgy [] trivial .o kr kr kr
theorem vL{x_c:DCore}{x_from:Int}{x_cause:Int}{x_bad:Int}{R_:DCore}(hh:gI x_c x_from x_cause x_bad=some R_):Inl Tryz.prog 69 [.agg [.sref 0 [] 0 (List.length x_c.Regs) 1,.int .i64 x_c.Pc,.int .i64 x_c.Root,.int .i64 x_c.Vector,.int .i64 x_c.Saved,.bool x_c.SavedUser,.int .i64 x_c.Cause,.int .i64 x_c.Bad,.int .i64 x_c.Timer,.bool x_c.Waits,.bool x_c.User,.bool x_c.On,.bool x_c.Stopped],.int .i64 x_from,.int .i64 x_cause,.int .i64 x_bad] [(0,some (rI_3 x_c.Regs))] 1 (.agg [.sref 1 [] 0 (List.length R_.Regs) 1,.int .i64 R_.Pc,.int .i64 R_.Root,.int .i64 R_.Vector,.int .i64 R_.Saved,.bool R_.SavedUser,.int .i64 R_.Cause,.int .i64 R_.Bad,.int .i64 R_.Timer,.bool R_.Waits,.bool R_.User,.bool R_.On,.bool R_.Stopped]) [(1,some (rI_3 R_.Regs))] 2:=kc (s69 x_c x_from x_cause x_bad R_ hh)
noncomputable def wR (x_c:DCore)(s1:Bool×Int)(s2:Unit):Option (DCore×Bool):=some ((DCore.mk x_c.Regs x_c.Pc x_c.Root x_c.Vector x_c.Saved x_c.SavedUser x_c.Cause x_c.Bad s1.2 s1.1 x_c.User x_c.On x_c.Stopped),false)
noncomputable def wS (x_c:DCore)(s1:Bool×Int):Option (DCore×Bool):=
 Option.bind (cond s1.1
  (cond x_c.On
   (Option.bind (gI (DCore.mk x_c.Regs x_c.Pc x_c.Root x_c.Vector x_c.Saved x_c.SavedUser x_c.Cause x_c.Bad s1.2 false x_c.User x_c.On x_c.Stopped) x_c.Pc (4:Int) (0:Int)) λv3=>
   some (.out (v3,true)))
   (some (.go ())))
  (some (.go ()))) λj2=>
  JO.run j2 (wR x_c s1)
noncomputable def gC (x_c:DCore):Option (DCore×Bool):=
 Option.bind (cond (decide ((0:Int)<x_c.Timer))
  (cond (decide ((w64 (x_c.Timer-(1:Int)))=(0:Int)))
   (some (.go (true,w64 (x_c.Timer-(1:Int)))))
   (some (.go (x_c.Waits,w64 (x_c.Timer-(1:Int))))))
  (some (.go (x_c.Waits,x_c.Timer)))) λj1=>
  JO.run j1 (wS x_c)
noncomputable def g66:Sw tG:=⟨[.os 35],.two (.st 35) .b,gC⟩
theorem s66:Sjk 66 g66:=sgy [(69,.w g69)] ⟨s69,trivial⟩ (.s .o (.j ⟨[1,2],[],[(.c 1 9,.b),(.c 1 8,.i .i64)]⟩ .o (.j ⟨[1,2],[],[]⟩ .o .o))) kr kr kr
theorem aMs{x_c:DCore}{R_:DCore×Bool}(hh:gC x_c=some R_):Inl Tryz.prog 66 [.agg [.sref 0 [] 0 (List.length x_c.Regs) 1,.int .i64 x_c.Pc,.int .i64 x_c.Root,.int .i64 x_c.Vector,.int .i64 x_c.Saved,.bool x_c.SavedUser,.int .i64 x_c.Cause,.int .i64 x_c.Bad,.int .i64 x_c.Timer,.bool x_c.Waits,.bool x_c.User,.bool x_c.On,.bool x_c.Stopped]] [(0,some (rI_3 x_c.Regs))] 1 (.tup [.agg [.sref 1 [] 0 (List.length R_.1.Regs) 1,.int .i64 R_.1.Pc,.int .i64 R_.1.Root,.int .i64 R_.1.Vector,.int .i64 R_.1.Saved,.bool R_.1.SavedUser,.int .i64 R_.1.Cause,.int .i64 R_.1.Bad,.int .i64 R_.1.Timer,.bool R_.1.Waits,.bool R_.1.User,.bool R_.1.On,.bool R_.1.Stopped],.bool R_.2]) [(1,some (rI_3 R_.1.Regs))] 2:=kc (s66 x_c R_ hh)
noncomputable def cY (x_c:DCore)(x_i:DIns):Option Int:=grd ((0:Int)<=(Int.tmod x_i.N (4:Int))/\(Int.tmod x_i.N (4:Int))<((List.length x_c.Regs:Nat):Int)) (some (Int.tmod (List.getD x_c.Regs (Int.toNat (Int.tmod x_i.N (4:Int))) default) (64:Int)))
noncomputable def aRy:Sg tG:=⟨[.st 35,.st 89],.one (.i .i64),cY⟩
theorem aXt:Sok 179 aRy:=sgx [] trivial .o kr kr kr
noncomputable def dH (x_h:DHost):Option DHost:=
 Option.bind (dC x_h.Words) λv1=>
 Option.bind (kP x_h.Guests) λv2=>
 some (DHost.mk v1 v2)
noncomputable def g51:Sg tG:=⟨[.st 26],.one (.st 2026),dH⟩
theorem s51:Sok 51 g51:=sgx [(42,.r g42),(92,.r g92)] ⟨s42,s92,trivial⟩ .o kr kr kr
theorem aIk{x_h:DHost}{R_:DHost}(hh:dH x_h=some R_):Fn Tryz.prog 51 [.agg (fM x_h)] (.agg [.own 3 1 (List.length R_.Words) (fl (eI .i64) R_.Words),.own 38 17 (List.length R_.Guests) (fl bJ R_.Guests)]):=kc (s51 x_h R_ hh)
theorem aMk:LW 181 ⟨44,[.cell 8 true 2],.seq (.reg false (rg 181 0)) (.seq (.reg false (rg 181 1)) (.seq (.reg false (rg 181 2)) (.seq (.regd (rg 181 3) (rg 181 4)) (.seq (.regt (rg 181 5) (rg 181 6)) (.seq (.reg false (rg 181 7)) .ret)))))⟩:=kr
noncomputable def hM (x_h:DHost)(x_g:Int)(x_page:Int)(x_frame:Int):Option DHost:=
 Option.bind (dH x_h) λv1=>
 grd ((0:Int)<=x_g/\x_g<((List.length x_h.Guests:Nat):Int)) (grd ((0:Int)<=x_page/\x_page<((List.length (List.getD x_h.Guests (Int.toNat x_g) default).Pages:Nat):Int)) (Option.bind (lQ v1.Words x_frame) λv2=>
  grd (List.length v2.1=(List.length v1.Words)) (grd (v2.2.1+v2.2.2<=List.length v2.1) (Option.bind (eQ x_h.Words (DSlot.mk (List.getD (List.getD x_h.Guests (Int.toNat x_g) default).Pages (Int.toNat x_page) default).Frame (List.getD (List.getD x_h.Guests (Int.toNat x_g) default).Pages (Int.toNat x_page) default).Write (List.getD (List.getD x_h.Guests (Int.toNat x_g) default).Pages (Int.toNat x_page) default).Dirty)) λv3=>
   grd ((0:Int)<=x_g/\x_g<((List.length v1.Guests:Nat):Int)) (grd ((0:Int)<=x_page/\x_page<((List.length (List.getD v1.Guests (Int.toNat x_g) default).Pages:Nat):Int)) (some (DHost.mk (over v2.1 v2.2.1 v2.2.2 v3) (List.set v1.Guests (Int.toNat x_g) (DGuest.mk (List.getD v1.Guests (Int.toNat x_g) default).Live (DCore.mk ((List.getD v1.Guests (Int.toNat x_g) default).C).Regs ((List.getD v1.Guests (Int.toNat x_g) default).C).Pc ((List.getD v1.Guests (Int.toNat x_g) default).C).Root ((List.getD v1.Guests (Int.toNat x_g) default).C).Vector ((List.getD v1.Guests (Int.toNat x_g) default).C).Saved ((List.getD v1.Guests (Int.toNat x_g) default).C).SavedUser ((List.getD v1.Guests (Int.toNat x_g) default).C).Cause ((List.getD v1.Guests (Int.toNat x_g) default).C).Bad ((List.getD v1.Guests (Int.toNat x_g) default).C).Timer ((List.getD v1.Guests (Int.toNat x_g) default).C).Waits ((List.getD v1.Guests (Int.toNat x_g) default).C).User ((List.getD v1.Guests (Int.toNat x_g) default).C).On ((List.getD v1.Guests (Int.toNat x_g) default).C).Stopped) (List.set (List.getD v1.Guests (Int.toNat x_g) default).Pages (Int.toNat x_page) (DSlot.mk x_frame true (List.getD (List.getD x_h.Guests (Int.toNat x_g) default).Pages (Int.toNat x_page) default).Dirty)) (List.getD v1.Guests (Int.toNat x_g) default).In (List.getD v1.Guests (Int.toNat x_g) default).Out)))))))))
theorem aPo{x_h:DHost}{x_g:Int}{x_page:Int}{x_frame:Int}{R_:DHost}(hh:hM x_h x_g x_page x_frame=some R_):Fn Tryz.prog 181 [.agg (fM x_h),.int .i64 x_g,.int .i64 x_page,.int .i64 x_frame] (.agg [.own 3 1 (List.length R_.Words) (fl (eI .i64) R_.Words),.own 38 17 (List.length R_.Guests) (fl bJ R_.Guests)]):=by let z7:EH:=(0,some (rB26 x_h));let z8:=(1,ii x_g);let z9:EH:=(1,some ⟨26,[.nil,.nil]⟩);let z10:=(10,pp 5);let z11:=(2,ii x_page);let z12:=(3,ii x_frame);let z13:EV:=(34,.ptr 3 [] (0+(Int.toNat x_g)*17));let z14:EV:=(35,.ptr 3 [] (0+(Int.toNat x_g)*17+14));let z15:=(8,pp 1);let z16:=(9,pp 4);let z1:=List.getD x_h.Guests (Int.toNat x_g) default;let z3:=List.getD z1.Pages (Int.toNat x_page) default;let z4:=DSlot.mk x_frame true z3.Dirty;unfold hM at hh;refine Fn.start aMk [0,1,2,3] (E:=sp 44 [(0,.agg (fM x_h)),z8,z11,z12]) kr (v:= .agg [sw 0 R_.Words,.sref 1 [] 0 (List.length R_.Guests) 17]) (Hr:=[(1,some (rO38 R_.Guests)),(0,some (rI_3 R_.Words))]) (k:=2) kr (sy [1,2,3,4,8] [0,1] (sp 44 [z8,z11,z12,(4,pp 0),z15]) [z7,z9] 2 (Aw.sreg [1,2,3,4,8,9] [0,1,2,3,4] (yu 1 [(11,.agg (fM x_h))] [z7,z9] 2 ?_)));obtain⟨v1,hv1,hh⟩:=bind_some hh;let z17:EV:=(32,.sref 3 [] 0 (List.length v1.Guests) 17);let z2:=List.getD v1.Guests (Int.toNat x_g) default;let z5:=List.set z2.Pages (Int.toNat x_page) z4;let z6:=DGuest.mk z2.Live z2.C z5 z2.In z2.Out;let q1:Root:=(rO38 v1.Guests);let z18:=(3,some q1);let q2:Root:=(rI_3 v1.Words);let z19:=(2,some q2);refine ys (.call 51 [.t 11]) (some 12) (qE (r:= .agg [.own 3 1 (List.length v1.Words) (fl (eI .i64) v1.Words),.own 38 17 (List.length v1.Guests) (fl bJ v1.Guests)]) (v:= .agg [sw 2 v1.Words,.sref 3 [] 0 (List.length v1.Guests) 17]) (Hr:=[z18,z19]) (n':=4) (aIk hv1) (tY (vs:=[.agg (fM x_h)]) kr (dO (aD (tO (qO _))) eS)) nrr nrr kr ?_);let q3:Root:=⟨26,[sw 2 v1.Words,.sref 3 [] 0 (List.length v1.Guests) 17]⟩;let z20:=(4,some q3);refine yt (sp 44 [z8,z11,z12,(4,pp 0),z15,z16]) [z7,z9,z19,z18,z20] 5 (Aw.sreg [1,2,3,4,8,9,10] [0,1,2,3,4,5] (yu 3 [(13,.ptr 0 [] 1),(14,bo eG x_h.Guests),(15,ii x_g)] [z7,z9,z19,z18,z20] 5 ?_));obtain⟨hg3,hh⟩:=aQ hh;refine ys (.iadr 17 (.t 14) (.t 15)) (some 16) (bBf (kd:= .i64) (c:=eG) (xs:=x_h.Guests) aGa dd kr kr hg3 ?_);refine yu 1 [(16,.bptr (fl eG x_h.Guests) (Int.toNat x_g*17)),(17,.bptr (fl eG x_h.Guests) (Int.toNat x_g*17+14))] [z7,z9,z19,z18,z20] 5 (ys (.load false 1 (.t 17)) (some 18) (bMh (c:=eG) (xs:=x_h.Guests) (o:=Int.toNat x_g*17+14) (i:=(Int.toNat x_g)) (off:=14) (v:=bo kS z1.Pages) aGa kr ltn ltn dd kr ?_));refine yu 1 [(18,bo kS z1.Pages),(19,ii x_page)] [z7,z9,z19,z18,z20] 5 ?_;obtain⟨hg4,hh⟩:=aQ hh;refine ys (.iadr 3 (.t 18) (.t 19)) (some 20) (bBf (kd:= .i64) (c:=kS) (xs:=z1.Pages) vE dd kr kr hg4 ?_);refine ys (.load true 3 (.t 20)) (some 21) (bIf (c:=kS) (xs:=z1.Pages) (o:=Int.toNat x_page*3) (i:=(Int.toNat x_page)) (off:=0) (v:= .agg [ii z3.Frame,bb z3.Write,bb z3.Dirty]) vE kr ltn ltn dd kr ?_);let q4:Root:=⟨53,[ii z3.Frame,bb z3.Write,bb z3.Dirty]⟩;let z21:=(5,some q4);refine yt (sp 44 [z8,z11,z12,(4,pp 0),z15,z16,z10]) [z7,z9,z19,z18,z20,z21] 6 (Aw.sregd [1,2,3,8,9,10] [1,2,3,4,5] [2] kr (dj 3 (sp 44 [z8,z11,z12,(4,pp 0),z15,z16,z10,(22,pp 4),(23,sw 2 v1.Words),(24,ii x_frame)]) [z7,z9,z19,z18,z20,z21] 6 ?_));obtain⟨v2,hv2,hh⟩:=bind_some hh;let z22:EH:=(2,some (rI_3 v2.1));obtain⟨hg7,hh⟩:=aQ hh;obtain⟨hg8,hh⟩:=aQ hh;refine ds (.call 142 [.t 23,.t 24]) (some 25) (aKe rfl (cf (.sref 2 [] (0+v2.2.1*1) v2.2.2 1) [z22] 6 [2] (aNk hv2) [sw 2 v1.Words,ii x_frame] rz (hn bY dE) aOv (hn bY dE) ⟨⟨⟨by decide,tD rfl rfl⟩,Hld.un ?_⟩⟩));refine dt (sp 44 [z8,z11,z12,(4,pp 0),z15,z16,z10,(22,pp 4),(23,sw 2 v1.Words),(24,ii x_frame),(25,.sref 2 [] (0+v2.2.1*1) v2.2.2 1),(26,pp 0),(27,bo (eI .i64) x_h.Words),(28,.agg [ii z3.Frame,bb z3.Write,bb z3.Dirty])]) [z22,(2,none),z7,z9,z19,z18,z20,z21] 6 ?_;obtain⟨v3,hv3,hh⟩:=bind_some hh;refine ys (.call 191 [.t 27,.t 28]) (some 29) (aEw (r:=bo (eI .i64) v3) (v:=bo (eI .i64) v3) (Hr:=[]) (n':=6) (aKk hv3) (tY (vs:=[bo (eI .i64) x_h.Words,.agg [ii z3.Frame,bb z3.Write,bb z3.Dirty]]) kr (dO (aD (dG (bC cU))) (cz1 eS))) nrr kr ?_);let q5:Root:=(rI_3 (over v2.1 v2.2.1 v2.2.2 v3));let z23:=(2,some q5);refine ys (.cpy 1 (.t 25) (.t 29)) (some 30) (aVk (c:=(eI .i64)) (xs:=v2.1) (ys:=v3) (e:=3) (r:=2) (π:=[]) (o:=0+v2.2.1*1) (k:=v2.2.2) (i:=v2.2.1) (H':=[z23,z22,(2,none),z7,z9,z19,z18,z20,z21]) bK (rpv kr (bIm (c:=(eI .i64)) (xs:=v3) bK)) kr kr ltn ltn kr ?_);refine yt (sp 44 [z8,z11,z12,z15,z16,z10]) [z9,z23,z18,z20,z21] 6 (Aw.sregt [8,9] [1,2,3,4] ?_);obtain⟨hg12,hh⟩:=aQ hh;refine qc (cs:=[(0:Int)<=x_g/\x_g<((List.length v1.Guests:Nat):Int)]) (E':=(sp 44 [z8,z11,z12,z15,z16,z10,(31,.ptr 4 [] 1),z17,(33,ii x_g),z13,z14])) (pre:=(List.take 5 (rg 181 5))) (L':=(List.drop 5 (rg 181 5))) kr (λK=>by kernel_rfl) (.cons hg12 .nil) (qs (.load false 1 (.t 35)) (some 36) (aWc rfl (vI (c:=bJ) (xs:=v1.Guests) (e:=38) (r:=3) (π:=[]) (o:=0+(Int.toNat x_g)*17+14) (i:=(Int.toNat x_g)) (off:=14) (v:= .sref 3 [0+(Int.toNat x_g)*17+14+0] 0 (List.length z2.Pages) 3) aZ kr kr ltn ltn dd kr ?_)));obtain⟨hg11,hh⟩:=aQ hh;refine qtt (cs:=[(0:Int)<=x_page/\x_page<((List.length z2.Pages:Nat):Int)]) (E':=(sp 44 [z8,z11,z12,z15,z16,z10,(31,.ptr 4 [] 1),z17,(33,ii x_g),z13,z14,(36,.sref 3 [0+(Int.toNat x_g)*17+14+0] 0 (List.length z2.Pages) 3),(37,ii x_page),(38,ii x_frame),(39,.ptr 5 [] 2),(40,bb z3.Dirty),(41,.agg [ii x_frame,bb true,bb z3.Dirty]),(42,.ptr 3 [0+(Int.toNat x_g)*17+14+0] (0+(Int.toNat x_page)*3))])) (λK=>by kernel_rfl) (.cons hg11 .nil) ?_;let q6:Root:=(rO38 (List.set v1.Guests (Int.toNat x_g) z6));refine ys (.store 3 (.t 42) (.t 41)) none (aEl (c:=kS) (xs:=z2.Pages) (e:=53) (r:=3) (π:=[0+(Int.toNat x_g)*17+14+0]) (o:=0+(Int.toNat x_page)*3) (i:=(Int.toNat x_page)) (off:=0) (vs:=[ii x_frame,bb true,bb z3.Dirty]) (y:=z4) (H':=[(3,some q6),z9,z23,z18,z20,z21]) vE kr kr kr (tX (e:=38) (e':=53) (sz':=3) (m':=(List.length z2.Pages)) (cs':=(fl kS z2.Pages)) (c:=bJ) (xs:=v1.Guests) (i:=(Int.toNat x_g)) (off:=14) aZ kr ltn ltn dd rfl kr) ltn ltn dd kr (aOf (e:=38) (e':=53) (sz':=3) (m':=(List.length z2.Pages)) (cs':=(fl kS z2.Pages)) (ds:=(fl kS z5)) (c:=bJ) (xs:=v1.Guests) (i:=(Int.toNat x_g)) (off:=14) (y:=z6) (m2:=(List.length z5)) aZ kr ltn ltn dd rfl kr eqn kr rfl kr) ?_);refine yt (sp 44 [z15,z16]) [z9,z23,(3,some q6),z20] 6 (sy [8] [1,2,3] (sp 44 [z15]) [(1,some q3),z23,(3,some q6)] 6 (Aw.ret ?_));rw[bM hh];exact lN (r':= .agg [sw 2 v1.Words,.sref 3 [] 0 (List.length v1.Guests) 17]) kr (Ent.list [some 2,some 3] rfl rfl (Nat.zero_le _) (aDe (gF rz)) (hn gE (hn bY dE)))
noncomputable def bNm:Sg tG:=⟨[.st 26,.i .i64,.i .i64,.i .i64],.one (.st 2026),hM⟩
theorem bRs:Sok 181 bNm:=λx_h x_g x_page x_frame R_ hh=>kc (aPo (x_h:=x_h) (x_g:=x_g) (x_page:=x_page) (x_frame:=x_frame) hh)
noncomputable def iP (x_h:DHost)(x_g:Int)(x_page:Int):Option (DHost×Bool):=
 Option.bind (mD x_h.Guests) λv1=>
 cond (decide (((List.length v1:Nat):Int)=(0:Int)))
  (some ((DHost.mk ([]:List Int) ([]:List DGuest)),false))
  (grd ((0:Int)<=(0:Int)/\(0:Int)<((List.length v1:Nat):Int)) (Option.bind (hM x_h x_g x_page (List.getD v1 0 default)) λv2=>
   some (v2,true)))
noncomputable def bLb:Sg tG:=⟨[.st 26,.i .i64,.i .i64],.two (.st 2026) .b,iP⟩
theorem bUu:Sok 180 bLb:=sgx [(193,.r bSg),(181,.r bNm)] ⟨bWo,bRs,trivial⟩ .o kr kr kr
noncomputable def oQ (x_h:DHost)(x_g:Int)(x_page:Int):Option (DHost×Bool):=
 Option.bind (iZ x_h x_g) λv1=>
 cond (!v1)
  (some ((DHost.mk ([]:List Int) ([]:List DGuest)),false))
  (Option.bind (gK x_page) λv2=>
  cond (!v2)
   (some ((DHost.mk ([]:List Int) ([]:List DGuest)),false))
   (grd ((0:Int)<=x_g/\x_g<((List.length x_h.Guests:Nat):Int)) (grd ((0:Int)<=x_page/\x_page<((List.length (List.getD x_h.Guests (Int.toNat x_g) default).Pages:Nat):Int)) (cond (!decide ((List.getD (List.getD x_h.Guests (Int.toNat x_g) default).Pages (Int.toNat x_page) default).Frame=(-1:Int)))
    (Option.bind (dH x_h) λv3=>
    some (v3,true))
    (Option.bind (iP x_h x_g x_page) λv4=>
    some (v4.1,v4.2))))))
noncomputable def bVd:Sg tG:=⟨[.st 26,.i .i64,.i .i64],.two (.st 2026) .b,oQ⟩
theorem bWj:Sok 148 bVd:=sgx [(62,.r g62),(138,.r aRl),(51,.r g51),(180,.r bLb)] ⟨s62,aYv,s51,bUu,trivial⟩ .o kr kr kr
noncomputable def wM (x_g:Int)(x_page:Int)(v3:DHost)(v4:List Int)(s5:List Int):Option (DHost×Bool):=grd ((0:Int)<=x_g/\x_g<((List.length v3.Guests:Nat):Int)) (grd ((0:Int)<=(0:Int)/\(0:Int)<((List.length v4:Nat):Int)) (grd ((0:Int)<=x_page/\x_page<((List.length (List.getD v3.Guests (Int.toNat x_g) default).Pages:Nat):Int)) (some ((DHost.mk s5 (List.set v3.Guests (Int.toNat x_g) (DGuest.mk (List.getD v3.Guests (Int.toNat x_g) default).Live (DCore.mk ((List.getD v3.Guests (Int.toNat x_g) default).C).Regs ((List.getD v3.Guests (Int.toNat x_g) default).C).Pc ((List.getD v3.Guests (Int.toNat x_g) default).C).Root ((List.getD v3.Guests (Int.toNat x_g) default).C).Vector ((List.getD v3.Guests (Int.toNat x_g) default).C).Saved ((List.getD v3.Guests (Int.toNat x_g) default).C).SavedUser ((List.getD v3.Guests (Int.toNat x_g) default).C).Cause ((List.getD v3.Guests (Int.toNat x_g) default).C).Bad ((List.getD v3.Guests (Int.toNat x_g) default).C).Timer ((List.getD v3.Guests (Int.toNat x_g) default).C).Waits ((List.getD v3.Guests (Int.toNat x_g) default).C).User ((List.getD v3.Guests (Int.toNat x_g) default).C).On ((List.getD v3.Guests (Int.toNat x_g) default).C).Stopped) (List.set (List.getD v3.Guests (Int.toNat x_g) default).Pages (Int.toNat x_page) (DSlot.mk (List.getD v4 0 default) true false)) (List.getD v3.Guests (Int.toNat x_g) default).In (List.getD v3.Guests (Int.toNat x_g) default).Out))),true))))
noncomputable def iK (v4:List Int)(s6:(List Int)×Int):Option (LO ((List Int)×Int) (JO (List Int) (DHost×Bool))):=
 cond (decide (s6.2<(8:Int)))
  (grd ((0:Int)<=(0:Int)/\(0:Int)<((List.length v4:Nat):Int)) (grd ((0:Int)<=(w64 ((w64 ((List.getD v4 0 default)*(8:Int)))+s6.2))/\(w64 ((w64 ((List.getD v4 0 default)*(8:Int)))+s6.2))<((List.length s6.1:Nat):Int)) (some (.next ((List.set s6.1 (Int.toNat (w64 ((w64 ((List.getD v4 0 default)*(8:Int)))+s6.2))) (0:Int)),w64 (s6.2+(1:Int)))))))
  (some (.ret (.go s6.1)))
noncomputable def iV (x_h:DHost)(x_g:Int)(x_page:Int):Option (DHost×Bool):=
 Option.bind (dI x_h x_g) λv1=>
 cond (!v1)
  (some ((DHost.mk ([]:List Int) ([]:List DGuest)),false))
  (Option.bind (bU x_page (0:Int) (7:Int)) λv2=>
  cond (!v2)
   (some ((DHost.mk ([]:List Int) ([]:List DGuest)),false))
   (Option.bind (eR x_h) λv3=>
   grd ((0:Int)<=x_g/\x_g<((List.length x_h.Guests:Nat):Int)) (grd ((0:Int)<=x_page/\x_page<((List.length (List.getD x_h.Guests (Int.toNat x_g) default).Pages:Nat):Int)) (cond (decide ((0:Int)<=(List.getD (List.getD x_h.Guests (Int.toNat x_g) default).Pages (Int.toNat x_page) default).Frame))
    (some (v3,true))
    (Option.bind (iX x_h) λv4=>
    cond (decide (((List.length v4:Nat):Int)=(0:Int)))
     (some ((DHost.mk ([]:List Int) ([]:List DGuest)),false))
     (Option.bind (Option.bind (iter (iK v4) (v3.Words,(0:Int))) LO.val) λj5=>
      JO.run j5 (wM x_g x_page v3 v4)))))))
noncomputable def bUn:Sg tG:=⟨[.st 26,.i .i64,.i .i64],.two (.st 2026) .b,iV⟩
theorem bXj:Sok 116 bUn:=sgx [(58,.r g58),(97,.r g97),(48,.r g48),(90,.r g90)] ⟨s58,s97,s48,s90,trivial⟩ (.s .o (.s .o (.s .o (.s .o (.s .o (.s .o (.j ⟨[1,2,6,8,9],[],[(.c 8 0,.ro 3)]⟩ (.s .o (.k (.l ⟨[1,2,6,8,9],[],[(.c 8 0,.ro 3),(.s 10,.i .i64)]⟩ .o))) .o))))))) kr kr kr
noncomputable def oM (x_h:DHost)(x_g:Int)(x_page:Int):Option (DHost×Bool):=
 Option.bind (iZ x_h x_g) λv1=>
 cond (!v1)
  (some ((DHost.mk ([]:List Int) ([]:List DGuest)),false))
  (Option.bind (gK x_page) λv2=>
  cond (!v2)
   (some ((DHost.mk ([]:List Int) ([]:List DGuest)),false))
   (grd ((0:Int)<=x_g/\x_g<((List.length x_h.Guests:Nat):Int)) (grd ((0:Int)<=x_page/\x_page<((List.length (List.getD x_h.Guests (Int.toNat x_g) default).Pages:Nat):Int)) (cond (decide ((List.getD (List.getD x_h.Guests (Int.toNat x_g) default).Pages (Int.toNat x_page) default).Frame=(-1:Int)))
    (some ((DHost.mk ([]:List Int) ([]:List DGuest)),false))
    (Option.bind (fT x_h.Guests) λv3=>
    grd ((0:Int)<=(List.getD (List.getD x_h.Guests (Int.toNat x_g) default).Pages (Int.toNat x_page) default).Frame/\(List.getD (List.getD x_h.Guests (Int.toNat x_g) default).Pages (Int.toNat x_page) default).Frame<((List.length v3:Nat):Int)) (cond (decide ((List.getD v3 (Int.toNat (List.getD (List.getD x_h.Guests (Int.toNat x_g) default).Pages (Int.toNat x_page) default).Frame) default)=(1:Int)))
     (Option.bind (hM x_h x_g x_page (List.getD (List.getD x_h.Guests (Int.toNat x_g) default).Pages (Int.toNat x_page) default).Frame) λv4=>
     some (v4,true))
     (Option.bind (iP x_h x_g x_page) λv5=>
     some (v5.1,v5.2))))))))
noncomputable def bSf:Sg tG:=⟨[.st 26,.i .i64,.i .i64],.two (.st 2026) .b,oM⟩
theorem bWu:Sok 149 bSf:=sgx [(62,.r g62),(138,.r aRl),(91,.r g91),(181,.r bNm),(180,.r bLb)] ⟨s62,aYv,s91,bRs,bUu,trivial⟩ .o kr kr kr
noncomputable def lT (x_h:DHost)(x_g:Int)(x_page:Int)(v3:DHost)(s4:(List Int)×Int):Option (DHost×Bool):=grd ((0:Int)<=x_g/\x_g<((List.length v3.Guests:Nat):Int)) (grd ((0:Int)<=x_page/\x_page<((List.length (List.getD v3.Guests (Int.toNat x_g) default).Pages:Nat):Int)) (some ((DHost.mk s4.1 (List.set v3.Guests (Int.toNat x_g) (DGuest.mk (List.getD v3.Guests (Int.toNat x_g) default).Live (DCore.mk ((List.getD v3.Guests (Int.toNat x_g) default).C).Regs ((List.getD v3.Guests (Int.toNat x_g) default).C).Pc ((List.getD v3.Guests (Int.toNat x_g) default).C).Root ((List.getD v3.Guests (Int.toNat x_g) default).C).Vector ((List.getD v3.Guests (Int.toNat x_g) default).C).Saved ((List.getD v3.Guests (Int.toNat x_g) default).C).SavedUser ((List.getD v3.Guests (Int.toNat x_g) default).C).Cause ((List.getD v3.Guests (Int.toNat x_g) default).C).Bad ((List.getD v3.Guests (Int.toNat x_g) default).C).Timer ((List.getD v3.Guests (Int.toNat x_g) default).C).Waits ((List.getD v3.Guests (Int.toNat x_g) default).C).User ((List.getD v3.Guests (Int.toNat x_g) default).C).On ((List.getD v3.Guests (Int.toNat x_g) default).C).Stopped) (List.set (List.getD v3.Guests (Int.toNat x_g) default).Pages (Int.toNat x_page) (DSlot.mk s4.2 true (List.getD (List.getD x_h.Guests (Int.toNat x_g) default).Pages (Int.toNat x_page) default).Dirty)) (List.getD v3.Guests (Int.toNat x_g) default).In (List.getD v3.Guests (Int.toNat x_g) default).Out))),true)))
noncomputable def iU (x_h:DHost)(x_g:Int)(x_page:Int):Option (DHost×Bool):=
 Option.bind (dI x_h x_g) λv1=>
 cond (!v1)
  (some ((DHost.mk ([]:List Int) ([]:List DGuest)),false))
  (Option.bind (bU x_page (0:Int) (7:Int)) λv2=>
  cond (!v2)
   (some ((DHost.mk ([]:List Int) ([]:List DGuest)),false))
   (grd ((0:Int)<=x_g/\x_g<((List.length x_h.Guests:Nat):Int)) (grd ((0:Int)<=x_page/\x_page<((List.length (List.getD x_h.Guests (Int.toNat x_g) default).Pages:Nat):Int)) (cond (decide ((List.getD (List.getD x_h.Guests (Int.toNat x_g) default).Pages (Int.toNat x_page) default).Frame<(0:Int)))
    (some ((DHost.mk ([]:List Int) ([]:List DGuest)),false))
    (Option.bind (eR x_h) λv3=>
    grd ((0:Int)<=x_g/\x_g<((List.length x_h.Guests:Nat):Int)) (grd ((0:Int)<=x_page/\x_page<((List.length (List.getD x_h.Guests (Int.toNat x_g) default).Pages:Nat):Int)) (Option.bind (cond (!(List.getD (List.getD x_h.Guests (Int.toNat x_g) default).Pages (Int.toNat x_page) default).Write)
     (Option.bind (kV x_h) λv5=>
     grd ((0:Int)<=(List.getD (List.getD x_h.Guests (Int.toNat x_g) default).Pages (Int.toNat x_page) default).Frame/\(List.getD (List.getD x_h.Guests (Int.toNat x_g) default).Pages (Int.toNat x_page) default).Frame<((List.length v5:Nat):Int)) (cond (decide ((1:Int)<(List.getD v5 (Int.toNat (List.getD (List.getD x_h.Guests (Int.toNat x_g) default).Pages (Int.toNat x_page) default).Frame) default)))
      (Option.bind (iX x_h) λv6=>
      cond (decide (((List.length v6:Nat):Int)=(0:Int)))
       (some (.out ((DHost.mk ([]:List Int) ([]:List DGuest)),false)))
       (grd ((0:Int)<=(0:Int)/\(0:Int)<((List.length v6:Nat):Int)) (grd ((0:Int)<=(0:Int)/\(0:Int)<((List.length v6:Nat):Int)) (grd ((0:Int)<=(w64 ((List.getD v6 0 default)*(8:Int)))/\(w64 ((List.getD v6 0 default)*(8:Int)))<=(w64 ((w64 ((List.getD v6 0 default)+(1:Int)))*(8:Int)))/\(w64 ((w64 ((List.getD v6 0 default)+(1:Int)))*(8:Int)))<=((List.length v3.Words:Nat):Int)) (grd ((0:Int)<=(w64 ((List.getD (List.getD x_h.Guests (Int.toNat x_g) default).Pages (Int.toNat x_page) default).Frame*(8:Int)))/\(w64 ((List.getD (List.getD x_h.Guests (Int.toNat x_g) default).Pages (Int.toNat x_page) default).Frame*(8:Int)))<=((List.length x_h.Words:Nat):Int)/\((List.length x_h.Words:Nat):Int)<=((List.length x_h.Words:Nat):Int)) (grd ((0:Int)<=(0:Int)/\(0:Int)<((List.length v6:Nat):Int)) (some (.go ((over v3.Words (Int.toNat (w64 ((List.getD v6 0 default)*(8:Int)))) (Int.toNat (w64 ((w64 ((List.getD v6 0 default)+(1:Int)))*(8:Int)))-Int.toNat (w64 ((List.getD v6 0 default)*(8:Int)))) (List.take (Int.toNat ((List.length x_h.Words:Nat):Int)-Int.toNat (w64 ((List.getD (List.getD x_h.Guests (Int.toNat x_g) default).Pages (Int.toNat x_page) default).Frame*(8:Int)))) (List.drop (Int.toNat (w64 ((List.getD (List.getD x_h.Guests (Int.toNat x_g) default).Pages (Int.toNat x_page) default).Frame*(8:Int)))) x_h.Words))),List.getD v6 0 default)))))))))
      (some (.go (v3.Words,(List.getD (List.getD x_h.Guests (Int.toNat x_g) default).Pages (Int.toNat x_page) default).Frame)))))
     (some (.go (v3.Words,(List.getD (List.getD x_h.Guests (Int.toNat x_g) default).Pages (Int.toNat x_page) default).Frame)))) λj4=>
     JO.run j4 (lT x_h x_g x_page v3))))))))
noncomputable def bSh:Sg tG:=⟨[.st 26,.i .i64,.i .i64],.two (.st 2026) .b,iU⟩
theorem bXy:Sok 117 bSh:=sgx [(58,.r g58),(97,.r g97),(48,.r g48),(49,.r g49),(90,.r g90)] ⟨s58,s97,s48,s49,s90,trivial⟩ (.s .o (.s .o (.s .o (.s .o (.j ⟨[1,2,6,8,9],[],[(.c 8 0,.ro 3),(.c 9 0,.i .i64)]⟩ .o .o))))) kr kr kr
noncomputable def xJ  (s1:Unit):Option Bool:=some true
noncomputable def fP (x_a:List Int)(x_b:List Int)(s2:Int):Option (LO Int (JO Unit Bool)):=
 cond (decide (s2<((List.length x_a:Nat):Int)))
  (grd ((0:Int)<=s2/\s2<((List.length x_a:Nat):Int)) (grd ((0:Int)<=s2/\s2<((List.length x_b:Nat):Int)) (cond (!decide ((List.getD x_a (Int.toNat s2) default)=(List.getD x_b (Int.toNat s2) default)))
   (some (.ret (.out false)))
   (some (.next (w64 (s2+(1:Int))))))))
  (some (.ret (.go ())))
noncomputable def dM (x_a:List Int)(x_b:List Int):Option Bool:=
 cond (!decide (((List.length x_a:Nat):Int)=((List.length x_b:Nat):Int)))
  (some false)
  (Option.bind (Option.bind (iter (fP x_a x_b) (0:Int)) LO.val) λj1=>
   JO.run j1 xJ)
noncomputable def g45:Sg tG:=⟨[.row 3,.row 3],.one .b,dM⟩
theorem s45:Sok 45 g45:=sgx [] trivial (.s .o (.s .o (.j ⟨[],[],[]⟩ (.s .o (.k (.l ⟨[0,1],[],[(.s 5,.i .i64)]⟩ .o))) .o))) kr kr kr
noncomputable def lM (x_a:DCore)(x_b:DCore):Option Bool:=
 Option.bind (dM x_a.Regs x_b.Regs) λv1=>
 cond (!v1)
  (some false)
  (cond (!decide (x_a.Pc=x_b.Pc))
   (some false)
   (cond (!decide (x_a.Root=x_b.Root))
    (some false)
    (cond (!decide (x_a.Vector=x_b.Vector))
     (some false)
     (cond (!decide (x_a.Saved=x_b.Saved))
      (some false)
      (cond (!(x_a.SavedUser==x_b.SavedUser))
       (some false)
       (cond (decide (x_a.Cause=x_b.Cause))
        (cond (decide (x_a.Bad=x_b.Bad))
         (cond (decide (x_a.Timer=x_b.Timer))
          (cond (x_a.Waits==x_b.Waits)
           (cond (x_a.User==x_b.User)
            (cond (x_a.On==x_b.On)
             (some (x_a.Stopped==x_b.Stopped))
             (some false))
            (some false))
           (some false))
          (some false))
         (some false))
        (some false)))))))
noncomputable def g76:Sg tG:=⟨[.st 35,.st 35],.one .b,lM⟩
theorem s76:Sok 76 g76:=sgx [(45,.r g45)] ⟨s45,trivial⟩ .o kr kr kr
noncomputable def aPp (x_a:DBare)(x_b:DBare):Option Bool:=
 Option.bind (lM x_a.C x_b.C) λv1=>
 cond v1
  (Option.bind (dM x_a.Mem x_b.Mem) λv2=>
  cond v2
   (Option.bind (dM x_a.In x_b.In) λv3=>
   cond v3
    (Option.bind (dM x_a.Out x_b.Out) λv4=>
    some v4)
    (some false))
   (some false))
  (some false)
noncomputable def g23:Sg tG:=⟨[.st 47,.st 47],.one .b,aPp⟩
theorem s23:Sok 23 g23:=sgx [(76,.r g76),(45,.r g45)] ⟨s76,s45,trivial⟩ .o kr kr kr
noncomputable def aGt  (s4:Unit):Option Bool:=some true
noncomputable def kQ (x_a:DGuest)(x_b:DGuest)(s5:Int):Option (LO Int (JO Unit Bool)):=
 cond (decide (s5<((List.length x_a.Pages:Nat):Int)))
  (grd ((0:Int)<=s5/\s5<((List.length x_a.Pages:Nat):Int)) (grd ((0:Int)<=s5/\s5<((List.length x_b.Pages:Nat):Int)) (cond (!(decide ((List.getD x_a.Pages (Int.toNat s5) default).Frame=(List.getD x_b.Pages (Int.toNat s5) default).Frame)&&(((List.getD x_a.Pages (Int.toNat s5) default).Write==(List.getD x_b.Pages (Int.toNat s5) default).Write)&&(((List.getD x_a.Pages (Int.toNat s5) default).Dirty==(List.getD x_b.Pages (Int.toNat s5) default).Dirty)&&true))))
   (some (.ret (.out false)))
   (some (.next (w64 (s5+(1:Int))))))))
  (some (.ret (.go ())))
noncomputable def kH (x_a:DGuest)(x_b:DGuest):Option Bool:=
 cond (!(x_a.Live==x_b.Live))
  (some false)
  (Option.bind (lM x_a.C x_b.C) λv1=>
  cond (!v1)
   (some false)
   (Option.bind (dM x_a.In x_b.In) λv2=>
   cond (!v2)
    (some false)
    (Option.bind (dM x_a.Out x_b.Out) λv3=>
    cond (!v3)
     (some false)
     (cond (!decide (((List.length x_a.Pages:Nat):Int)=((List.length x_b.Pages:Nat):Int)))
      (some false)
      (Option.bind (Option.bind (iter (kQ x_a x_b) (0:Int)) LO.val) λj4=>
       JO.run j4 aGt)))))
noncomputable def g46:Sg tG:=⟨[.st 38,.st 38],.one .b,kH⟩
theorem s46:Sok 46 g46:=sgx [(76,.r g76),(45,.r g45)] ⟨s76,s45,trivial⟩ (.s .o (.s .o (.j ⟨[],[],[]⟩ (.s .o (.k (.l ⟨[2,3],[],[(.s 5,.i .i64)]⟩ .o))) .o))) kr kr kr
noncomputable def aHg  (s2:Unit):Option Bool:=some true
noncomputable def lE (x_a:DHost)(x_b:DHost)(s3:Int):Option (LO Int (JO Unit Bool)):=
 cond (decide (s3<((List.length x_a.Guests:Nat):Int)))
  (grd ((0:Int)<=s3/\s3<((List.length x_a.Guests:Nat):Int)) (grd ((0:Int)<=s3/\s3<((List.length x_b.Guests:Nat):Int)) (Option.bind (kH (DGuest.mk (List.getD x_a.Guests (Int.toNat s3) default).Live (DCore.mk ((List.getD x_a.Guests (Int.toNat s3) default).C).Regs ((List.getD x_a.Guests (Int.toNat s3) default).C).Pc ((List.getD x_a.Guests (Int.toNat s3) default).C).Root ((List.getD x_a.Guests (Int.toNat s3) default).C).Vector ((List.getD x_a.Guests (Int.toNat s3) default).C).Saved ((List.getD x_a.Guests (Int.toNat s3) default).C).SavedUser ((List.getD x_a.Guests (Int.toNat s3) default).C).Cause ((List.getD x_a.Guests (Int.toNat s3) default).C).Bad ((List.getD x_a.Guests (Int.toNat s3) default).C).Timer ((List.getD x_a.Guests (Int.toNat s3) default).C).Waits ((List.getD x_a.Guests (Int.toNat s3) default).C).User ((List.getD x_a.Guests (Int.toNat s3) default).C).On ((List.getD x_a.Guests (Int.toNat s3) default).C).Stopped) (List.getD x_a.Guests (Int.toNat s3) default).Pages (List.getD x_a.Guests (Int.toNat s3) default).In (List.getD x_a.Guests (Int.toNat s3) default).Out) (DGuest.mk (List.getD x_b.Guests (Int.toNat s3) default).Live (DCore.mk ((List.getD x_b.Guests (Int.toNat s3) default).C).Regs ((List.getD x_b.Guests (Int.toNat s3) default).C).Pc ((List.getD x_b.Guests (Int.toNat s3) default).C).Root ((List.getD x_b.Guests (Int.toNat s3) default).C).Vector ((List.getD x_b.Guests (Int.toNat s3) default).C).Saved ((List.getD x_b.Guests (Int.toNat s3) default).C).SavedUser ((List.getD x_b.Guests (Int.toNat s3) default).C).Cause ((List.getD x_b.Guests (Int.toNat s3) default).C).Bad ((List.getD x_b.Guests (Int.toNat s3) default).C).Timer ((List.getD x_b.Guests (Int.toNat s3) default).C).Waits ((List.getD x_b.Guests (Int.toNat s3) default).C).User ((List.getD x_b.Guests (Int.toNat s3) default).C).On ((List.getD x_b.Guests (Int.toNat s3) default).C).Stopped) (List.getD x_b.Guests (Int.toNat s3) default).Pages (List.getD x_b.Guests (Int.toNat s3) default).In (List.getD x_b.Guests (Int.toNat s3) default).Out)) λv4=>
   cond (!v4)
    (some (.ret (.out false)))
    (some (.next (w64 (s3+(1:Int))))))))
  (some (.ret (.go ())))
noncomputable def oP (x_a:DHost)(x_b:DHost):Option Bool:=
 Option.bind (dM x_a.Words x_b.Words) λv1=>
 cond (!v1)
  (some false)
  (cond (!decide (((List.length x_a.Guests:Nat):Int)=((List.length x_b.Guests:Nat):Int)))
   (some false)
   (Option.bind (Option.bind (iter (lE x_a x_b) (0:Int)) LO.val) λj2=>
    JO.run j2 aHg))
noncomputable def g12:Sg tG:=⟨[.st 26,.st 26],.one .b,oP⟩
theorem s12:Sok 12 g12:=sgx [(45,.r g45),(46,.r g46)] ⟨s45,s46,trivial⟩ (.s .o (.s .o (.j ⟨[],[],[]⟩ (.s .o (.k (.l ⟨[2,3],[],[(.s 5,.i .i64)]⟩ .o))) .o))) kr kr kr
noncomputable def gG (x_h:DHost)(x_g:Int)(x_addr:Int):Option DShade:=
 Option.bind (mO x_h x_g (w64 (Int.tdiv x_addr (8:Int)))) λv1=>
 some v1
noncomputable def bFs:Sg tG:=⟨[.st 26,.i .i64,.i .i64],.one (.st 103),gG⟩
theorem bOg:Sok 152 bFs:=sgx [(139,.r bOm)] ⟨bSz,trivial⟩ .o kr kr kr
noncomputable def dS (x_h:DHost)(x_g:Int)(x_addr:Int)(x_write:Bool):Option (Int×Int):=
 Option.bind (gG x_h x_g x_addr) λv1=>
 grd ((0:Int)<=x_g/\x_g<((List.length x_h.Guests:Nat):Int)) (Option.bind (mI v1 x_addr ((List.getD x_h.Guests (Int.toNat x_g) default).C).User x_write) λv2=>
  some (v2.1,v2.2))
noncomputable def aQy:Sg tG:=⟨[.st 26,.i .i64,.i .i64,.b],.two (.i .i64) (.i .i64),dS⟩
theorem aUy:Sok 111 aQy:=sgx [(152,.r bFs),(151,.r bUc)] ⟨bOg,bWt,trivial⟩ .o kr kr kr
noncomputable def iJ (x_h:DHost)(x_g:Int)(x_addr:Int)(x_why:Int):Option DExit:=
 Option.bind (gG x_h x_g x_addr) λv1=>
 cond (decide (x_why=(2:Int)))
  (some (DExit.mk (2:Int) v1.Page (DIns.mk (0:Int) (0:Int) (0:Int))))
  (cond (decide (x_why=(3:Int)))
   (some (DExit.mk (3:Int) v1.Page (DIns.mk (0:Int) (0:Int) (0:Int))))
   (some (DExit.mk (0:Int) (0:Int) (DIns.mk (0:Int) (0:Int) (0:Int)))))
noncomputable def bLv:Sg tG:=⟨[.st 26,.i .i64,.i .i64,.i .i64],.one (.st 129),iJ⟩
theorem bVm:Sok 146 bLv:=sgx [(152,.r bFs)] ⟨bOg,trivial⟩ .o kr kr kr
noncomputable def rO (x_h:DHost)(x_g:Int)(x_i:DIns)(s2:Unit):Option DExit:=
 Option.bind (cY (DCore.mk ((List.getD x_h.Guests (Int.toNat x_g) default).C).Regs ((List.getD x_h.Guests (Int.toNat x_g) default).C).Pc ((List.getD x_h.Guests (Int.toNat x_g) default).C).Root ((List.getD x_h.Guests (Int.toNat x_g) default).C).Vector ((List.getD x_h.Guests (Int.toNat x_g) default).C).Saved ((List.getD x_h.Guests (Int.toNat x_g) default).C).SavedUser ((List.getD x_h.Guests (Int.toNat x_g) default).C).Cause ((List.getD x_h.Guests (Int.toNat x_g) default).C).Bad ((List.getD x_h.Guests (Int.toNat x_g) default).C).Timer ((List.getD x_h.Guests (Int.toNat x_g) default).C).Waits ((List.getD x_h.Guests (Int.toNat x_g) default).C).User ((List.getD x_h.Guests (Int.toNat x_g) default).C).On ((List.getD x_h.Guests (Int.toNat x_g) default).C).Stopped) x_i) λv3=>
 Option.bind (dS x_h x_g v3 (decide (x_i.Op=(4:Int)))) λv4=>
 Option.bind (iJ x_h x_g v3 v4.2) λv5=>
 some v5
noncomputable def rG (x_h:DHost)(x_g:Int)(x_i:DIns)(s1:Unit):Option DExit:=
 Option.bind (cond (!decide (x_i.Op=(3:Int)))
  (cond (!decide (x_i.Op=(4:Int)))
   (some (.out (DExit.mk (0:Int) (0:Int) (DIns.mk (0:Int) (0:Int) (0:Int)))))
   (some (.go ())))
  (some (.go ()))) λj2=>
  JO.run j2 (rO x_h x_g x_i)
noncomputable def qA (x_h:DHost)(x_g:Int)(x_i:DIns):Option DExit:=
 grd ((0:Int)<=x_g/\x_g<((List.length x_h.Guests:Nat):Int)) (Option.bind (Option.bind (kM x_i) λv6=>
  cond v6
   (cond (!((List.getD x_h.Guests (Int.toNat x_g) default).C).User)
    (some (.out (DExit.mk (1:Int) (0:Int) x_i)))
    (some (.go ())))
   (some (.go ()))) λj1=>
  JO.run j1 (rG x_h x_g x_i))
noncomputable def bSs:Sg tG:=⟨[.st 26,.i .i64,.st 89],.one (.st 129),qA⟩
theorem bXs:Sok 147 bSs:=sgx [(178,.r bLu),(179,.r aRy),(111,.r aQy),(146,.r bLv)] ⟨bUy,aXt,aUy,bVm,trivial⟩ (.s .o (.s .o (.j ⟨[1,3,5,6,7],[],[]⟩ .o (.j ⟨[1,3,5,6,7],[],[]⟩ .o .o)))) kr kr kr
noncomputable def oE (x_h:DHost)(x_g:Int):Option DExit:=
 grd ((0:Int)<=x_g/\x_g<((List.length x_h.Guests:Nat):Int)) (cond ((List.getD x_h.Guests (Int.toNat x_g) default).C).Stopped
  (some (DExit.mk (0:Int) (0:Int) (DIns.mk (0:Int) (0:Int) (0:Int))))
  (Option.bind (gH (DCore.mk ((List.getD x_h.Guests (Int.toNat x_g) default).C).Regs ((List.getD x_h.Guests (Int.toNat x_g) default).C).Pc ((List.getD x_h.Guests (Int.toNat x_g) default).C).Root ((List.getD x_h.Guests (Int.toNat x_g) default).C).Vector ((List.getD x_h.Guests (Int.toNat x_g) default).C).Saved ((List.getD x_h.Guests (Int.toNat x_g) default).C).SavedUser ((List.getD x_h.Guests (Int.toNat x_g) default).C).Cause ((List.getD x_h.Guests (Int.toNat x_g) default).C).Bad ((List.getD x_h.Guests (Int.toNat x_g) default).C).Timer ((List.getD x_h.Guests (Int.toNat x_g) default).C).Waits ((List.getD x_h.Guests (Int.toNat x_g) default).C).User ((List.getD x_h.Guests (Int.toNat x_g) default).C).On ((List.getD x_h.Guests (Int.toNat x_g) default).C).Stopped)) λv1=>
  Option.bind (eT v1) λv2=>
  cond v2
   (some (DExit.mk (0:Int) (0:Int) (DIns.mk (0:Int) (0:Int) (0:Int))))
   (Option.bind (dS x_h x_g ((List.getD x_h.Guests (Int.toNat x_g) default).C).Pc false) λv3=>
   cond (!decide (v3.2=(0:Int)))
    (Option.bind (iJ x_h x_g ((List.getD x_h.Guests (Int.toNat x_g) default).C).Pc v3.2) λv4=>
    some v4)
    (grd ((0:Int)<=v3.1/\v3.1<((List.length x_h.Words:Nat):Int)) (Option.bind (kA (List.getD x_h.Words (Int.toNat v3.1) default)) λv5=>
     Option.bind (qA x_h x_g v5) λv6=>
     some v6)))))
noncomputable def bRq:Sg tG:=⟨[.st 26,.i .i64],.one (.st 129),oE⟩
theorem bXo:Sok 103 bRq:=sgx [(107,.r bEc),(108,.r bEy),(111,.r aQy),(146,.r bLv),(114,.r bEs),(147,.r bSs)] ⟨bOf,bKt,aUy,bVm,bOe,bXs,trivial⟩ .o kr kr kr
noncomputable def aAg (x_table:List DShade)(x_addr:Int)(s1:Int):Option DExit:=some (DExit.mk s1 (List.getD x_table (Int.toNat (w64 (Int.tdiv x_addr (8:Int)))) default).Page (DIns.mk (0:Int) (0:Int) (0:Int)))
noncomputable def fJ (x_table:List DShade)(x_addr:Int)(x_why:Int):Option DExit:=
 grd ((0:Int)<=(w64 (Int.tdiv x_addr (8:Int)))/\(w64 (Int.tdiv x_addr (8:Int)))<((List.length x_table:Nat):Int)) (Option.bind (cond (decide (x_why=(2:Int)))
  (some (.go (2:Int)))
  (cond (decide (x_why=(3:Int)))
   (some (.go (3:Int)))
   (some (.out (DExit.mk (0:Int) (0:Int) (DIns.mk (0:Int) (0:Int) (0:Int))))))) λj1=>
  JO.run j1 (aAg x_table x_addr))
noncomputable def bSn:Sg tG:=⟨[.row 103,.i .i64,.i .i64],.one (.st 129),fJ⟩
theorem bYd:Sok 156 bSn:=sgx [] trivial (.s .o (.s .o (.j ⟨[6,7],[],[(.c 7 0,.i .i64)]⟩ .o .o))) kr kr kr
noncomputable def aHb  (s8:Unit):Option DExit:=some (DExit.mk (0:Int) (0:Int) (DIns.mk (0:Int) (0:Int) (0:Int)))
noncomputable def kN (x_h:DHost)(x_g:Int):Option DExit:=
 Option.bind (dI x_h x_g) λv1=>
 cond (!v1)
  (some (DExit.mk (0:Int) (0:Int) (DIns.mk (0:Int) (0:Int) (0:Int))))
  (grd ((0:Int)<=x_g/\x_g<((List.length x_h.Guests:Nat):Int)) (cond ((List.getD x_h.Guests (Int.toNat x_g) default).C).Stopped
   (some (DExit.mk (0:Int) (0:Int) (DIns.mk (0:Int) (0:Int) (0:Int))))
   (grd ((0:Int)<=x_g/\x_g<((List.length x_h.Guests:Nat):Int)) (Option.bind (jC (DCore.mk ((List.getD x_h.Guests (Int.toNat x_g) default).C).Regs ((List.getD x_h.Guests (Int.toNat x_g) default).C).Pc ((List.getD x_h.Guests (Int.toNat x_g) default).C).Root ((List.getD x_h.Guests (Int.toNat x_g) default).C).Vector ((List.getD x_h.Guests (Int.toNat x_g) default).C).Saved ((List.getD x_h.Guests (Int.toNat x_g) default).C).SavedUser ((List.getD x_h.Guests (Int.toNat x_g) default).C).Cause ((List.getD x_h.Guests (Int.toNat x_g) default).C).Bad ((List.getD x_h.Guests (Int.toNat x_g) default).C).Timer ((List.getD x_h.Guests (Int.toNat x_g) default).C).Waits ((List.getD x_h.Guests (Int.toNat x_g) default).C).User ((List.getD x_h.Guests (Int.toNat x_g) default).C).On ((List.getD x_h.Guests (Int.toNat x_g) default).C).Stopped)) λv2=>
    Option.bind (gC v2) λv3=>
    cond v3.2
     (some (DExit.mk (0:Int) (0:Int) (DIns.mk (0:Int) (0:Int) (0:Int))))
     (Option.bind (eM x_h x_g) λv4=>
     Option.bind (cM v4 v3.1.Pc v3.1.User false) λv5=>
     cond (!decide (v5.2=(0:Int)))
      (Option.bind (fJ v4 v3.1.Pc v5.2) λv6=>
      some v6)
      (grd ((0:Int)<=v5.1/\v5.1<((List.length x_h.Words:Nat):Int)) (Option.bind (jX (List.getD x_h.Words (Int.toNat v5.1) default)) λv7=>
       Option.bind (Option.bind (cO v7) λv9=>
        cond v9
         (cond (!v3.1.User)
          (some (.out (DExit.mk (1:Int) (0:Int) v7)))
          (cond (decide (v7.Op=(3:Int)))
           (grd ((0:Int)<=(Int.tmod v7.N (4:Int))/\(Int.tmod v7.N (4:Int))<((List.length v3.1.Regs:Nat):Int)) (Option.bind (cM v4 (Int.tmod (List.getD v3.1.Regs (Int.toNat (Int.tmod v7.N (4:Int))) default) (64:Int)) v3.1.User (decide (v7.Op=(4:Int)))) λv10=>
            Option.bind (fJ v4 (Int.tmod (List.getD v3.1.Regs (Int.toNat (Int.tmod v7.N (4:Int))) default) (64:Int)) v10.2) λv11=>
            some (.out v11)))
           (cond (decide (v7.Op=(4:Int)))
            (grd ((0:Int)<=(Int.tmod v7.N (4:Int))/\(Int.tmod v7.N (4:Int))<((List.length v3.1.Regs:Nat):Int)) (Option.bind (cM v4 (Int.tmod (List.getD v3.1.Regs (Int.toNat (Int.tmod v7.N (4:Int))) default) (64:Int)) v3.1.User (decide (v7.Op=(4:Int)))) λv12=>
             Option.bind (fJ v4 (Int.tmod (List.getD v3.1.Regs (Int.toNat (Int.tmod v7.N (4:Int))) default) (64:Int)) v12.2) λv13=>
             some (.out v13)))
            (some (.go ())))))
         (cond (decide (v7.Op=(3:Int)))
          (grd ((0:Int)<=(Int.tmod v7.N (4:Int))/\(Int.tmod v7.N (4:Int))<((List.length v3.1.Regs:Nat):Int)) (Option.bind (cM v4 (Int.tmod (List.getD v3.1.Regs (Int.toNat (Int.tmod v7.N (4:Int))) default) (64:Int)) v3.1.User (decide (v7.Op=(4:Int)))) λv14=>
           Option.bind (fJ v4 (Int.tmod (List.getD v3.1.Regs (Int.toNat (Int.tmod v7.N (4:Int))) default) (64:Int)) v14.2) λv15=>
           some (.out v15)))
          (cond (decide (v7.Op=(4:Int)))
           (grd ((0:Int)<=(Int.tmod v7.N (4:Int))/\(Int.tmod v7.N (4:Int))<((List.length v3.1.Regs:Nat):Int)) (Option.bind (cM v4 (Int.tmod (List.getD v3.1.Regs (Int.toNat (Int.tmod v7.N (4:Int))) default) (64:Int)) v3.1.User (decide (v7.Op=(4:Int)))) λv16=>
            Option.bind (fJ v4 (Int.tmod (List.getD v3.1.Regs (Int.toNat (Int.tmod v7.N (4:Int))) default) (64:Int)) v16.2) λv17=>
            some (.out v17)))
           (some (.go ()))))) λj8=>
        JO.run j8 aHb)))))))
noncomputable def bUm:Sg tG:=⟨[.st 26,.i .i64],.one (.st 129),kN⟩
theorem bYk:Sok 115 bUm:=sgx [(58,.r g58),(143,.r bGe),(66,.w g66),(67,.r g67),(68,.r g68),(156,.r bSn),(70,.r g70),(71,.r g71)] ⟨s58,bMq,s66,s67,s68,bYd,s70,s71,trivial⟩ (.s .o (.s .o (.s .o (.s .o (.s .o (.s .o (.s .o (.s .o (.j ⟨[4],[],[]⟩ .o .o))))))))) kr kr kr
end Go.Proofs.YtkjabgefacfpfaaGreat
