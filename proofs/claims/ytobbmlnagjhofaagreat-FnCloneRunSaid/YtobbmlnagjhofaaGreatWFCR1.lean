/- Plain functions of the program, and that it hands back what they say. Made by program. -/
import Derived.Test.YtobbmlnagjhofaaGreatWTD
import Derived.Test.YtobbmlnagjhofaaGreatProg
namespace Go.Proofs.YtobbmlnagjhofaaGreat
open Go.RowKit
set_option maxRecDepth 100000
set_option linter.all false
set_option maxHeartbeats 0
noncomputable def eK (x_n:Int):Option Bool:=
 cond (decide ((0:Int)<=x_n))
  (some (decide (x_n<=(4095:Int))))
  (some false)
noncomputable def g29:Sg tG:=⟨[.i .i64],.one .b,eK⟩
theorem s29:Sok 29 g29:=sgx [] trivial .o kr kr kr
noncomputable def aFw  (s1:Unit):Option Bool:=some true
noncomputable def vR (x_list:List Int)(s2:Int):Option (LO Int (JO Unit Bool)):=
 cond (decide (s2<((List.length x_list:Nat):Int)))
  (grd ((0:Int)<=s2/\s2<((List.length x_list:Nat):Int)) (Option.bind (eK (List.getD x_list (Int.toNat s2) default)) λv3=>
   cond (!v3)
    (some (.ret (.out false)))
    (some (.next (w64 (s2+(1:Int)))))))
  (some (.ret (.go ())))
noncomputable def fU (x_list:List Int):Option Bool:=
 Option.bind (Option.bind (iter (vR x_list) (0:Int)) LO.val) λj1=>
  JO.run j1 aFw
noncomputable def g46:Sg tG:=⟨[.row 3],.one .b,fU⟩
theorem s46:Sok 46 g46:=sgx [(29,.r g29)] ⟨s29,trivial⟩ (.s .o (.j ⟨[],[],[]⟩ (.s .o (.k (.l ⟨[5,6],[],[(.s 7,.i .i64)]⟩ .o))) .o)) kr kr kr
noncomputable def bO (x_addr:Int):Option Bool:=
 cond (decide ((0:Int)<=x_addr))
  (some (decide (x_addr<(64:Int))))
  (some false)
noncomputable def g80:Sg tG:=⟨[.i .i64],.one .b,bO⟩
theorem s80:Sok 80 g80:=sgx [] trivial .o kr kr kr
noncomputable def gW (x_page:Int):Option Bool:=
 cond (decide ((0:Int)<=x_page))
  (some (decide (x_page<(8:Int))))
  (some false)
noncomputable def aQt:Sg tG:=⟨[.i .i64],.one .b,gW⟩
theorem aYj:Sok 104 aQt:=sgx [] trivial .o kr kr kr
noncomputable def jN (x_root:Int):Option Bool:=
 cond (decide (x_root=(-1:Int)))
  (some true)
  (Option.bind (gW x_root) λv1=>
  some v1)
noncomputable def g81:Sg tG:=⟨[.i .i64],.one .b,jN⟩
theorem s81:Sok 81 g81:=sgx [(104,.r aQt)] ⟨aYj,trivial⟩ .o kr kr kr
noncomputable def lZ (x_c:DCore):Option Bool:=
 cond (decide (((List.length x_c.Regs:Nat):Int)=(4:Int)))
  (Option.bind (fU x_c.Regs) λv1=>
  Option.bind (bO x_c.Pc) λv2=>
  cond v2
   (Option.bind (bO x_c.Vector) λv3=>
   cond v3
    (Option.bind (bO x_c.Saved) λv4=>
    cond v4
     (Option.bind (bO x_c.Bad) λv5=>
     cond (decide ((0:Int)<=x_c.Cause))
      (cond v1
       (cond v5
        (Option.bind (jN x_c.Root) λv6=>
        cond v6
         (cond (decide (x_c.Cause<=(4:Int)))
          (Option.bind (eK x_c.Timer) λv7=>
          some v7)
          (some false))
         (some false))
        (some false))
       (some false))
      (cond v1
       (cond v5
        (Option.bind (jN x_c.Root) λv8=>
        cond v8
         (some false)
         (some false))
        (some false))
       (some false)))
     (cond (decide ((0:Int)<=x_c.Cause))
      (cond v1
       (some false)
       (some false))
      (cond v1
       (some false)
       (some false))))
    (cond (decide ((0:Int)<=x_c.Cause))
     (cond v1
      (some false)
      (some false))
     (cond v1
      (some false)
      (some false))))
   (cond (decide ((0:Int)<=x_c.Cause))
    (cond v1
     (some false)
     (some false))
    (cond v1
     (some false)
     (some false))))
  (Option.bind (bO x_c.Pc) λv9=>
  cond v9
   (Option.bind (bO x_c.Vector) λv10=>
   cond v10
    (Option.bind (bO x_c.Saved) λv11=>
    cond v11
     (Option.bind (bO x_c.Bad) λv12=>
     cond (decide ((0:Int)<=x_c.Cause))
      (some false)
      (some false))
     (cond (decide ((0:Int)<=x_c.Cause))
      (some false)
      (some false)))
    (cond (decide ((0:Int)<=x_c.Cause))
     (some false)
     (some false)))
   (cond (decide ((0:Int)<=x_c.Cause))
    (some false)
    (some false)))
noncomputable def g52:Sg tG:=⟨[.st 36],.one .b,lZ⟩
theorem s52:Sok 52 g52:=sgx [(46,.r g46),(80,.r g80),(81,.r g81),(29,.r g29)] ⟨s46,s80,s81,s29,trivial⟩ .o kr kr kr
noncomputable def nC (x_mem:List Int):Option Bool:=
 cond (decide (((List.length x_mem:Nat):Int)=(64:Int)))
  (Option.bind (fU x_mem) λv1=>
  some v1)
  (some false)
noncomputable def g53:Sg tG:=⟨[.row 3],.one .b,nC⟩
theorem s53:Sok 53 g53:=sgx [(46,.r g46)] ⟨s46,trivial⟩ .o kr kr kr
noncomputable def iY (x_words:List Int):Option Bool:=
 cond (decide (((List.length x_words:Nat):Int)<=(30:Int)))
  (Option.bind (fU x_words) λv1=>
  some v1)
  (some false)
noncomputable def g54:Sg tG:=⟨[.row 3],.one .b,iY⟩
theorem s54:Sok 54 g54:=sgx [(46,.r g46)] ⟨s46,trivial⟩ .o kr kr kr
noncomputable def pX (x_b:DBare):Option Bool:=
 Option.bind (lZ x_b.C) λv1=>
 cond v1
  (Option.bind (nC x_b.Mem) λv2=>
  cond v2
   (Option.bind (iY x_b.In) λv3=>
   cond v3
    (Option.bind (iY x_b.Out) λv4=>
    some v4)
    (some false))
   (some false))
  (some false)
noncomputable def g35:Sg tG:=⟨[.st 42],.one .b,pX⟩
theorem s35:Sok 35 g35:=sgx [(52,.r g52),(53,.r g53),(54,.r g54)] ⟨s52,s53,s54,trivial⟩ .o kr kr kr
noncomputable def bZ (x_n:Int)(x_low:Int)(x_high:Int):Option Bool:=
 cond (decide (x_low<=x_n))
  (some (decide (x_n<=x_high)))
  (some false)
noncomputable def g44:Sg tG:=⟨[.i .i64,.i .i64,.i .i64],.one .b,bZ⟩
theorem s44:Sok 44 g44:=sgx [] trivial .o kr kr kr
noncomputable def gX (x_n:Int):Option Bool:=
 Option.bind (bZ x_n (0:Int) (4095:Int)) λv1=>
 some v1
noncomputable def g93:Sg tG:=⟨[.i .i64],.one .b,gX⟩
theorem s93:Sok 93 g93:=sgx [(44,.r g44)] ⟨s44,trivial⟩ .o kr kr kr
noncomputable def oZ (x_list:List Int)(x_most:Int)(s1:Unit):Option Bool:=some (decide (((List.length x_list:Nat):Int)<=x_most))
noncomputable def oX (x_list:List Int)(s2:Int):Option (LO Int (JO Unit Bool)):=
 cond (decide (s2<((List.length x_list:Nat):Int)))
  (grd ((0:Int)<=s2/\s2<((List.length x_list:Nat):Int)) (Option.bind (gX (List.getD x_list (Int.toNat s2) default)) λv3=>
   cond (!v3)
    (some (.ret (.out false)))
    (some (.next (w64 (s2+(1:Int)))))))
  (some (.ret (.go ())))
noncomputable def cY (x_list:List Int)(x_most:Int):Option Bool:=
 Option.bind (Option.bind (iter (oX x_list) (0:Int)) LO.val) λj1=>
  JO.run j1 (oZ x_list x_most)
noncomputable def g67:Sg tG:=⟨[.row 3,.i .i64],.one .b,cY⟩
theorem s67:Sok 67 g67:=sgx [(93,.r g93)] ⟨s93,trivial⟩ (.s .o (.j ⟨[0,1],[],[]⟩ (.s .o (.k (.l ⟨[0,1],[],[(.s 5,.i .i64)]⟩ .o))) .o)) kr kr kr
noncomputable def wT (x_c:DCore)(s1:Unit):Option Bool:=
 cond (decide (((List.length x_c.Regs:Nat):Int)=(4:Int)))
  (Option.bind (bZ x_c.Pc (0:Int) (63:Int)) λv2=>
  cond v2
   (Option.bind (bZ x_c.Vector (0:Int) (63:Int)) λv3=>
   cond v3
    (Option.bind (bZ x_c.Saved (0:Int) (63:Int)) λv4=>
    cond v4
     (Option.bind (bZ x_c.Bad (0:Int) (63:Int)) λv5=>
     cond v5
      (Option.bind (bZ x_c.Root (-1:Int) (7:Int)) λv6=>
      cond v6
       (Option.bind (bZ x_c.Cause (0:Int) (4:Int)) λv7=>
       cond v7
        (Option.bind (gX x_c.Timer) λv8=>
        some v8)
        (some false))
       (some false))
      (some false))
     (some false))
    (some false))
   (some false))
  (some false)
noncomputable def wW (x_c:DCore)(s9:Int):Option (LO Int (JO Unit Bool)):=
 cond (decide (s9<((List.length x_c.Regs:Nat):Int)))
  (grd ((0:Int)<=s9/\s9<((List.length x_c.Regs:Nat):Int)) (Option.bind (gX (List.getD x_c.Regs (Int.toNat s9) default)) λv10=>
   cond (!v10)
    (some (.ret (.out false)))
    (some (.next (w64 (s9+(1:Int)))))))
  (some (.ret (.go ())))
noncomputable def jO (x_c:DCore):Option Bool:=
 Option.bind (Option.bind (iter (wW x_c) (0:Int)) LO.val) λj1=>
  JO.run j1 (wT x_c)
noncomputable def g69:Sg tG:=⟨[.st 36],.one .b,jO⟩
theorem s69:Sok 69 g69:=sgx [(93,.r g93),(44,.r g44)] ⟨s93,s44,trivial⟩ (.s .o (.j ⟨[1],[],[]⟩ (.s .o (.k (.l ⟨[1],[],[(.s 3,.i .i64)]⟩ .o))) .o)) kr kr kr
noncomputable def xZ (x_mem:List Int)(s1:Unit):Option Bool:=some (decide (((List.length x_mem:Nat):Int)=(64:Int)))
noncomputable def yL (x_mem:List Int)(s2:Int):Option (LO Int (JO Unit Bool)):=
 cond (decide (s2<((List.length x_mem:Nat):Int)))
  (grd ((0:Int)<=s2/\s2<((List.length x_mem:Nat):Int)) (Option.bind (gX (List.getD x_mem (Int.toNat s2) default)) λv3=>
   cond (!v3)
    (some (.ret (.out false)))
    (some (.next (w64 (s2+(1:Int)))))))
  (some (.ret (.go ())))
noncomputable def sD (x_mem:List Int):Option Bool:=
 Option.bind (Option.bind (iter (yL x_mem) (0:Int)) LO.val) λj1=>
  JO.run j1 (xZ x_mem)
noncomputable def bLz:Sg tG:=⟨[.row 3],.one .b,sD⟩
theorem bQo:Sok 115 bLz:=sgx [(93,.r g93)] ⟨s93,trivial⟩ (.s .o (.j ⟨[0],[],[]⟩ (.s .o (.k (.l ⟨[0],[],[(.s 3,.i .i64)]⟩ .o))) .o)) kr kr kr
noncomputable def pS (x_b:DBare):Option Bool:=
 Option.bind (jO x_b.C) λv1=>
 cond v1
  (Option.bind (sD x_b.Mem) λv2=>
  cond v2
   (Option.bind (cY x_b.In (30:Int)) λv3=>
   cond v3
    (Option.bind (cY x_b.Out (30:Int)) λv4=>
    some v4)
    (some false))
   (some false))
  (some false)
noncomputable def g91:Sg tG:=⟨[.st 42],.one .b,pS⟩
theorem s91:Sok 91 g91:=sgx [(69,.r g69),(115,.r bLz),(67,.r g67)] ⟨s69,bQo,s67,trivial⟩ .o kr kr kr
noncomputable def mP (x_c:DCore):Option Bool:=
 cond (decide (x_c.Pc=(0:Int)))
  (cond (decide (x_c.Root=(0:Int)))
   (cond (decide (x_c.Vector=(0:Int)))
    (cond (decide (x_c.Saved=(0:Int)))
     (cond x_c.SavedUser
      (cond (decide (((List.length x_c.Regs:Nat):Int)=(0:Int)))
       (cond (decide (x_c.Bad=(0:Int)))
        (cond (decide (x_c.Cause=(0:Int)))
         (cond (decide (x_c.Timer=(0:Int)))
          (some false)
          (some false))
         (some false))
        (some false))
       (some false))
      (cond x_c.Waits
       (cond (decide (((List.length x_c.Regs:Nat):Int)=(0:Int)))
        (cond (decide (x_c.Bad=(0:Int)))
         (cond (decide (x_c.Cause=(0:Int)))
          (cond (decide (x_c.Timer=(0:Int)))
           (some false)
           (some false))
          (some false))
         (some false))
        (some false))
       (cond x_c.User
        (cond (decide (((List.length x_c.Regs:Nat):Int)=(0:Int)))
         (cond (decide (x_c.Bad=(0:Int)))
          (cond (decide (x_c.Cause=(0:Int)))
           (cond (decide (x_c.Timer=(0:Int)))
            (some false)
            (some false))
           (some false))
          (some false))
         (some false))
        (cond x_c.On
         (cond (decide (((List.length x_c.Regs:Nat):Int)=(0:Int)))
          (cond (decide (x_c.Bad=(0:Int)))
           (cond (decide (x_c.Cause=(0:Int)))
            (cond (decide (x_c.Timer=(0:Int)))
             (some false)
             (some false))
            (some false))
           (some false))
          (some false))
         (cond (decide (((List.length x_c.Regs:Nat):Int)=(0:Int)))
          (cond (decide (x_c.Bad=(0:Int)))
           (cond (decide (x_c.Cause=(0:Int)))
            (cond (decide (x_c.Timer=(0:Int)))
             (some (!x_c.Stopped))
             (some false))
            (some false))
           (some false))
          (some false))))))
     (cond x_c.SavedUser
      (cond (decide (((List.length x_c.Regs:Nat):Int)=(0:Int)))
       (some false)
       (some false))
      (cond x_c.Waits
       (cond (decide (((List.length x_c.Regs:Nat):Int)=(0:Int)))
        (some false)
        (some false))
       (cond x_c.User
        (cond (decide (((List.length x_c.Regs:Nat):Int)=(0:Int)))
         (some false)
         (some false))
        (cond x_c.On
         (cond (decide (((List.length x_c.Regs:Nat):Int)=(0:Int)))
          (some false)
          (some false))
         (cond (decide (((List.length x_c.Regs:Nat):Int)=(0:Int)))
          (some false)
          (some false)))))))
    (cond x_c.SavedUser
     (cond (decide (((List.length x_c.Regs:Nat):Int)=(0:Int)))
      (some false)
      (some false))
     (cond x_c.Waits
      (cond (decide (((List.length x_c.Regs:Nat):Int)=(0:Int)))
       (some false)
       (some false))
      (cond x_c.User
       (cond (decide (((List.length x_c.Regs:Nat):Int)=(0:Int)))
        (some false)
        (some false))
       (cond x_c.On
        (cond (decide (((List.length x_c.Regs:Nat):Int)=(0:Int)))
         (some false)
         (some false))
        (cond (decide (((List.length x_c.Regs:Nat):Int)=(0:Int)))
         (some false)
         (some false)))))))
   (cond x_c.SavedUser
    (cond (decide (((List.length x_c.Regs:Nat):Int)=(0:Int)))
     (some false)
     (some false))
    (cond x_c.Waits
     (cond (decide (((List.length x_c.Regs:Nat):Int)=(0:Int)))
      (some false)
      (some false))
     (cond x_c.User
      (cond (decide (((List.length x_c.Regs:Nat):Int)=(0:Int)))
       (some false)
       (some false))
      (cond x_c.On
       (cond (decide (((List.length x_c.Regs:Nat):Int)=(0:Int)))
        (some false)
        (some false))
       (cond (decide (((List.length x_c.Regs:Nat):Int)=(0:Int)))
        (some false)
        (some false)))))))
  (cond x_c.SavedUser
   (cond (decide (((List.length x_c.Regs:Nat):Int)=(0:Int)))
    (some false)
    (some false))
   (cond x_c.Waits
    (cond (decide (((List.length x_c.Regs:Nat):Int)=(0:Int)))
     (some false)
     (some false))
    (cond x_c.User
     (cond (decide (((List.length x_c.Regs:Nat):Int)=(0:Int)))
      (some false)
      (some false))
     (cond x_c.On
      (cond (decide (((List.length x_c.Regs:Nat):Int)=(0:Int)))
       (some false)
       (some false))
      (cond (decide (((List.length x_c.Regs:Nat):Int)=(0:Int)))
       (some false)
       (some false))))))
noncomputable def bLg:Sg tG:=⟨[.st 36],.one .b,mP⟩
theorem bPn:Sok 117 bLg:=sgx [] trivial .o kr kr kr
noncomputable def kI (x_guest:DGuest):Option Bool:=
 Option.bind (mP x_guest.C) λv1=>
 cond v1
  (cond (decide (((List.length x_guest.Pages:Nat):Int)=(0:Int)))
   (cond (decide (((List.length x_guest.In:Nat):Int)=(0:Int)))
    (some (decide (((List.length x_guest.Out:Nat):Int)=(0:Int))))
    (some false))
   (some false))
  (some false)
noncomputable def g94:Sg tG:=⟨[.st 39],.one .b,kI⟩
theorem s94:Sok 94 g94:=sgx [(117,.r bLg)] ⟨bPn,trivial⟩ .o kr kr kr
noncomputable def qB (x_s:DSlot):Option Bool:=
 cond (decide (x_s.Frame=(-1:Int)))
  (cond (!x_s.Write)
   (some (!x_s.Dirty))
   (some false))
  (cond (decide ((0:Int)<=x_s.Frame))
   (some (decide (x_s.Frame<(20:Int))))
   (some false))
noncomputable def bOj:Sg tG:=⟨[.st 59],.one .b,qB⟩
theorem bPj:Sok 118 bOj:=sgx [] trivial .o kr kr kr
noncomputable def aFt  (s1:Unit):Option Bool:=some true
noncomputable def vJ (x_pages:List DSlot)(s2:Int):Option (LO Int (JO Unit Bool)):=
 cond (decide (s2<((List.length x_pages:Nat):Int)))
  (grd ((0:Int)<=s2/\s2<((List.length x_pages:Nat):Int)) (Option.bind (qB (DSlot.mk (List.getD x_pages (Int.toNat s2) default).Frame (List.getD x_pages (Int.toNat s2) default).Write (List.getD x_pages (Int.toNat s2) default).Dirty)) λv3=>
   cond (!v3)
    (some (.ret (.out false)))
    (some (.next (w64 (s2+(1:Int)))))))
  (some (.ret (.go ())))
noncomputable def nY (x_pages:List DSlot):Option Bool:=
 cond (!decide (((List.length x_pages:Nat):Int)=(8:Int)))
  (some false)
  (Option.bind (Option.bind (iter (vJ x_pages) (0:Int)) LO.val) λj1=>
   JO.run j1 aFt)
noncomputable def g95:Sg tG:=⟨[.row 59],.one .b,nY⟩
theorem s95:Sok 95 g95:=sgx [(118,.r bOj)] ⟨bPj,trivial⟩ (.s .o (.s .o (.j ⟨[],[],[]⟩ (.s .o (.k (.l ⟨[8,9],[],[(.s 10,.i .i64)]⟩ .o))) .o))) kr kr kr
noncomputable def kN (x_guest:DGuest):Option Bool:=
 cond (!x_guest.Live)
  (Option.bind (kI x_guest) λv1=>
  some v1)
  (Option.bind (lZ x_guest.C) λv2=>
  cond v2
   (Option.bind (nY x_guest.Pages) λv3=>
   cond v3
    (Option.bind (iY x_guest.In) λv4=>
    cond v4
     (Option.bind (iY x_guest.Out) λv5=>
     some v5)
     (some false))
    (some false))
   (some false))
noncomputable def g70:Sg tG:=⟨[.st 39],.one .b,kN⟩
theorem s70:Sok 70 g70:=sgx [(94,.r g94),(52,.r g52),(95,.r g95),(54,.r g54)] ⟨s94,s52,s95,s54,trivial⟩ .o kr kr kr
noncomputable def aDn  (s1:Unit):Option Bool:=some true
noncomputable def jW (x_guests:List DGuest)(s2:Int):Option (LO Int (JO Unit Bool)):=
 cond (decide (s2<((List.length x_guests:Nat):Int)))
  (grd ((0:Int)<=s2/\s2<((List.length x_guests:Nat):Int)) (Option.bind (kN (DGuest.mk (List.getD x_guests (Int.toNat s2) default).Live (DCore.mk ((List.getD x_guests (Int.toNat s2) default).C).Regs ((List.getD x_guests (Int.toNat s2) default).C).Pc ((List.getD x_guests (Int.toNat s2) default).C).Root ((List.getD x_guests (Int.toNat s2) default).C).Vector ((List.getD x_guests (Int.toNat s2) default).C).Saved ((List.getD x_guests (Int.toNat s2) default).C).SavedUser ((List.getD x_guests (Int.toNat s2) default).C).Cause ((List.getD x_guests (Int.toNat s2) default).C).Bad ((List.getD x_guests (Int.toNat s2) default).C).Timer ((List.getD x_guests (Int.toNat s2) default).C).Waits ((List.getD x_guests (Int.toNat s2) default).C).User ((List.getD x_guests (Int.toNat s2) default).C).On ((List.getD x_guests (Int.toNat s2) default).C).Stopped) (List.getD x_guests (Int.toNat s2) default).Pages (List.getD x_guests (Int.toNat s2) default).In (List.getD x_guests (Int.toNat s2) default).Out)) λv3=>
   cond (!v3)
    (some (.ret (.out false)))
    (some (.next (w64 (s2+(1:Int)))))))
  (some (.ret (.go ())))
noncomputable def mT (x_guests:List DGuest):Option Bool:=
 cond (!decide (((List.length x_guests:Nat):Int)=(3:Int)))
  (some false)
  (Option.bind (Option.bind (iter (jW x_guests) (0:Int)) LO.val) λj1=>
   JO.run j1 aDn)
noncomputable def g47:Sg tG:=⟨[.row 39],.one .b,mT⟩
theorem s47:Sok 47 g47:=sgx [(70,.r g70)] ⟨s70,trivial⟩ (.s .o (.s .o (.j ⟨[],[],[]⟩ (.s .o (.k (.l ⟨[8,9],[],[(.s 10,.i .i64)]⟩ .o))) .o))) kr kr kr
noncomputable def rD  (s1:List Int):Option (List Int):=some s1
noncomputable def rK (s2:(List Int)×Int)(s3:List Int):Option (LO ((List Int)×Int) (JO (List Int) (List Int))):=some (.next (s3,w64 (s2.2+(1:Int))))
noncomputable def rB (s4:(List Int)×Int)(s5:List Int):Option (LO ((List Int)×Int) (JO (List Int) (LO ((List Int)×Int) (JO (List Int) (List Int))))):=some (.next (s5,w64 (s4.2+(1:Int))))
noncomputable def eU (x_guests:List DGuest)(s2:(List Int)×Int)(s4:(List Int)×Int):Option (LO ((List Int)×Int) (JO (List Int) (LO ((List Int)×Int) (JO (List Int) (List Int))))):=
 cond (decide (s4.2<((List.length (List.getD x_guests (Int.toNat s2.2) default).Pages:Nat):Int)))
  (Option.bind (grd ((0:Int)<=s4.2/\s4.2<((List.length (List.getD x_guests (Int.toNat s2.2) default).Pages:Nat):Int)) (cond (!decide ((List.getD (List.getD x_guests (Int.toNat s2.2) default).Pages (Int.toNat s4.2) default).Frame=(-1:Int)))
   (grd ((0:Int)<=(List.getD (List.getD x_guests (Int.toNat s2.2) default).Pages (Int.toNat s4.2) default).Frame/\(List.getD (List.getD x_guests (Int.toNat s2.2) default).Pages (Int.toNat s4.2) default).Frame<((List.length s4.1:Nat):Int)) (grd ((0:Int)<=(List.getD (List.getD x_guests (Int.toNat s2.2) default).Pages (Int.toNat s4.2) default).Frame/\(List.getD (List.getD x_guests (Int.toNat s2.2) default).Pages (Int.toNat s4.2) default).Frame<((List.length s4.1:Nat):Int)) (some (.go (List.set s4.1 (Int.toNat (List.getD (List.getD x_guests (Int.toNat s2.2) default).Pages (Int.toNat s4.2) default).Frame) (w64 ((List.getD s4.1 (Int.toNat (List.getD (List.getD x_guests (Int.toNat s2.2) default).Pages (Int.toNat s4.2) default).Frame) default)+(1:Int))))))))
   (some (.go s4.1)))) λj5=>
   JO.run j5 (rB s4))
  (some (.ret (.go s4.1)))
noncomputable def gT (x_guests:List DGuest)(s2:(List Int)×Int):Option (LO ((List Int)×Int) (JO (List Int) (List Int))):=
 cond (decide (s2.2<((List.length x_guests:Nat):Int)))
  (Option.bind (grd ((0:Int)<=s2.2/\s2.2<((List.length x_guests:Nat):Int)) (Option.bind (iter (eU x_guests s2) (s2.1,(0:Int))) LO.val)) λj3=>
   JO.run j3 (rK s2))
  (some (.ret (.go s2.1)))
noncomputable def eP (x_guests:List DGuest):Option (List Int):=
 Option.bind (Option.bind (iter (gT x_guests) ((List.replicate (Int.toNat (20:Int)) (0:Int)),(0:Int))) LO.val) λj1=>
  JO.run j1 rD
noncomputable def g71:Sg tG:=⟨[.row 39],.one (.row 3),eP⟩
theorem s71:Sok 71 g71:=sgx [] trivial (.s .o (.s .o (.j ⟨[],[],[(.s 3,.ro 3)]⟩ (.s .o (.k (.l ⟨[9,10],[],[(.s 3,.ro 3),(.s 11,.i .i64)]⟩ (.s .o (.s .o (.j ⟨[9,10,11],[],[(.s 3,.ro 3)]⟩ (.k (.s .o (.s .o (.k (.l ⟨[9,10,11,16,17],[],[(.s 3,.ro 3),(.s 18,.i .i64)]⟩ (.s .o (.s .o (.j ⟨[9,10,11,16,17,18],[],[(.s 3,.ro 3)]⟩ .o .o)))))))) .o)))))) .o))) kr kr kr
noncomputable def vW  (s2:Unit):Option Bool:=some true
noncomputable def mV (s3:Int)(s4:Unit):Option (LO Int (JO Unit Bool)):=some (.next (w64 (s3+(1:Int))))
noncomputable def iD (s5:Int)(s6:Unit):Option (LO Int (JO Unit (LO Int (JO Unit Bool)))):=some (.next (w64 (s5+(1:Int))))
noncomputable def dB (x_guests:List DGuest)(v1:List Int)(s3:Int)(s5:Int):Option (LO Int (JO Unit (LO Int (JO Unit Bool)))):=
 cond (decide (s5<((List.length (List.getD x_guests (Int.toNat s3) default).Pages:Nat):Int)))
  (Option.bind (grd ((0:Int)<=s5/\s5<((List.length (List.getD x_guests (Int.toNat s3) default).Pages:Nat):Int)) (cond (List.getD (List.getD x_guests (Int.toNat s3) default).Pages (Int.toNat s5) default).Write
   (grd ((0:Int)<=(List.getD (List.getD x_guests (Int.toNat s3) default).Pages (Int.toNat s5) default).Frame/\(List.getD (List.getD x_guests (Int.toNat s3) default).Pages (Int.toNat s5) default).Frame<((List.length v1:Nat):Int)) (cond (decide ((1:Int)<(List.getD v1 (Int.toNat (List.getD (List.getD x_guests (Int.toNat s3) default).Pages (Int.toNat s5) default).Frame) default)))
    (some (.out (.ret (.out (.ret (.out false))))))
    (some (.go ()))))
   (some (.go ())))) λj6=>
   JO.run j6 (iD s5))
  (some (.ret (.go ())))
noncomputable def eW (x_guests:List DGuest)(v1:List Int)(s3:Int):Option (LO Int (JO Unit Bool)):=
 cond (decide (s3<((List.length x_guests:Nat):Int)))
  (Option.bind (grd ((0:Int)<=s3/\s3<((List.length x_guests:Nat):Int)) (Option.bind (iter (dB x_guests v1 s3) (0:Int)) LO.val)) λj4=>
   JO.run j4 (mV s3))
  (some (.ret (.go ())))
noncomputable def gD (x_guests:List DGuest):Option Bool:=
 Option.bind (eP x_guests) λv1=>
 Option.bind (Option.bind (iter (eW x_guests v1) (0:Int)) LO.val) λj2=>
  JO.run j2 vW
noncomputable def g48:Sg tG:=⟨[.row 39],.one .b,gD⟩
theorem s48:Sok 48 g48:=sgx [(71,.r g71)] ⟨s71,trivial⟩ (.s .o (.s .o (.j ⟨[],[],[]⟩ (.s .o (.k (.l ⟨[3,10,11],[],[(.s 12,.i .i64)]⟩ (.s .o (.s .o (.j ⟨[3,10,11,12],[],[]⟩ (.k (.s .o (.s .o (.k (.l ⟨[3,10,11,12,17,18],[],[(.s 19,.i .i64)]⟩ (.s .o (.s .o (.j ⟨[3,10,11,12,17,18,19],[],[]⟩ .o .o)))))))) .o)))))) .o))) kr kr kr
noncomputable def lW (x_h:DHost):Option Bool:=
 cond (decide (((List.length x_h.Words:Nat):Int)=(160:Int)))
  (Option.bind (fU x_h.Words) λv1=>
  cond v1
   (Option.bind (mT x_h.Guests) λv2=>
   cond v2
    (Option.bind (gD x_h.Guests) λv3=>
    some v3)
    (some false))
   (some false))
  (some false)
noncomputable def g30:Sg tG:=⟨[.st 26],.one .b,lW⟩
theorem s30:Sok 30 g30:=sgx [(46,.r g46),(47,.r g47),(48,.r g48)] ⟨s46,s47,s48,trivial⟩ .o kr kr kr
noncomputable def lY (x_g:DGuest):Option Bool:=
 cond (decide (((List.length x_g.C.Regs:Nat):Int)=(0:Int)))
  (cond (decide (x_g.C.Pc=(0:Int)))
   (cond (decide (x_g.C.Root=(0:Int)))
    (cond (decide (x_g.C.Vector=(0:Int)))
     (cond (decide (x_g.C.Saved=(0:Int)))
      (cond (!x_g.C.SavedUser)
       (cond (decide (x_g.C.Cause=(0:Int)))
        (cond (decide (x_g.C.Bad=(0:Int)))
         (cond (decide (x_g.C.Timer=(0:Int)))
          (cond (!x_g.C.Waits)
           (cond (!x_g.C.User)
            (cond (!x_g.C.On)
             (cond (!x_g.C.Stopped)
              (cond (decide (((List.length x_g.Pages:Nat):Int)=(0:Int)))
               (cond (decide (((List.length x_g.In:Nat):Int)=(0:Int)))
                (some (decide (((List.length x_g.Out:Nat):Int)=(0:Int))))
                (some false))
               (some false))
              (some false))
             (some false))
            (some false))
           (some false))
          (some false))
         (some false))
        (some false))
       (some false))
      (some false))
     (some false))
    (some false))
   (some false))
  (some false)
noncomputable def g68:Sg tG:=⟨[.st 39],.one .b,lY⟩
theorem s68:Sok 68 g68:=sgx [] trivial .o kr kr kr
noncomputable def aIx  (s3:Unit):Option Bool:=some true
noncomputable def qG (s4:Int)(s5:Unit):Option (LO Int (JO Unit Bool)):=some (.next (w64 (s4+(1:Int))))
noncomputable def lI (s2:(List Int)×(List Bool))(s4:Int):Option (LO Int (JO Unit Bool)):=
 cond (decide (s4<(20:Int)))
  (Option.bind (grd ((0:Int)<=s4/\s4<((List.length s2.1:Nat):Int)) (cond (decide ((1:Int)<(List.getD s2.1 (Int.toNat s4) default)))
   (grd ((0:Int)<=s4/\s4<((List.length s2.2:Nat):Int)) (cond (List.getD s2.2 (Int.toNat s4) default)
    (some (.out (.ret (.out false))))
    (some (.go ()))))
   (some (.go ())))) λj5=>
   JO.run j5 (qG s4))
  (some (.ret (.go ())))
noncomputable def xF  (s2:(List Int)×(List Bool)):Option Bool:=
 Option.bind (Option.bind (iter (lI s2) (0:Int)) LO.val) λj3=>
  JO.run j3 aIx
noncomputable def qQ (s6:(List Int)×(List Bool)×Int)(s7:(List Int)×(List Bool)):Option (LO ((List Int)×(List Bool)×Int) (JO ((List Int)×(List Bool)) Bool)):=some (.next (s7.1,s7.2,w64 (s6.2.2+(1:Int))))
noncomputable def pC (s12:(List Int)×(List Bool)×Int)(s13:(List Bool)×(List Int)):Option (LO ((List Int)×(List Bool)×Int) (JO ((List Int)×(List Bool)) (LO ((List Int)×(List Bool)×Int) (JO ((List Int)×(List Bool)) Bool)))):=some (.next (s13.2,s13.1,w64 (s12.2.2+(1:Int))))
noncomputable def pL (x_h:DHost)(s6:(List Int)×(List Bool)×Int)(s12:(List Int)×(List Bool)×Int)(s14:Unit):Option (JO ((List Bool)×(List Int)) (LO ((List Int)×(List Bool)×Int) (JO ((List Int)×(List Bool)) (LO ((List Int)×(List Bool)×Int) (JO ((List Int)×(List Bool)) Bool))))):=
 cond (decide ((0:Int)<=(List.getD (List.getD x_h.Guests (Int.toNat s6.2.2) default).Pages (Int.toNat s12.2.2) default).Frame))
  (grd ((0:Int)<=(List.getD (List.getD x_h.Guests (Int.toNat s6.2.2) default).Pages (Int.toNat s12.2.2) default).Frame/\(List.getD (List.getD x_h.Guests (Int.toNat s6.2.2) default).Pages (Int.toNat s12.2.2) default).Frame<((List.length s12.1:Nat):Int)) (grd ((0:Int)<=(List.getD (List.getD x_h.Guests (Int.toNat s6.2.2) default).Pages (Int.toNat s12.2.2) default).Frame/\(List.getD (List.getD x_h.Guests (Int.toNat s6.2.2) default).Pages (Int.toNat s12.2.2) default).Frame<((List.length s12.1:Nat):Int)) (grd ((0:Int)<=(List.getD (List.getD x_h.Guests (Int.toNat s6.2.2) default).Pages (Int.toNat s12.2.2) default).Frame/\(List.getD (List.getD x_h.Guests (Int.toNat s6.2.2) default).Pages (Int.toNat s12.2.2) default).Frame<((List.length s12.2.1:Nat):Int)) (cond (List.getD s12.2.1 (Int.toNat (List.getD (List.getD x_h.Guests (Int.toNat s6.2.2) default).Pages (Int.toNat s12.2.2) default).Frame) default)
   (grd ((0:Int)<=(List.getD (List.getD x_h.Guests (Int.toNat s6.2.2) default).Pages (Int.toNat s12.2.2) default).Frame/\(List.getD (List.getD x_h.Guests (Int.toNat s6.2.2) default).Pages (Int.toNat s12.2.2) default).Frame<((List.length s12.2.1:Nat):Int)) (some (.go ((List.set s12.2.1 (Int.toNat (List.getD (List.getD x_h.Guests (Int.toNat s6.2.2) default).Pages (Int.toNat s12.2.2) default).Frame) true),List.set s12.1 (Int.toNat (List.getD (List.getD x_h.Guests (Int.toNat s6.2.2) default).Pages (Int.toNat s12.2.2) default).Frame) (w64 ((List.getD s12.1 (Int.toNat (List.getD (List.getD x_h.Guests (Int.toNat s6.2.2) default).Pages (Int.toNat s12.2.2) default).Frame) default)+(1:Int)))))))
   (grd ((0:Int)<=(List.getD (List.getD x_h.Guests (Int.toNat s6.2.2) default).Pages (Int.toNat s12.2.2) default).Frame/\(List.getD (List.getD x_h.Guests (Int.toNat s6.2.2) default).Pages (Int.toNat s12.2.2) default).Frame<((List.length s12.2.1:Nat):Int)) (some (.go ((List.set s12.2.1 (Int.toNat (List.getD (List.getD x_h.Guests (Int.toNat s6.2.2) default).Pages (Int.toNat s12.2.2) default).Frame) (List.getD (List.getD x_h.Guests (Int.toNat s6.2.2) default).Pages (Int.toNat s12.2.2) default).Write),List.set s12.1 (Int.toNat (List.getD (List.getD x_h.Guests (Int.toNat s6.2.2) default).Pages (Int.toNat s12.2.2) default).Frame) (w64 ((List.getD s12.1 (Int.toNat (List.getD (List.getD x_h.Guests (Int.toNat s6.2.2) default).Pages (Int.toNat s12.2.2) default).Frame) default)+(1:Int)))))))))))
  (some (.go (s12.2.1,s12.1)))
noncomputable def hU (x_h:DHost)(s6:(List Int)×(List Bool)×Int)(s12:(List Int)×(List Bool)×Int):Option (LO ((List Int)×(List Bool)×Int) (JO ((List Int)×(List Bool)) (LO ((List Int)×(List Bool)×Int) (JO ((List Int)×(List Bool)) Bool)))):=
 cond (decide (s12.2.2<((List.length (List.getD x_h.Guests (Int.toNat s6.2.2) default).Pages:Nat):Int)))
  (Option.bind (grd ((0:Int)<=s12.2.2/\s12.2.2<((List.length (List.getD x_h.Guests (Int.toNat s6.2.2) default).Pages:Nat):Int)) (Option.bind (Option.bind (bZ (List.getD (List.getD x_h.Guests (Int.toNat s6.2.2) default).Pages (Int.toNat s12.2.2) default).Frame (-1:Int) (19:Int)) λv15=>
   cond (!v15)
    (some (.out (.out (.ret (.out (.ret (.out false)))))))
    (cond (decide ((List.getD (List.getD x_h.Guests (Int.toNat s6.2.2) default).Pages (Int.toNat s12.2.2) default).Frame=(-1:Int)))
     (cond (List.getD (List.getD x_h.Guests (Int.toNat s6.2.2) default).Pages (Int.toNat s12.2.2) default).Write
      (some (.out (.out (.ret (.out (.ret (.out false)))))))
      (cond (List.getD (List.getD x_h.Guests (Int.toNat s6.2.2) default).Pages (Int.toNat s12.2.2) default).Dirty
       (some (.out (.out (.ret (.out (.ret (.out false)))))))
       (some (.go ()))))
     (some (.go ())))) λj14=>
   JO.run j14 (pL x_h s6 s12))) λj13=>
   JO.run j13 (pC s12))
  (some (.ret (.go (s12.1,s12.2.1))))
noncomputable def iX (x_h:DHost)(s6:(List Int)×(List Bool)×Int):Option (LO ((List Int)×(List Bool)×Int) (JO ((List Int)×(List Bool)) Bool)):=
 cond (decide (s6.2.2<((List.length x_h.Guests:Nat):Int)))
  (Option.bind (grd ((0:Int)<=s6.2.2/\s6.2.2<((List.length x_h.Guests:Nat):Int)) (cond (!(List.getD x_h.Guests (Int.toNat s6.2.2) default).Live)
   (Option.bind (lY (DGuest.mk (List.getD x_h.Guests (Int.toNat s6.2.2) default).Live (DCore.mk ((List.getD x_h.Guests (Int.toNat s6.2.2) default).C).Regs ((List.getD x_h.Guests (Int.toNat s6.2.2) default).C).Pc ((List.getD x_h.Guests (Int.toNat s6.2.2) default).C).Root ((List.getD x_h.Guests (Int.toNat s6.2.2) default).C).Vector ((List.getD x_h.Guests (Int.toNat s6.2.2) default).C).Saved ((List.getD x_h.Guests (Int.toNat s6.2.2) default).C).SavedUser ((List.getD x_h.Guests (Int.toNat s6.2.2) default).C).Cause ((List.getD x_h.Guests (Int.toNat s6.2.2) default).C).Bad ((List.getD x_h.Guests (Int.toNat s6.2.2) default).C).Timer ((List.getD x_h.Guests (Int.toNat s6.2.2) default).C).Waits ((List.getD x_h.Guests (Int.toNat s6.2.2) default).C).User ((List.getD x_h.Guests (Int.toNat s6.2.2) default).C).On ((List.getD x_h.Guests (Int.toNat s6.2.2) default).C).Stopped) (List.getD x_h.Guests (Int.toNat s6.2.2) default).Pages (List.getD x_h.Guests (Int.toNat s6.2.2) default).In (List.getD x_h.Guests (Int.toNat s6.2.2) default).Out)) λv8=>
   cond (!v8)
    (some (.out (.ret (.out false))))
    (some (.go (s6.1,s6.2.1))))
   (Option.bind (jO (DCore.mk ((List.getD x_h.Guests (Int.toNat s6.2.2) default).C).Regs ((List.getD x_h.Guests (Int.toNat s6.2.2) default).C).Pc ((List.getD x_h.Guests (Int.toNat s6.2.2) default).C).Root ((List.getD x_h.Guests (Int.toNat s6.2.2) default).C).Vector ((List.getD x_h.Guests (Int.toNat s6.2.2) default).C).Saved ((List.getD x_h.Guests (Int.toNat s6.2.2) default).C).SavedUser ((List.getD x_h.Guests (Int.toNat s6.2.2) default).C).Cause ((List.getD x_h.Guests (Int.toNat s6.2.2) default).C).Bad ((List.getD x_h.Guests (Int.toNat s6.2.2) default).C).Timer ((List.getD x_h.Guests (Int.toNat s6.2.2) default).C).Waits ((List.getD x_h.Guests (Int.toNat s6.2.2) default).C).User ((List.getD x_h.Guests (Int.toNat s6.2.2) default).C).On ((List.getD x_h.Guests (Int.toNat s6.2.2) default).C).Stopped)) λv9=>
   cond (!v9)
    (some (.out (.ret (.out false))))
    (cond (!decide (((List.length (List.getD x_h.Guests (Int.toNat s6.2.2) default).Pages:Nat):Int)=(8:Int)))
     (some (.out (.ret (.out false))))
     (Option.bind (cY (List.getD x_h.Guests (Int.toNat s6.2.2) default).In (30:Int)) λv10=>
     cond (!v10)
      (some (.out (.ret (.out false))))
      (Option.bind (cY (List.getD x_h.Guests (Int.toNat s6.2.2) default).Out (30:Int)) λv11=>
      cond (!v11)
       (some (.out (.ret (.out false))))
       (Option.bind (iter (hU x_h s6) (s6.1,s6.2.1,(0:Int))) LO.val))))))) λj7=>
   JO.run j7 (qQ s6))
  (some (.ret (.go (s6.1,s6.2.1))))
noncomputable def jK (x_h:DHost):Option Bool:=
 Option.bind (cY x_h.Words (160:Int)) λv1=>
 cond (!v1)
  (some false)
  (cond (!decide (((List.length x_h.Words:Nat):Int)=(160:Int)))
   (some false)
   (cond (!decide (((List.length x_h.Guests:Nat):Int)=(3:Int)))
    (some false)
    (Option.bind (Option.bind (iter (iX x_h) ((List.replicate (Int.toNat (20:Int)) (0:Int)),List.replicate (Int.toNat (20:Int)) false,(0:Int))) LO.val) λj2=>
     JO.run j2 xF)))
noncomputable def g43:Sg tG:=⟨[.st 26],.one .b,jK⟩
theorem s43:Sok 43 g43:=sgx [(67,.r g67),(68,.r g68),(69,.r g69),(44,.r g44)] ⟨s67,s68,s69,s44,trivial⟩ (.s .o (.s .o (.s .o (.s .o (.j ⟨[],[],[(.s 3,.ro 3),(.s 4,.ro 4)]⟩ (.s .o (.k (.l ⟨[1],[],[(.s 3,.ro 3),(.s 4,.ro 4),(.s 5,.i .i64)]⟩ (.s .o (.j ⟨[1,5],[],[(.s 3,.ro 3),(.s 4,.ro 4)]⟩ (.k (.s .o (.s .o (.s .o (.s .o (.k (.l ⟨[1,5,6],[],[(.s 3,.ro 3),(.s 4,.ro 4),(.s 7,.i .i64)]⟩ (.s .o (.j ⟨[1,5,6,7],[],[(.s 4,.ro 4),(.s 3,.ro 3)]⟩ (.k (.s .o (.j ⟨[1,3,4,5,6,7,8],[],[]⟩ .o .o))) .o))))))))) .o))))) (.j ⟨[],[],[]⟩ (.s .o (.k (.l ⟨[3,4],[],[(.s 9,.i .i64)]⟩ (.s .o (.j ⟨[3,4,9],[],[]⟩ .o .o))))) .o)))))) kr kr kr
noncomputable def cG (x_list:List Int):Option (List Int):=grd ((0:Int)<=((List.length x_list:Nat):Int)/\((List.length x_list:Nat):Int)*8<=2^47/\((List.length x_list:Nat):Int)<=2^47) (some (over (List.replicate (Int.toNat ((List.length x_list:Nat):Int)) (0:Int)) 0 (List.length (List.replicate (Int.toNat ((List.length x_list:Nat):Int)) (0:Int))) x_list))
noncomputable def g40:Sg tG:=⟨[.row 3],.one (.row 3),cG⟩
theorem s40:Sok 40 g40:=sgx [] trivial .o kr kr kr
noncomputable def lV (x_c:DCore):Option DCore:=grd ((List.length ([]:List Int)+List.length x_c.Regs)*8<=2^47/\List.length ([]:List Int)+List.length x_c.Regs<=2^47) (some (DCore.mk (([]:List Int)++x_c.Regs) x_c.Pc x_c.Root x_c.Vector x_c.Saved x_c.SavedUser x_c.Cause x_c.Bad x_c.Timer x_c.Waits x_c.User x_c.On x_c.Stopped))
noncomputable def g45:Sg tG:=⟨[.st 36],.one (.st 36),lV⟩
theorem s45:Sok 45 g45:=sgx [] trivial .o kr kr kr
noncomputable def oA (x_guests:List DGuest)(x_g:Int):Option Bool:=
 cond (decide ((0:Int)<=x_g))
  (cond (decide (x_g<(3:Int)))
   (grd ((0:Int)<=x_g/\x_g<((List.length x_guests:Nat):Int)) (some (List.getD x_guests (Int.toNat x_g) default).Live))
   (some false))
  (some false)
noncomputable def g39:Sg tG:=⟨[.row 39,.i .i64],.one .b,oA⟩
theorem s39:Sok 39 g39:=sgx [] trivial .o kr kr kr
noncomputable def dZ (x_h:DHost)(x_g:Int):Option Bool:=
 Option.bind (lW x_h) λv1=>
 cond v1
  (Option.bind (oA x_h.Guests x_g) λv2=>
  some v2)
  (some false)
noncomputable def g18:Sg tG:=⟨[.st 26,.i .i64],.one .b,dZ⟩
theorem s18:Sok 18 g18:=sgx [(30,.r g30),(39,.r g39)] ⟨s30,s39,trivial⟩ .o kr kr kr
noncomputable def qE (x_h:DHost)(x_g:Int):Option Bool:=
 Option.bind (jK x_h) λv1=>
 cond v1
  (Option.bind (bZ x_g (0:Int) (2:Int)) λv2=>
  cond v2
   (grd ((0:Int)<=x_g/\x_g<((List.length x_h.Guests:Nat):Int)) (some (List.getD x_h.Guests (Int.toNat x_g) default).Live))
   (some false))
  (some false)
noncomputable def g24:Sg tG:=⟨[.st 26,.i .i64],.one .b,qE⟩
theorem s24:Sok 24 g24:=sgx [(43,.r g43),(44,.r g44)] ⟨s43,s44,trivial⟩ .o kr kr kr
noncomputable def cL (x_b:DBare):Option DBare:=
 Option.bind (cG x_b.C.Regs) λv1=>
 Option.bind (cG x_b.Mem) λv2=>
 Option.bind (cG x_b.In) λv3=>
 Option.bind (cG x_b.Out) λv4=>
 some (DBare.mk (DCore.mk v1 x_b.C.Pc x_b.C.Root x_b.C.Vector x_b.C.Saved x_b.C.SavedUser x_b.C.Cause x_b.C.Bad x_b.C.Timer x_b.C.Waits x_b.C.User x_b.C.On x_b.C.Stopped) v2 v3 v4)
noncomputable def g32:Sg tG:=⟨[.st 42],.one (.st 42),cL⟩
theorem s32:Sok 32 g32:=sgx [(40,.r g40)] ⟨s40,trivial⟩ .o kr kr kr
theorem aJe:LW 79 ⟨12,[.tmp 4],.seq (.reg false (rg 79 0)) (.seq (.reg false (rg 79 1)) .ret)⟩:=kr
noncomputable def jL (x_words:List Int)(x_page:Int):Option (List Int):=grd ((0:Int)<=(w64 (x_page*(8:Int)))/\(w64 (x_page*(8:Int)))<=(w64 ((w64 (x_page+(1:Int)))*(8:Int)))/\(w64 ((w64 (x_page+(1:Int)))*(8:Int)))<=((List.length x_words:Nat):Int)) (some (List.take (Int.toNat (w64 ((w64 (x_page+(1:Int)))*(8:Int)))-Int.toNat (w64 (x_page*(8:Int)))) (List.drop (Int.toNat (w64 (x_page*(8:Int)))) x_words)))
noncomputable def g79:Sg tG:=⟨[.row 3,.i .i64],.one (.rb 3),jL⟩
theorem s79:Sok 79 g79:=sgx [] trivial .o kr kr kr
theorem aMx{x_words:List Int}{x_page:Int}{R_:(List Int)}(hh:jL x_words x_page=some R_):Fn Tryz.prog 79 [bo (eI .i64) x_words,.int .i64 x_page] (bo (eI .i64) R_):=kc (s79 x_words x_page R_ hh)
noncomputable def gV (x_words:List Int)(x_page:Int):Option ((List Int)×(Nat×Nat)):=grd ((0:Int)<=(w64 (x_page*(8:Int)))/\(w64 (x_page*(8:Int)))<=(w64 ((w64 (x_page+(1:Int)))*(8:Int)))/\(w64 ((w64 (x_page+(1:Int)))*(8:Int)))<=((List.length x_words:Nat):Int)) (some (x_words,((Int.toNat (w64 (x_page*(8:Int)))),(Int.toNat (w64 ((w64 (x_page+(1:Int)))*(8:Int)))-Int.toNat (w64 (x_page*(8:Int)))))))
theorem xP{x_words:List Int}{x_page:Int}{R_:(List Int)×(Nat×Nat)}(hh:gV x_words x_page=some R_):Inl Tryz.prog 79 [.sref 0 [] 0 (List.length x_words) 1,.int .i64 x_page] [(0,some (rI_3 x_words))] 1 (.sref 0 [] (0+R_.2.1*1) R_.2.2 1) [(0,some (rI_3 R_.1))] 1:=by unfold gV at hh;let q1:Root:=(rI_3 x_words);refine Inl.start aJe [0,1] [0] (E:=sp 12 [(0,sw 0 x_words),(1,ii x_page)]) (H1:=[(0,some q1)]) kr kr (sy [0,1] [0] (sp 12 [(0,sw 0 x_words),(1,ii x_page)]) [(0,some q1)] 1 (Aw.sreg [4] [0] (yu 6 [(5,sw 0 x_words),(6,ii x_page),(7,ii (w64 (x_page*(8:Int)))),(8,ii x_page),(9,ii (w64 (x_page+(1:Int)))),(10,ii (w64 ((w64 (x_page+(1:Int)))*(8:Int))))] [(0,some q1)] 1 ?_)));obtain⟨hg2,hh⟩:=bD hh;refine ys (.slc 1 (.t 5) (some (.t 7)) (some (.t 10))) (some 11) (aQl (r:=0) (π:=[]) (o:=0) (k:=(List.length x_words)) (sz:=1) (l:=(w64 (x_page*(8:Int)))) (h:=(w64 ((w64 (x_page+(1:Int)))*(8:Int)))) kr kr kr hg2 ?_);refine yt (sp 12 [(4,.sref 0 [] (0+Int.toNat (w64 (x_page*(8:Int)))*1) (Int.toNat (w64 ((w64 (x_page+(1:Int)))*(8:Int)))-Int.toNat (w64 (x_page*(8:Int)))) 1)]) [(0,some q1)] 1 (Aw.ret ?_);rw[eR hh];exact aFa (r':= .sref 0 [] (0+Int.toNat (w64 (x_page*(8:Int)))*1) (Int.toNat (w64 ((w64 (x_page+(1:Int)))*(8:Int)))-Int.toNat (w64 (x_page*(8:Int)))) 1) kr (el [some 0] (xO zM) (hn cK gJ))
theorem aHy:LW 51 ⟨29,[.tmp 4],.seq (.reg false (rg 51 0)) (.seq (.reg false (rg 51 1)) (.seq (.seq (.reg false (rg 51 2)) (.block 0 (.loop (.seq (.reg false (rg 51 3)) (.seq (.cond (.t 12) .skip (.exit 0)) (.seq (.block 1 (.seq (.reg false (rg 51 4)) (.seq (.reg false (rg 51 5)) (.cond (.t 18) (.regd (rg 51 6) (rg 51 7)) .skip)))) (.reg false (rg 51 8)))))))) (.seq (.reg false (rg 51 10)) .ret)))⟩:=kr
noncomputable def kJ  (s1:List Int):Option (List Int):=some s1
noncomputable def iA (s2:(List Int)×Int)(s3:List Int):Option (LO ((List Int)×Int) (JO (List Int) (List Int))):=some (.next (s3,w64 (s2.2+(1:Int))))
noncomputable def hZ (x_words:List Int)(x_pages:List DSlot)(s2:(List Int)×Int):Option (LO ((List Int)×Int) (JO (List Int) (List Int))):=
 cond (decide (s2.2<((List.length x_pages:Nat):Int)))
  (Option.bind (grd ((0:Int)<=s2.2/\s2.2<((List.length x_pages:Nat):Int)) (cond (!decide ((List.getD x_pages (Int.toNat s2.2) default).Frame=(-1:Int)))
   (Option.bind (gV s2.1 s2.2) λv4=>
   grd (List.length v4.1=(List.length s2.1)) (grd (v4.2.1+v4.2.2<=List.length v4.1) (Option.bind (jL x_words (List.getD x_pages (Int.toNat s2.2) default).Frame) λv5=>
    some (.go (over v4.1 v4.2.1 v4.2.2 v5)))))
   (some (.go s2.1)))) λj3=>
   JO.run j3 (iA s2))
  (some (.ret (.go s2.1)))
noncomputable def iS (x_words:List Int)(x_pages:List DSlot):Option (List Int):=
 Option.bind (Option.bind (iter (hZ x_words x_pages) ((List.replicate (Int.toNat (64:Int)) (0:Int)),(0:Int))) LO.val) λj1=>
  JO.run j1 kJ
theorem aLl{x_words:List Int}{x_pages:List DSlot}{R_:(List Int)}(hh:iS x_words x_pages=some R_):Fn Tryz.prog 51 [bo (eI .i64) x_words,bo hC x_pages] (.own 3 1 (List.length R_) (fl (eI .i64) R_)):=by let z2:=(0,bo (eI .i64) x_words);let z3:=(1,bo hC x_pages);let z4:=(10,ii ((List.length x_pages:Nat):Int));let z5:EV:=(5,.sref 0 [] 0 (List.length (List.replicate (Int.toNat (64:Int)) (0:Int))) 1);let z6:=(9,bo hC x_pages);unfold iS at hh;refine Fn.start aHy [0,1] (E:=sp 29 [z2,z3]) kr (v:=sw 0 R_) (Hr:=[(0,some (rI_3 R_))]) (k:=1) kr (sy [0,1] [] (sp 29 [z2,z3]) [] 0 (Aw.sreg [0,1,5] [0] (ys (.mk 3 1 8 [ii 0] (.c (ii 64))) (some 8) (aOw (c:=(eI .i64)) (d:=(0:Int)) (k:=(64:Int)) kr dd kr ?_))));let q1:Root:=(rI_3 (List.replicate (Int.toNat (64:Int)) (0:Int)));refine yt (sp 29 [z2,z3,z5]) [(0,some q1)] 1 ?_;obtain⟨j1,hh,hk1⟩:=bind_some hh;refine Aw.join (S:=(List Int)) (λs1=>sp 29 [(5,sw 0 s1)]) (λs1=>[(0,some (rI_3 s1))]) 1 (λs1=>kJ s1=some R_) ?_ ?_;{intro s1 hh;unfold kJ at hh;refine sy [4] [0] (sp 29 [(4,sw 0 s1)]) [(0,some (rI_3 s1))] 1 (Aw.ret ?_);rw[eR hh];exact aFa (r':=sw 0 s1) kr (Ent.list [some 0] rfl rfl (Nat.zero_le _) (xO zM) (hn cK gJ))};intro Q1 hN1 hR1 hE1;refine sy [0,5,9,10,11] [0] (sp 29 [z2,z5,z6,z4,(11,ii 0)]) [(0,some q1)] 1 (Aw.block ?_);obtain⟨o2,hi2,hk2⟩:=bind_some hh;refine Aw.iter (λ(s2:(List Int)×Int)=>sp 29 [(0,bo (eI .i64) x_words),(5,sw 0 s2.1),(9,bo hC x_pages),(10,ii ((List.length x_pages:Nat):Int)),(11,ii s2.2)]) (λ(s2:(List Int)×Int)=>[(0,some (rI_3 s2.1))]) 1 hi2 (el [some 0] (tH kr (ro cK (rs (.sref 0 [] 0 (List.length (List.replicate (Int.toNat (64:Int)) (0:Int))) 1) (ro mF (ri (ri aGz)))))) (hn cK gJ)) ?_;intro s2 u2 Q2 hh hN2 hX2 hR2;let z7:EH:=(0,some (rI_3 s2.1));let z8:=(11,ii s2.2);let z9:=(12,bb (decide (s2.2<((List.length x_pages:Nat):Int))));let z10:=(5,sw 0 s2.1);let z11:=(6,ii s2.2);let z1:=List.getD x_pages (Int.toNat s2.2) default;let z12:=(18,bb (!decide (z1.Frame=(-1:Int))));unfold hZ at hh;refine sy [0,5,9,10,11,12] [0] (sp 29 [z2,z10,z6,z4,z8,z9]) [z7] 1 (Aw.seq ?_);rcases aMw hh with⟨hb,hh⟩|⟨hb,hh⟩;{refine cF hb (Aw.exit (bMh (hX2 _ _ _ _ _ (eR hh) ?_)));intro hout;rw[hout]at hk2;refine bIl ?_;obtain rfl:=eR hk2;exact hN1 s2.1 _ _ _ hk1 (el [some 0] (tH kr (rs (sw 0 s2.1) aGz)) (hn cK gJ))};refine cT hb (Aw.xskip (λ_ _ _ hq=>bNl hq) ?_);obtain⟨j3,hh,hk3⟩:=bind_some hh;refine Aw.join (S:=(List Int)) (λs3=>sp 29 [(0,bo (eI .i64) x_words),(5,sw 0 s3),(9,bo hC x_pages),(10,ii ((List.length x_pages:Nat):Int)),(11,ii s2.2)]) (λs3=>[(0,some (rI_3 s3))]) 1 (λs3=>iA s2 s3=some u2) ?_ ?_;{intro s3 hh;unfold iA at hh;exact Aw.oreg (ye (sp 29 [z2,(5,sw 0 s3),z6,z4,(11,ii (w64 (s2.2+(1:Int)))),(27,ii (w64 (s2.2+(1:Int))))]) [(0,some (rI_3 s3))] 1 (hN2 (s3,w64 (s2.2+(1:Int))) _ _ _ (eR hh) (el [some 0] (tH kr (ro cK (rs (sw 0 s3) (ro mF (ri (ri aGz)))))) (hn cK gJ))))};intro Q3 hN3 hR3 hE3;refine Aw.block (Aw.sreg [0,5,6,7,9,10,11] [0,1] (yj 1  (sp 29 [z2,z10,z6,z4,z8,z9,(13,ii s2.2)]) [z7] 1 ?_));obtain⟨hg104,hh⟩:=bD hh;refine ys (.iadr 3 (.t 9) (.t 11)) (some 14) (aNc (kd:= .i64) (c:=hC) (xs:=x_pages) qT dd kr kr hg104 ?_);refine ys (.load true 3 (.t 14)) (some 15) (aNx (c:=hC) (xs:=x_pages) (o:=Int.toNat s2.2*3) (i:=(Int.toNat s2.2)) (off:=0) (v:= .agg [ii z1.Frame,bb z1.Write,bb z1.Dirty]) qT kr ltn ltn dd kr ?_);let q2:Root:=⟨59,[ii z1.Frame,bb z1.Write,bb z1.Dirty]⟩;let z13:=(1,some q2);refine yt (sp 29 [z2,z10,z11,(7,pp 1),z6,z4,z8]) [z7,z13] 2 (sy [0,5,6,7,9,10,11,18] [0,1] (sp 29 [z2,z10,z11,(7,pp 1),z6,z4,z8,z12]) [z7,z13] 2 ?_);rcases aMw hh with⟨hb,hh⟩|⟨hb,hh⟩;{refine cF hb (Aw.skip (aZv ?_));obtain rfl:=eR hh;exact hN3 s2.1 _ _ _ hk3 (el [some 0] (tH kr (ro cK (rs (sw 0 s2.1) (ro mF (ri (ri aGz)))))) (hn cK gJ))};refine cT hb (Aw.oregd [0] kr (dj 2 (sp 29 [z2,z10,z11,(7,pp 1),z6,z4,z8,z12,(19,sw 0 s2.1),(20,ii s2.2)]) [z7,z13] 2 ?_));obtain⟨v4,hv4,hh⟩:=bind_some hh;let z14:EH:=(0,some (rI_3 v4.1));let z15:EV:=(21,.sref 0 [] (0+v4.2.1*1) v4.2.2 1);obtain⟨hg107,hh⟩:=bD hh;obtain⟨hg108,hh⟩:=bD hh;refine ds (.call 79 [.t 19,.t 20]) (some 21) (bId rfl (cf (.sref 0 [] (0+v4.2.1*1) v4.2.2 1) [z14] 2 [0] (xP hv4) [sw 0 s2.1,ii s2.2] rz (hn cK gJ) zM (hn cK gJ) ⟨⟨⟨by decide,aNe rfl rfl⟩,Hld.un ?_⟩⟩));refine dt (sp 29 [z2,z10,z11,(7,pp 1),z6,z4,z8,z12,(19,sw 0 s2.1),(20,ii s2.2),z15,(22,bo (eI .i64) x_words),(23,pp 1),(24,ii z1.Frame)]) [z14,(0,none),z7,z13] 2 ?_;obtain⟨v5,hv5,hh⟩:=bind_some hh;refine ys (.call 79 [.t 22,.t 24]) (some 25) (aIv (r:=bo (eI .i64) v5) (v:=bo (eI .i64) v5) (Hr:=[]) (n':=2) (aMx hv5) (aPg (vs:=[bo (eI .i64) x_words,ii z1.Frame]) kr (qF (aN (aDv (eA fK))) (cz1 yB))) nrr kr ?_);let q3:Root:=(rI_3 (over v4.1 v4.2.1 v4.2.2 v5));refine ys (.cpy 1 (.t 21) (.t 25)) (some 26) (aJh (c:=(eI .i64)) (xs:=v4.1) (ys:=v5) (e:=3) (r:=0) (π:=[]) (o:=0+v4.2.1*1) (k:=v4.2.2) (i:=v4.2.1) (H':=[(0,some q3),z14,(0,none),z7,z13]) dJ (rpv kr (aTh (c:=(eI .i64)) (xs:=v5) dJ)) kr kr ltn ltn kr ?_);refine ye (sp 29 [z2,z10,z11,(7,pp 1),z6,z4,z8,z12,(19,sw 0 s2.1),(20,ii s2.2),z15,(22,bo (eI .i64) x_words),(23,pp 1),(24,ii z1.Frame),(25,bo (eI .i64) v5),(26,ii ((min v4.2.2 (List.length v5):Nat):Int))]) [(0,some q3),z14,(0,none),z7,z13] 2 (aZv ?_);obtain rfl:=eR hh;exact hN3 (over v4.1 v4.2.1 v4.2.2 v5) _ _ _ hk3 (el [some 0] (tH kr (ro cK (rs (sw 0 s2.1) (ro mF (ri (ri aGz)))))) (hn cK gJ))
noncomputable def g51:Sg tG:=⟨[.row 3,.row 59],.one (.row 3),iS⟩
theorem s51:Sok 51 g51:=λx_words x_pages R_ hh=>kc (aLl (x_words:=x_words) (x_pages:=x_pages) hh)
noncomputable def qD (x_h:DHost)(x_g:Int):Option DBare:=
 grd ((0:Int)<=x_g/\x_g<((List.length x_h.Guests:Nat):Int)) (Option.bind (iS x_h.Words (List.getD x_h.Guests (Int.toNat x_g) default).Pages) λv1=>
  some (DBare.mk (DCore.mk ((List.getD x_h.Guests (Int.toNat x_g) default).C).Regs ((List.getD x_h.Guests (Int.toNat x_g) default).C).Pc ((List.getD x_h.Guests (Int.toNat x_g) default).C).Root ((List.getD x_h.Guests (Int.toNat x_g) default).C).Vector ((List.getD x_h.Guests (Int.toNat x_g) default).C).Saved ((List.getD x_h.Guests (Int.toNat x_g) default).C).SavedUser ((List.getD x_h.Guests (Int.toNat x_g) default).C).Cause ((List.getD x_h.Guests (Int.toNat x_g) default).C).Bad ((List.getD x_h.Guests (Int.toNat x_g) default).C).Timer ((List.getD x_h.Guests (Int.toNat x_g) default).C).Waits ((List.getD x_h.Guests (Int.toNat x_g) default).C).User ((List.getD x_h.Guests (Int.toNat x_g) default).C).On ((List.getD x_h.Guests (Int.toNat x_g) default).C).Stopped) v1 (List.getD x_h.Guests (Int.toNat x_g) default).In (List.getD x_h.Guests (Int.toNat x_g) default).Out))
noncomputable def g33:Sg tG:=⟨[.st 26,.i .i64],.one (.sb 42),qD⟩
theorem s33:Sok 33 g33:=sgx [(51,.r g51)] ⟨s51,trivial⟩ .o kr kr kr
noncomputable def kA (x_h:DHost)(x_g:Int):Option (DBare×Bool):=
 Option.bind (dZ x_h x_g) λv1=>
 cond (!v1)
  (some ((DBare.mk (DCore.mk ([]:List Int) (0:Int) (0:Int) (0:Int) (0:Int) false (0:Int) (0:Int) (0:Int) false false false false) ([]:List Int) ([]:List Int) ([]:List Int)),false))
  (Option.bind (qD x_h x_g) λv2=>
  Option.bind (cL v2) λv3=>
  some (v3,true))
noncomputable def g11:Sg tG:=⟨[.st 26,.i .i64],.two (.st 42) .b,kA⟩
theorem s11:Sok 11 g11:=sgx [(18,.r g18),(33,.r g33),(32,.r g32)] ⟨s18,s33,s32,trivial⟩ .o kr kr kr
noncomputable def aBf  (s1:List Int):Option (List Int):=some s1
noncomputable def sG (s3:(List Int)×Int)(s4:List Int):Option (LO ((List Int)×Int) (JO (List Int) (List Int))):=some (.next (s4,w64 (s3.2+(1:Int))))
noncomputable def iF (v2:List Int)(s3:(List Int)×Int):Option (LO ((List Int)×Int) (JO (List Int) (List Int))):=
 cond (decide (s3.2<((List.length v2:Nat):Int)))
  (Option.bind (grd ((0:Int)<=s3.2/\s3.2<((List.length v2:Nat):Int)) (cond (decide ((List.getD v2 (Int.toNat s3.2) default)=(0:Int)))
   (grd ((List.length s3.1+List.length ([s3.2]:List Int))*8<=2^47/\List.length s3.1+List.length ([s3.2]:List Int)<=2^47) (some (.go (s3.1++([s3.2]:List Int)))))
   (some (.go s3.1)))) λj4=>
   JO.run j4 (sG s3))
  (some (.ret (.go s3.1)))
noncomputable def kL (x_guests:List DGuest):Option (List Int):=
 Option.bind (Option.bind (eP x_guests) λv2=>
  Option.bind (iter (iF v2) (([]:List Int),(0:Int))) LO.val) λj1=>
  JO.run j1 aBf
noncomputable def bMl:Sg tG:=⟨[.row 39],.one (.row 3),kL⟩
theorem bPi:Sok 131 bMl:=sgx [(71,.r g71)] ⟨s71,trivial⟩ (.s .o (.s .o (.j ⟨[],[],[(.s 3,.ro 3)]⟩ (.s .o (.k (.l ⟨[8,9],[],[(.s 3,.ro 3),(.s 10,.i .i64)]⟩ (.s .o (.s .o (.j ⟨[8,9,10],[],[(.s 3,.ro 3)]⟩ .o .o)))))) .o))) kr kr kr
noncomputable def xM  (s1:List Int):Option (List Int):=some s1
noncomputable def wS (s2:(List Int)×Int)(s3:List Int):Option (LO ((List Int)×Int) (JO (List Int) (List Int))):=some (.next (s3,w64 (s2.2+(1:Int))))
noncomputable def qP (s4:(List Int)×Int)(s5:List Int):Option (LO ((List Int)×Int) (JO (List Int) (LO ((List Int)×Int) (JO (List Int) (List Int))))):=some (.next (s5,w64 (s4.2+(1:Int))))
noncomputable def iZ (x_h:DHost)(s2:(List Int)×Int)(s4:(List Int)×Int):Option (LO ((List Int)×Int) (JO (List Int) (LO ((List Int)×Int) (JO (List Int) (List Int))))):=
 grd ((0:Int)<=s2.2/\s2.2<((List.length x_h.Guests:Nat):Int)) (cond (decide (s4.2<((List.length (List.getD x_h.Guests (Int.toNat s2.2) default).Pages:Nat):Int)))
  (Option.bind (grd ((0:Int)<=s2.2/\s2.2<((List.length x_h.Guests:Nat):Int)) (grd ((0:Int)<=s4.2/\s4.2<((List.length (List.getD x_h.Guests (Int.toNat s2.2) default).Pages:Nat):Int)) (cond (decide ((0:Int)<=(List.getD (List.getD x_h.Guests (Int.toNat s2.2) default).Pages (Int.toNat s4.2) default).Frame))
   (grd ((0:Int)<=(List.getD (List.getD x_h.Guests (Int.toNat s2.2) default).Pages (Int.toNat s4.2) default).Frame/\(List.getD (List.getD x_h.Guests (Int.toNat s2.2) default).Pages (Int.toNat s4.2) default).Frame<((List.length s4.1:Nat):Int)) (grd ((0:Int)<=(List.getD (List.getD x_h.Guests (Int.toNat s2.2) default).Pages (Int.toNat s4.2) default).Frame/\(List.getD (List.getD x_h.Guests (Int.toNat s2.2) default).Pages (Int.toNat s4.2) default).Frame<((List.length s4.1:Nat):Int)) (some (.go (List.set s4.1 (Int.toNat (List.getD (List.getD x_h.Guests (Int.toNat s2.2) default).Pages (Int.toNat s4.2) default).Frame) (w64 ((List.getD s4.1 (Int.toNat (List.getD (List.getD x_h.Guests (Int.toNat s2.2) default).Pages (Int.toNat s4.2) default).Frame) default)+(1:Int))))))))
   (some (.go s4.1))))) λj5=>
   JO.run j5 (qP s4))
  (some (.ret (.go s4.1))))
noncomputable def lN (x_h:DHost)(s2:(List Int)×Int):Option (LO ((List Int)×Int) (JO (List Int) (List Int))):=
 cond (decide (s2.2<((List.length x_h.Guests:Nat):Int)))
  (Option.bind (Option.bind (iter (iZ x_h s2) (s2.1,(0:Int))) LO.val) λj3=>
   JO.run j3 (wS s2))
  (some (.ret (.go s2.1)))
noncomputable def lT (x_h:DHost):Option (List Int):=
 Option.bind (Option.bind (iter (lN x_h) ((List.replicate (Int.toNat (20:Int)) (0:Int)),(0:Int))) LO.val) λj1=>
  JO.run j1 xM
noncomputable def bMq:Sg tG:=⟨[.st 26],.one (.row 3),lT⟩
theorem bPu:Sok 116 bMq:=sgx [] trivial (.s .o (.s .o (.j ⟨[],[],[(.s 3,.ro 3)]⟩ (.s .o (.k (.l ⟨[1],[],[(.s 3,.ro 3),(.s 4,.i .i64)]⟩ (.s .o (.j ⟨[1,4],[],[(.s 3,.ro 3)]⟩ (.k (.s .o (.k (.l ⟨[1,4],[],[(.s 3,.ro 3),(.s 5,.i .i64)]⟩ (.s .o (.j ⟨[1,4,5],[],[(.s 3,.ro 3)]⟩ .o .o)))))) .o))))) .o))) kr kr kr
noncomputable def aEa  (s3:List Int):Option (List Int):=some s3
noncomputable def uY (s4:(List Int)×Int)(s5:List Int):Option (LO ((List Int)×Int) (JO (List Int) (List Int))):=some (.next (s5,w64 (s4.2+(1:Int))))
noncomputable def jQ (v2:List Int)(s4:(List Int)×Int):Option (LO ((List Int)×Int) (JO (List Int) (List Int))):=
 cond (decide (s4.2<(20:Int)))
  (Option.bind (grd ((0:Int)<=s4.2/\s4.2<((List.length v2:Nat):Int)) (cond (decide ((List.getD v2 (Int.toNat s4.2) default)=(0:Int)))
   (grd ((List.length s4.1+List.length ([s4.2]:List Int))*8<=2^47/\List.length s4.1+List.length ([s4.2]:List Int)<=2^47) (some (.go (s4.1++([s4.2]:List Int)))))
   (some (.go s4.1)))) λj5=>
   JO.run j5 (uY s4))
  (some (.ret (.go s4.1)))
noncomputable def mQ (x_h:DHost):Option (List Int):=
 Option.bind (jK x_h) λv1=>
 cond (!v1)
  (some ([]:List Int))
  (Option.bind (lT x_h) λv2=>
  Option.bind (Option.bind (iter (jQ v2) (([]:List Int),(0:Int))) LO.val) λj3=>
   JO.run j3 aEa)
noncomputable def g92:Sg tG:=⟨[.st 26],.one (.row 3),mQ⟩
theorem s92:Sok 92 g92:=sgx [(43,.r g43),(116,.r bMq)] ⟨s43,bPu,trivial⟩ (.s .o (.s .o (.s .o (.s .o (.j ⟨[],[],[(.s 3,.ro 3)]⟩ (.s .o (.k (.l ⟨[4],[],[(.s 3,.ro 3),(.s 5,.i .i64)]⟩ (.s .o (.j ⟨[4,5],[],[(.s 3,.ro 3)]⟩ .o .o))))) .o))))) kr kr kr
noncomputable def eV (x_pages:List DSlot):Option (List DSlot):=grd ((0:Int)<=((List.length x_pages:Nat):Int)/\((List.length x_pages:Nat):Int)*16<=2^47/\((List.length x_pages:Nat):Int)<=2^47) (some (over (List.replicate (Int.toNat ((List.length x_pages:Nat):Int)) (DSlot.mk (0:Int) false false)) 0 (List.length (List.replicate (Int.toNat ((List.length x_pages:Nat):Int)) (DSlot.mk (0:Int) false false))) x_pages))
noncomputable def g42:Sg tG:=⟨[.row 59],.one (.row 59),eV⟩
theorem s42:Sok 42 g42:=sgx [] trivial .o kr kr kr
noncomputable def dL (x_guest:DGuest):Option DGuest:=
 cond (!x_guest.Live)
  (some (DGuest.mk false (DCore.mk ([]:List Int) (0:Int) (0:Int) (0:Int) (0:Int) false (0:Int) (0:Int) (0:Int) false false false false) ([]:List DSlot) ([]:List Int) ([]:List Int)))
  (Option.bind (cG x_guest.C.Regs) λv1=>
  Option.bind (eV x_guest.Pages) λv2=>
  Option.bind (cG x_guest.In) λv3=>
  Option.bind (cG x_guest.Out) λv4=>
  some (DGuest.mk x_guest.Live (DCore.mk v1 x_guest.C.Pc x_guest.C.Root x_guest.C.Vector x_guest.C.Saved x_guest.C.SavedUser x_guest.C.Cause x_guest.C.Bad x_guest.C.Timer x_guest.C.Waits x_guest.C.User x_guest.C.On x_guest.C.Stopped) v2 v3 v4))
noncomputable def g22:Sg tG:=⟨[.st 39],.one (.st 39),dL⟩
theorem s22:Sok 22 g22:=sgx [(40,.r g40),(42,.r g42)] ⟨s40,s42,trivial⟩ .o kr kr kr
noncomputable def yP  (s1:List DGuest):Option (List DGuest):=some s1
noncomputable def eH (x_guests:List DGuest)(s2:(List DGuest)×Int):Option (LO ((List DGuest)×Int) (JO (List DGuest) (List DGuest))):=
 cond (decide (s2.2<((List.length x_guests:Nat):Int)))
  (grd ((0:Int)<=s2.2/\s2.2<((List.length x_guests:Nat):Int)) (Option.bind (dL (DGuest.mk (List.getD x_guests (Int.toNat s2.2) default).Live (DCore.mk ((List.getD x_guests (Int.toNat s2.2) default).C).Regs ((List.getD x_guests (Int.toNat s2.2) default).C).Pc ((List.getD x_guests (Int.toNat s2.2) default).C).Root ((List.getD x_guests (Int.toNat s2.2) default).C).Vector ((List.getD x_guests (Int.toNat s2.2) default).C).Saved ((List.getD x_guests (Int.toNat s2.2) default).C).SavedUser ((List.getD x_guests (Int.toNat s2.2) default).C).Cause ((List.getD x_guests (Int.toNat s2.2) default).C).Bad ((List.getD x_guests (Int.toNat s2.2) default).C).Timer ((List.getD x_guests (Int.toNat s2.2) default).C).Waits ((List.getD x_guests (Int.toNat s2.2) default).C).User ((List.getD x_guests (Int.toNat s2.2) default).C).On ((List.getD x_guests (Int.toNat s2.2) default).C).Stopped) (List.getD x_guests (Int.toNat s2.2) default).Pages (List.getD x_guests (Int.toNat s2.2) default).In (List.getD x_guests (Int.toNat s2.2) default).Out)) λv3=>
   grd ((0:Int)<=s2.2/\s2.2<((List.length s2.1:Nat):Int)) (some (.next ((List.set s2.1 (Int.toNat s2.2) v3),w64 (s2.2+(1:Int)))))))
  (some (.ret (.go s2.1)))
noncomputable def jG (x_guests:List DGuest):Option (List DGuest):=
 grd ((0:Int)<=((List.length x_guests:Nat):Int)/\((List.length x_guests:Nat):Int)*176<=2^47/\((List.length x_guests:Nat):Int)<=2^47) (Option.bind (Option.bind (iter (eH x_guests) ((List.replicate (Int.toNat ((List.length x_guests:Nat):Int)) (DGuest.mk false (DCore.mk ([]:List Int) (0:Int) (0:Int) (0:Int) (0:Int) false (0:Int) (0:Int) (0:Int) false false false false) ([]:List DSlot) ([]:List Int) ([]:List Int))),(0:Int))) LO.val) λj1=>
  JO.run j1 yP)
noncomputable def g41:Sg tG:=⟨[.row 39],.one (.row 1039),jG⟩
theorem s41:Sok 41 g41:=sgx [(22,.r g22)] ⟨s22,trivial⟩ (.s .o (.s (.g [] [] [.fo (.s 3) 0]) (.j ⟨[],[],[(.s 3,.ro 1039)]⟩ (.s .o (.k (.l ⟨[9,10],[],[(.s 3,.ro 1039),(.s 11,.i .i64)]⟩ (.s .o (.s .o (.s (.k (.s .o (.g [] [] [.fo (.s 3) 0]))) .o)))))) .o))) kr kr kr
noncomputable def fX (x_g:DGuest):Option DGuest:=
 cond (!x_g.Live)
  (some (DGuest.mk false (DCore.mk ([]:List Int) (0:Int) (0:Int) (0:Int) (0:Int) false (0:Int) (0:Int) (0:Int) false false false false) ([]:List DSlot) ([]:List Int) ([]:List Int)))
  (Option.bind (lV x_g.C) λv1=>
  grd (List.length x_g.Pages*16<=2^47/\List.length x_g.Pages<=2^47) (grd (List.length x_g.In*8<=2^47/\List.length x_g.In<=2^47) (grd (List.length x_g.Out*8<=2^47/\List.length x_g.Out<=2^47) (some (DGuest.mk true v1 x_g.Pages x_g.In x_g.Out)))))
noncomputable def g26:Sg tG:=⟨[.st 39],.one (.st 39),fX⟩
theorem s26:Sok 26 g26:=sgx [(45,.r g45)] ⟨s45,trivial⟩ .o kr kr kr
noncomputable def aIe (x_h:DHost)(s1:List DGuest):Option DHost:=some (DHost.mk (([]:List Int)++x_h.Words) s1)
noncomputable def lL (x_h:DHost)(s2:(List DGuest)×Int):Option (LO ((List DGuest)×Int) (JO (List DGuest) DHost)):=
 cond (decide (s2.2<((List.length x_h.Guests:Nat):Int)))
  (grd ((0:Int)<=s2.2/\s2.2<((List.length x_h.Guests:Nat):Int)) (Option.bind (fX (DGuest.mk (List.getD x_h.Guests (Int.toNat s2.2) default).Live (DCore.mk ((List.getD x_h.Guests (Int.toNat s2.2) default).C).Regs ((List.getD x_h.Guests (Int.toNat s2.2) default).C).Pc ((List.getD x_h.Guests (Int.toNat s2.2) default).C).Root ((List.getD x_h.Guests (Int.toNat s2.2) default).C).Vector ((List.getD x_h.Guests (Int.toNat s2.2) default).C).Saved ((List.getD x_h.Guests (Int.toNat s2.2) default).C).SavedUser ((List.getD x_h.Guests (Int.toNat s2.2) default).C).Cause ((List.getD x_h.Guests (Int.toNat s2.2) default).C).Bad ((List.getD x_h.Guests (Int.toNat s2.2) default).C).Timer ((List.getD x_h.Guests (Int.toNat s2.2) default).C).Waits ((List.getD x_h.Guests (Int.toNat s2.2) default).C).User ((List.getD x_h.Guests (Int.toNat s2.2) default).C).On ((List.getD x_h.Guests (Int.toNat s2.2) default).C).Stopped) (List.getD x_h.Guests (Int.toNat s2.2) default).Pages (List.getD x_h.Guests (Int.toNat s2.2) default).In (List.getD x_h.Guests (Int.toNat s2.2) default).Out)) λv3=>
   grd ((List.length s2.1+1)*176<=2^47/\List.length s2.1+1<=2^47) (some (.next ((s2.1++([v3]:List DGuest)),w64 (s2.2+(1:Int)))))))
  (some (.ret (.go s2.1)))
noncomputable def mA (x_h:DHost):Option DHost:=
 grd ((List.length ([]:List Int)+List.length x_h.Words)*8<=2^47/\List.length ([]:List Int)+List.length x_h.Words<=2^47) (Option.bind (Option.bind (iter (lL x_h) (([]:List DGuest),(0:Int))) LO.val) λj1=>
  JO.run j1 (aIe x_h))
noncomputable def g25:Sg tG:=⟨[.st 26],.one (.st 2026),mA⟩
theorem s25:Sok 25 g25:=sgx [(26,.r g26)] ⟨s26,trivial⟩ (.s .o (.s .o (.j ⟨[2,3],[],[(.c 3 1,.ro 1039)]⟩ (.s .o (.k (.l ⟨[1,2,3],[],[(.c 3 1,.ro 1039),(.s 4,.i .i64)]⟩ (.s .o (.s (.k (.g [] [] [.fo (.c 3 1) 0])) .o))))) .o))) kr kr kr
noncomputable def tX (x_b:DBare)(v3:DHost)(s4:Int)(v6:DCore)(s7:(List Int)×(List DSlot)):Option (DHost×Int×Bool):=
 cond (decide (s4<(0:Int)))
  (some ((DHost.mk ([]:List Int) ([]:List DGuest)),(-1:Int),false))
  (grd ((0:Int)<=s4/\s4<((List.length v3.Guests:Nat):Int)) (some ((DHost.mk s7.1 (List.set v3.Guests (Int.toNat s4) (DGuest.mk true v6 s7.2 x_b.In x_b.Out))),s4,true)))
noncomputable def nD (s8:(List Int)×(List Int)×(List DSlot)×Int)(s9:(List Int)×(List Int)×(List DSlot)):Option (LO ((List Int)×(List Int)×(List DSlot)×Int) (JO ((List Int)×(List DSlot)) (DHost×Int×Bool))):=some (.next (s9.1,s9.2.1,s9.2.2,w64 (s8.2.2.2+(1:Int))))
noncomputable def sP (x_b:DBare)(s8:(List Int)×(List Int)×(List DSlot)×Int)(s10:Bool):Option (JO ((List Int)×(List Int)×(List DSlot)) (LO ((List Int)×(List Int)×(List DSlot)×Int) (JO ((List Int)×(List DSlot)) (DHost×Int×Bool)))):=
 cond s10
  (grd ((List.length s8.2.2.1+List.length ([DSlot.mk (-1:Int) false false]:List DSlot))*16<=2^47/\List.length s8.2.2.1+List.length ([DSlot.mk (-1:Int) false false]:List DSlot)<=2^47) (some (.go (s8.1,s8.2.1,s8.2.2.1++([DSlot.mk (-1:Int) false false]:List DSlot)))))
  (cond (decide (((List.length s8.2.1:Nat):Int)=(0:Int)))
   (some (.out (.ret (.out ((DHost.mk ([]:List Int) ([]:List DGuest)),(-1:Int),false)))))
   (grd ((0:Int)<=(0:Int)/\(0:Int)<((List.length s8.2.1:Nat):Int)) (grd ((0:Int)<=(w64 ((List.getD s8.2.1 (Int.toNat (0:Int)) default)*(8:Int)))/\(w64 ((List.getD s8.2.1 (Int.toNat (0:Int)) default)*(8:Int)))<=((List.length s8.1:Nat):Int)/\((List.length s8.1:Nat):Int)<=((List.length s8.1:Nat):Int)) (grd ((0:Int)<=(0:Int)/\(0:Int)<((List.length s8.2.1:Nat):Int)) (grd ((List.length s8.2.2.1+List.length ([DSlot.mk (List.getD s8.2.1 (Int.toNat (0:Int)) default) true false]:List DSlot))*16<=2^47/\List.length s8.2.2.1+List.length ([DSlot.mk (List.getD s8.2.1 (Int.toNat (0:Int)) default) true false]:List DSlot)<=2^47) (grd ((0:Int)<=(1:Int)/\(1:Int)<=((List.length s8.2.1:Nat):Int)/\((List.length s8.2.1:Nat):Int)<=((List.length s8.2.1:Nat):Int)) (some (.go ((over s8.1 (Int.toNat (w64 ((List.getD s8.2.1 (Int.toNat (0:Int)) default)*(8:Int)))) (Int.toNat ((List.length s8.1:Nat):Int)-Int.toNat (w64 ((List.getD s8.2.1 (Int.toNat (0:Int)) default)*(8:Int)))) (List.take (Int.toNat (w64 ((w64 (s8.2.2.2+(1:Int)))*(8:Int)))-Int.toNat (w64 (s8.2.2.2*(8:Int)))) (List.drop (Int.toNat (w64 (s8.2.2.2*(8:Int)))) x_b.Mem))),List.take (Int.toNat ((List.length s8.2.1:Nat):Int)-Int.toNat (1:Int)) (List.drop (Int.toNat (1:Int)) s8.2.1),s8.2.2.1++([DSlot.mk (List.getD s8.2.1 (Int.toNat (0:Int)) default) true false]:List DSlot))))))))))
noncomputable def mI (s11:Bool×Int)(s12:Bool):Option (LO (Bool×Int) (JO Bool (JO ((List Int)×(List Int)×(List DSlot)) (LO ((List Int)×(List Int)×(List DSlot)×Int) (JO ((List Int)×(List DSlot)) (DHost×Int×Bool)))))):=some (.next (s12,w64 (s11.2+(1:Int))))
noncomputable def fR (x_b:DBare)(s8:(List Int)×(List Int)×(List DSlot)×Int)(s11:Bool×Int):Option (LO (Bool×Int) (JO Bool (JO ((List Int)×(List Int)×(List DSlot)) (LO ((List Int)×(List Int)×(List DSlot)×Int) (JO ((List Int)×(List DSlot)) (DHost×Int×Bool)))))):=
 cond (decide (s11.2<(8:Int)))
  (Option.bind (cond s11.1
   (grd ((0:Int)<=s11.2/\s11.2<((List.length (List.take (Int.toNat (w64 ((w64 (s8.2.2.2+(1:Int)))*(8:Int)))-Int.toNat (w64 (s8.2.2.2*(8:Int)))) (List.drop (Int.toNat (w64 (s8.2.2.2*(8:Int)))) x_b.Mem)):Nat):Int)) (some (.go (decide ((List.getD (List.take (Int.toNat (w64 ((w64 (s8.2.2.2+(1:Int)))*(8:Int)))-Int.toNat (w64 (s8.2.2.2*(8:Int)))) (List.drop (Int.toNat (w64 (s8.2.2.2*(8:Int)))) x_b.Mem)) (Int.toNat s11.2) default)=(0:Int))))))
   (some (.go false))) λj12=>
   JO.run j12 (mI s11))
  (some (.ret (.go s11.1)))
noncomputable def eT (x_b:DBare)(s4:Int)(s8:(List Int)×(List Int)×(List DSlot)×Int):Option (LO ((List Int)×(List Int)×(List DSlot)×Int) (JO ((List Int)×(List DSlot)) (DHost×Int×Bool))):=
 cond (decide (s8.2.2.2<(8:Int)))
  (cond (decide ((0:Int)<=s4))
   (Option.bind (grd ((0:Int)<=(w64 (s8.2.2.2*(8:Int)))/\(w64 (s8.2.2.2*(8:Int)))<=(w64 ((w64 (s8.2.2.2+(1:Int)))*(8:Int)))/\(w64 ((w64 (s8.2.2.2+(1:Int)))*(8:Int)))<=((List.length x_b.Mem:Nat):Int)) (Option.bind (Option.bind (iter (fR x_b s8) (true,(0:Int))) LO.val) λj10=>
    JO.run j10 (sP x_b s8))) λj9=>
    JO.run j9 (nD s8))
   (some (.ret (.go (s8.1,s8.2.2.1)))))
  (some (.ret (.go (s8.1,s8.2.2.1))))
noncomputable def tT (x_h:DHost)(x_b:DBare)(v3:DHost)(s4:Int):Option (DHost×Int×Bool):=
 Option.bind (mQ x_h) λv5=>
 Option.bind (lV x_b.C) λv6=>
 grd (List.length x_b.In*8<=2^47/\List.length x_b.In<=2^47) (grd (List.length x_b.Out*8<=2^47/\List.length x_b.Out<=2^47) (Option.bind (Option.bind (iter (eT x_b s4) (v3.Words,v5,([]:List DSlot),(0:Int))) LO.val) λj7=>
  JO.run j7 (tX x_b v3 s4 v6)))
noncomputable def sO (s13:Int×Int)(s14:Int):Option (LO (Int×Int) (JO Int (DHost×Int×Bool))):=some (.next (s14,w64 (s13.2-(1:Int))))
noncomputable def eE (x_h:DHost)(s13:Int×Int):Option (LO (Int×Int) (JO Int (DHost×Int×Bool))):=
 cond (decide ((0:Int)<=s13.2))
  (Option.bind (grd ((0:Int)<=s13.2/\s13.2<((List.length x_h.Guests:Nat):Int)) (cond (!(List.getD x_h.Guests (Int.toNat s13.2) default).Live)
   (some (.go s13.2))
   (some (.go s13.1)))) λj14=>
   JO.run j14 (sO s13))
  (some (.ret (.go s13.1)))
noncomputable def mM (x_h:DHost)(x_b:DBare):Option (DHost×Int×Bool):=
 Option.bind (jK x_h) λv1=>
 cond (!v1)
  (some ((DHost.mk ([]:List Int) ([]:List DGuest)),(-1:Int),false))
  (Option.bind (pS x_b) λv2=>
  cond (!v2)
   (some ((DHost.mk ([]:List Int) ([]:List DGuest)),(-1:Int),false))
   (Option.bind (mA x_h) λv3=>
   Option.bind (Option.bind (iter (eE x_h) ((-1:Int),(2:Int))) LO.val) λj4=>
    JO.run j4 (tT x_h x_b v3)))
noncomputable def g65:Sg tG:=⟨[.st 26,.st 42],.three (.st 2026) (.i .i64) .b,mM⟩
theorem s65:Sok 65 g65:=sgx [(43,.r g43),(91,.r g91),(25,.r g25),(92,.r g92),(45,.r g45)] ⟨s43,s91,s25,s92,s45,trivial⟩ (.s .o (.s .o (.s .o (.s .o (.j ⟨[2,3,4,7],[],[(.s 8,.i .i64)]⟩ (.s .o (.k (.l ⟨[2,3,4,7],[],[(.s 8,.i .i64),(.s 9,.i .i64)]⟩ (.s .o (.j ⟨[2,3,4,7,9],[],[(.s 8,.i .i64)]⟩ .o .o))))) (.s .o (.s (.g [.fr (.s 10) 0] [] []) (.j ⟨[4,7,8,11],[],[(.c 7 0,.ro 3),(.c 11 14,.ro 59)]⟩ (.s .o (.k (.l ⟨[3,4,7,8,11],[],[(.c 7 0,.ro 3),(.s 10,.rb 3),(.c 11 14,.ro 59),(.s 12,.i .i64)]⟩ (.s .o (.j ⟨[3,4,7,8,11,12],[],[(.c 7 0,.ro 3),(.s 10,.rb 3),(.c 11 14,.ro 59)]⟩ (.k (.s .o (.s .o (.j ⟨[3,4,7,8,10,11,12,13],[],[(.s 14,.b)]⟩ (.s .o (.k (.l ⟨[3,4,7,8,10,11,12,13],[],[(.s 14,.b),(.s 15,.i .i64)]⟩ (.s .o (.j ⟨[3,4,7,8,10,11,12,13,15],[],[(.s 14,.b)]⟩ .o .o))))) .o)))) .o))))) (.s .o (.s (.g [] [] [.fo (.c 7 1) 0]) .o)))))))))) kr kr kr
noncomputable def aCd  (s1:Unit):Option Int:=some (-1:Int)
noncomputable def fM (x_guests:List DGuest)(s2:Int):Option (LO Int (JO Unit Int)):=
 cond (decide (s2<((List.length x_guests:Nat):Int)))
  (grd ((0:Int)<=s2/\s2<((List.length x_guests:Nat):Int)) (cond (!(List.getD x_guests (Int.toNat s2) default).Live)
   (some (.ret (.out s2)))
   (some (.next (w64 (s2+(1:Int)))))))
  (some (.ret (.go ())))
noncomputable def lE (x_guests:List DGuest):Option Int:=
 Option.bind (Option.bind (iter (fM x_guests) (0:Int)) LO.val) λj1=>
  JO.run j1 aCd
noncomputable def g19:Sg tG:=⟨[.row 39],.one (.i .i64),lE⟩
theorem s19:Sok 19 g19:=sgx [] trivial (.s .o (.j ⟨[],[],[]⟩ (.s .o (.k (.l ⟨[5,6],[],[(.s 7,.i .i64)]⟩ .o))) .o)) kr kr kr
noncomputable def bW (x_h:DHost):Option DHost:=
 Option.bind (cG x_h.Words) λv1=>
 Option.bind (jG x_h.Guests) λv2=>
 some (DHost.mk v1 v2)
noncomputable def g20:Sg tG:=⟨[.st 26],.one (.st 2026),bW⟩
theorem s20:Sok 20 g20:=sgx [(40,.r g40),(41,.r g41)] ⟨s40,s41,trivial⟩ .o kr kr kr
theorem aDi{x_h:DHost}{R_:DHost}(hh:bW x_h=some R_):Fn Tryz.prog 20 [.agg (sW x_h)] (.agg [.own 3 1 (List.length R_.Words) (fl (eI .i64) R_.Words),.own 39 17 (List.length R_.Guests) (fl lJ R_.Guests)]):=kc (s20 x_h R_ hh)
noncomputable def aAu  (s2:List DSlot):Option (List DSlot):=some s2
noncomputable def eY (v1:List DSlot)(s3:(List DSlot)×Int):Option (LO ((List DSlot)×Int) (JO (List DSlot) (List DSlot))):=
 cond (decide (s3.2<((List.length v1:Nat):Int)))
  (grd ((0:Int)<=s3.2/\s3.2<((List.length s3.1:Nat):Int)) (some (.next ((List.set s3.1 (Int.toNat s3.2) (DSlot.mk (List.getD s3.1 (Int.toNat s3.2) default).Frame false (List.getD s3.1 (Int.toNat s3.2) default).Dirty)),w64 (s3.2+(1:Int))))))
  (some (.ret (.go s3.1)))
noncomputable def hY (x_pages:List DSlot):Option (List DSlot):=
 Option.bind (eV x_pages) λv1=>
 Option.bind (Option.bind (iter (eY v1) (v1,(0:Int))) LO.val) λj2=>
  JO.run j2 aAu
noncomputable def g21:Sg tG:=⟨[.row 59],.one (.row 59),hY⟩
theorem s21:Sok 21 g21:=sgx [(42,.r g42)] ⟨s42,trivial⟩ (.s .o (.s .o (.j ⟨[],[],[(.s 3,.ro 59)]⟩ (.s .o (.k (.l ⟨[8],[],[(.s 3,.ro 59),(.s 9,.i .i64)]⟩ .o))) .o))) kr kr kr
noncomputable def aDh  (s2:List DSlot):Option (List DSlot):=some s2
noncomputable def gL (v1:List DSlot)(s3:(List DSlot)×Int):Option (LO ((List DSlot)×Int) (JO (List DSlot) (List DSlot))):=
 cond (decide (s3.2<((List.length v1:Nat):Int)))
  (grd ((0:Int)<=s3.2/\s3.2<((List.length s3.1:Nat):Int)) (some (.next ((List.set s3.1 (Int.toNat s3.2) (DSlot.mk (List.getD s3.1 (Int.toNat s3.2) default).Frame (List.getD s3.1 (Int.toNat s3.2) default).Write false)),w64 (s3.2+(1:Int))))))
  (some (.ret (.go s3.1)))
noncomputable def mJ (x_pages:List DSlot):Option (List DSlot):=
 Option.bind (eV x_pages) λv1=>
 Option.bind (Option.bind (iter (gL v1) (v1,(0:Int))) LO.val) λj2=>
  JO.run j2 aDh
noncomputable def g23:Sg tG:=⟨[.row 59],.one (.row 59),mJ⟩
theorem s23:Sok 23 g23:=sgx [(42,.r g42)] ⟨s42,trivial⟩ (.s .o (.s .o (.j ⟨[],[],[(.s 3,.ro 59)]⟩ (.s .o (.k (.l ⟨[8],[],[(.s 3,.ro 59),(.s 9,.i .i64)]⟩ .o))) .o))) kr kr kr
noncomputable def kZ (x_h:DHost)(x_g:Int):Option (DHost×Int×Bool):=
 Option.bind (dZ x_h x_g) λv1=>
 cond (!v1)
  (some ((DHost.mk ([]:List Int) ([]:List DGuest)),(-1:Int),false))
  (Option.bind (lE x_h.Guests) λv2=>
  cond (decide (v2=(-1:Int)))
   (some ((DHost.mk ([]:List Int) ([]:List DGuest)),(-1:Int),false))
   (Option.bind (bW x_h) λv3=>
   grd ((0:Int)<=x_g/\x_g<((List.length x_h.Guests:Nat):Int)) (Option.bind (hY (List.getD x_h.Guests (Int.toNat x_g) default).Pages) λv4=>
    grd ((0:Int)<=x_g/\x_g<((List.length v3.Guests:Nat):Int)) (grd ((0:Int)<=x_g/\x_g<((List.length x_h.Guests:Nat):Int)) (Option.bind (dL (DGuest.mk (List.getD x_h.Guests (Int.toNat x_g) default).Live (DCore.mk ((List.getD x_h.Guests (Int.toNat x_g) default).C).Regs ((List.getD x_h.Guests (Int.toNat x_g) default).C).Pc ((List.getD x_h.Guests (Int.toNat x_g) default).C).Root ((List.getD x_h.Guests (Int.toNat x_g) default).C).Vector ((List.getD x_h.Guests (Int.toNat x_g) default).C).Saved ((List.getD x_h.Guests (Int.toNat x_g) default).C).SavedUser ((List.getD x_h.Guests (Int.toNat x_g) default).C).Cause ((List.getD x_h.Guests (Int.toNat x_g) default).C).Bad ((List.getD x_h.Guests (Int.toNat x_g) default).C).Timer ((List.getD x_h.Guests (Int.toNat x_g) default).C).Waits ((List.getD x_h.Guests (Int.toNat x_g) default).C).User ((List.getD x_h.Guests (Int.toNat x_g) default).C).On ((List.getD x_h.Guests (Int.toNat x_g) default).C).Stopped) (List.getD x_h.Guests (Int.toNat x_g) default).Pages (List.getD x_h.Guests (Int.toNat x_g) default).In (List.getD x_h.Guests (Int.toNat x_g) default).Out)) λv5=>
     grd ((0:Int)<=v2/\v2<((List.length v3.Guests:Nat):Int)) (grd ((0:Int)<=x_g/\x_g<((List.length x_h.Guests:Nat):Int)) (Option.bind (hY (List.getD x_h.Guests (Int.toNat x_g) default).Pages) λv6=>
      Option.bind (mJ v6) λv7=>
      grd ((0:Int)<=v2/\v2<((List.length v3.Guests:Nat):Int)) (some ((DHost.mk v3.Words (let z0:=List.set v3.Guests (Int.toNat x_g) (DGuest.mk (List.getD v3.Guests (Int.toNat x_g) default).Live (DCore.mk ((List.getD v3.Guests (Int.toNat x_g) default).C).Regs ((List.getD v3.Guests (Int.toNat x_g) default).C).Pc ((List.getD v3.Guests (Int.toNat x_g) default).C).Root ((List.getD v3.Guests (Int.toNat x_g) default).C).Vector ((List.getD v3.Guests (Int.toNat x_g) default).C).Saved ((List.getD v3.Guests (Int.toNat x_g) default).C).SavedUser ((List.getD v3.Guests (Int.toNat x_g) default).C).Cause ((List.getD v3.Guests (Int.toNat x_g) default).C).Bad ((List.getD v3.Guests (Int.toNat x_g) default).C).Timer ((List.getD v3.Guests (Int.toNat x_g) default).C).Waits ((List.getD v3.Guests (Int.toNat x_g) default).C).User ((List.getD v3.Guests (Int.toNat x_g) default).C).On ((List.getD v3.Guests (Int.toNat x_g) default).C).Stopped) v4 (List.getD v3.Guests (Int.toNat x_g) default).In (List.getD v3.Guests (Int.toNat x_g) default).Out);List.set (List.set z0 (Int.toNat v2) v5) (Int.toNat v2) (DGuest.mk (List.getD (List.set z0 (Int.toNat v2) v5) (Int.toNat v2) default).Live (DCore.mk ((List.getD (List.set z0 (Int.toNat v2) v5) (Int.toNat v2) default).C).Regs ((List.getD (List.set z0 (Int.toNat v2) v5) (Int.toNat v2) default).C).Pc ((List.getD (List.set z0 (Int.toNat v2) v5) (Int.toNat v2) default).C).Root ((List.getD (List.set z0 (Int.toNat v2) v5) (Int.toNat v2) default).C).Vector ((List.getD (List.set z0 (Int.toNat v2) v5) (Int.toNat v2) default).C).Saved ((List.getD (List.set z0 (Int.toNat v2) v5) (Int.toNat v2) default).C).SavedUser ((List.getD (List.set z0 (Int.toNat v2) v5) (Int.toNat v2) default).C).Cause ((List.getD (List.set z0 (Int.toNat v2) v5) (Int.toNat v2) default).C).Bad ((List.getD (List.set z0 (Int.toNat v2) v5) (Int.toNat v2) default).C).Timer ((List.getD (List.set z0 (Int.toNat v2) v5) (Int.toNat v2) default).C).Waits ((List.getD (List.set z0 (Int.toNat v2) v5) (Int.toNat v2) default).C).User ((List.getD (List.set z0 (Int.toNat v2) v5) (Int.toNat v2) default).C).On ((List.getD (List.set z0 (Int.toNat v2) v5) (Int.toNat v2) default).C).Stopped) v7 (List.getD (List.set z0 (Int.toNat v2) v5) (Int.toNat v2) default).In (List.getD (List.set z0 (Int.toNat v2) v5) (Int.toNat v2) default).Out))),v2,true)))))))))
noncomputable def g5:Sg tG:=⟨[.st 26,.i .i64],.three (.st 2026) (.i .i64) .b,kZ⟩
theorem s5:Sok 5 g5:=sgx [(18,.r g18),(19,.r g19),(20,.r g20),(21,.r g21),(22,.r g22),(23,.r g23)] ⟨s18,s19,s20,s21,s22,s23,trivial⟩ (.s .o (.s .o (.s .o (.s .o (.s .o (.s (.g [] [] [.fo (.c 8 1) 0]) (.s (.g [] [] [.fo (.c 8 1) 0]) (.s (.g [] [] [.fo (.c 8 1) 0]) .o)))))))) kr kr kr
noncomputable def sS (s2:Int)(v3:DHost)(s4:List DGuest)(v5:DGuest)(s6:List DSlot):Option (DHost×Int×Bool):=grd ((0:Int)<=s2/\s2<((List.length s4:Nat):Int)) (some ((DHost.mk v3.Words (List.set s4 (Int.toNat s2) (DGuest.mk v5.Live v5.C s6 v5.In v5.Out))),s2,true))
noncomputable def eD  (s7:(List DSlot)×Int):Option (LO ((List DSlot)×Int) (JO (List DSlot) (DHost×Int×Bool))):=
 cond (decide (s7.2<(8:Int)))
  (grd ((0:Int)<=s7.2/\s7.2<((List.length s7.1:Nat):Int)) (some (.next ((List.set s7.1 (Int.toNat s7.2) (DSlot.mk (List.getD s7.1 (Int.toNat s7.2) default).Frame (List.getD s7.1 (Int.toNat s7.2) default).Write false)),w64 (s7.2+(1:Int))))))
  (some (.ret (.go s7.1)))
noncomputable def sQ (x_g:Int)(s2:Int)(v3:DHost)(s4:List DGuest):Option (DHost×Int×Bool):=
 grd ((0:Int)<=x_g/\x_g<((List.length s4:Nat):Int)) (Option.bind (fX (DGuest.mk (List.getD s4 (Int.toNat x_g) default).Live (DCore.mk ((List.getD s4 (Int.toNat x_g) default).C).Regs ((List.getD s4 (Int.toNat x_g) default).C).Pc ((List.getD s4 (Int.toNat x_g) default).C).Root ((List.getD s4 (Int.toNat x_g) default).C).Vector ((List.getD s4 (Int.toNat x_g) default).C).Saved ((List.getD s4 (Int.toNat x_g) default).C).SavedUser ((List.getD s4 (Int.toNat x_g) default).C).Cause ((List.getD s4 (Int.toNat x_g) default).C).Bad ((List.getD s4 (Int.toNat x_g) default).C).Timer ((List.getD s4 (Int.toNat x_g) default).C).Waits ((List.getD s4 (Int.toNat x_g) default).C).User ((List.getD s4 (Int.toNat x_g) default).C).On ((List.getD s4 (Int.toNat x_g) default).C).Stopped) (List.getD s4 (Int.toNat x_g) default).Pages (List.getD s4 (Int.toNat x_g) default).In (List.getD s4 (Int.toNat x_g) default).Out)) λv5=>
  Option.bind (Option.bind (iter eD (v5.Pages,(0:Int))) LO.val) λj6=>
   JO.run j6 (sS s2 v3 s4 v5))
noncomputable def fP (x_g:Int)(s8:(List DGuest)×Int):Option (LO ((List DGuest)×Int) (JO (List DGuest) (DHost×Int×Bool))):=
 cond (decide (s8.2<(8:Int)))
  (grd ((0:Int)<=x_g/\x_g<((List.length s8.1:Nat):Int)) (grd ((0:Int)<=s8.2/\s8.2<((List.length (List.getD s8.1 (Int.toNat x_g) default).Pages:Nat):Int)) (some (.next ((List.set s8.1 (Int.toNat x_g) (DGuest.mk (List.getD s8.1 (Int.toNat x_g) default).Live (DCore.mk ((List.getD s8.1 (Int.toNat x_g) default).C).Regs ((List.getD s8.1 (Int.toNat x_g) default).C).Pc ((List.getD s8.1 (Int.toNat x_g) default).C).Root ((List.getD s8.1 (Int.toNat x_g) default).C).Vector ((List.getD s8.1 (Int.toNat x_g) default).C).Saved ((List.getD s8.1 (Int.toNat x_g) default).C).SavedUser ((List.getD s8.1 (Int.toNat x_g) default).C).Cause ((List.getD s8.1 (Int.toNat x_g) default).C).Bad ((List.getD s8.1 (Int.toNat x_g) default).C).Timer ((List.getD s8.1 (Int.toNat x_g) default).C).Waits ((List.getD s8.1 (Int.toNat x_g) default).C).User ((List.getD s8.1 (Int.toNat x_g) default).C).On ((List.getD s8.1 (Int.toNat x_g) default).C).Stopped) (List.set (List.getD s8.1 (Int.toNat x_g) default).Pages (Int.toNat s8.2) (DSlot.mk (List.getD (List.getD s8.1 (Int.toNat x_g) default).Pages (Int.toNat s8.2) default).Frame false (List.getD (List.getD s8.1 (Int.toNat x_g) default).Pages (Int.toNat s8.2) default).Dirty)) (List.getD s8.1 (Int.toNat x_g) default).In (List.getD s8.1 (Int.toNat x_g) default).Out)),w64 (s8.2+(1:Int)))))))
  (some (.ret (.go s8.1)))
noncomputable def sR (x_h:DHost)(x_g:Int)(s2:Int):Option (DHost×Int×Bool):=
 cond (decide (s2<(0:Int)))
  (some ((DHost.mk ([]:List Int) ([]:List DGuest)),(-1:Int),false))
  (Option.bind (mA x_h) λv3=>
  Option.bind (Option.bind (iter (fP x_g) (v3.Guests,(0:Int))) LO.val) λj4=>
   JO.run j4 (sQ x_g s2 v3))
noncomputable def rV (s9:Int×Int)(s10:Int):Option (LO (Int×Int) (JO Int (DHost×Int×Bool))):=some (.next (s10,w64 (s9.2-(1:Int))))
noncomputable def eG (x_h:DHost)(s9:Int×Int):Option (LO (Int×Int) (JO Int (DHost×Int×Bool))):=
 cond (decide ((0:Int)<=s9.2))
  (Option.bind (grd ((0:Int)<=s9.2/\s9.2<((List.length x_h.Guests:Nat):Int)) (cond (!(List.getD x_h.Guests (Int.toNat s9.2) default).Live)
   (some (.go s9.2))
   (some (.go s9.1)))) λj10=>
   JO.run j10 (rV s9))
  (some (.ret (.go s9.1)))
noncomputable def lM (x_h:DHost)(x_g:Int):Option (DHost×Int×Bool):=
 Option.bind (qE x_h x_g) λv1=>
 cond (!v1)
  (some ((DHost.mk ([]:List Int) ([]:List DGuest)),(-1:Int),false))
  (Option.bind (Option.bind (iter (eG x_h) ((-1:Int),(2:Int))) LO.val) λj2=>
   JO.run j2 (sR x_h x_g))
noncomputable def g6:Sg tG:=⟨[.st 26,.i .i64],.three (.st 2026) (.i .i64) .b,lM⟩
theorem s6:Sok 6 g6:=sgx [(24,.r g24),(25,.r g25),(26,.r g26)] ⟨s24,s25,s26,trivial⟩ (.s .o (.s .o (.s .o (.j ⟨[1,2,4],[],[(.s 7,.i .i64)]⟩ (.s .o (.k (.l ⟨[1,2,4],[],[(.s 7,.i .i64),(.s 8,.i .i64)]⟩ (.s .o (.j ⟨[1,2,4,8],[],[(.s 7,.i .i64)]⟩ .o .o))))) (.s .o (.s .o (.j ⟨[1,4,7,9],[],[(.c 9 1,.ro 1039)]⟩ (.s .o (.k (.l ⟨[1,4,7,9],[],[(.c 9 1,.ro 1039),(.s 10,.i .i64)]⟩ .o))) (.s .o (.j ⟨[4,7,9,11],[],[(.c 11 14,.ro 59)]⟩ (.s .o (.k (.l ⟨[4,7,9,11],[],[(.c 11 14,.ro 59),(.s 12,.i .i64)]⟩ .o))) (.s (.g [] [] [.fo (.c 9 1) 0]) .o)))))))))) kr kr kr
theorem aHo:LW 14 ⟨11,[.tmp 2],.seq (.reg false (rg 14 0)) (.seq (.seq (.reg false (rg 14 1)) (.cond (.t 5) (.reg false (rg 14 2)) .skip)) (.seq (.reg false (rg 14 3)) .ret))⟩:=kr
noncomputable def pD  (s1:List Int):Option Dl20Rd:=some (Dl20Rd.mk s1 (0:Int))
noncomputable def iU (x_code:List Int):Option Dl20Rd:=
 Option.bind (cond (decide ((2000:Int)<((List.length x_code:Nat):Int)))
  (grd ((0:Int)<=(0:Int)/\(0:Int)<=(2000:Int)/\(2000:Int)<=((List.length x_code:Nat):Int)) (some (.go (List.take (Int.toNat (2000:Int)-Int.toNat (0:Int)) (List.drop (Int.toNat (0:Int)) x_code)))))
  (some (.go x_code))) λj1=>
  JO.run j1 pD
theorem aLa{x_code:List Int}{R_:Dl20Rd}(hh:iU x_code=some R_):Inl Tryz.prog 14 [bo (eI .u8) x_code] [] 0 (pp 0) [(0,some ⟨71,[bo (eI .u8) R_.b,.int .i64 R_.p]⟩)] 1:=by let z3:=(0,bo (eI .u8) x_code);let z4:=(5,bb (decide ((2000:Int)<((List.length x_code:Nat):Int))));let z1:=List.drop (Int.toNat (0:Int)) x_code;let z2:=List.take (Int.toNat (2000:Int)-Int.toNat (0:Int)) z1;unfold iU at hh;refine Inl.start aHo [0] [] (E:=sp 11 [z3]) (H1:=[]) kr kr (sy [0] [] (sp 11 [z3]) [] 0 ?_);obtain⟨j1,hh,hk1⟩:=bind_some hh;refine Aw.join (S:=(List Int)) (λs1=>sp 11 [(0,bo (eI .u8) s1)]) (λs1=>[]) 0 (λs1=>pD s1=some R_) ?_ ?_;{intro s1 hh;unfold pD at hh;refine Aw.sreg [2] [0] ?_;let q1:Root:=⟨71,[bo (eI .u8) s1,ii 0]⟩;refine yt (sp 11 [(2,pp 0)]) [(0,some q1)] 1 (Aw.ret ?_);rw[eR hh];exact aFa (r':=pp 0) kr (el [some 0] (xO (aFm dd rfl)) (hq q1 rz gJ))};intro Q1 hN1 hR1 hE1;refine sy [0,5] [] (sp 11 [z3,z4]) [] 0 ?_;rcases aMw hh with⟨hb,hh⟩|⟨hb,hh⟩;{refine cF hb (Aw.skip ?_);obtain rfl:=eR hh;exact hN1 x_code _ _ _ hk1 (el [] (tH kr (ro cK aGz)) gJ)};refine cT hb (Aw.oreg (yu 1 [(6,bo (eI .u8) x_code)] [] 0 ?_));obtain⟨hg6,hh⟩:=bD hh;refine ys (.slc 1 (.t 6) none (some (.c (ii 2000)))) (some 7) (bBt (c:=(eI .u8)) (xs:=x_code) (l:=(0:Int)) (h:=(2000:Int)) dJ kr kr kr hg6 ?_);refine ye (sp 11 [(0,bo (eI .u8) z2),z4,(6,bo (eI .u8) x_code),(7,bo (eI .u8) z2)]) [] 0 ?_;obtain rfl:=eR hh;exact hN1 z2 _ _ _ hk1 (el [] (tH kr (ro cK aGz)) gJ)
noncomputable def g14:So tG:=⟨[.row 5],71,iU⟩
theorem s14:Sop 14 g14:=λx_code R_ hh=>kc (aLa (x_code:=x_code) hh)
noncomputable def aA (x_r:Dl20Rd)(x_n:Int):Option (Dl20Rd×Int):=
 cond (decide (x_n<(1:Int)))
  (some ((Dl20Rd.mk x_r.b (w64 (x_r.p+(1:Int)))),(0:Int)))
  (cond (decide (((List.length x_r.b:Nat):Int)=(0:Int)))
   (some ((Dl20Rd.mk x_r.b (w64 (x_r.p+(1:Int)))),(0:Int)))
   (cond (decide ((w64 ((w64 (x_r.p+(1:Int)))-(1:Int)))<((List.length x_r.b:Nat):Int)))
    (grd ((0:Int)<=(w64 ((w64 (x_r.p+(1:Int)))-(1:Int)))/\(w64 ((w64 (x_r.p+(1:Int)))-(1:Int)))<((List.length x_r.b:Nat):Int)) (grd (x_n≠0) (some ((Dl20Rd.mk x_r.b (w64 (x_r.p+(1:Int)))),Int.tmod (IntKind.wrap .i64 (List.getD x_r.b (Int.toNat (w64 ((w64 (x_r.p+(1:Int)))-(1:Int)))) default)) x_n))))
    (grd (((List.length x_r.b:Nat):Int)≠0) (grd ((0:Int)<=(Int.tmod (w64 ((w64 (x_r.p+(1:Int)))-(1:Int))) ((List.length x_r.b:Nat):Int))/\(Int.tmod (w64 ((w64 (x_r.p+(1:Int)))-(1:Int))) ((List.length x_r.b:Nat):Int))<((List.length x_r.b:Nat):Int)) (grd (((List.length x_r.b:Nat):Int)≠0) (grd ((0:Int)<=(Int.tmod (w64 ((w64 ((w64 ((w64 (x_r.p+(1:Int)))-(1:Int)))*(7:Int)))+(3:Int))) ((List.length x_r.b:Nat):Int))/\(Int.tmod (w64 ((w64 ((w64 ((w64 (x_r.p+(1:Int)))-(1:Int)))*(7:Int)))+(3:Int))) ((List.length x_r.b:Nat):Int))<((List.length x_r.b:Nat):Int)) (grd (((List.length x_r.b:Nat):Int)≠0) (grd (x_n≠0) (some ((Dl20Rd.mk x_r.b (w64 (x_r.p+(1:Int)))),Int.tmod (bits .xor .i64 (w64 ((w64 ((w64 ((w64 ((IntKind.wrap .i64 (List.getD x_r.b (Int.toNat (Int.tmod (w64 ((w64 (x_r.p+(1:Int)))-(1:Int))) ((List.length x_r.b:Nat):Int))) default))*(131:Int)))+(w64 ((IntKind.wrap .i64 (List.getD x_r.b (Int.toNat (Int.tmod (w64 ((w64 ((w64 ((w64 (x_r.p+(1:Int)))-(1:Int)))*(7:Int)))+(3:Int))) ((List.length x_r.b:Nat):Int))) default))*(1117:Int)))))+(w64 ((w64 ((w64 (x_r.p+(1:Int)))-(1:Int)))*(29:Int)))))+(w64 ((w64 (Int.tdiv (w64 ((w64 (x_r.p+(1:Int)))-(1:Int))) ((List.length x_r.b:Nat):Int)))*(53:Int))))) (w64 (Int.tdiv (w64 ((w64 ((w64 ((w64 ((IntKind.wrap .i64 (List.getD x_r.b (Int.toNat (Int.tmod (w64 ((w64 (x_r.p+(1:Int)))-(1:Int))) ((List.length x_r.b:Nat):Int))) default))*(131:Int)))+(w64 ((IntKind.wrap .i64 (List.getD x_r.b (Int.toNat (Int.tmod (w64 ((w64 ((w64 ((w64 (x_r.p+(1:Int)))-(1:Int)))*(7:Int)))+(3:Int))) ((List.length x_r.b:Nat):Int))) default))*(1117:Int)))))+(w64 ((w64 ((w64 (x_r.p+(1:Int)))-(1:Int)))*(29:Int)))))+(w64 ((w64 (Int.tdiv (w64 ((w64 (x_r.p+(1:Int)))-(1:Int))) ((List.length x_r.b:Nat):Int)))*(53:Int))))) (64:Int)))) x_n))))))))))
noncomputable def g38:Sw tG:=⟨[.pt 71,.v (.i .i64)],.one (.i .i64),aA⟩
theorem s38:Sjk 38 g38:=sgy [] trivial .o kr kr kr
noncomputable def cI (x_r:Dl20Rd):Option (Dl20Rd×Int):=
 Option.bind (aA x_r (16:Int)) λv1=>
 Option.bind (aA v1.1 (256:Int)) λv2=>
 some (v2.1,w64 ((w64 (v1.2*(256:Int)))+v2.2))
noncomputable def g63:Sw tG:=⟨[.pt 71],.one (.i .i64),cI⟩
theorem s63:Sjk 63 g63:=sgy [(38,.w g38)] ⟨s38,trivial⟩ .o kr kr kr
noncomputable def bN (x_r:Dl20Rd)(x_n:Int):Option (Dl20Rd×Bool):=
 cond (decide ((0:Int)<x_n))
  (Option.bind (aA x_r x_n) λv1=>
  some (v1.1,decide (v1.2=(w64 (x_n-(1:Int))))))
  (some (x_r,false))
noncomputable def g66:Sw tG:=⟨[.pt 71,.v (.i .i64)],.one .b,bN⟩
theorem s66:Sjk 66 g66:=sgy [(38,.w g38)] ⟨s38,trivial⟩ .o kr kr kr
noncomputable def aCe  (s4:Int):Option Int:=some s4
noncomputable def aCh (x_e:DEntry)(s3:Int):Option Int:=
 Option.bind (cond x_e.User
  (some (.go (w64 (s3+(4:Int)))))
  (some (.go s3))) λj4=>
  JO.run j4 aCe
noncomputable def aCg (x_e:DEntry)(s2:Int):Option Int:=
 Option.bind (cond x_e.Write
  (some (.go (w64 (s2+(2:Int)))))
  (some (.go s2))) λj3=>
  JO.run j3 (aCh x_e)
noncomputable def cV (x_e:DEntry):Option Int:=
 Option.bind (bZ x_e.Page (0:Int) (7:Int)) λv1=>
 cond (!v1)
  (some (-1:Int))
  (Option.bind (cond x_e.There
   (some (.go (w64 ((w64 (x_e.Page*(8:Int)))+(1:Int)))))
   (some (.go (w64 (x_e.Page*(8:Int)))))) λj2=>
   JO.run j2 (aCg x_e))
noncomputable def bGq:Sg tG:=⟨[.st 109],.one (.i .i64),cV⟩
theorem bOf:Sok 112 bGq:=sgx [(44,.r g44)] ⟨s44,trivial⟩ (.s .o (.s .o (.s .o (.j ⟨[1],[],[(.s 3,.i .i64)]⟩ .o (.j ⟨[1],[],[(.s 3,.i .i64)]⟩ .o (.j ⟨[],[],[(.s 3,.i .i64)]⟩ .o .o)))))) kr kr kr
noncomputable def aHj  (s2:(List Int)×Int×(List Int)):Option (Dl20Rd×(List Int)):=some ((Dl20Rd.mk s2.1 s2.2.1),s2.2.2)
noncomputable def wU (x_n:Int)(s1:(List Int)×Int×(List Int)):Option (Dl20Rd×(List Int)):=
 Option.bind (Option.bind (bN (Dl20Rd.mk s1.1 s1.2.1) x_n) λv3=>
  cond v3.2
   (Option.bind (aA v3.1 (2:Int)) λv4=>
   cond (decide (v4.2=(0:Int)))
    (grd ((0:Int)<=(0:Int)/\(0:Int)<=(63:Int)/\(63:Int)<=((List.length s1.2.2:Nat):Int)) (some (.go (v4.1.b,v4.1.p,List.take (Int.toNat (63:Int)-Int.toNat (0:Int)) s1.2.2))))
    (Option.bind (aA v4.1 (64:Int)) λv5=>
    Option.bind (aA v5.1 (2:Int)) λv6=>
    grd ((0:Int)<=v5.2/\v5.2<((List.length s1.2.2:Nat):Int)) (some (.go (v6.1.b,v6.1.p,List.set s1.2.2 (Int.toNat v5.2) (w64 ((4096:Int)-(w64 (v6.2*(4097:Int))))))))))
   (some (.go (v3.1.b,v3.1.p,s1.2.2)))) λj2=>
  JO.run j2 aHj
noncomputable def xI (s7:(List Int)×Int×(List Int)×Int)(s9:(List Int)×Int×Int):Option (LO ((List Int)×Int×(List Int)×Int) (JO ((List Int)×Int×(List Int)) (Dl20Rd×(List Int)))):=grd ((List.length s7.2.2.1+List.length ([s9.2.2]:List Int))*8<=2^47/\List.length s7.2.2.1+List.length ([s9.2.2]:List Int)<=2^47) (some (.next (s9.1,s9.2.1,s7.2.2.1++([s9.2.2]:List Int),w64 (s7.2.2.2+(1:Int)))))
noncomputable def xN (s7:(List Int)×Int×(List Int)×Int)(s8:(List Int)×Int×Int):Option (LO ((List Int)×Int×(List Int)×Int) (JO ((List Int)×Int×(List Int)) (Dl20Rd×(List Int)))):=
 Option.bind (cond (decide ((w64 (Int.tdiv s7.2.2.2 (8:Int)))=(1:Int)))
  (Option.bind (aA (Dl20Rd.mk s8.1 s8.2.1) (5:Int)) λv10=>
  Option.bind (aA v10.1 (4:Int)) λv11=>
  Option.bind (aA v11.1 (3:Int)) λv12=>
  Option.bind (aA v12.1 (8:Int)) λv13=>
  Option.bind (cV (DEntry.mk (decide ((0:Int)<v10.2)) (decide ((0:Int)<v11.2)) (decide ((0:Int)<v12.2)) v13.2)) λv14=>
  some (.go (v13.1.b,v13.1.p,v14)))
  (cond (decide ((w64 (Int.tdiv s7.2.2.2 (8:Int)))=(2:Int)))
   (Option.bind (aA (Dl20Rd.mk s8.1 s8.2.1) (5:Int)) λv15=>
   Option.bind (aA v15.1 (4:Int)) λv16=>
   Option.bind (aA v16.1 (3:Int)) λv17=>
   Option.bind (aA v17.1 (8:Int)) λv18=>
   Option.bind (cV (DEntry.mk (decide ((0:Int)<v15.2)) (decide ((0:Int)<v16.2)) (decide ((0:Int)<v17.2)) v18.2)) λv19=>
   some (.go (v18.1.b,v18.1.p,v19)))
   (some (.go (s8.1,s8.2.1,s8.2.2))))) λj9=>
  JO.run j9 (xI s7)
noncomputable def qK  (s7:(List Int)×Int×(List Int)×Int):Option (LO ((List Int)×Int×(List Int)×Int) (JO ((List Int)×Int×(List Int)) (Dl20Rd×(List Int)))):=
 cond (decide (s7.2.2.2<(64:Int)))
  (Option.bind (Option.bind (aA (Dl20Rd.mk s7.1 s7.2.1) (2:Int)) λv20=>
   cond (decide (v20.2=(0:Int)))
    (Option.bind (cI v20.1) λv21=>
    some (.go (v21.1.b,v21.1.p,v21.2)))
    (some (.go (v20.1.b,v20.1.p,(0:Int))))) λj8=>
   JO.run j8 (xN s7))
  (some (.ret (.go (s7.1,s7.2.1,s7.2.2.1))))
noncomputable def lU (x_r:Dl20Rd)(x_n:Int):Option (Dl20Rd×(List Int)):=
 Option.bind (Option.bind (iter qK (x_r.b,x_r.p,([]:List Int),(0:Int))) LO.val) λj1=>
  JO.run j1 (wU x_n)
noncomputable def g90:Sw tG:=⟨[.pt 71,.v (.i .i64)],.one (.row 3),lU⟩
theorem s90:Sjk 90 g90:=sgy [(38,.w g38),(63,.w g63),(112,.r bGq),(66,.w g66)] ⟨s38,s63,bOf,s66,trivial⟩ (.s .o (.s .o (.j ⟨[0,1],[],[(.c 0 0,.rb 5),(.c 0 1,.i .i64),(.s 5,.ro 3)]⟩ (.s .o (.k (.l ⟨[0,1],[],[(.c 0 0,.rb 5),(.c 0 1,.i .i64),(.s 5,.ro 3),(.s 6,.i .i64)]⟩ (.s .o (.s (.k (.s .o (.j ⟨[0,1,5,6],[],[(.c 0 0,.rb 5),(.c 0 1,.i .i64),(.s 7,.i .i64)]⟩ .o (.j ⟨[0,1,5,6],[],[(.c 0 0,.rb 5),(.c 0 1,.i .i64),(.s 7,.i .i64)]⟩ .o .o)))) .o))))) (.j ⟨[],[0],[(.d 0 0,.rb 5),(.d 0 1,.i .i64),(.s 5,.ro 3)]⟩ .o .o)))) kr kr kr
noncomputable def kQ:Option Bool:=
 Option.bind (eK (5:Int)) λv1=>
 cond v1
  (Option.bind (eK (-1:Int)) λv2=>
  some (!v2))
  (some false)
noncomputable def g8:Sg tG:=⟨[],.one .b,kQ⟩
theorem s8:Sok 8 g8:=sgx [(29,.r g29)] ⟨s29,trivial⟩ .o kr kr kr
noncomputable def sH (x_i:DIns):Option Bool:=
 Option.bind (bZ x_i.Op (0:Int) (15:Int)) λv1=>
 cond v1
  (Option.bind (bZ x_i.A (0:Int) (3:Int)) λv2=>
  cond v2
   (Option.bind (bZ x_i.N (0:Int) (63:Int)) λv3=>
   some v3)
   (some false))
  (some false)
noncomputable def bNe:Sg tG:=⟨[.st 87],.one .b,sH⟩
theorem bQn:Sok 130 bNe:=sgx [(44,.r g44)] ⟨s44,trivial⟩ .o kr kr kr
noncomputable def aCz (v3:Dl20Rd×Int)(v4:Dl20Rd×Int)(v5:Dl20Rd×Int)(v6:Dl20Rd×Int)(v7:Dl20Rd×Int)(v8:Dl20Rd×Int)(v9:Dl20Rd×Int)(v10:Dl20Rd×Int)(v11:Dl20Rd×Int)(v12:Dl20Rd×Int)(v13:Dl20Rd×Int)(s15:(List Int)×Int×(List Int)×Int×Int):Option (Dl20Rd×DCore):=some ((Dl20Rd.mk s15.1 s15.2.1),DCore.mk s15.2.2.1 s15.2.2.2.1 s15.2.2.2.2 (w64 ((24:Int)+v3.2)) v4.2 (decide (v9.2=(0:Int))) v5.2 v6.2 (w64 (v7.2*v8.2)) (decide (v10.2=(0:Int))) (decide (v11.2=(0:Int))) (decide (v12.2=(0:Int))) (decide (v13.2=(0:Int))))
noncomputable def uD (x_n:Int)(v1:Dl20Rd×Int)(v2:Dl20Rd×Int)(v3:Dl20Rd×Int)(v4:Dl20Rd×Int)(v5:Dl20Rd×Int)(v6:Dl20Rd×Int)(v7:Dl20Rd×Int)(v8:Dl20Rd×Int)(v9:Dl20Rd×Int)(v10:Dl20Rd×Int)(v11:Dl20Rd×Int)(v12:Dl20Rd×Int)(v13:Dl20Rd×Int)(s14:(List Int)×Int×(List Int)):Option (Dl20Rd×DCore):=
 Option.bind (Option.bind (bN (Dl20Rd.mk s14.1 s14.2.1) x_n) λv16=>
  cond v16.2
   (Option.bind (aA v16.1 (4:Int)) λv17=>
   cond (decide (v17.2=(0:Int)))
    (grd ((0:Int)<=(0:Int)/\(0:Int)<=(3:Int)/\(3:Int)<=((List.length s14.2.2:Nat):Int)) (some (.go (v17.1.b,v17.1.p,List.take (Int.toNat (3:Int)-Int.toNat (0:Int)) s14.2.2,v1.2,List.getD ([(-1:Int),(1:Int),(2:Int)]:List Int) (Int.toNat v2.2) default))))
    (cond (decide (v17.2=(1:Int)))
     (Option.bind (aA v17.1 (2:Int)) λv18=>
     some (.go (v18.1.b,v18.1.p,s14.2.2,w64 ((64:Int)-(w64 (v18.2*(65:Int)))),List.getD ([(-1:Int),(1:Int),(2:Int)]:List Int) (Int.toNat v2.2) default)))
     (cond (decide (v17.2=(2:Int)))
      (Option.bind (aA v17.1 (2:Int)) λv19=>
      some (.go (v19.1.b,v19.1.p,s14.2.2,v1.2,w64 ((8:Int)-(w64 (v19.2*(10:Int)))))))
      (Option.bind (aA v17.1 (4:Int)) λv20=>
      grd ((0:Int)<=v20.2/\v20.2<((List.length s14.2.2:Nat):Int)) (some (.go (v20.1.b,v20.1.p,List.set s14.2.2 (Int.toNat v20.2) (-1:Int),v1.2,List.getD ([(-1:Int),(1:Int),(2:Int)]:List Int) (Int.toNat v2.2) default)))))))
   (some (.go (v16.1.b,v16.1.p,s14.2.2,v1.2,List.getD ([(-1:Int),(1:Int),(2:Int)]:List Int) (Int.toNat v2.2) default)))) λj15=>
  JO.run j15 (aCz v3 v4 v5 v6 v7 v8 v9 v10 v11 v12 v13)
noncomputable def nB  (s21:(List Int)×Int×(List Int)×Int):Option (LO ((List Int)×Int×(List Int)×Int) (JO ((List Int)×Int×(List Int)) (Dl20Rd×DCore))):=
 cond (decide (s21.2.2.2<(4:Int)))
  (Option.bind (aA (Dl20Rd.mk s21.1 s21.2.1) (64:Int)) λv22=>
  Option.bind (aA v22.1 (16:Int)) λv23=>
  Option.bind (cI v23.1) λv24=>
  Option.bind (aA v24.1 (3:Int)) λv25=>
  grd ((0:Int)<=v25.2/\v25.2<((List.length ([v22.2,v23.2,v24.2]:List Int):Nat):Int)) (grd ((List.length s21.2.2.1+List.length ([List.getD ([v22.2,v23.2,v24.2]:List Int) (Int.toNat v25.2) default]:List Int))*8<=2^47/\List.length s21.2.2.1+List.length ([List.getD ([v22.2,v23.2,v24.2]:List Int) (Int.toNat v25.2) default]:List Int)<=2^47) (some (.next (v25.1.b,v25.1.p,s21.2.2.1++([List.getD ([v22.2,v23.2,v24.2]:List Int) (Int.toNat v25.2) default]:List Int),w64 (s21.2.2.2+(1:Int)))))))
  (some (.ret (.go (s21.1,s21.2.1,s21.2.2.1))))
noncomputable def kV (x_r:Dl20Rd)(x_n:Int):Option (Dl20Rd×DCore):=
 Option.bind (aA x_r (64:Int)) λv1=>
 Option.bind (aA v1.1 (3:Int)) λv2=>
 grd ((0:Int)<=v2.2/\v2.2<((List.length ([(-1:Int),(1:Int),(2:Int)]:List Int):Nat):Int)) (Option.bind (aA v2.1 (4:Int)) λv3=>
  Option.bind (aA v3.1 (64:Int)) λv4=>
  Option.bind (aA v4.1 (5:Int)) λv5=>
  Option.bind (aA v5.1 (64:Int)) λv6=>
  Option.bind (aA v6.1 (4:Int)) λv7=>
  Option.bind (aA v7.1 (6:Int)) λv8=>
  Option.bind (aA v8.1 (2:Int)) λv9=>
  Option.bind (aA v9.1 (6:Int)) λv10=>
  Option.bind (aA v10.1 (3:Int)) λv11=>
  Option.bind (aA v11.1 (2:Int)) λv12=>
  Option.bind (aA v12.1 (25:Int)) λv13=>
  Option.bind (Option.bind (iter nB (v13.1.b,v13.1.p,([]:List Int),(0:Int))) LO.val) λj14=>
   JO.run j14 (uD x_n v1 v2 v3 v4 v5 v6 v7 v8 v9 v10 v11 v12 v13))
noncomputable def g88:Sw tG:=⟨[.pt 71,.v (.i .i64)],.one (.st 36),kV⟩
theorem s88:Sjk 88 g88:=sgy [(38,.w g38),(63,.w g63),(66,.w g66)] ⟨s38,s63,s66,trivial⟩ (.s .o (.s (.m [0]) (.s .o (.s .o (.s .o (.s .o (.s .o (.j ⟨[0,1,4,5],[],[(.c 0 0,.rb 5),(.c 0 1,.i .i64),(.c 5 0,.ro 3)]⟩ (.s .o (.k (.l ⟨[0,1,4,5],[],[(.c 0 0,.rb 5),(.c 0 1,.i .i64),(.c 5 0,.ro 3),(.s 6,.i .i64)]⟩ (.s .o (.s (.k (.m [0])) .o))))) (.j ⟨[4,5],[0],[(.d 0 0,.rb 5),(.d 0 1,.i .i64),(.c 5 0,.ro 3),(.c 5 1,.i .i64),(.c 5 2,.i .i64)]⟩ (.s .o (.c (.s .o (.k (.s .o (.c .o (.s .o (.c .o (.s .o (.c .o (.m [0]))))))))) .o)) .o))))))))) kr kr kr
noncomputable def aHr  (s4:Int×(List Int)×Int×Int×Int):Option (Dl20Rd×DIns):=some ((Dl20Rd.mk s4.2.1 s4.2.2.1),DIns.mk s4.1 s4.2.2.2.1 s4.2.2.2.2)
noncomputable def qA (x_r:Dl20Rd)(x_n:Int):Option (Dl20Rd×DIns):=
 Option.bind (aA x_r (16:Int)) λv1=>
 Option.bind (aA v1.1 (4:Int)) λv2=>
 Option.bind (aA v2.1 (64:Int)) λv3=>
 Option.bind (Option.bind (bN v3.1 x_n) λv5=>
  cond v5.2
   (Option.bind (aA v5.1 (3:Int)) λv6=>
   cond (decide (v6.2=(0:Int)))
    (Option.bind (aA v6.1 (2:Int)) λv7=>
    some (.go ((w64 ((16:Int)-(w64 (v7.2*(17:Int))))),v7.1.b,v7.1.p,v2.2,v3.2)))
    (cond (decide (v6.2=(1:Int)))
     (some (.go (v1.2,v6.1.b,v6.1.p,(4:Int),v3.2)))
     (Option.bind (aA v6.1 (2:Int)) λv8=>
     some (.go (v1.2,v8.1.b,v8.1.p,v2.2,w64 ((64:Int)-(w64 (v8.2*(65:Int)))))))))
   (some (.go (v1.2,v5.1.b,v5.1.p,v2.2,v3.2)))) λj4=>
  JO.run j4 aHr
noncomputable def bNq:Sw tG:=⟨[.pt 71,.v (.i .i64)],.one (.st 87),qA⟩
theorem bPp:Sjk 113 bNq:=sgy [(38,.w g38),(66,.w g66)] ⟨s38,s66,trivial⟩ (.s .o (.s .o (.j ⟨[4,5],[0],[(.c 5 0,.i .i64),(.d 0 0,.rb 5),(.d 0 1,.i .i64),(.c 5 1,.i .i64),(.c 5 2,.i .i64)]⟩ .o .o))) kr kr kr
noncomputable def oH (x_i:DIns):Option Int:=
 Option.bind (sH x_i) λv1=>
 cond (!v1)
  (some (-1:Int))
  (some (w64 ((w64 ((w64 (x_i.Op*(256:Int)))+(w64 (x_i.A*(64:Int)))))+x_i.N)))
noncomputable def bLv:Sg tG:=⟨[.st 87],.one (.i .i64),oH⟩
theorem bPq:Sok 114 bLv:=sgx [(130,.r bNe)] ⟨bQn,trivial⟩ .o kr kr kr
noncomputable def vL  (s2:(List Int)×(List Int)×Int):Option (Dl20Rd×(List Int)):=some ((Dl20Rd.mk s2.2.1 s2.2.2),s2.1)
noncomputable def vP (s3:(List Int)×Int×(List Int)×Int)(s4:(List Int)×Int×(List Int)):Option (LO ((List Int)×Int×(List Int)×Int) (JO ((List Int)×(List Int)×Int) (Dl20Rd×(List Int)))):=some (.next (s4.1,s4.2.1,s4.2.2,w64 (s3.2.2.2+(1:Int))))
noncomputable def uW (s3:(List Int)×Int×(List Int)×Int)(v11:Dl20Rd×DIns)(s13:(List Int)×Int×Int):Option (JO ((List Int)×Int×(List Int)) (LO ((List Int)×Int×(List Int)×Int) (JO ((List Int)×(List Int)×Int) (Dl20Rd×(List Int))))):=
 Option.bind (oH (DIns.mk s13.2.2 v11.2.A v11.2.N)) λv14=>
 grd ((0:Int)<=s3.2.2.2/\s3.2.2.2<((List.length s3.2.2.1:Nat):Int)) (some (.go (s13.1,s13.2.1,List.set s3.2.2.1 (Int.toNat s3.2.2.2) v14)))
noncomputable def uM (s3:(List Int)×Int×(List Int)×Int)(v11:Dl20Rd×DIns)(s12:(List Int)×Int×Int):Option (JO ((List Int)×Int×(List Int)) (LO ((List Int)×Int×(List Int)×Int) (JO ((List Int)×(List Int)×Int) (Dl20Rd×(List Int))))):=
 Option.bind (cond (decide (s12.2.2=(0:Int)))
  (Option.bind (aA (Dl20Rd.mk s12.1 s12.2.1) (4:Int)) λv15=>
  cond (decide ((0:Int)<v15.2))
   (some (.go (v15.1.b,v15.1.p,(1:Int))))
   (some (.go (v15.1.b,v15.1.p,s12.2.2))))
  (some (.go (s12.1,s12.2.1,s12.2.2)))) λj13=>
  JO.run j13 (uW s3 v11)
noncomputable def vK (s3:(List Int)×Int×(List Int)×Int)(s5:Bool):Option (JO ((List Int)×Int×(List Int)) (LO ((List Int)×Int×(List Int)×Int) (JO ((List Int)×(List Int)×Int) (Dl20Rd×(List Int))))):=
 cond s5
  (Option.bind (aA (Dl20Rd.mk s3.1 s3.2.1) (3:Int)) λv6=>
  cond (decide ((0:Int)<v6.2))
   (Option.bind (aA v6.1 (8:Int)) λv7=>
   Option.bind (aA v7.1 (4:Int)) λv8=>
   Option.bind (aA v8.1 (3:Int)) λv9=>
   Option.bind (cV (DEntry.mk (decide ((0:Int)<v7.2)) (decide ((0:Int)<v8.2)) (decide ((0:Int)<v9.2)) (Int.tmod s3.2.2.2 (8:Int)))) λv10=>
   grd ((0:Int)<=s3.2.2.2/\s3.2.2.2<((List.length s3.2.2.1:Nat):Int)) (some (.go (v9.1.b,v9.1.p,List.set s3.2.2.1 (Int.toNat s3.2.2.2) v10))))
   (some (.go (v6.1.b,v6.1.p,s3.2.2.1))))
  (Option.bind (qA (Dl20Rd.mk s3.1 s3.2.1) (0:Int)) λv11=>
  Option.bind (Option.bind (aA v11.1 (2:Int)) λv16=>
   cond (decide (v16.2=(0:Int)))
    (Option.bind (aA v16.1 (10:Int)) λv17=>
    grd ((0:Int)<=v17.2/\v17.2<((10:Nat):Int)) (some (.go (v17.1.b,v17.1.p,List.getD ([(1:Int),(2:Int),(3:Int),(4:Int),(3:Int),(4:Int),(6:Int),(7:Int),(11:Int),(15:Int)]:List Int) (Int.toNat v17.2) default))))
    (some (.go (v16.1.b,v16.1.p,v11.2.Op)))) λj12=>
   JO.run j12 (uM s3 v11))
noncomputable def pI  (s3:(List Int)×Int×(List Int)×Int):Option (LO ((List Int)×Int×(List Int)×Int) (JO ((List Int)×(List Int)×Int) (Dl20Rd×(List Int)))):=
 cond (decide (s3.2.2.2<((List.length s3.2.2.1:Nat):Int)))
  (Option.bind (Option.bind (cond (decide ((w64 (Int.tdiv s3.2.2.2 (8:Int)))=(1:Int)))
   (some (.go (decide ((w64 (Int.tdiv s3.2.2.2 (8:Int)))=(1:Int)))))
   (some (.go (decide ((w64 (Int.tdiv s3.2.2.2 (8:Int)))=(2:Int)))))) λj5=>
   JO.run j5 (vK s3)) λj4=>
   JO.run j4 (vP s3))
  (some (.ret (.go (s3.2.2.1,s3.1,s3.2.1))))
noncomputable def nV (x_r:Dl20Rd):Option (Dl20Rd×(List Int)):=
 Option.bind (lU x_r (0:Int)) λv1=>
 Option.bind (Option.bind (iter pI (v1.1.b,v1.1.p,v1.2,(0:Int))) LO.val) λj2=>
  JO.run j2 vL
noncomputable def g89:Sw tG:=⟨[.pt 71],.one (.row 3),nV⟩
theorem s89:Sjk 89 g89:=sgy [(90,.w g90),(38,.w g38),(112,.r bGq),(113,.w bNq),(114,.r bLv)] ⟨s90,s38,bOf,bPp,bPq,trivial⟩ (.s .o (.s .o (.j ⟨[],[0],[(.s 3,.ro 3),(.d 0 0,.rb 5),(.d 0 1,.i .i64)]⟩ (.s .o (.k (.l ⟨[0],[],[(.c 0 0,.rb 5),(.c 0 1,.i .i64),(.s 3,.ro 3),(.s 4,.i .i64)]⟩ (.s .o (.j ⟨[0,4],[],[(.c 0 0,.rb 5),(.c 0 1,.i .i64),(.s 3,.ro 3)]⟩ (.k (.s .o (.k (.j ⟨[0,3,4],[],[(.s 41,.b)]⟩ .o (.c .o (.s .o (.j ⟨[0,3,4,5],[],[(.c 0 0,.rb 5),(.c 0 1,.i .i64),(.c 5 0,.i .i64)]⟩ .o (.j ⟨[0,3,4,5],[],[(.c 0 0,.rb 5),(.c 0 1,.i .i64),(.c 5 0,.i .i64)]⟩ .o .o)))))))) .o))))) .o))) kr kr kr
noncomputable def aFq (s4:(List Int)×Int×(List Int))(s5:(List Int)×Int×Int×Int×Int×Bool×Int×Int×Int×Bool×Bool×Bool×Bool×(List Int)×Int×(List Int)×(List Int)):Option (Dl20Rd×DBare):=some ((Dl20Rd.mk s5.2.2.2.2.2.2.2.2.2.2.2.2.2.1 s5.2.2.2.2.2.2.2.2.2.2.2.2.2.2.1),DBare.mk (DCore.mk s5.1 s5.2.1 s5.2.2.1 s5.2.2.2.1 s5.2.2.2.2.1 s5.2.2.2.2.2.1 s5.2.2.2.2.2.2.1 s5.2.2.2.2.2.2.2.1 s5.2.2.2.2.2.2.2.2.1 s5.2.2.2.2.2.2.2.2.2.1 s5.2.2.2.2.2.2.2.2.2.2.1 s5.2.2.2.2.2.2.2.2.2.2.2.1 s5.2.2.2.2.2.2.2.2.2.2.2.2.1) s5.2.2.2.2.2.2.2.2.2.2.2.2.2.2.2.1 s5.2.2.2.2.2.2.2.2.2.2.2.2.2.2.2.2 s4.2.2)
noncomputable def vI (x_n:Int)(v1:Dl20Rd×DCore)(v2:Dl20Rd×(List Int))(s3:(List Int)×Int×(List Int))(s4:(List Int)×Int×(List Int)):Option (Dl20Rd×DBare):=
 Option.bind (Option.bind (bN (Dl20Rd.mk s4.1 s4.2.1) x_n) λv6=>
  cond v6.2
   (Option.bind (aA v6.1 (3:Int)) λv7=>
   cond (decide (v7.2=(0:Int)))
    (Option.bind (kV v7.1 (1:Int)) λv8=>
    some (.go (v8.2.Regs,v8.2.Pc,v8.2.Root,v8.2.Vector,v8.2.Saved,v8.2.SavedUser,v8.2.Cause,v8.2.Bad,v8.2.Timer,v8.2.Waits,v8.2.User,v8.2.On,v8.2.Stopped,v8.1.b,v8.1.p,v2.2,s3.2.2)))
    (cond (decide (v7.2=(1:Int)))
     (Option.bind (lU v7.1 (1:Int)) λv9=>
     some (.go (v1.2.Regs,v1.2.Pc,v1.2.Root,v1.2.Vector,v1.2.Saved,v1.2.SavedUser,v1.2.Cause,v1.2.Bad,v1.2.Timer,v1.2.Waits,v1.2.User,v1.2.On,v1.2.Stopped,v9.1.b,v9.1.p,v9.2,s3.2.2)))
     (some (.go (v1.2.Regs,v1.2.Pc,v1.2.Root,v1.2.Vector,v1.2.Saved,v1.2.SavedUser,v1.2.Cause,v1.2.Bad,v1.2.Timer,v1.2.Waits,v1.2.User,v1.2.On,v1.2.Stopped,v7.1.b,v7.1.p,v2.2,List.replicate (Int.toNat (31:Int)) (0:Int))))))
   (some (.go (v1.2.Regs,v1.2.Pc,v1.2.Root,v1.2.Vector,v1.2.Saved,v1.2.SavedUser,v1.2.Cause,v1.2.Bad,v1.2.Timer,v1.2.Waits,v1.2.User,v1.2.On,v1.2.Stopped,v6.1.b,v6.1.p,v2.2,s3.2.2)))) λj5=>
  JO.run j5 (aFq s4)
noncomputable def tU  (s11:(List Int)×Int×(List Int)×Int):Option (LO ((List Int)×Int×(List Int)×Int) (JO ((List Int)×Int×(List Int)) (Dl20Rd×DBare))):=
 cond (decide ((0:Int)<s11.2.2.2))
  (Option.bind (cI (Dl20Rd.mk s11.1 s11.2.1)) λv12=>
  grd ((List.length s11.2.2.1+List.length ([v12.2]:List Int))*8<=2^47/\List.length s11.2.2.1+List.length ([v12.2]:List Int)<=2^47) (some (.next (v12.1.b,v12.1.p,s11.2.2.1++([v12.2]:List Int),w64 (s11.2.2.2-(1:Int))))))
  (some (.ret (.go (s11.1,s11.2.1,s11.2.2.1))))
noncomputable def vM (x_n:Int)(v1:Dl20Rd×DCore)(v2:Dl20Rd×(List Int))(s3:(List Int)×Int×(List Int)):Option (Dl20Rd×DBare):=
 Option.bind (Option.bind (aA (Dl20Rd.mk s3.1 s3.2.1) (3:Int)) λv10=>
  Option.bind (iter tU (v10.1.b,v10.1.p,([]:List Int),v10.2)) LO.val) λj4=>
  JO.run j4 (vI x_n v1 v2 s3)
noncomputable def jU  (s14:(List Int)×Int×(List Int)×Int):Option (LO ((List Int)×Int×(List Int)×Int) (JO ((List Int)×Int×(List Int)) (Dl20Rd×DBare))):=
 cond (decide ((0:Int)<s14.2.2.2))
  (Option.bind (cI (Dl20Rd.mk s14.1 s14.2.1)) λv15=>
  grd ((List.length s14.2.2.1+List.length ([v15.2]:List Int))*8<=2^47/\List.length s14.2.2.1+List.length ([v15.2]:List Int)<=2^47) (some (.next (v15.1.b,v15.1.p,s14.2.2.1++([v15.2]:List Int),w64 (s14.2.2.2-(1:Int))))))
  (some (.ret (.go (s14.1,s14.2.1,s14.2.2.1))))
noncomputable def oL (x_r:Dl20Rd)(x_n:Int):Option (Dl20Rd×DBare):=
 Option.bind (kV x_r (0:Int)) λv1=>
 Option.bind (nV v1.1) λv2=>
 Option.bind (Option.bind (aA v2.1 (4:Int)) λv13=>
  Option.bind (iter jU (v13.1.b,v13.1.p,([]:List Int),v13.2)) LO.val) λj3=>
  JO.run j3 (vM x_n v1 v2)
noncomputable def g64:Sw tG:=⟨[.pt 71,.v (.i .i64)],.one (.st 42),oL⟩
theorem s64:Sjk 64 g64:=sgy [(88,.w g88),(89,.w g89),(38,.w g38),(63,.w g63),(66,.w g66),(90,.w g90)] ⟨s88,s89,s38,s63,s66,s90,trivial⟩ (.s .o (.s .o (.j ⟨[0,1,4,5],[],[(.c 0 0,.rb 5),(.c 0 1,.i .i64),(.c 5 14,.ro 3)]⟩ (.s .o (.k (.l ⟨[0,1,4,5],[],[(.c 0 0,.rb 5),(.c 0 1,.i .i64),(.c 5 14,.ro 3),(.s 6,.i .i64)]⟩ (.s .o (.s (.k (.m [0])) .o))))) (.j ⟨[0,1,4,5],[],[(.c 0 0,.rb 5),(.c 0 1,.i .i64),(.c 5 15,.ro 3)]⟩ (.s .o (.k (.l ⟨[0,1,4,5],[],[(.c 0 0,.rb 5),(.c 0 1,.i .i64),(.c 5 15,.ro 3),(.s 7,.i .i64)]⟩ (.s .o (.s (.k (.m [0])) .o))))) (.j ⟨[4,5],[0],[(.c 5 0,.ro 3),(.c 5 1,.i .i64),(.c 5 2,.i .i64),(.c 5 3,.i .i64),(.c 5 4,.i .i64),(.c 5 5,.b),(.c 5 6,.i .i64),(.c 5 7,.i .i64),(.c 5 8,.i .i64),(.c 5 9,.b),(.c 5 10,.b),(.c 5 11,.b),(.c 5 12,.b),(.d 0 0,.rb 5),(.d 0 1,.i .i64),(.c 5 13,.ro 3),(.c 5 14,.ro 3)]⟩ .o .o))))) kr kr kr
theorem aHi:LW 62 ⟨6,[.cell 2 true 2],.seq (.reg false (rg 62 0)) (.seq (.rega [rg 62 1,rg 62 2]) .ret)⟩:=kr
noncomputable def oU (x_none:Int):Option DHost:=some (DHost.mk (List.replicate (Int.toNat (160:Int)) (0:Int)) (List.replicate (Int.toNat (3:Int)) (DGuest.mk false (DCore.mk ([]:List Int) (0:Int) (0:Int) (0:Int) (0:Int) false (0:Int) (0:Int) (0:Int) false false false false) ([]:List DSlot) ([]:List Int) ([]:List Int))))
theorem aJl{x_none:Int}{R_:DHost}(hh:oU x_none=some R_):Fn Tryz.prog 62 [.int .i64 x_none] (.agg [.own 3 1 (List.length R_.Words) (fl (eI .i64) R_.Words),.own 39 17 (List.length R_.Guests) (fl lJ R_.Guests)]):=by let z1:=DCore.mk ([]:List Int) (0:Int) (0:Int) (0:Int) (0:Int) false (0:Int) (0:Int) (0:Int) false false false false;let z2:=DGuest.mk false z1 ([]:List DSlot) ([]:List Int) ([]:List Int);unfold oU at hh;refine Fn.start aHi [] (E:=sp 6 []) kr (v:= .agg [sw 0 R_.Words,.sref 1 [] 0 (List.length R_.Guests) 17]) (Hr:=[(1,some (rO39 R_.Guests)),(0,some (rI_3 R_.Words))]) (k:=2) kr (sy [2] [0] (sp 6 [(2,pp 0)]) [(0,some ⟨26,[.nil,.nil]⟩)] 1 (Aw.srega [2] [0,1,2] (bEl ?_ (bEl ?_ bMy))));{refine ys (.mk 3 1 8 [ii 0] (.c (ii 160))) (some 3) (aOw (c:=(eI .i64)) (d:=(0:Int)) (k:=(160:Int)) kr dd kr ?_);refine ys (.mk 39 17 176 zc0 (.c (ii 3))) (some 4) (aRc (z:=(bb false:: .nil::aBm [.nil,.nil,.nil])) (k:=(3:Int)) kr dd ?_);let q1:Root:=⟨26,[.sref 1 [] 0 (List.length (List.replicate (Int.toNat (160:Int)) (0:Int))) 1,.sref 2 [] 0 (Int.toNat (3:Int)) 17]⟩;let q2:Root:=(rI_3 (List.replicate (Int.toNat (160:Int)) (0:Int)));let q3:Root:=⟨39,aL (bb false:: .nil::aBm [.nil,.nil,.nil]) (Int.toNat (3:Int))⟩;refine yt (sp 6 [(2,pp 0)]) [(0,some q1),(1,some q2),(2,some q3)] 3 (Aw.ent (Ent.foldM (c:=lJ) (k:=Int.toNat (3:Int)) (d:=z2) (R:=2) (e:=39) (us2:=sp 6 [(2,pp 0)]) (H2:=[(0,some ⟨26,[.sref 1 [] 0 (List.length (List.replicate (Int.toNat (160:Int)) (0:Int))) 1,.sref 3 [] 0 (List.length (List.replicate (Int.toNat (3:Int)) z2)) 17]⟩),(1,some q2)]) (L:=[none,some none,none,none,none,none,none,none,none,none,none,none,none,none,some none,some none,some none]) (ws:=(bb false:: .own 3 1 0 []::aBm [.own 59 3 0 [],.own 3 1 0 [],.own 3 1 0 []])) dd kr kr (dX (yM (dX (dX (dX (dX (dX (dX (dX (dX (dX (dX (dX (dX (yM (yM (yM bIq))))))))))))))))) rfl (bDr kr (bIi (u:=pp 0) kr (.same _) bIr)) (bAh (t:=q1) rfl kr rfl (aOt (.same _) (aOt (.sref _ _ _ _ eqn) bIj)) (bAh (t:=q2) rfl kr rfl aUb bMe))) (Aw.ret ?_));rw[eR hh];let q4:Root:=(rO39 (List.replicate (Int.toNat (3:Int)) z2));exact aFa (r':= .agg [.sref 1 [] 0 (List.length (List.replicate (Int.toNat (160:Int)) (0:Int))) 1,.sref 3 [] 0 (List.length (List.replicate (Int.toNat (3:Int)) z2)) 17]) kr (Ent.list [some 1,some 3] rfl rfl (Nat.zero_le _) (xO (kR rz)) (hn rC (hn cK gJ)))};refine ys (.mk 39 17 176 zc0 (.c (ii 3))) (some 4) (aRc (z:=(bb false:: .nil::aBm [.nil,.nil,.nil])) (k:=(3:Int)) kr dd ?_);refine ys (.mk 3 1 8 [ii 0] (.c (ii 160))) (some 3) (aOw (c:=(eI .i64)) (d:=(0:Int)) (k:=(160:Int)) kr dd kr ?_);let q5:Root:=⟨26,[.sref 2 [] 0 (List.length (List.replicate (Int.toNat (160:Int)) (0:Int))) 1,.sref 1 [] 0 (Int.toNat (3:Int)) 17]⟩;let q6:Root:=⟨39,aL (bb false:: .nil::aBm [.nil,.nil,.nil]) (Int.toNat (3:Int))⟩;let q7:Root:=(rI_3 (List.replicate (Int.toNat (160:Int)) (0:Int)));refine yt (sp 6 [(2,pp 0)]) [(0,some q5),(1,some q6),(2,some q7)] 3 (Aw.ent (Ent.foldM (c:=lJ) (k:=Int.toNat (3:Int)) (d:=z2) (R:=1) (e:=39) (us2:=sp 6 [(2,pp 0)]) (H2:=[(0,some ⟨26,[.sref 2 [] 0 (List.length (List.replicate (Int.toNat (160:Int)) (0:Int))) 1,.sref 3 [] 0 (List.length (List.replicate (Int.toNat (3:Int)) z2)) 17]⟩),(2,some q7)]) (L:=[none,some none,none,none,none,none,none,none,none,none,none,none,none,none,some none,some none,some none]) (ws:=(bb false:: .own 3 1 0 []::aBm [.own 59 3 0 [],.own 3 1 0 [],.own 3 1 0 []])) dd kr kr (dX (yM (dX (dX (dX (dX (dX (dX (dX (dX (dX (dX (dX (dX (yM (yM (yM bIq))))))))))))))))) rfl (bDr kr (bIi (u:=pp 0) kr (.same _) bIr)) (bAh (t:=q5) rfl kr rfl (aOt (.same _) (aOt (.sref _ _ _ _ eqn) bIj)) (bAh (t:=q7) rfl kr rfl aUb bMe))) (Aw.ret ?_));rw[eR hh];let q8:Root:=(rO39 (List.replicate (Int.toNat (3:Int)) z2));exact aFa (r':= .agg [.sref 2 [] 0 (List.length (List.replicate (Int.toNat (160:Int)) (0:Int))) 1,.sref 3 [] 0 (List.length (List.replicate (Int.toNat (3:Int)) z2)) 17]) kr (Ent.list [some 2,some 3] rfl rfl (Nat.zero_le _) (xO (kR rz)) (hn rC (hn cK gJ)))
noncomputable def g62:Sg tG:=⟨[.i .i64],.one (.st 2026),oU⟩
theorem s62:Sok 62 g62:=λx_none R_ hh=>kc (aJl (x_none:=x_none) hh)
noncomputable def aFr  (s5:(List Int)×(List Int)×Int×(List DGuest)):Option (Dl20Rd×DHost):=some ((Dl20Rd.mk s5.2.1 s5.2.2.1),DHost.mk s5.1 s5.2.2.2)
noncomputable def vS (x_n:Int)(s3:(List Int)×Int×(List Int)×(List DGuest))(s4:(List Int)×Int×(List DGuest)):Option (Dl20Rd×DHost):=
 Option.bind (Option.bind (bN (Dl20Rd.mk s4.1 s4.2.1) x_n) λv6=>
  cond v6.2
   (Option.bind (aA v6.1 (4:Int)) λv7=>
   cond (decide (v7.2=(0:Int)))
    (Option.bind (aA v7.1 (9:Int)) λv8=>
    grd ((0:Int)<=v8.2/\v8.2<((List.length s3.2.2.1:Nat):Int)) (some (.go ((List.set s3.2.2.1 (Int.toNat v8.2) (4096:Int)),v8.1.b,v8.1.p,s4.2.2))))
    (cond (decide (v7.2=(1:Int)))
     (grd ((0:Int)<=(0:Int)/\(0:Int)<=(2:Int)/\(2:Int)<=((List.length s4.2.2:Nat):Int)) (some (.go (s3.2.2.1,v7.1.b,v7.1.p,List.take (Int.toNat (2:Int)-Int.toNat (0:Int)) s4.2.2))))
     (cond (decide (v7.2=(2:Int)))
      (grd ((0:Int)<=(2:Int)/\(2:Int)<((List.length s4.2.2:Nat):Int)) (some (.go (s3.2.2.1,v7.1.b,v7.1.p,List.set s4.2.2 2 (DGuest.mk false (DCore.mk ([]:List Int) (0:Int) (0:Int) (0:Int) (0:Int) false (0:Int) (0:Int) (0:Int) false false false false) ([]:List DSlot) ([(1:Int)]:List Int) ([]:List Int))))))
      (grd ((0:Int)<=(0:Int)/\(0:Int)<((List.length s4.2.2:Nat):Int)) (some (.go (s3.2.2.1,v7.1.b,v7.1.p,List.set s4.2.2 0 (DGuest.mk (List.getD s4.2.2 0 default).Live (List.getD s4.2.2 0 default).C ([DSlot.mk (3:Int) true false,DSlot.mk (3:Int) false false]:List DSlot) (List.getD s4.2.2 0 default).In (List.getD s4.2.2 0 default).Out))))))))
   (some (.go (s3.2.2.1,v6.1.b,v6.1.p,s4.2.2)))) λj5=>
  JO.run j5 aFr
noncomputable def tR (s10:(List Int)×Int×(List DGuest)×Int)(s11:(List Int)×Int×(List DGuest)):Option (LO ((List Int)×Int×(List DGuest)×Int) (JO ((List Int)×Int×(List DGuest)) (Dl20Rd×DHost))):=some (.next (s11.1,s11.2.1,s11.2.2,w64 (s10.2.2.2-(1:Int))))
noncomputable def nL  (s10:(List Int)×Int×(List DGuest)×Int):Option (LO ((List Int)×Int×(List DGuest)×Int) (JO ((List Int)×Int×(List DGuest)) (Dl20Rd×DHost))):=
 cond (decide ((0:Int)<s10.2.2.2))
  (Option.bind (Option.bind (aA (Dl20Rd.mk s10.1 s10.2.1) (3:Int)) λv12=>
   Option.bind (aA v12.1 (3:Int)) λv13=>
   Option.bind (aA v13.1 (8:Int)) λv14=>
   grd ((0:Int)<=v12.2/\v12.2<((List.length s10.2.2.1:Nat):Int)) (cond (List.getD s10.2.2.1 (Int.toNat v12.2) default).Live
    (grd ((0:Int)<=v13.2/\v13.2<((List.length s10.2.2.1:Nat):Int)) (cond (List.getD s10.2.2.1 (Int.toNat v13.2) default).Live
     (grd ((0:Int)<=v12.2/\v12.2<((List.length s10.2.2.1:Nat):Int)) (grd ((0:Int)<=v14.2/\v14.2<((List.length (List.getD s10.2.2.1 (Int.toNat v12.2) default).Pages:Nat):Int)) (cond (decide ((0:Int)<=(List.getD (List.getD s10.2.2.1 (Int.toNat v12.2) default).Pages (Int.toNat v14.2) default).Frame))
      (grd ((0:Int)<=v12.2/\v12.2<((List.length s10.2.2.1:Nat):Int)) (grd ((0:Int)<=v14.2/\v14.2<((List.length (List.getD s10.2.2.1 (Int.toNat v12.2) default).Pages:Nat):Int)) (grd ((0:Int)<=v13.2/\v13.2<((List.length s10.2.2.1:Nat):Int)) (Option.bind (aA v14.1 (8:Int)) λv15=>
       grd ((0:Int)<=v12.2/\v12.2<((List.length s10.2.2.1:Nat):Int)) (grd ((0:Int)<=v14.2/\v14.2<((List.length (List.getD (List.set s10.2.2.1 (Int.toNat v12.2) (DGuest.mk (List.getD s10.2.2.1 (Int.toNat v12.2) default).Live (List.getD s10.2.2.1 (Int.toNat v12.2) default).C (List.set (List.getD s10.2.2.1 (Int.toNat v12.2) default).Pages (Int.toNat v14.2) (DSlot.mk (List.getD (List.getD s10.2.2.1 (Int.toNat v12.2) default).Pages (Int.toNat v14.2) default).Frame false (List.getD (List.getD s10.2.2.1 (Int.toNat v12.2) default).Pages (Int.toNat v14.2) default).Dirty)) (List.getD s10.2.2.1 (Int.toNat v12.2) default).In (List.getD s10.2.2.1 (Int.toNat v12.2) default).Out)) (Int.toNat v12.2) default).Pages:Nat):Int)) (Option.bind (aA v15.1 (2:Int)) λv16=>
        grd ((0:Int)<=v15.2/\v15.2<((List.length (List.getD (List.set s10.2.2.1 (Int.toNat v12.2) (DGuest.mk (List.getD s10.2.2.1 (Int.toNat v12.2) default).Live (List.getD s10.2.2.1 (Int.toNat v12.2) default).C (List.set (List.getD s10.2.2.1 (Int.toNat v12.2) default).Pages (Int.toNat v14.2) (DSlot.mk (List.getD (List.getD s10.2.2.1 (Int.toNat v12.2) default).Pages (Int.toNat v14.2) default).Frame false (List.getD (List.getD s10.2.2.1 (Int.toNat v12.2) default).Pages (Int.toNat v14.2) default).Dirty)) (List.getD s10.2.2.1 (Int.toNat v12.2) default).In (List.getD s10.2.2.1 (Int.toNat v12.2) default).Out)) (Int.toNat v13.2) default).Pages:Nat):Int)) (some (.go (v16.1.b,v16.1.p,List.set (List.set s10.2.2.1 (Int.toNat v12.2) (DGuest.mk (List.getD s10.2.2.1 (Int.toNat v12.2) default).Live (List.getD s10.2.2.1 (Int.toNat v12.2) default).C (List.set (List.getD s10.2.2.1 (Int.toNat v12.2) default).Pages (Int.toNat v14.2) (DSlot.mk (List.getD (List.getD s10.2.2.1 (Int.toNat v12.2) default).Pages (Int.toNat v14.2) default).Frame false (List.getD (List.getD s10.2.2.1 (Int.toNat v12.2) default).Pages (Int.toNat v14.2) default).Dirty)) (List.getD s10.2.2.1 (Int.toNat v12.2) default).In (List.getD s10.2.2.1 (Int.toNat v12.2) default).Out)) (Int.toNat v13.2) (DGuest.mk (List.getD (List.set s10.2.2.1 (Int.toNat v12.2) (DGuest.mk (List.getD s10.2.2.1 (Int.toNat v12.2) default).Live (List.getD s10.2.2.1 (Int.toNat v12.2) default).C (List.set (List.getD s10.2.2.1 (Int.toNat v12.2) default).Pages (Int.toNat v14.2) (DSlot.mk (List.getD (List.getD s10.2.2.1 (Int.toNat v12.2) default).Pages (Int.toNat v14.2) default).Frame false (List.getD (List.getD s10.2.2.1 (Int.toNat v12.2) default).Pages (Int.toNat v14.2) default).Dirty)) (List.getD s10.2.2.1 (Int.toNat v12.2) default).In (List.getD s10.2.2.1 (Int.toNat v12.2) default).Out)) (Int.toNat v13.2) default).Live (List.getD (List.set s10.2.2.1 (Int.toNat v12.2) (DGuest.mk (List.getD s10.2.2.1 (Int.toNat v12.2) default).Live (List.getD s10.2.2.1 (Int.toNat v12.2) default).C (List.set (List.getD s10.2.2.1 (Int.toNat v12.2) default).Pages (Int.toNat v14.2) (DSlot.mk (List.getD (List.getD s10.2.2.1 (Int.toNat v12.2) default).Pages (Int.toNat v14.2) default).Frame false (List.getD (List.getD s10.2.2.1 (Int.toNat v12.2) default).Pages (Int.toNat v14.2) default).Dirty)) (List.getD s10.2.2.1 (Int.toNat v12.2) default).In (List.getD s10.2.2.1 (Int.toNat v12.2) default).Out)) (Int.toNat v13.2) default).C (List.set (List.getD (List.set s10.2.2.1 (Int.toNat v12.2) (DGuest.mk (List.getD s10.2.2.1 (Int.toNat v12.2) default).Live (List.getD s10.2.2.1 (Int.toNat v12.2) default).C (List.set (List.getD s10.2.2.1 (Int.toNat v12.2) default).Pages (Int.toNat v14.2) (DSlot.mk (List.getD (List.getD s10.2.2.1 (Int.toNat v12.2) default).Pages (Int.toNat v14.2) default).Frame false (List.getD (List.getD s10.2.2.1 (Int.toNat v12.2) default).Pages (Int.toNat v14.2) default).Dirty)) (List.getD s10.2.2.1 (Int.toNat v12.2) default).In (List.getD s10.2.2.1 (Int.toNat v12.2) default).Out)) (Int.toNat v13.2) default).Pages (Int.toNat v15.2) (DSlot.mk (List.getD (List.getD (List.set s10.2.2.1 (Int.toNat v12.2) (DGuest.mk (List.getD s10.2.2.1 (Int.toNat v12.2) default).Live (List.getD s10.2.2.1 (Int.toNat v12.2) default).C (List.set (List.getD s10.2.2.1 (Int.toNat v12.2) default).Pages (Int.toNat v14.2) (DSlot.mk (List.getD (List.getD s10.2.2.1 (Int.toNat v12.2) default).Pages (Int.toNat v14.2) default).Frame false (List.getD (List.getD s10.2.2.1 (Int.toNat v12.2) default).Pages (Int.toNat v14.2) default).Dirty)) (List.getD s10.2.2.1 (Int.toNat v12.2) default).In (List.getD s10.2.2.1 (Int.toNat v12.2) default).Out)) (Int.toNat v12.2) default).Pages (Int.toNat v14.2) default).Frame false (decide (v16.2=(0:Int))))) (List.getD (List.set s10.2.2.1 (Int.toNat v12.2) (DGuest.mk (List.getD s10.2.2.1 (Int.toNat v12.2) default).Live (List.getD s10.2.2.1 (Int.toNat v12.2) default).C (List.set (List.getD s10.2.2.1 (Int.toNat v12.2) default).Pages (Int.toNat v14.2) (DSlot.mk (List.getD (List.getD s10.2.2.1 (Int.toNat v12.2) default).Pages (Int.toNat v14.2) default).Frame false (List.getD (List.getD s10.2.2.1 (Int.toNat v12.2) default).Pages (Int.toNat v14.2) default).Dirty)) (List.getD s10.2.2.1 (Int.toNat v12.2) default).In (List.getD s10.2.2.1 (Int.toNat v12.2) default).Out)) (Int.toNat v13.2) default).In (List.getD (List.set s10.2.2.1 (Int.toNat v12.2) (DGuest.mk (List.getD s10.2.2.1 (Int.toNat v12.2) default).Live (List.getD s10.2.2.1 (Int.toNat v12.2) default).C (List.set (List.getD s10.2.2.1 (Int.toNat v12.2) default).Pages (Int.toNat v14.2) (DSlot.mk (List.getD (List.getD s10.2.2.1 (Int.toNat v12.2) default).Pages (Int.toNat v14.2) default).Frame false (List.getD (List.getD s10.2.2.1 (Int.toNat v12.2) default).Pages (Int.toNat v14.2) default).Dirty)) (List.getD s10.2.2.1 (Int.toNat v12.2) default).In (List.getD s10.2.2.1 (Int.toNat v12.2) default).Out)) (Int.toNat v13.2) default).Out))))))))))
      (some (.go (v14.1.b,v14.1.p,s10.2.2.1))))))
     (some (.go (v14.1.b,v14.1.p,s10.2.2.1)))))
    (some (.go (v14.1.b,v14.1.p,s10.2.2.1))))) λj11=>
   JO.run j11 (tR s10))
  (some (.ret (.go (s10.1,s10.2.1,s10.2.2.1))))
noncomputable def vQ (x_n:Int)(s3:(List Int)×Int×(List Int)×(List DGuest)):Option (Dl20Rd×DHost):=
 Option.bind (Option.bind (aA (Dl20Rd.mk s3.1 s3.2.1) (4:Int)) λv9=>
  Option.bind (iter nL (v9.1.b,v9.1.p,s3.2.2.2,v9.2)) LO.val) λj4=>
  JO.run j4 (vS x_n s3)
noncomputable def uL (s18:(List Int)×Int×(List Int)×(List DGuest)×(List Int)×Int×Int×Int×Int×Bool×Int×Int×Int×Bool×Bool×Bool×Bool×(List Int)×(List Int)×(List Int)×Int)(s19:(List Int)×Int×(List Int)×(List DGuest)×(List Int)×Int×Int×Int×Int×Bool×Int×Int×Int×Bool×Bool×Bool×Bool×(List Int)×(List Int)×(List Int)):Option (LO ((List Int)×Int×(List Int)×(List DGuest)×(List Int)×Int×Int×Int×Int×Bool×Int×Int×Int×Bool×Bool×Bool×Bool×(List Int)×(List Int)×(List Int)×Int) (JO ((List Int)×Int×(List Int)×(List DGuest)) (Dl20Rd×DHost))):=some (.next (s19.1,s19.2.1,s19.2.2.1,s19.2.2.2.1,s19.2.2.2.2.1,s19.2.2.2.2.2.1,s19.2.2.2.2.2.2.1,s19.2.2.2.2.2.2.2.1,s19.2.2.2.2.2.2.2.2.1,s19.2.2.2.2.2.2.2.2.2.1,s19.2.2.2.2.2.2.2.2.2.2.1,s19.2.2.2.2.2.2.2.2.2.2.2.1,s19.2.2.2.2.2.2.2.2.2.2.2.2.1,s19.2.2.2.2.2.2.2.2.2.2.2.2.2.1,s19.2.2.2.2.2.2.2.2.2.2.2.2.2.2.1,s19.2.2.2.2.2.2.2.2.2.2.2.2.2.2.2.1,s19.2.2.2.2.2.2.2.2.2.2.2.2.2.2.2.2.1,s19.2.2.2.2.2.2.2.2.2.2.2.2.2.2.2.2.2.1,s19.2.2.2.2.2.2.2.2.2.2.2.2.2.2.2.2.2.2.1,s19.2.2.2.2.2.2.2.2.2.2.2.2.2.2.2.2.2.2.2,w64 (s18.2.2.2.2.2.2.2.2.2.2.2.2.2.2.2.2.2.2.2.2-(1:Int))))
noncomputable def uE (s18:(List Int)×Int×(List Int)×(List DGuest)×(List Int)×Int×Int×Int×Int×Bool×Int×Int×Int×Bool×Bool×Bool×Bool×(List Int)×(List Int)×(List Int)×Int)(v20:Dl20Rd×DBare)(s21:(List Int)×Int×(List Int)):Option (JO ((List Int)×Int×(List Int)×(List DGuest)×(List Int)×Int×Int×Int×Int×Bool×Int×Int×Int×Bool×Bool×Bool×Bool×(List Int)×(List Int)×(List Int)) (LO ((List Int)×Int×(List Int)×(List DGuest)×(List Int)×Int×Int×Int×Int×Bool×Int×Int×Int×Bool×Bool×Bool×Bool×(List Int)×(List Int)×(List Int)×Int) (JO ((List Int)×Int×(List Int)×(List DGuest)) (Dl20Rd×DHost)))):=
 Option.bind (mM (DHost.mk s18.2.2.1 s18.2.2.2.1) (DBare.mk v20.2.C s21.2.2 v20.2.In v20.2.Out)) λv22=>
 cond v22.2.2
  (some (.go (s21.1,s21.2.1,v22.1.Words,v22.1.Guests,v20.2.C.Regs,v20.2.C.Pc,v20.2.C.Root,v20.2.C.Vector,v20.2.C.Saved,v20.2.C.SavedUser,v20.2.C.Cause,v20.2.C.Bad,v20.2.C.Timer,v20.2.C.Waits,v20.2.C.User,v20.2.C.On,v20.2.C.Stopped,s21.2.2,v20.2.In,v20.2.Out)))
  (some (.go (s21.1,s21.2.1,s18.2.2.1,s18.2.2.2.1,v20.2.C.Regs,v20.2.C.Pc,v20.2.C.Root,v20.2.C.Vector,v20.2.C.Saved,v20.2.C.SavedUser,v20.2.C.Cause,v20.2.C.Bad,v20.2.C.Timer,v20.2.C.Waits,v20.2.C.User,v20.2.C.On,v20.2.C.Stopped,s21.2.2,v20.2.In,v20.2.Out)))
noncomputable def tW (s23:(List Int)×Int×(List Int)×Int)(s24:(List Int)×Int×(List Int)):Option (LO ((List Int)×Int×(List Int)×Int) (JO ((List Int)×Int×(List Int)) (JO ((List Int)×Int×(List Int)×(List DGuest)×(List Int)×Int×Int×Int×Int×Bool×Int×Int×Int×Bool×Bool×Bool×Bool×(List Int)×(List Int)×(List Int)) (LO ((List Int)×Int×(List Int)×(List DGuest)×(List Int)×Int×Int×Int×Int×Bool×Int×Int×Int×Bool×Bool×Bool×Bool×(List Int)×(List Int)×(List Int)×Int) (JO ((List Int)×Int×(List Int)×(List DGuest)) (Dl20Rd×DHost)))))):=some (.next (s24.1,s24.2.1,s24.2.2,w64 (s23.2.2.2+(1:Int))))
noncomputable def uT (s18:(List Int)×Int×(List Int)×(List DGuest)×(List Int)×Int×Int×Int×Int×Bool×Int×Int×Int×Bool×Bool×Bool×Bool×(List Int)×(List Int)×(List Int)×Int)(s23:(List Int)×Int×(List Int)×Int)(s25:(List Int)×Int×(List Int)):Option (JO ((List Int)×Int×(List Int)) (LO ((List Int)×Int×(List Int)×Int) (JO ((List Int)×Int×(List Int)) (JO ((List Int)×Int×(List Int)×(List DGuest)×(List Int)×Int×Int×Int×Int×Bool×Int×Int×Int×Bool×Bool×Bool×Bool×(List Int)×(List Int)×(List Int)) (LO ((List Int)×Int×(List Int)×(List DGuest)×(List Int)×Int×Int×Int×Int×Bool×Int×Int×Int×Bool×Bool×Bool×Bool×(List Int)×(List Int)×(List Int)×Int) (JO ((List Int)×Int×(List Int)×(List DGuest)) (Dl20Rd×DHost))))))):=
 cond (decide ((0:Int)<((List.length s18.2.2.2.2.2.2.2.2.2.2.2.2.2.2.2.2.2.1:Nat):Int)))
  (Option.bind (aA (Dl20Rd.mk s25.1 s25.2.1) (3:Int)) λv26=>
  cond (decide (v26.2=(0:Int)))
   (grd ((0:Int)<=(w64 (s23.2.2.2*(8:Int)))/\(w64 (s23.2.2.2*(8:Int)))<=(w64 ((w64 (s23.2.2.2+(1:Int)))*(8:Int)))/\(w64 ((w64 (s23.2.2.2+(1:Int)))*(8:Int)))<=((List.length s25.2.2:Nat):Int)) (grd ((0:Int)<=(w64 (s23.2.2.2*(8:Int)))/\(w64 (s23.2.2.2*(8:Int)))<=((List.length s18.2.2.2.2.2.2.2.2.2.2.2.2.2.2.2.2.2.1:Nat):Int)/\((List.length s18.2.2.2.2.2.2.2.2.2.2.2.2.2.2.2.2.2.1:Nat):Int)<=((List.length s18.2.2.2.2.2.2.2.2.2.2.2.2.2.2.2.2.2.1:Nat):Int)) (some (.go (v26.1.b,v26.1.p,over s25.2.2 (Int.toNat (w64 (s23.2.2.2*(8:Int)))) (Int.toNat (w64 ((w64 (s23.2.2.2+(1:Int)))*(8:Int)))-Int.toNat (w64 (s23.2.2.2*(8:Int)))) (List.take (Int.toNat ((List.length s18.2.2.2.2.2.2.2.2.2.2.2.2.2.2.2.2.2.1:Nat):Int)-Int.toNat (w64 (s23.2.2.2*(8:Int)))) (List.drop (Int.toNat (w64 (s23.2.2.2*(8:Int)))) s18.2.2.2.2.2.2.2.2.2.2.2.2.2.2.2.2.2.1)))))))
   (some (.go (v26.1.b,v26.1.p,s25.2.2))))
  (some (.go (s25.1,s25.2.1,s25.2.2)))
noncomputable def nI (s18:(List Int)×Int×(List Int)×(List DGuest)×(List Int)×Int×Int×Int×Int×Bool×Int×Int×Int×Bool×Bool×Bool×Bool×(List Int)×(List Int)×(List Int)×Int)(s23:(List Int)×Int×(List Int)×Int):Option (LO ((List Int)×Int×(List Int)×Int) (JO ((List Int)×Int×(List Int)) (JO ((List Int)×Int×(List Int)×(List DGuest)×(List Int)×Int×Int×Int×Int×Bool×Int×Int×Int×Bool×Bool×Bool×Bool×(List Int)×(List Int)×(List Int)) (LO ((List Int)×Int×(List Int)×(List DGuest)×(List Int)×Int×Int×Int×Int×Bool×Int×Int×Int×Bool×Bool×Bool×Bool×(List Int)×(List Int)×(List Int)×Int) (JO ((List Int)×Int×(List Int)×(List DGuest)) (Dl20Rd×DHost)))))):=
 cond (decide (s23.2.2.2<(8:Int)))
  (Option.bind (Option.bind (cond (decide ((3:Int)<s23.2.2.2))
   (Option.bind (aA (Dl20Rd.mk s23.1 s23.2.1) (2:Int)) λv27=>
   cond (decide (v27.2=(0:Int)))
    (grd ((0:Int)<=(w64 (s23.2.2.2*(8:Int)))/\(w64 (s23.2.2.2*(8:Int)))<=((List.length s23.2.2.1:Nat):Int)/\((List.length s23.2.2.1:Nat):Int)<=((List.length s23.2.2.1:Nat):Int)) (some (.go (v27.1.b,v27.1.p,over s23.2.2.1 (Int.toNat (w64 (s23.2.2.2*(8:Int)))) (Int.toNat ((List.length s23.2.2.1:Nat):Int)-Int.toNat (w64 (s23.2.2.2*(8:Int)))) (List.replicate (Int.toNat (8:Int)) (0:Int))))))
    (some (.go (v27.1.b,v27.1.p,s23.2.2.1))))
   (some (.go (s23.1,s23.2.1,s23.2.2.1)))) λj25=>
   JO.run j25 (uT s18 s23)) λj24=>
   JO.run j24 (tW s23))
  (some (.ret (.go (s23.1,s23.2.1,s23.2.2.1))))
noncomputable def nG  (s18:(List Int)×Int×(List Int)×(List DGuest)×(List Int)×Int×Int×Int×Int×Bool×Int×Int×Int×Bool×Bool×Bool×Bool×(List Int)×(List Int)×(List Int)×Int):Option (LO ((List Int)×Int×(List Int)×(List DGuest)×(List Int)×Int×Int×Int×Int×Bool×Int×Int×Int×Bool×Bool×Bool×Bool×(List Int)×(List Int)×(List Int)×Int) (JO ((List Int)×Int×(List Int)×(List DGuest)) (Dl20Rd×DHost))):=
 cond (decide ((0:Int)<s18.2.2.2.2.2.2.2.2.2.2.2.2.2.2.2.2.2.2.2.2))
  (Option.bind (Option.bind (oL (Dl20Rd.mk s18.1 s18.2.1) (0:Int)) λv20=>
   Option.bind (Option.bind (iter (nI s18) (v20.1.b,v20.1.p,v20.2.Mem,(0:Int))) LO.val) λj21=>
    JO.run j21 (uE s18 v20)) λj19=>
   JO.run j19 (uL s18))
  (some (.ret (.go (s18.1,s18.2.1,s18.2.2.1,s18.2.2.2.1))))
noncomputable def vH (x_n:Int)(v1:DHost)(s2:(List Int)×Int×(List Int)):Option (Dl20Rd×DHost):=
 Option.bind (Option.bind (aA (Dl20Rd.mk s2.1 s2.2.1) (3:Int)) λv17=>
  Option.bind (iter nG (v17.1.b,v17.1.p,s2.2.2,v1.Guests,([]:List Int),(0:Int),(0:Int),(0:Int),(0:Int),false,(0:Int),(0:Int),(0:Int),false,false,false,false,([]:List Int),([]:List Int),([]:List Int),w64 ((1:Int)+v17.2))) LO.val) λj3=>
  JO.run j3 (vQ x_n)
noncomputable def uC (s28:(List Int)×Int×(List Int)×Int)(s29:(List Int)×Int×(List Int)):Option (LO ((List Int)×Int×(List Int)×Int) (JO ((List Int)×Int×(List Int)) (Dl20Rd×DHost))):=some (.next (s29.1,s29.2.1,s29.2.2,w64 (s28.2.2.2+(1:Int))))
noncomputable def nP  (s28:(List Int)×Int×(List Int)×Int):Option (LO ((List Int)×Int×(List Int)×Int) (JO ((List Int)×Int×(List Int)) (Dl20Rd×DHost))):=
 cond (decide (s28.2.2.2<((List.length s28.2.2.1:Nat):Int)))
  (Option.bind (Option.bind (aA (Dl20Rd.mk s28.1 s28.2.1) (4:Int)) λv30=>
   cond (decide (v30.2=(0:Int)))
    (Option.bind (cI v30.1) λv31=>
    grd ((0:Int)<=s28.2.2.2/\s28.2.2.2<((List.length s28.2.2.1:Nat):Int)) (some (.go (v31.1.b,v31.1.p,List.set s28.2.2.1 (Int.toNat s28.2.2.2) v31.2))))
    (some (.go (v30.1.b,v30.1.p,s28.2.2.1)))) λj29=>
   JO.run j29 (uC s28))
  (some (.ret (.go (s28.1,s28.2.1,s28.2.2.1))))
noncomputable def oS (x_r:Dl20Rd)(x_n:Int):Option (Dl20Rd×DHost):=
 Option.bind (oU (0:Int)) λv1=>
 Option.bind (Option.bind (iter nP (x_r.b,x_r.p,v1.Words,(0:Int))) LO.val) λj2=>
  JO.run j2 (vH x_n v1)
noncomputable def g37:Sw tG:=⟨[.pt 71,.v (.i .i64)],.one (.st 2026),oS⟩
theorem s37:Sjk 37 g37:=sgy [(62,.r g62),(38,.w g38),(63,.w g63),(64,.w g64),(65,.r g65),(66,.w g66)] ⟨s62,s38,s63,s64,s65,s66,trivial⟩ (.s .o (.s .o (.j ⟨[0,1,4,5],[],[(.c 0 0,.rb 5),(.c 0 1,.i .i64),(.c 5 0,.ro 3)]⟩ (.s .o (.k (.l ⟨[0,1,4,5],[],[(.c 0 0,.rb 5),(.c 0 1,.i .i64),(.c 5 0,.ro 3),(.s 6,.i .i64)]⟩ (.s .o (.j ⟨[0,1,4,5,6],[],[(.c 0 0,.rb 5),(.c 0 1,.i .i64),(.c 5 0,.ro 3)]⟩ (.k (.s .o (.c (.m [0]) .o))) .o))))) (.s .o (.j ⟨[0,1,4,5],[],[(.c 0 0,.rb 5),(.c 0 1,.i .i64),(.c 5 0,.ro 3),(.c 5 1,.ro 1039)]⟩ (.s .o (.k (.l ⟨[0,1,4,5,7],[],[(.c 0 0,.rb 5),(.c 0 1,.i .i64),(.c 5 0,.ro 3),(.c 5 1,.ro 1039),(.c 7 0,.ro 3),(.c 7 1,.i .i64),(.c 7 2,.i .i64),(.c 7 3,.i .i64),(.c 7 4,.i .i64),(.c 7 5,.b),(.c 7 6,.i .i64),(.c 7 7,.i .i64),(.c 7 8,.i .i64),(.c 7 9,.b),(.c 7 10,.b),(.c 7 11,.b),(.c 7 12,.b),(.c 7 13,.ro 3),(.c 7 14,.ro 3),(.c 7 15,.ro 3),(.s 8,.i .i64)]⟩ (.s .o (.j ⟨[0,1,4,5,7,8],[],[(.c 0 0,.rb 5),(.c 0 1,.i .i64),(.c 5 0,.ro 3),(.c 5 1,.ro 1039),(.c 7 0,.ro 3),(.c 7 1,.i .i64),(.c 7 2,.i .i64),(.c 7 3,.i .i64),(.c 7 4,.i .i64),(.c 7 5,.b),(.c 7 6,.i .i64),(.c 7 7,.i .i64),(.c 7 8,.i .i64),(.c 7 9,.b),(.c 7 10,.b),(.c 7 11,.b),(.c 7 12,.b),(.c 7 13,.ro 3),(.c 7 14,.ro 3),(.c 7 15,.ro 3)]⟩ (.k (.s .o (.j ⟨[0,1,4,5,7,8,9],[],[(.c 0 0,.rb 5),(.c 0 1,.i .i64),(.c 9 13,.ro 3)]⟩ (.s .o (.k (.l ⟨[0,1,4,5,7,8,9],[],[(.c 0 0,.rb 5),(.c 0 1,.i .i64),(.c 9 13,.ro 3),(.s 10,.i .i64)]⟩ (.s .o (.j ⟨[0,1,4,5,7,8,9,10],[],[(.c 0 0,.rb 5),(.c 0 1,.i .i64),(.c 9 13,.ro 3)]⟩ (.k (.j ⟨[0,1,4,5,7,8,9,10],[],[(.c 0 0,.rb 5),(.c 0 1,.i .i64),(.c 9 13,.ro 3)]⟩ .o .o)) .o))))) .o))) .o))))) (.j ⟨[0,1,4,5],[],[(.c 0 0,.rb 5),(.c 0 1,.i .i64),(.c 5 1,.ro 1039)]⟩ (.s .o (.k (.l ⟨[0,1,4,5],[],[(.c 0 0,.rb 5),(.c 0 1,.i .i64),(.c 5 1,.ro 1039),(.s 14,.i .i64)]⟩ (.s .o (.j ⟨[0,1,4,5,14],[],[(.c 0 0,.rb 5),(.c 0 1,.i .i64),(.c 5 1,.ro 1039)]⟩ (.k (.s .o (.s .o (.s .o (.s .o (.c (.s .o (.m [0])) .o)))))) .o))))) (.j ⟨[4,5],[0],[(.c 5 0,.ro 3),(.d 0 0,.rb 5),(.d 0 1,.i .i64),(.c 5 1,.ro 1039)]⟩ (.s .o (.c (.s .o (.k (.s .o (.c (.m [0]) (.s .o (.c .o (.s .o (.c (.g [] [] [.fo (.c 5 1) 0]) (.g [] [] [.fo (.c 5 1) 0]))))))))) .o)) .o))))))) kr kr kr
noncomputable def uB  (s1:Unit):Option Bool:=some true
noncomputable def eQ (x_a:List Int)(x_b:List Int)(s2:Int):Option (LO Int (JO Unit Bool)):=
 cond (decide (s2<((List.length x_a:Nat):Int)))
  (grd ((0:Int)<=s2/\s2<((List.length x_a:Nat):Int)) (grd ((0:Int)<=s2/\s2<((List.length x_b:Nat):Int)) (cond (!decide ((List.getD x_a (Int.toNat s2) default)=(List.getD x_b (Int.toNat s2) default)))
   (some (.ret (.out false)))
   (some (.next (w64 (s2+(1:Int))))))))
  (some (.ret (.go ())))
noncomputable def cO (x_a:List Int)(x_b:List Int):Option Bool:=
 cond (!decide (((List.length x_a:Nat):Int)=((List.length x_b:Nat):Int)))
  (some false)
  (Option.bind (Option.bind (iter (eQ x_a x_b) (0:Int)) LO.val) λj1=>
   JO.run j1 uB)
noncomputable def g27:Sg tG:=⟨[.row 3,.row 3],.one .b,cO⟩
theorem s27:Sok 27 g27:=sgx [] trivial (.s .o (.s .o (.j ⟨[],[],[]⟩ (.s .o (.k (.l ⟨[0,1],[],[(.s 5,.i .i64)]⟩ .o))) .o))) kr kr kr
noncomputable def jV (x_a:DCore)(x_b:DCore):Option Bool:=
 Option.bind (cO x_a.Regs x_b.Regs) λv1=>
 cond (!v1)
  (some false)
  (cond (!decide (x_a.Pc=x_b.Pc))
   (some false)
   (cond (!decide (x_a.Root=x_b.Root))
    (some false)
    (cond (!decide (x_a.Vector=x_b.Vector))
     (some false)
     (cond (!decide (x_a.Saved=x_b.Saved))
      (some false)
      (cond (!(x_a.SavedUser==x_b.SavedUser))
       (some false)
       (cond (decide (x_a.Cause=x_b.Cause))
        (cond (decide (x_a.Bad=x_b.Bad))
         (cond (decide (x_a.Timer=x_b.Timer))
          (cond (x_a.Waits==x_b.Waits)
           (cond (x_a.User==x_b.User)
            (cond (x_a.On==x_b.On)
             (some (x_a.Stopped==x_b.Stopped))
             (some false))
            (some false))
           (some false))
          (some false))
         (some false))
        (some false)))))))
noncomputable def g34:Sg tG:=⟨[.st 36,.st 36],.one .b,jV⟩
theorem s34:Sok 34 g34:=sgx [(27,.r g27)] ⟨s27,trivial⟩ .o kr kr kr
noncomputable def mN (x_a:DBare)(x_b:DBare):Option Bool:=
 Option.bind (jV x_a.C x_b.C) λv1=>
 cond v1
  (Option.bind (cO x_a.Mem x_b.Mem) λv2=>
  cond v2
   (Option.bind (cO x_a.In x_b.In) λv3=>
   cond v3
    (Option.bind (cO x_a.Out x_b.Out) λv4=>
    some v4)
    (some false))
   (some false))
  (some false)
noncomputable def g12:Sg tG:=⟨[.st 42,.st 42],.one .b,mN⟩
theorem s12:Sok 12 g12:=sgx [(34,.r g34),(27,.r g27)] ⟨s34,s27,trivial⟩ .o kr kr kr
noncomputable def aCf  (s4:Unit):Option Bool:=some true
noncomputable def jH (x_a:DGuest)(x_b:DGuest)(s5:Int):Option (LO Int (JO Unit Bool)):=
 cond (decide (s5<((List.length x_a.Pages:Nat):Int)))
  (grd ((0:Int)<=s5/\s5<((List.length x_a.Pages:Nat):Int)) (grd ((0:Int)<=s5/\s5<((List.length x_b.Pages:Nat):Int)) (cond (!(decide ((List.getD x_a.Pages (Int.toNat s5) default).Frame=(List.getD x_b.Pages (Int.toNat s5) default).Frame)&&(((List.getD x_a.Pages (Int.toNat s5) default).Write==(List.getD x_b.Pages (Int.toNat s5) default).Write)&&(((List.getD x_a.Pages (Int.toNat s5) default).Dirty==(List.getD x_b.Pages (Int.toNat s5) default).Dirty)&&true))))
   (some (.ret (.out false)))
   (some (.next (w64 (s5+(1:Int))))))))
  (some (.ret (.go ())))
noncomputable def iW (x_a:DGuest)(x_b:DGuest):Option Bool:=
 cond (!(x_a.Live==x_b.Live))
  (some false)
  (Option.bind (jV x_a.C x_b.C) λv1=>
  cond (!v1)
   (some false)
   (Option.bind (cO x_a.In x_b.In) λv2=>
   cond (!v2)
    (some false)
    (Option.bind (cO x_a.Out x_b.Out) λv3=>
    cond (!v3)
     (some false)
     (cond (!decide (((List.length x_a.Pages:Nat):Int)=((List.length x_b.Pages:Nat):Int)))
      (some false)
      (Option.bind (Option.bind (iter (jH x_a x_b) (0:Int)) LO.val) λj4=>
       JO.run j4 aCf)))))
noncomputable def g28:Sg tG:=⟨[.st 39,.st 39],.one .b,iW⟩
theorem s28:Sok 28 g28:=sgx [(34,.r g34),(27,.r g27)] ⟨s34,s27,trivial⟩ (.s .o (.s .o (.j ⟨[],[],[]⟩ (.s .o (.k (.l ⟨[2,3],[],[(.s 5,.i .i64)]⟩ .o))) .o))) kr kr kr
noncomputable def aDf  (s2:Unit):Option Bool:=some true
noncomputable def jZ (x_a:DHost)(x_b:DHost)(s3:Int):Option (LO Int (JO Unit Bool)):=
 cond (decide (s3<((List.length x_a.Guests:Nat):Int)))
  (grd ((0:Int)<=s3/\s3<((List.length x_a.Guests:Nat):Int)) (grd ((0:Int)<=s3/\s3<((List.length x_b.Guests:Nat):Int)) (Option.bind (iW (DGuest.mk (List.getD x_a.Guests (Int.toNat s3) default).Live (DCore.mk ((List.getD x_a.Guests (Int.toNat s3) default).C).Regs ((List.getD x_a.Guests (Int.toNat s3) default).C).Pc ((List.getD x_a.Guests (Int.toNat s3) default).C).Root ((List.getD x_a.Guests (Int.toNat s3) default).C).Vector ((List.getD x_a.Guests (Int.toNat s3) default).C).Saved ((List.getD x_a.Guests (Int.toNat s3) default).C).SavedUser ((List.getD x_a.Guests (Int.toNat s3) default).C).Cause ((List.getD x_a.Guests (Int.toNat s3) default).C).Bad ((List.getD x_a.Guests (Int.toNat s3) default).C).Timer ((List.getD x_a.Guests (Int.toNat s3) default).C).Waits ((List.getD x_a.Guests (Int.toNat s3) default).C).User ((List.getD x_a.Guests (Int.toNat s3) default).C).On ((List.getD x_a.Guests (Int.toNat s3) default).C).Stopped) (List.getD x_a.Guests (Int.toNat s3) default).Pages (List.getD x_a.Guests (Int.toNat s3) default).In (List.getD x_a.Guests (Int.toNat s3) default).Out) (DGuest.mk (List.getD x_b.Guests (Int.toNat s3) default).Live (DCore.mk ((List.getD x_b.Guests (Int.toNat s3) default).C).Regs ((List.getD x_b.Guests (Int.toNat s3) default).C).Pc ((List.getD x_b.Guests (Int.toNat s3) default).C).Root ((List.getD x_b.Guests (Int.toNat s3) default).C).Vector ((List.getD x_b.Guests (Int.toNat s3) default).C).Saved ((List.getD x_b.Guests (Int.toNat s3) default).C).SavedUser ((List.getD x_b.Guests (Int.toNat s3) default).C).Cause ((List.getD x_b.Guests (Int.toNat s3) default).C).Bad ((List.getD x_b.Guests (Int.toNat s3) default).C).Timer ((List.getD x_b.Guests (Int.toNat s3) default).C).Waits ((List.getD x_b.Guests (Int.toNat s3) default).C).User ((List.getD x_b.Guests (Int.toNat s3) default).C).On ((List.getD x_b.Guests (Int.toNat s3) default).C).Stopped) (List.getD x_b.Guests (Int.toNat s3) default).Pages (List.getD x_b.Guests (Int.toNat s3) default).In (List.getD x_b.Guests (Int.toNat s3) default).Out)) λv4=>
   cond (!v4)
    (some (.ret (.out false)))
    (some (.next (w64 (s3+(1:Int))))))))
  (some (.ret (.go ())))
noncomputable def mY (x_a:DHost)(x_b:DHost):Option Bool:=
 Option.bind (cO x_a.Words x_b.Words) λv1=>
 cond (!v1)
  (some false)
  (cond (!decide (((List.length x_a.Guests:Nat):Int)=((List.length x_b.Guests:Nat):Int)))
   (some false)
   (Option.bind (Option.bind (iter (jZ x_a x_b) (0:Int)) LO.val) λj2=>
    JO.run j2 aDf))
noncomputable def g7:Sg tG:=⟨[.st 26,.st 26],.one .b,mY⟩
theorem s7:Sok 7 g7:=sgx [(27,.r g27),(28,.r g28)] ⟨s27,s28,trivial⟩ (.s .o (.s .o (.j ⟨[],[],[]⟩ (.s .o (.k (.l ⟨[2,3],[],[(.s 5,.i .i64)]⟩ .o))) .o))) kr kr kr
noncomputable def aIk (v1:Dl20Rd×DHost)(s2:(List Int)×Int×(List DGuest)):Option (Dl20Rd×DHost):=some ((Dl20Rd.mk s2.1 s2.2.1),DHost.mk v1.2.Words s2.2.2)
noncomputable def pY (x_r:Dl20Rd):Option (Dl20Rd×DHost):=
 Option.bind (oS x_r (25:Int)) λv1=>
 Option.bind (cond (decide (((List.length v1.2.Guests:Nat):Int)=(3:Int)))
  (grd ((0:Int)<=(2:Int)/\(2:Int)<((List.length v1.2.Guests:Nat):Int)) (cond (List.getD v1.2.Guests 2 default).Live
   (Option.bind (aA v1.1 (5:Int)) λv3=>
   cond (decide ((0:Int)<v3.2))
    (grd ((0:Int)<=(2:Int)/\(2:Int)<((List.length v1.2.Guests:Nat):Int)) (some (.go (v3.1.b,v3.1.p,List.set v1.2.Guests 2 (DGuest.mk false (DCore.mk ([]:List Int) (0:Int) (0:Int) (0:Int) (0:Int) false (0:Int) (0:Int) (0:Int) false false false false) ([]:List DSlot) ([]:List Int) ([]:List Int))))))
    (some (.go (v3.1.b,v3.1.p,v1.2.Guests))))
   (some (.go (v1.1.b,v1.1.p,v1.2.Guests)))))
  (some (.go (v1.1.b,v1.1.p,v1.2.Guests)))) λj2=>
  JO.run j2 (aIk v1)
noncomputable def g15:Sw tG:=⟨[.pt 71],.one (.st 2026),pY⟩
theorem s15:Sjk 15 g15:=sgy [(37,.w g37),(38,.w g38)] ⟨s37,s38,trivial⟩ (.s .o (.s .o (.j ⟨[2,3],[0],[(.d 0 0,.rb 5),(.d 0 1,.i .i64),(.c 3 1,.ro 1039)]⟩ (.s .o (.c (.g [] [] [.fo (.c 3 1) 0]) .o)) .o))) kr kr kr
noncomputable def xX  (s2:(List Int)×Int×Int):Option (Dl20Rd×Int):=
 Option.bind (aA (Dl20Rd.mk s2.1 s2.2.1) (25:Int)) λv3=>
 some (v3.1,w64 (s2.2.2-(w64 (Int.tdiv v3.2 (24:Int)))))
noncomputable def rW (x_r:Dl20Rd)(x_h:DHost):Option (Dl20Rd×Int):=
 Option.bind (aA x_r (3:Int)) λv1=>
 Option.bind (cond (decide (((List.length x_h.Guests:Nat):Int)=(3:Int)))
  (grd ((0:Int)<=v1.2/\v1.2<((List.length x_h.Guests:Nat):Int)) (cond (!(List.getD x_h.Guests (Int.toNat v1.2) default).Live)
   (Option.bind (aA v1.1 (6:Int)) λv4=>
   cond (decide ((0:Int)<v4.2))
    (some (.go (v4.1.b,v4.1.p,(0:Int))))
    (some (.go (v4.1.b,v4.1.p,v1.2))))
   (some (.go (v1.1.b,v1.1.p,v1.2)))))
  (some (.go (v1.1.b,v1.1.p,v1.2)))) λj2=>
  JO.run j2 xX
noncomputable def g16:Sw tG:=⟨[.pt 71,.v (.st 26)],.one (.i .i64),rW⟩
theorem s16:Sjk 16 g16:=sgy [(38,.w g38)] ⟨s38,trivial⟩ (.s .o (.s .o (.j ⟨[0],[],[(.c 0 0,.rb 5),(.c 0 1,.i .i64),(.s 5,.i .i64)]⟩ .o .o))) kr kr kr
noncomputable def jF (x_w:Int):Option DEntry:=
 Option.bind (eK x_w) λv1=>
 cond (!v1)
  (some (DEntry.mk false false false (0:Int)))
  (some (DEntry.mk (decide ((Int.tmod (w64 (Int.tdiv x_w (1:Int))) (2:Int))=(1:Int))) (decide ((Int.tmod (w64 (Int.tdiv x_w (2:Int))) (2:Int))=(1:Int))) (decide ((Int.tmod (w64 (Int.tdiv x_w (4:Int))) (2:Int))=(1:Int))) (Int.tmod (w64 (Int.tdiv x_w (8:Int))) (8:Int))))
noncomputable def g83:Sg tG:=⟨[.i .i64],.one (.st 109),jF⟩
theorem s83:Sok 83 g83:=sgx [(29,.r g29)] ⟨s29,trivial⟩ .o kr kr kr
noncomputable def dK (x_words:List Int)(x_s:DSlot):Option (List Int):=
 cond (decide (x_s.Frame=(-1:Int)))
  (some (List.replicate (Int.toNat (8:Int)) (0:Int)))
  (Option.bind (jL x_words x_s.Frame) λv1=>
  some v1)
noncomputable def bMi:Sg tG:=⟨[.row 3,.st 59],.one (.rb 3),dK⟩
theorem bLe:Sok 132 bMi:=sgx [(79,.r g79)] ⟨s79,trivial⟩ .o kr kr kr
theorem aFx{x_words:List Int}{x_s:DSlot}{R_:(List Int)}(hh:dK x_words x_s=some R_):Fn Tryz.prog 132 [bo (eI .i64) x_words,.agg (hC x_s)] (bo (eI .i64) R_):=kc (bLe x_words x_s R_ hh)
noncomputable def oN (x_h:DHost)(x_g:Int)(x_number:Int):Option DEntry:=
 grd ((0:Int)<=x_g/\x_g<((List.length x_h.Guests:Nat):Int)) (cond (decide (((List.getD x_h.Guests (Int.toNat x_g) default).C).Root=(-1:Int)))
  (some (DEntry.mk true true true x_number))
  (grd ((0:Int)<=((List.getD x_h.Guests (Int.toNat x_g) default).C).Root/\((List.getD x_h.Guests (Int.toNat x_g) default).C).Root<((List.length (List.getD x_h.Guests (Int.toNat x_g) default).Pages:Nat):Int)) (Option.bind (dK x_h.Words (DSlot.mk (List.getD (List.getD x_h.Guests (Int.toNat x_g) default).Pages (Int.toNat ((List.getD x_h.Guests (Int.toNat x_g) default).C).Root) default).Frame (List.getD (List.getD x_h.Guests (Int.toNat x_g) default).Pages (Int.toNat ((List.getD x_h.Guests (Int.toNat x_g) default).C).Root) default).Write (List.getD (List.getD x_h.Guests (Int.toNat x_g) default).Pages (Int.toNat ((List.getD x_h.Guests (Int.toNat x_g) default).C).Root) default).Dirty)) λv1=>
   grd ((0:Int)<=x_number/\x_number<((List.length v1:Nat):Int)) (Option.bind (jF (List.getD v1 (Int.toNat x_number) default)) λv2=>
    some v2))))
noncomputable def bNf:Sg tG:=⟨[.st 26,.i .i64,.i .i64],.one (.st 109),oN⟩
theorem bPz:Sok 133 bNf:=sgx [(132,.r bMi),(83,.r g83)] ⟨bLe,s83,trivial⟩ .o kr kr kr
noncomputable def oI (x_h:DHost)(x_g:Int)(x_number:Int):Option DShade:=
 Option.bind (oN x_h x_g x_number) λv1=>
 grd ((0:Int)<=x_g/\x_g<((List.length x_h.Guests:Nat):Int)) (grd ((0:Int)<=v1.Page/\v1.Page<((List.length (List.getD x_h.Guests (Int.toNat x_g) default).Pages:Nat):Int)) (some (DShade.mk v1.There v1.Write v1.User v1.Page (List.getD (List.getD x_h.Guests (Int.toNat x_g) default).Pages (Int.toNat v1.Page) default).Frame (List.getD (List.getD x_h.Guests (Int.toNat x_g) default).Pages (Int.toNat v1.Page) default).Write)))
noncomputable def bLq:Sg tG:=⟨[.st 26,.i .i64,.i .i64],.one (.st 121),oI⟩
theorem bQl:Sok 121 bLq:=sgx [(133,.r bNf)] ⟨bPz,trivial⟩ .o kr kr kr
noncomputable def fW (x_e:DEntry)(x_user:Bool)(x_write:Bool):Option Bool:=
 cond x_e.There
  (cond x_e.Write
   (cond x_e.User
    (some true)
    (some (!x_user)))
   (cond (!x_write)
    (cond x_e.User
     (some true)
     (some (!x_user)))
    (some false)))
  (some false)
noncomputable def g84:Sg tG:=⟨[.st 109,.b,.b],.one .b,fW⟩
theorem s84:Sok 84 g84:=sgx [] trivial .o kr kr kr
noncomputable def mE (x_mem:List Int)(x_root:Int)(x_addr:Int)(x_user:Bool)(x_write:Bool):Option Int:=
 Option.bind (nC x_mem) λv1=>
 cond (!v1)
  (some (-1:Int))
  (Option.bind (jN x_root) λv2=>
  cond (!v2)
   (some (-1:Int))
   (Option.bind (bO x_addr) λv3=>
   cond (!v3)
    (some (-1:Int))
    (cond (decide (x_root=(-1:Int)))
     (some x_addr)
     (grd ((0:Int)<=(w64 ((w64 (x_root*(8:Int)))+(w64 (Int.tdiv x_addr (8:Int)))))/\(w64 ((w64 (x_root*(8:Int)))+(w64 (Int.tdiv x_addr (8:Int)))))<((List.length x_mem:Nat):Int)) (Option.bind (jF (List.getD x_mem (Int.toNat (w64 ((w64 (x_root*(8:Int)))+(w64 (Int.tdiv x_addr (8:Int)))))) default)) λv4=>
      Option.bind (fW v4 x_user x_write) λv5=>
      cond (!v5)
       (some (-1:Int))
       (some (w64 ((w64 (v4.Page*(8:Int)))+(Int.tmod x_addr (8:Int))))))))))
noncomputable def g58:Sg tG:=⟨[.row 3,.i .i64,.i .i64,.b,.b],.one (.i .i64),mE⟩
theorem s58:Sok 58 g58:=sgx [(53,.r g53),(81,.r g81),(80,.r g80),(83,.r g83),(84,.r g84)] ⟨s53,s81,s80,s83,s84,trivial⟩ .o kr kr kr
noncomputable def rP (x_i:DIns):Option Bool:=
 cond (decide ((0:Int)<=x_i.Op))
  (cond (decide ((0:Int)<=x_i.A))
   (cond (decide ((0:Int)<=x_i.N))
    (cond (decide (x_i.Op<=(15:Int)))
     (cond (decide (x_i.A<(4:Int)))
      (some (decide (x_i.N<(64:Int))))
      (some false))
     (some false))
    (cond (decide (x_i.Op<=(15:Int)))
     (cond (decide (x_i.A<(4:Int)))
      (some false)
      (some false))
     (some false)))
   (cond (decide ((0:Int)<=x_i.N))
    (cond (decide (x_i.Op<=(15:Int)))
     (some false)
     (some false))
    (cond (decide (x_i.Op<=(15:Int)))
     (some false)
     (some false))))
  (cond (decide ((0:Int)<=x_i.A))
   (cond (decide ((0:Int)<=x_i.N))
    (some false)
    (some false))
   (cond (decide ((0:Int)<=x_i.N))
    (some false)
    (some false)))
noncomputable def bMf:Sg tG:=⟨[.st 87],.one .b,rP⟩
theorem bPy:Sok 123 bMf:=sgx [] trivial .o kr kr kr
noncomputable def aCj  (s2:Bool):Option Bool:=
 cond s2
  (some true)
  (some false)
noncomputable def jC (x_i:DIns):Option Bool:=
 Option.bind (rP x_i) λv1=>
 cond (!v1)
  (some false)
  (Option.bind (cond (decide (x_i.Op=(0:Int)))
   (some (.go (decide (x_i.Op=(0:Int)))))
   (cond (decide (x_i.Op=(8:Int)))
    (some (.go (decide (x_i.Op=(8:Int)))))
    (cond (decide (x_i.Op=(9:Int)))
     (some (.go (decide (x_i.Op=(9:Int)))))
     (cond (decide (x_i.Op=(10:Int)))
      (some (.go (decide (x_i.Op=(10:Int)))))
      (cond (decide (x_i.Op=(11:Int)))
       (some (.go (decide (x_i.Op=(11:Int)))))
       (cond (decide (x_i.Op=(12:Int)))
        (some (.go (decide (x_i.Op=(12:Int)))))
        (cond (decide (x_i.Op=(13:Int)))
         (some (.go (decide (x_i.Op=(13:Int)))))
         (some (.go (decide (x_i.Op=(14:Int)))))))))))) λj2=>
   JO.run j2 aCj)
noncomputable def bFw:Sg tG:=⟨[.st 87],.one .b,jC⟩
theorem bMd:Sok 109 bFw:=sgx [(123,.r bMf)] ⟨bPy,trivial⟩ (.s .o (.s .o (.s (.s .o (.k (.j ⟨[],[],[(.s 8,.b)]⟩ .o .o))) .o))) kr kr kr
noncomputable def iP (x_w:Int):Option DIns:=
 Option.bind (eK x_w) λv1=>
 cond (!v1)
  (some (DIns.mk (0:Int) (0:Int) (0:Int)))
  (some (DIns.mk (w64 (Int.tdiv x_w (256:Int))) (Int.tmod (w64 (Int.tdiv x_w (64:Int))) (4:Int)) (Int.tmod x_w (64:Int))))
noncomputable def g61:Sg tG:=⟨[.i .i64],.one (.st 87),iP⟩
theorem s61:Sok 61 g61:=sgx [(29,.r g29)] ⟨s29,trivial⟩ .o kr kr kr
noncomputable def xK (x_c:DCore)(s1:Bool):Option DCore:=some (DCore.mk x_c.Regs x_c.Pc x_c.Root x_c.Vector x_c.Saved x_c.SavedUser x_c.Cause x_c.Bad (w64 (x_c.Timer-(1:Int))) s1 x_c.User x_c.On x_c.Stopped)
noncomputable def fG (x_c:DCore):Option DCore:=
 cond (decide (x_c.Timer=(0:Int)))
  (some x_c)
  (Option.bind (cond (decide ((w64 (x_c.Timer-(1:Int)))=(0:Int)))
   (some (.go true))
   (some (.go x_c.Waits))) λj1=>
   JO.run j1 (xK x_c))
noncomputable def g55:Sg tG:=⟨[.st 36],.one (.sb 36),fG⟩
theorem s55:Sok 55 g55:=sgx [] trivial (.s .o (.s .o (.s .o (.j ⟨[1,2],[],[(.c 1 9,.b)]⟩ .o .o)))) kr kr kr
noncomputable def dP (x_c:DCore):Option Bool:=
 cond x_c.Waits
  (some x_c.On)
  (some false)
noncomputable def g56:Sg tG:=⟨[.st 36],.one .b,dP⟩
theorem s56:Sok 56 g56:=sgx [] trivial .o kr kr kr
noncomputable def cC (x_c:DCore)(x_i:DIns):Option Int:=grd ((0:Int)<=(Int.tmod x_i.N (4:Int))/\(Int.tmod x_i.N (4:Int))<((List.length x_c.Regs:Nat):Int)) (some (Int.tmod (List.getD x_c.Regs (Int.toNat (Int.tmod x_i.N (4:Int))) default) (64:Int)))
noncomputable def aMe:Sg tG:=⟨[.st 36,.st 87],.one (.i .i64),cC⟩
theorem aSi:Sok 105 aMe:=sgx [] trivial .o kr kr kr
theorem aHh:LW 120 ⟨44,[.cell 8 true 2],.seq (.reg false (rg 120 0)) (.seq (.reg false (rg 120 1)) (.seq (.reg false (rg 120 2)) (.seq (.regd (rg 120 3) (rg 120 4)) (.seq (.regt (rg 120 5) (rg 120 6)) (.seq (.reg false (rg 120 7)) .ret)))))⟩:=kr
noncomputable def fS (x_h:DHost)(x_g:Int)(x_page:Int)(x_frame:Int):Option DHost:=
 Option.bind (bW x_h) λv1=>
 grd ((0:Int)<=x_g/\x_g<((List.length x_h.Guests:Nat):Int)) (grd ((0:Int)<=x_page/\x_page<((List.length (List.getD x_h.Guests (Int.toNat x_g) default).Pages:Nat):Int)) (Option.bind (gV v1.Words x_frame) λv2=>
  grd (List.length v2.1=(List.length v1.Words)) (grd (v2.2.1+v2.2.2<=List.length v2.1) (Option.bind (dK x_h.Words (DSlot.mk (List.getD (List.getD x_h.Guests (Int.toNat x_g) default).Pages (Int.toNat x_page) default).Frame (List.getD (List.getD x_h.Guests (Int.toNat x_g) default).Pages (Int.toNat x_page) default).Write (List.getD (List.getD x_h.Guests (Int.toNat x_g) default).Pages (Int.toNat x_page) default).Dirty)) λv3=>
   grd ((0:Int)<=x_g/\x_g<((List.length v1.Guests:Nat):Int)) (grd ((0:Int)<=x_page/\x_page<((List.length (List.getD v1.Guests (Int.toNat x_g) default).Pages:Nat):Int)) (some (DHost.mk (over v2.1 v2.2.1 v2.2.2 v3) (List.set v1.Guests (Int.toNat x_g) (DGuest.mk (List.getD v1.Guests (Int.toNat x_g) default).Live (DCore.mk ((List.getD v1.Guests (Int.toNat x_g) default).C).Regs ((List.getD v1.Guests (Int.toNat x_g) default).C).Pc ((List.getD v1.Guests (Int.toNat x_g) default).C).Root ((List.getD v1.Guests (Int.toNat x_g) default).C).Vector ((List.getD v1.Guests (Int.toNat x_g) default).C).Saved ((List.getD v1.Guests (Int.toNat x_g) default).C).SavedUser ((List.getD v1.Guests (Int.toNat x_g) default).C).Cause ((List.getD v1.Guests (Int.toNat x_g) default).C).Bad ((List.getD v1.Guests (Int.toNat x_g) default).C).Timer ((List.getD v1.Guests (Int.toNat x_g) default).C).Waits ((List.getD v1.Guests (Int.toNat x_g) default).C).User ((List.getD v1.Guests (Int.toNat x_g) default).C).On ((List.getD v1.Guests (Int.toNat x_g) default).C).Stopped) (List.set (List.getD v1.Guests (Int.toNat x_g) default).Pages (Int.toNat x_page) (DSlot.mk x_frame true (List.getD (List.getD x_h.Guests (Int.toNat x_g) default).Pages (Int.toNat x_page) default).Dirty)) (List.getD v1.Guests (Int.toNat x_g) default).In (List.getD v1.Guests (Int.toNat x_g) default).Out)))))))))
theorem aKe{x_h:DHost}{x_g:Int}{x_page:Int}{x_frame:Int}{R_:DHost}(hh:fS x_h x_g x_page x_frame=some R_):Fn Tryz.prog 120 [.agg (sW x_h),.int .i64 x_g,.int .i64 x_page,.int .i64 x_frame] (.agg [.own 3 1 (List.length R_.Words) (fl (eI .i64) R_.Words),.own 39 17 (List.length R_.Guests) (fl lJ R_.Guests)]):=by let z7:EH:=(0,some (rB26 x_h));let z8:=(1,ii x_g);let z9:EH:=(1,some ⟨26,[.nil,.nil]⟩);let z10:=(10,pp 5);let z11:=(2,ii x_page);let z12:=(3,ii x_frame);let z13:EV:=(34,.ptr 3 [] (0+(Int.toNat x_g)*17));let z14:EV:=(35,.ptr 3 [] (0+(Int.toNat x_g)*17+14));let z15:=(8,pp 1);let z16:=(9,pp 4);let z1:=List.getD x_h.Guests (Int.toNat x_g) default;let z3:=List.getD z1.Pages (Int.toNat x_page) default;let z4:=DSlot.mk x_frame true z3.Dirty;unfold fS at hh;refine Fn.start aHh [0,1,2,3] (E:=sp 44 [(0,.agg (sW x_h)),z8,z11,z12]) kr (v:= .agg [sw 0 R_.Words,.sref 1 [] 0 (List.length R_.Guests) 17]) (Hr:=[(1,some (rO39 R_.Guests)),(0,some (rI_3 R_.Words))]) (k:=2) kr (sy [1,2,3,4,8] [0,1] (sp 44 [z8,z11,z12,(4,pp 0),z15]) [z7,z9] 2 (Aw.sreg [1,2,3,4,8,9] [0,1,2,3,4] (yu 1 [(11,.agg (sW x_h))] [z7,z9] 2 ?_)));obtain⟨v1,hv1,hh⟩:=bind_some hh;let z17:EV:=(32,.sref 3 [] 0 (List.length v1.Guests) 17);let z2:=List.getD v1.Guests (Int.toNat x_g) default;let z5:=List.set z2.Pages (Int.toNat x_page) z4;let z6:=DGuest.mk z2.Live z2.C z5 z2.In z2.Out;let q1:Root:=(rO39 v1.Guests);let z18:=(3,some q1);let q2:Root:=(rI_3 v1.Words);let z19:=(2,some q2);refine ys (.call 20 [.t 11]) (some 12) (aMm (r:= .agg [.own 3 1 (List.length v1.Words) (fl (eI .i64) v1.Words),.own 39 17 (List.length v1.Guests) (fl lJ v1.Guests)]) (v:= .agg [sw 2 v1.Words,.sref 3 [] 0 (List.length v1.Guests) 17]) (Hr:=[z18,z19]) (n':=4) (aDi hv1) (aPg (vs:=[.agg (sW x_h)]) kr (qF (aN (bEr (aMt _))) yB)) nrr nrr kr ?_);let q3:Root:=⟨26,[sw 2 v1.Words,.sref 3 [] 0 (List.length v1.Guests) 17]⟩;let z20:=(4,some q3);refine yt (sp 44 [z8,z11,z12,(4,pp 0),z15,z16]) [z7,z9,z19,z18,z20] 5 (Aw.sreg [1,2,3,4,8,9,10] [0,1,2,3,4,5] (yu 3 [(13,.ptr 0 [] 1),(14,bo qI x_h.Guests),(15,ii x_g)] [z7,z9,z19,z18,z20] 5 ?_));obtain⟨hg3,hh⟩:=bD hh;refine ys (.iadr 17 (.t 14) (.t 15)) (some 16) (aNc (kd:= .i64) (c:=qI) (xs:=x_h.Guests) aSl dd kr kr hg3 ?_);refine yu 1 [(16,.bptr (fl qI x_h.Guests) (Int.toNat x_g*17)),(17,.bptr (fl qI x_h.Guests) (Int.toNat x_g*17+14))] [z7,z9,z19,z18,z20] 5 (ys (.load false 1 (.t 17)) (some 18) (bIb (c:=qI) (xs:=x_h.Guests) (o:=Int.toNat x_g*17+14) (i:=(Int.toNat x_g)) (off:=14) (v:=bo hC z1.Pages) aSl kr ltn ltn dd kr ?_));refine yu 1 [(18,bo hC z1.Pages),(19,ii x_page)] [z7,z9,z19,z18,z20] 5 ?_;obtain⟨hg4,hh⟩:=bD hh;refine ys (.iadr 3 (.t 18) (.t 19)) (some 20) (aNc (kd:= .i64) (c:=hC) (xs:=z1.Pages) qT dd kr kr hg4 ?_);refine ys (.load true 3 (.t 20)) (some 21) (aNx (c:=hC) (xs:=z1.Pages) (o:=Int.toNat x_page*3) (i:=(Int.toNat x_page)) (off:=0) (v:= .agg [ii z3.Frame,bb z3.Write,bb z3.Dirty]) qT kr ltn ltn dd kr ?_);let q4:Root:=⟨59,[ii z3.Frame,bb z3.Write,bb z3.Dirty]⟩;let z21:=(5,some q4);refine yt (sp 44 [z8,z11,z12,(4,pp 0),z15,z16,z10]) [z7,z9,z19,z18,z20,z21] 6 (Aw.sregd [1,2,3,8,9,10] [1,2,3,4,5] [2] kr (dj 3 (sp 44 [z8,z11,z12,(4,pp 0),z15,z16,z10,(22,pp 4),(23,sw 2 v1.Words),(24,ii x_frame)]) [z7,z9,z19,z18,z20,z21] 6 ?_));obtain⟨v2,hv2,hh⟩:=bind_some hh;let z22:EH:=(2,some (rI_3 v2.1));obtain⟨hg7,hh⟩:=bD hh;obtain⟨hg8,hh⟩:=bD hh;refine ds (.call 79 [.t 23,.t 24]) (some 25) (bId rfl (cf (.sref 2 [] (0+v2.2.1*1) v2.2.2 1) [z22] 6 [2] (xP hv2) [sw 2 v1.Words,ii x_frame] rz (hn cK gJ) zM (hn cK gJ) ⟨⟨⟨by decide,aNe rfl rfl⟩,Hld.un ?_⟩⟩));refine dt (sp 44 [z8,z11,z12,(4,pp 0),z15,z16,z10,(22,pp 4),(23,sw 2 v1.Words),(24,ii x_frame),(25,.sref 2 [] (0+v2.2.1*1) v2.2.2 1),(26,pp 0),(27,bo (eI .i64) x_h.Words),(28,.agg [ii z3.Frame,bb z3.Write,bb z3.Dirty])]) [z22,(2,none),z7,z9,z19,z18,z20,z21] 6 ?_;obtain⟨v3,hv3,hh⟩:=bind_some hh;refine ys (.call 132 [.t 27,.t 28]) (some 29) (aIv (r:=bo (eI .i64) v3) (v:=bo (eI .i64) v3) (Hr:=[]) (n':=6) (aFx hv3) (aPg (vs:=[bo (eI .i64) x_h.Words,.agg [ii z3.Frame,bb z3.Write,bb z3.Dirty]]) kr (qF (aN (aDv (eA fK))) (cz1 yB))) nrr kr ?_);let q5:Root:=(rI_3 (over v2.1 v2.2.1 v2.2.2 v3));let z23:=(2,some q5);refine ys (.cpy 1 (.t 25) (.t 29)) (some 30) (aJh (c:=(eI .i64)) (xs:=v2.1) (ys:=v3) (e:=3) (r:=2) (π:=[]) (o:=0+v2.2.1*1) (k:=v2.2.2) (i:=v2.2.1) (H':=[z23,z22,(2,none),z7,z9,z19,z18,z20,z21]) dJ (rpv kr (aTh (c:=(eI .i64)) (xs:=v3) dJ)) kr kr ltn ltn kr ?_);refine yt (sp 44 [z8,z11,z12,z15,z16,z10]) [z9,z23,z18,z20,z21] 6 (Aw.sregt [8,9] [1,2,3,4] ?_);obtain⟨hg12,hh⟩:=bD hh;refine qc (cs:=[(0:Int)<=x_g/\x_g<((List.length v1.Guests:Nat):Int)]) (E':=(sp 44 [z8,z11,z12,z15,z16,z10,(31,.ptr 4 [] 1),z17,(33,ii x_g),z13,z14])) (pre:=(List.take 5 (rg 120 5))) (L':=(List.drop 5 (rg 120 5))) kr (λK=>by kernel_rfl) (.cons hg12 .nil) (qs (.load false 1 (.t 35)) (some 36) (bPw rfl (bJh (c:=lJ) (xs:=v1.Guests) (e:=39) (r:=3) (π:=[]) (o:=0+(Int.toNat x_g)*17+14) (i:=(Int.toNat x_g)) (off:=14) (v:= .sref 3 [0+(Int.toNat x_g)*17+14+0] 0 (List.length z2.Pages) 3) aHk kr kr ltn ltn dd kr ?_)));obtain⟨hg11,hh⟩:=bD hh;refine qtt (cs:=[(0:Int)<=x_page/\x_page<((List.length z2.Pages:Nat):Int)]) (E':=(sp 44 [z8,z11,z12,z15,z16,z10,(31,.ptr 4 [] 1),z17,(33,ii x_g),z13,z14,(36,.sref 3 [0+(Int.toNat x_g)*17+14+0] 0 (List.length z2.Pages) 3),(37,ii x_page),(38,ii x_frame),(39,.ptr 5 [] 2),(40,bb z3.Dirty),(41,.agg [ii x_frame,bb true,bb z3.Dirty]),(42,.ptr 3 [0+(Int.toNat x_g)*17+14+0] (0+(Int.toNat x_page)*3))])) (λK=>by kernel_rfl) (.cons hg11 .nil) ?_;let q6:Root:=(rO39 (List.set v1.Guests (Int.toNat x_g) z6));refine ys (.store 3 (.t 42) (.t 41)) none (bHt (c:=hC) (xs:=z2.Pages) (e:=59) (r:=3) (π:=[0+(Int.toNat x_g)*17+14+0]) (o:=0+(Int.toNat x_page)*3) (i:=(Int.toNat x_page)) (off:=0) (vs:=[ii x_frame,bb true,bb z3.Dirty]) (y:=z4) (H':=[(3,some q6),z9,z23,z18,z20,z21]) qT kr kr kr (aDw (e:=39) (e':=59) (sz':=3) (m':=(List.length z2.Pages)) (cs':=(fl hC z2.Pages)) (c:=lJ) (xs:=v1.Guests) (i:=(Int.toNat x_g)) (off:=14) aHk kr ltn ltn dd rfl kr) ltn ltn dd kr (bCz (e:=39) (e':=59) (sz':=3) (m':=(List.length z2.Pages)) (cs':=(fl hC z2.Pages)) (ds:=(fl hC z5)) (c:=lJ) (xs:=v1.Guests) (i:=(Int.toNat x_g)) (off:=14) (y:=z6) (m2:=(List.length z5)) aHk kr ltn ltn dd rfl kr eqn kr rfl kr) ?_);refine yt (sp 44 [z15,z16]) [z9,z23,(3,some q6),z20] 6 (sy [8] [1,2,3] (sp 44 [z15]) [(1,some q3),z23,(3,some q6)] 6 (Aw.ret ?_));rw[eR hh];exact aFa (r':= .agg [sw 2 v1.Words,.sref 3 [] 0 (List.length v1.Guests) 17]) kr (Ent.list [some 2,some 3] rfl rfl (Nat.zero_le _) (xO (kR rz)) (hn rC (hn cK gJ)))
noncomputable def bIa:Sg tG:=⟨[.st 26,.i .i64,.i .i64,.i .i64],.one (.st 2026),fS⟩
theorem bLr:Sok 120 bIa:=λx_h x_g x_page x_frame R_ hh=>kc (aKe (x_h:=x_h) (x_g:=x_g) (x_page:=x_page) (x_frame:=x_frame) hh)
noncomputable def gN (x_h:DHost)(x_g:Int)(x_page:Int):Option (DHost×Bool):=
 Option.bind (kL x_h.Guests) λv1=>
 cond (decide (((List.length v1:Nat):Int)=(0:Int)))
  (some ((DHost.mk ([]:List Int) ([]:List DGuest)),false))
  (grd ((0:Int)<=(0:Int)/\(0:Int)<((List.length v1:Nat):Int)) (Option.bind (fS x_h x_g x_page (List.getD v1 0 default)) λv2=>
   some (v2,true)))
noncomputable def bFq:Sg tG:=⟨[.st 26,.i .i64,.i .i64],.two (.st 2026) .b,gN⟩
theorem bNn:Sok 119 bFq:=sgx [(131,.r bMl),(120,.r bIa)] ⟨bPi,bLr,trivial⟩ .o kr kr kr
noncomputable def mR (x_h:DHost)(x_g:Int)(x_page:Int):Option (DHost×Bool):=
 Option.bind (dZ x_h x_g) λv1=>
 cond (!v1)
  (some ((DHost.mk ([]:List Int) ([]:List DGuest)),false))
  (Option.bind (gW x_page) λv2=>
  cond (!v2)
   (some ((DHost.mk ([]:List Int) ([]:List DGuest)),false))
   (grd ((0:Int)<=x_g/\x_g<((List.length x_h.Guests:Nat):Int)) (grd ((0:Int)<=x_page/\x_page<((List.length (List.getD x_h.Guests (Int.toNat x_g) default).Pages:Nat):Int)) (cond (!decide ((List.getD (List.getD x_h.Guests (Int.toNat x_g) default).Pages (Int.toNat x_page) default).Frame=(-1:Int)))
    (Option.bind (bW x_h) λv3=>
    some (v3,true))
    (Option.bind (gN x_h x_g x_page) λv4=>
    some (v4.1,v4.2))))))
noncomputable def g98:Sg tG:=⟨[.st 26,.i .i64,.i .i64],.two (.st 2026) .b,mR⟩
theorem s98:Sok 98 g98:=sgx [(18,.r g18),(104,.r aQt),(20,.r g20),(119,.r bFq)] ⟨s18,aYj,s20,bNn,trivial⟩ .o kr kr kr
noncomputable def mK (x_h:DHost)(x_g:Int)(x_page:Int):Option (DHost×Bool):=
 Option.bind (dZ x_h x_g) λv1=>
 cond (!v1)
  (some ((DHost.mk ([]:List Int) ([]:List DGuest)),false))
  (Option.bind (gW x_page) λv2=>
  cond (!v2)
   (some ((DHost.mk ([]:List Int) ([]:List DGuest)),false))
   (grd ((0:Int)<=x_g/\x_g<((List.length x_h.Guests:Nat):Int)) (grd ((0:Int)<=x_page/\x_page<((List.length (List.getD x_h.Guests (Int.toNat x_g) default).Pages:Nat):Int)) (cond (decide ((List.getD (List.getD x_h.Guests (Int.toNat x_g) default).Pages (Int.toNat x_page) default).Frame=(-1:Int)))
    (some ((DHost.mk ([]:List Int) ([]:List DGuest)),false))
    (Option.bind (eP x_h.Guests) λv3=>
    grd ((0:Int)<=(List.getD (List.getD x_h.Guests (Int.toNat x_g) default).Pages (Int.toNat x_page) default).Frame/\(List.getD (List.getD x_h.Guests (Int.toNat x_g) default).Pages (Int.toNat x_page) default).Frame<((List.length v3:Nat):Int)) (cond (decide ((List.getD v3 (Int.toNat (List.getD (List.getD x_h.Guests (Int.toNat x_g) default).Pages (Int.toNat x_page) default).Frame) default)=(1:Int)))
     (Option.bind (fS x_h x_g x_page (List.getD (List.getD x_h.Guests (Int.toNat x_g) default).Pages (Int.toNat x_page) default).Frame) λv4=>
     some (v4,true))
     (Option.bind (gN x_h x_g x_page) λv5=>
     some (v5.1,v5.2))))))))
noncomputable def g99:Sg tG:=⟨[.st 26,.i .i64,.i .i64],.two (.st 2026) .b,mK⟩
theorem s99:Sok 99 g99:=sgx [(18,.r g18),(104,.r aQt),(71,.r g71),(120,.r bIa),(119,.r bFq)] ⟨s18,aYj,s71,bLr,bNn,trivial⟩ .o kr kr kr
noncomputable def lD (x_s:DShade)(x_addr:Int)(s2:Unit):Option (Int×Int):=some ((w64 ((w64 (x_s.Frame*(8:Int)))+(Int.tmod x_addr (8:Int)))),(0:Int))
noncomputable def kH (x_s:DShade)(x_addr:Int)(x_user:Bool)(x_write:Bool):Option (Int×Int):=
 Option.bind (fW (DEntry.mk x_s.There x_s.Write x_s.User x_s.Page) x_user x_write) λv1=>
 cond (!v1)
  (some ((-1:Int),(1:Int)))
  (cond (decide (x_s.Frame=(-1:Int)))
   (some ((-1:Int),(2:Int)))
   (Option.bind (cond x_write
    (cond (!x_s.Ready)
     (some (.out ((-1:Int),(3:Int))))
     (some (.go ())))
    (some (.go ()))) λj2=>
    JO.run j2 (lD x_s x_addr)))
noncomputable def bOa:Sg tG:=⟨[.st 121,.i .i64,.b,.b],.two (.i .i64) (.i .i64),kH⟩
theorem bQd:Sok 100 bOa:=sgx [(84,.r g84)] ⟨s84,trivial⟩ (.s .o (.s .o (.s .o (.s .o (.j ⟨[1,4],[],[]⟩ .o .o))))) kr kr kr
noncomputable def fD (x_h:DHost)(x_g:Int)(x_addr:Int):Option DShade:=
 Option.bind (oI x_h x_g (w64 (Int.tdiv x_addr (8:Int)))) λv1=>
 some v1
noncomputable def aZy:Sg tG:=⟨[.st 26,.i .i64,.i .i64],.one (.st 121),fD⟩
theorem bHu:Sok 101 aZy:=sgx [(121,.r bLq)] ⟨bQl,trivial⟩ .o kr kr kr
noncomputable def cU (x_h:DHost)(x_g:Int)(x_addr:Int)(x_write:Bool):Option (Int×Int):=
 Option.bind (fD x_h x_g x_addr) λv1=>
 grd ((0:Int)<=x_g/\x_g<((List.length x_h.Guests:Nat):Int)) (Option.bind (kH v1 x_addr ((List.getD x_h.Guests (Int.toNat x_g) default).C).User x_write) λv2=>
  some (v2.1,v2.2))
noncomputable def g77:Sg tG:=⟨[.st 26,.i .i64,.i .i64,.b],.two (.i .i64) (.i .i64),cU⟩
theorem s77:Sok 77 g77:=sgx [(101,.r aZy),(100,.r bOa)] ⟨bHu,bQd,trivial⟩ .o kr kr kr
noncomputable def gH (x_h:DHost)(x_g:Int)(x_addr:Int)(x_why:Int):Option DExit:=
 Option.bind (fD x_h x_g x_addr) λv1=>
 cond (decide (x_why=(2:Int)))
  (some (DExit.mk (2:Int) v1.Page (DIns.mk (0:Int) (0:Int) (0:Int))))
  (cond (decide (x_why=(3:Int)))
   (some (DExit.mk (3:Int) v1.Page (DIns.mk (0:Int) (0:Int) (0:Int))))
   (some (DExit.mk (0:Int) (0:Int) (DIns.mk (0:Int) (0:Int) (0:Int)))))
noncomputable def g96:Sg tG:=⟨[.st 26,.i .i64,.i .i64,.i .i64],.one (.st 98),gH⟩
theorem s96:Sok 96 g96:=sgx [(101,.r aZy)] ⟨bHu,trivial⟩ .o kr kr kr
noncomputable def pE (x_h:DHost)(x_g:Int)(x_i:DIns)(s2:Unit):Option DExit:=
 Option.bind (cC (DCore.mk ((List.getD x_h.Guests (Int.toNat x_g) default).C).Regs ((List.getD x_h.Guests (Int.toNat x_g) default).C).Pc ((List.getD x_h.Guests (Int.toNat x_g) default).C).Root ((List.getD x_h.Guests (Int.toNat x_g) default).C).Vector ((List.getD x_h.Guests (Int.toNat x_g) default).C).Saved ((List.getD x_h.Guests (Int.toNat x_g) default).C).SavedUser ((List.getD x_h.Guests (Int.toNat x_g) default).C).Cause ((List.getD x_h.Guests (Int.toNat x_g) default).C).Bad ((List.getD x_h.Guests (Int.toNat x_g) default).C).Timer ((List.getD x_h.Guests (Int.toNat x_g) default).C).Waits ((List.getD x_h.Guests (Int.toNat x_g) default).C).User ((List.getD x_h.Guests (Int.toNat x_g) default).C).On ((List.getD x_h.Guests (Int.toNat x_g) default).C).Stopped) x_i) λv3=>
 Option.bind (cU x_h x_g v3 (decide (x_i.Op=(4:Int)))) λv4=>
 Option.bind (gH x_h x_g v3 v4.2) λv5=>
 some v5
noncomputable def pG (x_h:DHost)(x_g:Int)(x_i:DIns)(s1:Unit):Option DExit:=
 Option.bind (cond (!decide (x_i.Op=(3:Int)))
  (cond (!decide (x_i.Op=(4:Int)))
   (some (.out (DExit.mk (0:Int) (0:Int) (DIns.mk (0:Int) (0:Int) (0:Int)))))
   (some (.go ())))
  (some (.go ()))) λj2=>
  JO.run j2 (pE x_h x_g x_i)
noncomputable def oF (x_h:DHost)(x_g:Int)(x_i:DIns):Option DExit:=
 grd ((0:Int)<=x_g/\x_g<((List.length x_h.Guests:Nat):Int)) (Option.bind (Option.bind (jC x_i) λv6=>
  cond v6
   (cond (!((List.getD x_h.Guests (Int.toNat x_g) default).C).User)
    (some (.out (DExit.mk (1:Int) (0:Int) x_i)))
    (some (.go ())))
   (some (.go ()))) λj1=>
  JO.run j1 (pG x_h x_g x_i))
noncomputable def g97:Sg tG:=⟨[.st 26,.i .i64,.st 87],.one (.st 98),oF⟩
theorem s97:Sok 97 g97:=sgx [(109,.r bFw),(105,.r aMe),(77,.r g77),(96,.r g96)] ⟨bMd,aSi,s77,s96,trivial⟩ (.s .o (.s .o (.j ⟨[1,3,5,6,7],[],[]⟩ .o (.j ⟨[1,3,5,6,7],[],[]⟩ .o .o)))) kr kr kr
noncomputable def lX (x_h:DHost)(x_g:Int):Option DExit:=
 grd ((0:Int)<=x_g/\x_g<((List.length x_h.Guests:Nat):Int)) (cond ((List.getD x_h.Guests (Int.toNat x_g) default).C).Stopped
  (some (DExit.mk (0:Int) (0:Int) (DIns.mk (0:Int) (0:Int) (0:Int))))
  (Option.bind (fG (DCore.mk ((List.getD x_h.Guests (Int.toNat x_g) default).C).Regs ((List.getD x_h.Guests (Int.toNat x_g) default).C).Pc ((List.getD x_h.Guests (Int.toNat x_g) default).C).Root ((List.getD x_h.Guests (Int.toNat x_g) default).C).Vector ((List.getD x_h.Guests (Int.toNat x_g) default).C).Saved ((List.getD x_h.Guests (Int.toNat x_g) default).C).SavedUser ((List.getD x_h.Guests (Int.toNat x_g) default).C).Cause ((List.getD x_h.Guests (Int.toNat x_g) default).C).Bad ((List.getD x_h.Guests (Int.toNat x_g) default).C).Timer ((List.getD x_h.Guests (Int.toNat x_g) default).C).Waits ((List.getD x_h.Guests (Int.toNat x_g) default).C).User ((List.getD x_h.Guests (Int.toNat x_g) default).C).On ((List.getD x_h.Guests (Int.toNat x_g) default).C).Stopped)) λv1=>
  Option.bind (dP v1) λv2=>
  cond v2
   (some (DExit.mk (0:Int) (0:Int) (DIns.mk (0:Int) (0:Int) (0:Int))))
   (Option.bind (cU x_h x_g ((List.getD x_h.Guests (Int.toNat x_g) default).C).Pc false) λv3=>
   cond (!decide (v3.2=(0:Int)))
    (Option.bind (gH x_h x_g ((List.getD x_h.Guests (Int.toNat x_g) default).C).Pc v3.2) λv4=>
    some v4)
    (grd ((0:Int)<=v3.1/\v3.1<((List.length x_h.Words:Nat):Int)) (Option.bind (iP (List.getD x_h.Words (Int.toNat v3.1) default)) λv5=>
     Option.bind (oF x_h x_g v5) λv6=>
     some v6)))))
noncomputable def g72:Sg tG:=⟨[.st 26,.i .i64],.one (.st 98),lX⟩
theorem s72:Sok 72 g72:=sgx [(55,.r g55),(56,.r g56),(77,.r g77),(96,.r g96),(61,.r g61),(97,.r g97)] ⟨s55,s56,s77,s96,s61,s97,trivial⟩ .o kr kr kr
noncomputable def jA (x_pc:Int):Option Int:=some (Int.tmod (w64 (x_pc+(1:Int))) (64:Int))
noncomputable def bGi:Sg tG:=⟨[.i .i64],.one (.i .i64),jA⟩
theorem bMu:Sok 122 bGi:=sgx [] trivial .o kr kr kr
noncomputable def dM (x_b:DBare):Option DBare:=
 Option.bind (jA x_b.C.Pc) λv1=>
 some (DBare.mk (DCore.mk x_b.C.Regs v1 x_b.C.Root x_b.C.Vector x_b.C.Saved x_b.C.SavedUser x_b.C.Cause x_b.C.Bad x_b.C.Timer x_b.C.Waits x_b.C.User x_b.C.On x_b.C.Stopped) x_b.Mem x_b.In x_b.Out)
noncomputable def aMs:Sg tG:=⟨[.st 42],.one (.sb 42),dM⟩
theorem aRq:Sok 108 aMs:=sgx [(122,.r bGi)] ⟨bMu,trivial⟩ .o kr kr kr
noncomputable def xY (x_c:DCore):Option DCore:=some (DCore.mk x_c.Regs x_c.Saved x_c.Root x_c.Vector x_c.Saved x_c.SavedUser x_c.Cause x_c.Bad x_c.Timer x_c.Waits x_c.SavedUser true x_c.Stopped)
noncomputable def bOg:Sg tG:=⟨[.st 36],.one (.sb 36),xY⟩
theorem bQf:Sok 126 bOg:=sgx [] trivial .o kr kr kr
noncomputable def mL (x_word:Int):Option Int:=
 Option.bind (gW (Int.tmod x_word (16:Int))) λv1=>
 cond (!v1)
  (some (-1:Int))
  (some (Int.tmod x_word (16:Int)))
noncomputable def bNz:Sg tG:=⟨[.i .i64],.one (.i .i64),mL⟩
theorem bPv:Sok 127 bNz:=sgx [(104,.r aQt)] ⟨aYj,trivial⟩ .o kr kr kr
noncomputable def nW (x_out:List Int)(x_word:Int):Option (List Int):=
 cond (decide ((30:Int)<=((List.length x_out:Nat):Int)))
  (some x_out)
  (Option.bind (cG x_out) λv1=>
  grd ((List.length v1+List.length ([x_word]:List Int))*8<=2^47/\List.length v1+List.length ([x_word]:List Int)<=2^47) (some (v1++([x_word]:List Int))))
noncomputable def bNp:Sg tG:=⟨[.row 3,.i .i64],.one (.rb 3),nW⟩
theorem bQi:Sok 128 bNp:=sgx [(40,.r g40)] ⟨s40,trivial⟩ .o kr kr kr
noncomputable def iO (x_list:List Int)(x_at:Int)(x_w:Int):Option (List Int):=
 Option.bind (cG x_list) λv1=>
 grd ((0:Int)<=x_at/\x_at<((List.length v1:Nat):Int)) (some (List.set v1 (Int.toNat x_at) x_w))
noncomputable def aZn:Sg tG:=⟨[.row 3,.i .i64,.i .i64],.one (.row 3),iO⟩
theorem bGm:Sok 107 aZn:=sgx [(40,.r g40)] ⟨s40,trivial⟩ .o kr kr kr
noncomputable def nZ (x_b:DBare)(x_kind:Int):Option Int:=
 cond (decide (x_kind=(1:Int)))
  (some x_b.C.Cause)
  (cond (decide (x_kind=(2:Int)))
   (some x_b.C.Bad)
   (cond (decide (x_kind=(3:Int)))
    (some x_b.C.Saved)
    (cond (decide (((List.length x_b.In:Nat):Int)=(0:Int)))
     (some (0:Int))
     (grd ((0:Int)<=(0:Int)/\(0:Int)<((List.length x_b.In:Nat):Int)) (some (List.getD x_b.In (Int.toNat (0:Int)) default))))))
noncomputable def bNa:Sg tG:=⟨[.st 42,.i .i64],.one (.i .i64),nZ⟩
theorem bQa:Sok 134 bNa:=sgx [] trivial .o kr kr kr
noncomputable def aHb (x_b:DBare)(v2:List Int)(s3:List Int):Option DBare:=some (DBare.mk (DCore.mk v2 x_b.C.Pc x_b.C.Root x_b.C.Vector x_b.C.Saved x_b.C.SavedUser x_b.C.Cause x_b.C.Bad x_b.C.Timer x_b.C.Waits x_b.C.User x_b.C.On x_b.C.Stopped) x_b.Mem s3 x_b.Out)
noncomputable def pR (x_b:DBare)(x_i:DIns):Option DBare:=
 Option.bind (nZ x_b (Int.tmod x_i.N (4:Int))) λv1=>
 Option.bind (iO x_b.C.Regs x_i.A v1) λv2=>
 Option.bind (cond (decide ((Int.tmod x_i.N (4:Int))=(0:Int)))
  (cond (decide ((0:Int)<((List.length x_b.In:Nat):Int)))
   (grd ((0:Int)<=(1:Int)/\(1:Int)<=((List.length x_b.In:Nat):Int)/\((List.length x_b.In:Nat):Int)<=((List.length x_b.In:Nat):Int)) (some (.go (List.take (Int.toNat ((List.length x_b.In:Nat):Int)-Int.toNat (1:Int)) (List.drop (Int.toNat (1:Int)) x_b.In)))))
   (some (.go x_b.In)))
  (some (.go x_b.In))) λj3=>
  JO.run j3 (aHb x_b v2)
noncomputable def bOe:Sg tG:=⟨[.st 42,.st 87],.one (.sb 42),pR⟩
theorem bPo:Sok 129 bOe:=sgx [(134,.r bNa),(107,.r aZn)] ⟨bQa,bGm,trivial⟩ (.s .o (.s .o (.s .o (.j ⟨[2,4],[],[(.c 2 14,.rb 3)]⟩ .o .o)))) kr kr kr
noncomputable def fN  (s1:Int×Int×Int×Bool×(List Int)×(List Int)×Int×Int×Bool×Int×Int×Bool×Bool×Bool×(List Int)×(List Int)):Option DBare:=
 Option.bind (dM (DBare.mk (DCore.mk s1.2.2.2.2.2.1 s1.2.2.2.2.2.2.1 s1.1 s1.2.1 s1.2.2.2.2.2.2.2.1 s1.2.2.2.2.2.2.2.2.1 s1.2.2.2.2.2.2.2.2.2.1 s1.2.2.2.2.2.2.2.2.2.2.1 s1.2.2.1 s1.2.2.2.2.2.2.2.2.2.2.2.1 s1.2.2.2.2.2.2.2.2.2.2.2.2.1 s1.2.2.2.1 s1.2.2.2.2.2.2.2.2.2.2.2.2.2.1) s1.2.2.2.2.2.2.2.2.2.2.2.2.2.2.1 s1.2.2.2.2.2.2.2.2.2.2.2.2.2.2.2 s1.2.2.2.2.1)) λv2=>
 some v2
noncomputable def lH (x_b:DBare)(x_i:DIns):Option DBare:=
 grd ((0:Int)<=x_i.A/\x_i.A<((List.length x_b.C.Regs:Nat):Int)) (Option.bind (cond (decide (x_i.Op=(0:Int)))
  (some (.out (DBare.mk (DCore.mk x_b.C.Regs x_b.C.Pc x_b.C.Root x_b.C.Vector x_b.C.Saved x_b.C.SavedUser x_b.C.Cause x_b.C.Bad x_b.C.Timer x_b.C.Waits x_b.C.User x_b.C.On true) x_b.Mem x_b.In x_b.Out)))
  (cond (decide (x_i.Op=(11:Int)))
   (Option.bind (xY x_b.C) λv3=>
   some (.out (DBare.mk v3 x_b.Mem x_b.In x_b.Out)))
   (cond (decide (x_i.Op=(8:Int)))
    (Option.bind (mL (List.getD x_b.C.Regs (Int.toNat x_i.A) default)) λv4=>
    some (.go (v4,x_b.C.Vector,x_b.C.Timer,x_b.C.On,x_b.Out,x_b.C.Regs,x_b.C.Pc,x_b.C.Saved,x_b.C.SavedUser,x_b.C.Cause,x_b.C.Bad,x_b.C.Waits,x_b.C.User,x_b.C.Stopped,x_b.Mem,x_b.In)))
    (cond (decide (x_i.Op=(9:Int)))
     (some (.go (x_b.C.Root,Int.tmod (List.getD x_b.C.Regs (Int.toNat x_i.A) default) (64:Int),x_b.C.Timer,x_b.C.On,x_b.Out,x_b.C.Regs,x_b.C.Pc,x_b.C.Saved,x_b.C.SavedUser,x_b.C.Cause,x_b.C.Bad,x_b.C.Waits,x_b.C.User,x_b.C.Stopped,x_b.Mem,x_b.In)))
     (cond (decide (x_i.Op=(10:Int)))
      (some (.go (x_b.C.Root,x_b.C.Vector,List.getD x_b.C.Regs (Int.toNat x_i.A) default,x_b.C.On,x_b.Out,x_b.C.Regs,x_b.C.Pc,x_b.C.Saved,x_b.C.SavedUser,x_b.C.Cause,x_b.C.Bad,x_b.C.Waits,x_b.C.User,x_b.C.Stopped,x_b.Mem,x_b.In)))
      (cond (decide (x_i.Op=(12:Int)))
       (some (.go (x_b.C.Root,x_b.C.Vector,x_b.C.Timer,decide ((Int.tmod x_i.N (2:Int))=(1:Int)),x_b.Out,x_b.C.Regs,x_b.C.Pc,x_b.C.Saved,x_b.C.SavedUser,x_b.C.Cause,x_b.C.Bad,x_b.C.Waits,x_b.C.User,x_b.C.Stopped,x_b.Mem,x_b.In)))
       (cond (decide (x_i.Op=(13:Int)))
        (Option.bind (nW x_b.Out (List.getD x_b.C.Regs (Int.toNat x_i.A) default)) λv5=>
        some (.go (x_b.C.Root,x_b.C.Vector,x_b.C.Timer,x_b.C.On,v5,x_b.C.Regs,x_b.C.Pc,x_b.C.Saved,x_b.C.SavedUser,x_b.C.Cause,x_b.C.Bad,x_b.C.Waits,x_b.C.User,x_b.C.Stopped,x_b.Mem,x_b.In)))
        (cond (decide (x_i.Op=(14:Int)))
         (Option.bind (pR x_b x_i) λv6=>
         some (.go (v6.C.Root,v6.C.Vector,v6.C.Timer,v6.C.On,v6.Out,v6.C.Regs,v6.C.Pc,v6.C.Saved,v6.C.SavedUser,v6.C.Cause,v6.C.Bad,v6.C.Waits,v6.C.User,v6.C.Stopped,v6.Mem,v6.In)))
         (some (.go (x_b.C.Root,x_b.C.Vector,x_b.C.Timer,x_b.C.On,x_b.Out,x_b.C.Regs,x_b.C.Pc,x_b.C.Saved,x_b.C.SavedUser,x_b.C.Cause,x_b.C.Bad,x_b.C.Waits,x_b.C.User,x_b.C.Stopped,x_b.Mem,x_b.In))))))))))) λj1=>
  JO.run j1 fN)
noncomputable def bNy:Sg tG:=⟨[.st 42,.st 87],.one (.sb 42),lH⟩
theorem bQj:Sok 111 bNy:=sgx [(126,.r bOg),(127,.r bNz),(128,.r bNp),(129,.r bOe),(108,.r aMs)] ⟨bQf,bPv,bQi,bPo,aRq,trivial⟩ (.s .o (.s .o (.j ⟨[2,4],[],[(.c 2 2,.i .i64),(.c 2 3,.i .i64),(.c 2 8,.i .i64),(.c 2 11,.b),(.c 2 15,.rb 3),(.c 2 0,.rb 3),(.c 2 1,.i .i64),(.c 2 4,.i .i64),(.c 2 5,.b),(.c 2 6,.i .i64),(.c 2 7,.i .i64),(.c 2 9,.b),(.c 2 10,.b),(.c 2 12,.b),(.c 2 13,.rb 3),(.c 2 14,.rb 3)]⟩ .o .o))) kr kr kr
noncomputable def bL (x_h:DHost)(x_g:Int)(x_b:DBare):Option DHost:=
 Option.bind (bW x_h) λv1=>
 Option.bind (cL x_b) λv2=>
 grd ((0:Int)<=x_g/\x_g<((List.length v1.Guests:Nat):Int)) (grd ((0:Int)<=x_g/\x_g<((List.length v1.Guests:Nat):Int)) (grd ((0:Int)<=x_g/\x_g<((List.length v1.Guests:Nat):Int)) (some (DHost.mk v1.Words (let z0:=List.set v1.Guests (Int.toNat x_g) (DGuest.mk (List.getD v1.Guests (Int.toNat x_g) default).Live v2.C (List.getD v1.Guests (Int.toNat x_g) default).Pages (List.getD v1.Guests (Int.toNat x_g) default).In (List.getD v1.Guests (Int.toNat x_g) default).Out);let z1:=List.set z0 (Int.toNat x_g) (DGuest.mk (List.getD z0 (Int.toNat x_g) default).Live (DCore.mk ((List.getD z0 (Int.toNat x_g) default).C).Regs ((List.getD z0 (Int.toNat x_g) default).C).Pc ((List.getD z0 (Int.toNat x_g) default).C).Root ((List.getD z0 (Int.toNat x_g) default).C).Vector ((List.getD z0 (Int.toNat x_g) default).C).Saved ((List.getD z0 (Int.toNat x_g) default).C).SavedUser ((List.getD z0 (Int.toNat x_g) default).C).Cause ((List.getD z0 (Int.toNat x_g) default).C).Bad ((List.getD z0 (Int.toNat x_g) default).C).Timer ((List.getD z0 (Int.toNat x_g) default).C).Waits ((List.getD z0 (Int.toNat x_g) default).C).User ((List.getD z0 (Int.toNat x_g) default).C).On ((List.getD z0 (Int.toNat x_g) default).C).Stopped) (List.getD z0 (Int.toNat x_g) default).Pages v2.In (List.getD z0 (Int.toNat x_g) default).Out);List.set z1 (Int.toNat x_g) (DGuest.mk (List.getD z1 (Int.toNat x_g) default).Live (DCore.mk ((List.getD z1 (Int.toNat x_g) default).C).Regs ((List.getD z1 (Int.toNat x_g) default).C).Pc ((List.getD z1 (Int.toNat x_g) default).C).Root ((List.getD z1 (Int.toNat x_g) default).C).Vector ((List.getD z1 (Int.toNat x_g) default).C).Saved ((List.getD z1 (Int.toNat x_g) default).C).SavedUser ((List.getD z1 (Int.toNat x_g) default).C).Cause ((List.getD z1 (Int.toNat x_g) default).C).Bad ((List.getD z1 (Int.toNat x_g) default).C).Timer ((List.getD z1 (Int.toNat x_g) default).C).Waits ((List.getD z1 (Int.toNat x_g) default).C).User ((List.getD z1 (Int.toNat x_g) default).C).On ((List.getD z1 (Int.toNat x_g) default).C).Stopped) (List.getD z1 (Int.toNat x_g) default).Pages (List.getD z1 (Int.toNat x_g) default).In v2.Out))))))
noncomputable def g76:Sg tG:=⟨[.st 26,.i .i64,.st 42],.one (.st 2026),bL⟩
theorem s76:Sok 76 g76:=sgx [(20,.r g20),(32,.r g32)] ⟨s20,s32,trivial⟩ (.s .o (.s .o (.s .o (.s (.g [] [] [.fo (.c 7 1) 0]) (.s (.g [] [] [.fo (.c 7 1) 0]) (.s (.g [] [] [.fo (.c 7 1) 0]) .o)))))) kr kr kr
noncomputable def lF (x_h:DHost)(x_g:Int):Option DBare:=grd ((0:Int)<=x_g/\x_g<((List.length x_h.Guests:Nat):Int)) (some (DBare.mk (DCore.mk ((List.getD x_h.Guests (Int.toNat x_g) default).C).Regs ((List.getD x_h.Guests (Int.toNat x_g) default).C).Pc ((List.getD x_h.Guests (Int.toNat x_g) default).C).Root ((List.getD x_h.Guests (Int.toNat x_g) default).C).Vector ((List.getD x_h.Guests (Int.toNat x_g) default).C).Saved ((List.getD x_h.Guests (Int.toNat x_g) default).C).SavedUser ((List.getD x_h.Guests (Int.toNat x_g) default).C).Cause ((List.getD x_h.Guests (Int.toNat x_g) default).C).Bad ((List.getD x_h.Guests (Int.toNat x_g) default).C).Timer ((List.getD x_h.Guests (Int.toNat x_g) default).C).Waits ((List.getD x_h.Guests (Int.toNat x_g) default).C).User ((List.getD x_h.Guests (Int.toNat x_g) default).C).On ((List.getD x_h.Guests (Int.toNat x_g) default).C).Stopped) ([]:List Int) (List.getD x_h.Guests (Int.toNat x_g) default).In (List.getD x_h.Guests (Int.toNat x_g) default).Out))
noncomputable def g75:Sg tG:=⟨[.st 26,.i .i64],.one (.sb 42),lF⟩
theorem s75:Sok 75 g75:=sgx [] trivial .o kr kr kr
noncomputable def kS (x_c:DCore)(x_cause:Int)(x_bad:Int)(x_saved:Int):Option DCore:=some (DCore.mk x_c.Regs x_c.Vector x_c.Root x_c.Vector x_saved x_c.User x_cause x_bad x_c.Timer x_c.Waits false false x_c.Stopped)
noncomputable def g82:Sg tG:=⟨[.st 36,.i .i64,.i .i64,.i .i64],.one (.sb 36),kS⟩
theorem s82:Sok 82 g82:=sgx [] trivial .o kr kr kr
noncomputable def eC (x_b:DBare)(x_a:Int)(x_w:Int):Option DBare:=
 Option.bind (iO x_b.C.Regs x_a x_w) λv1=>
 Option.bind (dM (DBare.mk (DCore.mk v1 x_b.C.Pc x_b.C.Root x_b.C.Vector x_b.C.Saved x_b.C.SavedUser x_b.C.Cause x_b.C.Bad x_b.C.Timer x_b.C.Waits x_b.C.User x_b.C.On x_b.C.Stopped) x_b.Mem x_b.In x_b.Out)) λv2=>
 some v2
noncomputable def bAj:Sg tG:=⟨[.st 42,.i .i64,.i .i64],.one (.sb 42),eC⟩
theorem bHy:Sok 106 bAj:=sgx [(107,.r aZn),(108,.r aMs)] ⟨bGm,aRq,trivial⟩ (.s .o (.s .o (.s (.g [.fr (.c 3 0) 0] [] []) .o))) kr kr kr
noncomputable def aHt (x_b:DBare)(x_i:DIns)(s1:Unit):Option DBare:=some (DBare.mk (DCore.mk x_b.C.Regs x_i.N x_b.C.Root x_b.C.Vector x_b.C.Saved x_b.C.SavedUser x_b.C.Cause x_b.C.Bad x_b.C.Timer x_b.C.Waits x_b.C.User x_b.C.On x_b.C.Stopped) x_b.Mem x_b.In x_b.Out)
noncomputable def qC (x_b:DBare)(x_i:DIns):Option DBare:=
 Option.bind (cond (decide (x_i.Op=(6:Int)))
  (grd ((0:Int)<=x_i.A/\x_i.A<((List.length x_b.C.Regs:Nat):Int)) (cond (decide ((List.getD x_b.C.Regs (Int.toNat x_i.A) default)=(0:Int)))
   (Option.bind (dM x_b) λv2=>
   some (.out v2))
   (some (.go ()))))
  (some (.go ()))) λj1=>
  JO.run j1 (aHt x_b x_i)
noncomputable def bLk:Sg tG:=⟨[.st 42,.st 87],.one (.sb 42),qC⟩
theorem bPt:Sok 124 bLk:=sgx [(108,.r aMs)] ⟨aRq,trivial⟩ (.s .o (.j ⟨[2,3,4],[],[]⟩ .o .o)) kr kr kr
noncomputable def oC (x_regs:List Int)(x_i:DIns):Option Int:=
 grd ((0:Int)<=(Int.tmod x_i.N (4:Int))/\(Int.tmod x_i.N (4:Int))<((List.length x_regs:Nat):Int)) (cond (decide (x_i.Op=(2:Int)))
  (grd ((0:Int)<=x_i.A/\x_i.A<((List.length x_regs:Nat):Int)) (some (Int.tmod (w64 ((List.getD x_regs (Int.toNat x_i.A) default)+(List.getD x_regs (Int.toNat (Int.tmod x_i.N (4:Int))) default))) (4096:Int))))
  (cond (decide (x_i.Op=(15:Int)))
   (grd ((0:Int)<=x_i.A/\x_i.A<((List.length x_regs:Nat):Int)) (some (Int.tmod (w64 ((w64 ((List.getD x_regs (Int.toNat x_i.A) default)-(List.getD x_regs (Int.toNat (Int.tmod x_i.N (4:Int))) default)))+(4096:Int))) (4096:Int))))
   (some x_i.N)))
noncomputable def bNt:Sg tG:=⟨[.row 3,.st 87],.one (.i .i64),oC⟩
theorem bQe:Sok 125 bNt:=sgx [] trivial .o kr kr kr
noncomputable def vO (x_b:DBare)(x_i:DIns)(s3:Bool):Option DBare:=
 cond s3
  (Option.bind (qC x_b x_i) λv4=>
  some v4)
  (Option.bind (oC x_b.C.Regs x_i) λv5=>
  Option.bind (eC x_b x_i.A v5) λv6=>
  some v6)
noncomputable def oG (x_b:DBare)(x_i:DIns):Option DBare:=
 cond (decide (x_i.Op=(7:Int)))
  (Option.bind (jA x_b.C.Pc) λv1=>
  Option.bind (kS x_b.C (1:Int) (0:Int) v1) λv2=>
  some (DBare.mk v2 x_b.Mem x_b.In x_b.Out))
  (Option.bind (cond (decide (x_i.Op=(5:Int)))
   (some (.go (decide (x_i.Op=(5:Int)))))
   (some (.go (decide (x_i.Op=(6:Int)))))) λj3=>
   JO.run j3 (vO x_b x_i))
noncomputable def bLh:Sg tG:=⟨[.st 42,.st 87],.one (.sb 42),oG⟩
theorem bPx:Sok 110 bLh:=sgx [(122,.r bGi),(82,.r g82),(124,.r bLk),(125,.r bNt),(106,.r bAj)] ⟨bMu,s82,bPt,bQe,bHy,trivial⟩ (.s .o (.s (.s .o (.k (.s .o (.c .o (.j ⟨[2,3,4],[],[(.s 18,.b)]⟩ .o .o))))) .o)) kr kr kr
noncomputable def jD (x_b:DBare)(x_i:DIns):Option DBare:=
 Option.bind (jC x_i) λv1=>
 cond (!v1)
  (Option.bind (oG x_b x_i) λv2=>
  some v2)
  (cond x_b.C.User
   (Option.bind (kS x_b.C (3:Int) (0:Int) x_b.C.Pc) λv3=>
   some (DBare.mk v3 x_b.Mem x_b.In x_b.Out))
   (Option.bind (lH x_b x_i) λv4=>
   some v4))
noncomputable def g87:Sg tG:=⟨[.st 42,.st 87],.one (.sb 42),jD⟩
theorem s87:Sok 87 g87:=sgx [(109,.r bFw),(110,.r bLh),(82,.r g82),(111,.r bNy)] ⟨bMd,bPx,s82,bQj,trivial⟩ .o kr kr kr
noncomputable def jP (x_c:DCore):Option DCore:=
 Option.bind (kS (DCore.mk x_c.Regs x_c.Pc x_c.Root x_c.Vector x_c.Saved x_c.SavedUser x_c.Cause x_c.Bad x_c.Timer false x_c.User x_c.On x_c.Stopped) (4:Int) (0:Int) x_c.Pc) λv1=>
 some v1
noncomputable def g57:Sg tG:=⟨[.st 36],.one (.sb 36),jP⟩
theorem s57:Sok 57 g57:=sgx [(82,.r g82)] ⟨s82,trivial⟩ .o kr kr kr
noncomputable def eS (x_b:DBare)(x_addr:Int):Option DBare:=
 Option.bind (kS x_b.C (2:Int) x_addr x_b.C.Pc) λv1=>
 some (DBare.mk v1 x_b.Mem x_b.In x_b.Out)
noncomputable def g59:Sg tG:=⟨[.st 42,.i .i64],.one (.sb 42),eS⟩
theorem s59:Sok 59 g59:=sgx [(82,.r g82)] ⟨s82,trivial⟩ .o kr kr kr
noncomputable def pQ (x_b:DBare)(x_i:DIns):Option DBare:=
 Option.bind (cC x_b.C x_i) λv1=>
 Option.bind (mE x_b.Mem x_b.C.Root v1 x_b.C.User false) λv2=>
 cond (decide (v2=(-1:Int)))
  (Option.bind (eS x_b v1) λv3=>
  some v3)
  (grd ((0:Int)<=v2/\v2<((List.length x_b.Mem:Nat):Int)) (Option.bind (eC x_b x_i.A (List.getD x_b.Mem (Int.toNat v2) default)) λv4=>
   some v4))
noncomputable def g85:Sg tG:=⟨[.st 42,.st 87],.one (.sb 42),pQ⟩
theorem s85:Sok 85 g85:=sgx [(105,.r aMe),(58,.r g58),(59,.r g59),(106,.r bAj)] ⟨aSi,s58,s59,bHy,trivial⟩ .o kr kr kr
noncomputable def pT (x_b:DBare)(x_i:DIns):Option DBare:=
 Option.bind (cC x_b.C x_i) λv1=>
 Option.bind (mE x_b.Mem x_b.C.Root v1 x_b.C.User true) λv2=>
 cond (decide (v2=(-1:Int)))
  (Option.bind (eS x_b v1) λv3=>
  some v3)
  (grd ((0:Int)<=x_i.A/\x_i.A<((List.length x_b.C.Regs:Nat):Int)) (Option.bind (iO x_b.Mem v2 (List.getD x_b.C.Regs (Int.toNat x_i.A) default)) λv4=>
   Option.bind (dM (DBare.mk x_b.C v4 x_b.In x_b.Out)) λv5=>
   some v5))
noncomputable def g86:Sg tG:=⟨[.st 42,.st 87],.one (.sb 42),pT⟩
theorem s86:Sok 86 g86:=sgx [(105,.r aMe),(58,.r g58),(59,.r g59),(107,.r aZn),(108,.r aMs)] ⟨aSi,s58,s59,bGm,aRq,trivial⟩ (.s .o (.s .o (.s .o (.s .o (.s .o (.s (.g [.fr (.c 2 13) 0] [] []) .o)))))) kr kr kr
noncomputable def sN (x_b:DBare)(x_i:DIns):Option DBare:=
 cond (decide (x_i.Op=(3:Int)))
  (Option.bind (pQ x_b x_i) λv1=>
  some v1)
  (cond (decide (x_i.Op=(4:Int)))
   (Option.bind (pT x_b x_i) λv2=>
   some v2)
   (Option.bind (jD x_b x_i) λv3=>
   some v3))
noncomputable def g60:Sg tG:=⟨[.st 42,.st 87],.one (.sb 42),sN⟩
theorem s60:Sok 60 g60:=sgx [(85,.r g85),(86,.r g86),(87,.r g87)] ⟨s85,s86,s87,trivial⟩ .o kr kr kr
noncomputable def kU (x_b:DBare):Option DBare:=
 cond x_b.C.Stopped
  (some x_b)
  (Option.bind (fG x_b.C) λv1=>
  Option.bind (dP v1) λv2=>
  cond v2
   (Option.bind (jP v1) λv3=>
   some (DBare.mk v3 x_b.Mem x_b.In x_b.Out))
   (Option.bind (mE x_b.Mem v1.Root v1.Pc v1.User false) λv4=>
   cond (decide (v4=(-1:Int)))
    (Option.bind (eS (DBare.mk v1 x_b.Mem x_b.In x_b.Out) v1.Pc) λv5=>
    some v5)
    (grd ((0:Int)<=v4/\v4<((List.length x_b.Mem:Nat):Int)) (Option.bind (iP (List.getD x_b.Mem (Int.toNat v4) default)) λv6=>
     Option.bind (sN (DBare.mk (DCore.mk v1.Regs v1.Pc v1.Root v1.Vector v1.Saved v1.SavedUser v1.Cause v1.Bad v1.Timer v1.Waits v1.User v1.On v1.Stopped) x_b.Mem x_b.In x_b.Out) v6) λv7=>
     some v7))))
noncomputable def g36:Sg tG:=⟨[.st 42],.one (.sb 42),kU⟩
theorem s36:Sok 36 g36:=sgx [(55,.r g55),(56,.r g56),(57,.r g57),(58,.r g58),(59,.r g59),(61,.r g61),(60,.r g60)] ⟨s55,s56,s57,s58,s59,s61,s60,trivial⟩ .o kr kr kr
noncomputable def dV (x_e:DExit):Option Bool:=
 cond (decide (x_e.Why=(2:Int)))
  (some true)
  (some (decide (x_e.Why=(3:Int))))
noncomputable def g73:Sg tG:=⟨[.st 98],.one .b,dV⟩
theorem s73:Sok 73 g73:=sgx [] trivial .o kr kr kr
noncomputable def gU (x_h:DHost)(x_g:Int)(x_e:DExit):Option (DHost×Bool):=
 cond (decide (x_e.Why=(2:Int)))
  (Option.bind (mR x_h x_g x_e.Page) λv1=>
  some (v1.1,v1.2))
  (Option.bind (mK x_h x_g x_e.Page) λv2=>
  some (v2.1,v2.2))
noncomputable def g74:Sg tG:=⟨[.st 26,.i .i64,.st 98],.two (.st 2026) .b,gU⟩
theorem s74:Sok 74 g74:=sgx [(98,.r g98),(99,.r g99)] ⟨s98,s99,trivial⟩ .o kr kr kr
noncomputable def aFs  (s2:(List Int)×(List DGuest)):Option (DHost×Bool):=some ((DHost.mk s2.1 s2.2),true)
noncomputable def cD (x_g:Int)(s3:(List Int)×(List DGuest)×Int×Int×Int×Int×Int×Int):Option (LO ((List Int)×(List DGuest)×Int×Int×Int×Int×Int×Int) (JO ((List Int)×(List DGuest)) (DHost×Bool))):=
 cond (decide (s3.2.2.2.2.2.2.2<(8:Int)))
  (Option.bind (dV (DExit.mk s3.2.2.1 s3.2.2.2.1 (DIns.mk s3.2.2.2.2.1 s3.2.2.2.2.2.1 s3.2.2.2.2.2.2.1))) λv4=>
  cond v4
   (Option.bind (gU (DHost.mk s3.1 s3.2.1) x_g (DExit.mk s3.2.2.1 s3.2.2.2.1 (DIns.mk s3.2.2.2.2.1 s3.2.2.2.2.2.1 s3.2.2.2.2.2.2.1))) λv5=>
   cond (!v5.2)
    (some (.ret (.out ((DHost.mk ([]:List Int) ([]:List DGuest)),false))))
    (Option.bind (lX v5.1 x_g) λv6=>
    some (.next (v5.1.Words,v5.1.Guests,v6.Why,v6.Page,v6.What.Op,v6.What.A,v6.What.N,w64 (s3.2.2.2.2.2.2.2+(1:Int))))))
   (some (.ret (.go (s3.1,s3.2.1)))))
  (some (.ret (.go (s3.1,s3.2.1))))
noncomputable def oQ (x_h:DHost)(x_g:Int):Option (DHost×Bool):=
 Option.bind (lX x_h x_g) λv1=>
 Option.bind (Option.bind (iter (cD x_g) (x_h.Words,x_h.Guests,v1.Why,v1.Page,v1.What.Op,v1.What.A,v1.What.N,(0:Int))) LO.val) λj2=>
  JO.run j2 aFs
noncomputable def g49:Sg tG:=⟨[.st 26,.i .i64],.two (.sb 26) .b,oQ⟩
theorem s49:Sok 49 g49:=sgx [(72,.r g72),(73,.r g73),(74,.r g74)] ⟨s72,s73,s74,trivial⟩ (.s .o (.s .o (.j ⟨[2,4],[],[(.c 2 0,.rb 3),(.c 2 1,.rb 39)]⟩ (.s .o (.k (.l ⟨[1,2,4,6],[],[(.c 2 0,.rb 3),(.c 2 1,.rb 39),(.c 6 0,.i .i64),(.c 6 1,.i .i64),(.c 6 2,.i .i64),(.c 6 3,.i .i64),(.c 6 4,.i .i64),(.s 7,.i .i64)]⟩ (.s .o (.s (.k (.s .o (.s .o (.s .o (.g [.fr (.c 2 0) 0,.fr (.c 2 1) 0] [] []))))) .o))))) .o))) kr kr kr
noncomputable def oM (x_h:DHost)(x_g:Int)(x_b:DBare)(x_i:DIns):Option DHost:=
 Option.bind (cC x_b.C x_i) λv1=>
 Option.bind (cU x_h x_g v1 false) λv2=>
 cond (!decide (v2.2=(0:Int)))
  (Option.bind (eS x_b v1) λv3=>
  Option.bind (bL x_h x_g v3) λv4=>
  some v4)
  (grd ((0:Int)<=v2.1/\v2.1<((List.length x_h.Words:Nat):Int)) (Option.bind (eC x_b x_i.A (List.getD x_h.Words (Int.toNat v2.1) default)) λv5=>
   Option.bind (bL x_h x_g v5) λv6=>
   some v6))
noncomputable def bLi:Sg tG:=⟨[.st 26,.i .i64,.st 42,.st 87],.one (.st 2026),oM⟩
theorem bPh:Sok 102 bLi:=sgx [(105,.r aMe),(77,.r g77),(59,.r g59),(76,.r g76),(106,.r bAj)] ⟨aSi,s77,s59,s76,bHy,trivial⟩ .o kr kr kr
noncomputable def mU (x_h:DHost)(x_g:Int)(x_b:DBare)(x_i:DIns):Option DHost:=
 Option.bind (cC x_b.C x_i) λv1=>
 Option.bind (cU x_h x_g v1 true) λv2=>
 cond (!decide (v2.2=(0:Int)))
  (Option.bind (eS x_b v1) λv3=>
  Option.bind (bL x_h x_g v3) λv4=>
  some v4)
  (Option.bind (dM x_b) λv5=>
  Option.bind (bL x_h x_g v5) λv6=>
  grd ((0:Int)<=x_i.A/\x_i.A<((List.length x_b.C.Regs:Nat):Int)) (grd ((0:Int)<=v2.1/\v2.1<((List.length v6.Words:Nat):Int)) (grd ((0:Int)<=x_g/\x_g<((List.length v6.Guests:Nat):Int)) (Option.bind (fD x_h x_g v1) λv7=>
   grd ((0:Int)<=v7.Page/\v7.Page<((List.length (List.getD v6.Guests (Int.toNat x_g) default).Pages:Nat):Int)) (some (DHost.mk (List.set v6.Words (Int.toNat v2.1) (List.getD x_b.C.Regs (Int.toNat x_i.A) default)) (List.set v6.Guests (Int.toNat x_g) (DGuest.mk (List.getD v6.Guests (Int.toNat x_g) default).Live (DCore.mk ((List.getD v6.Guests (Int.toNat x_g) default).C).Regs ((List.getD v6.Guests (Int.toNat x_g) default).C).Pc ((List.getD v6.Guests (Int.toNat x_g) default).C).Root ((List.getD v6.Guests (Int.toNat x_g) default).C).Vector ((List.getD v6.Guests (Int.toNat x_g) default).C).Saved ((List.getD v6.Guests (Int.toNat x_g) default).C).SavedUser ((List.getD v6.Guests (Int.toNat x_g) default).C).Cause ((List.getD v6.Guests (Int.toNat x_g) default).C).Bad ((List.getD v6.Guests (Int.toNat x_g) default).C).Timer ((List.getD v6.Guests (Int.toNat x_g) default).C).Waits ((List.getD v6.Guests (Int.toNat x_g) default).C).User ((List.getD v6.Guests (Int.toNat x_g) default).C).On ((List.getD v6.Guests (Int.toNat x_g) default).C).Stopped) (List.set (List.getD v6.Guests (Int.toNat x_g) default).Pages (Int.toNat v7.Page) (DSlot.mk (List.getD (List.getD v6.Guests (Int.toNat x_g) default).Pages (Int.toNat v7.Page) default).Frame (List.getD (List.getD v6.Guests (Int.toNat x_g) default).Pages (Int.toNat v7.Page) default).Write true)) (List.getD v6.Guests (Int.toNat x_g) default).In (List.getD v6.Guests (Int.toNat x_g) default).Out))))))))
noncomputable def bMc:Sg tG:=⟨[.st 26,.i .i64,.st 42,.st 87],.one (.st 2026),mU⟩
theorem bQb:Sok 103 bMc:=sgx [(105,.r aMe),(77,.r g77),(59,.r g59),(76,.r g76),(108,.r aMs),(101,.r aZy)] ⟨aSi,s77,s59,s76,aRq,bHu,trivial⟩ .o kr kr kr
noncomputable def lP (x_h:DHost)(x_g:Int)(x_b:DBare)(x_i:DIns):Option DHost:=
 cond (decide (x_i.Op=(3:Int)))
  (Option.bind (oM x_h x_g x_b x_i) λv1=>
  some v1)
  (cond (decide (x_i.Op=(4:Int)))
   (Option.bind (mU x_h x_g x_b x_i) λv2=>
   some v2)
   (Option.bind (jD x_b x_i) λv3=>
   Option.bind (bL x_h x_g v3) λv4=>
   some v4))
noncomputable def g78:Sg tG:=⟨[.st 26,.i .i64,.st 42,.st 87],.one (.st 2026),lP⟩
theorem s78:Sok 78 g78:=sgx [(102,.r bLi),(103,.r bMc),(87,.r g87),(76,.r g76)] ⟨bPh,bQb,s87,s76,trivial⟩ .o kr kr kr
noncomputable def vX (x_h:DHost)(x_g:Int):Option DHost:=
 Option.bind (lF x_h x_g) λv1=>
 cond v1.C.Stopped
  (Option.bind (bW x_h) λv2=>
  some v2)
  (Option.bind (fG v1.C) λv3=>
  Option.bind (dP v3) λv4=>
  cond v4
   (Option.bind (jP v3) λv5=>
   Option.bind (bL x_h x_g (DBare.mk v5 v1.Mem v1.In v1.Out)) λv6=>
   some v6)
   (Option.bind (cU x_h x_g v3.Pc false) λv7=>
   cond (!decide (v7.2=(0:Int)))
    (Option.bind (eS (DBare.mk v3 v1.Mem v1.In v1.Out) v3.Pc) λv8=>
    Option.bind (bL x_h x_g v8) λv9=>
    some v9)
    (grd ((0:Int)<=v7.1/\v7.1<((List.length x_h.Words:Nat):Int)) (Option.bind (iP (List.getD x_h.Words (Int.toNat v7.1) default)) λv10=>
     Option.bind (lP x_h x_g (DBare.mk (DCore.mk v3.Regs v3.Pc v3.Root v3.Vector v3.Saved v3.SavedUser v3.Cause v3.Bad v3.Timer v3.Waits v3.User v3.On v3.Stopped) v1.Mem v1.In v1.Out) v10) λv11=>
     some v11))))
noncomputable def g50:Sg tG:=⟨[.st 26,.i .i64],.one (.st 2026),vX⟩
theorem s50:Sok 50 g50:=sgx [(75,.r g75),(20,.r g20),(55,.r g55),(56,.r g56),(57,.r g57),(76,.r g76),(77,.r g77),(59,.r g59),(61,.r g61),(78,.r g78)] ⟨s75,s20,s55,s56,s57,s76,s77,s59,s61,s78,trivial⟩ .o kr kr kr
noncomputable def mS (x_h:DHost)(x_g:Int):Option (DHost×Bool):=
 Option.bind (dZ x_h x_g) λv1=>
 cond (!v1)
  (some ((DHost.mk ([]:List Int) ([]:List DGuest)),false))
  (Option.bind (oQ x_h x_g) λv2=>
  cond (!v2.2)
   (Option.bind (bW x_h) λv3=>
   some (v3,false))
   (Option.bind (vX v2.1 x_g) λv4=>
   some (v4,true)))
noncomputable def g31:Sg tG:=⟨[.st 26,.i .i64],.two (.st 2026) .b,mS⟩
theorem s31:Sok 31 g31:=sgx [(18,.r g18),(49,.r g49),(20,.r g20),(50,.r g50)] ⟨s18,s49,s20,s50,trivial⟩ .o kr kr kr
noncomputable def aFy  (s3:(List Int)×(List DGuest)×Int):Option (DHost×Int):=some ((DHost.mk s3.1 s3.2.1),s3.2.2)
noncomputable def oW (s4:(List Int)×(List DGuest)×Int×Int)(s5:(List Int)×(List DGuest)×Int):Option (LO ((List Int)×(List DGuest)×Int×Int) (JO ((List Int)×(List DGuest)×Int) (DHost×Int))):=some (.next (s5.1,s5.2.1,s5.2.2,w64 (s4.2.2.2+(1:Int))))
noncomputable def hO (x_turns:List Int)(s4:(List Int)×(List DGuest)×Int×Int):Option (LO ((List Int)×(List DGuest)×Int×Int) (JO ((List Int)×(List DGuest)×Int) (DHost×Int))):=
 cond (decide (s4.2.2.2<((List.length x_turns:Nat):Int)))
  (Option.bind (grd ((0:Int)<=s4.2.2.2/\s4.2.2.2<((List.length x_turns:Nat):Int)) (Option.bind (mS (DHost.mk s4.1 s4.2.1) (List.getD x_turns (Int.toNat s4.2.2.2) default)) λv6=>
   cond v6.2
    (some (.go (v6.1.Words,v6.1.Guests,w64 (s4.2.2.1+(1:Int)))))
    (some (.go (s4.1,s4.2.1,s4.2.2.1))))) λj5=>
   JO.run j5 (oW s4))
  (some (.ret (.go (s4.1,s4.2.1,s4.2.2.1))))
noncomputable def oO (x_h:DHost)(x_turns:List Int):Option (DHost×Int):=
 Option.bind (lW x_h) λv1=>
 cond (!v1)
  (some ((DHost.mk ([]:List Int) ([]:List DGuest)),(0:Int)))
  (cond (decide ((200:Int)<((List.length x_turns:Nat):Int)))
   (some ((DHost.mk ([]:List Int) ([]:List DGuest)),(0:Int)))
   (Option.bind (bW x_h) λv2=>
   Option.bind (Option.bind (iter (hO x_turns) (v2.Words,v2.Guests,(0:Int),(0:Int))) LO.val) λj3=>
    JO.run j3 aFy))
noncomputable def g9:Sg tG:=⟨[.st 26,.row 3],.two (.st 2026) (.i .i64),oO⟩
theorem s9:Sok 9 g9:=sgx [(30,.r g30),(20,.r g20),(31,.r g31)] ⟨s30,s20,s31,trivial⟩ (.s .o (.s .o (.s .o (.s .o (.j ⟨[4,6],[],[(.c 6 0,.ro 3),(.c 6 1,.ro 1039),(.s 7,.i .i64)]⟩ (.s .o (.k (.l ⟨[4,6,23,24],[],[(.c 6 0,.ro 3),(.c 6 1,.ro 1039),(.s 7,.i .i64),(.s 25,.i .i64)]⟩ (.s .o (.s .o (.j ⟨[4,6,23,24,25],[],[(.c 6 0,.ro 3),(.c 6 1,.ro 1039),(.s 7,.i .i64)]⟩ .o .o)))))) .o))))) kr kr kr
noncomputable def aFv  (s1:Int):Option Int:=some s1
noncomputable def pM (s2:Int×Int)(s3:Int):Option (LO (Int×Int) (JO Int Int)):=some (.next (s3,w64 (s2.2+(1:Int))))
noncomputable def hT (x_turns:List Int)(x_g:Int)(s2:Int×Int):Option (LO (Int×Int) (JO Int Int)):=
 cond (decide (s2.2<((List.length x_turns:Nat):Int)))
  (Option.bind (grd ((0:Int)<=s2.2/\s2.2<((List.length x_turns:Nat):Int)) (cond (decide ((List.getD x_turns (Int.toNat s2.2) default)=x_g))
   (some (.go (w64 (s2.1+(1:Int)))))
   (some (.go s2.1)))) λj3=>
   JO.run j3 (pM s2))
  (some (.ret (.go s2.1)))
noncomputable def iQ (x_turns:List Int)(x_g:Int):Option Int:=
 Option.bind (Option.bind (iter (hT x_turns x_g) ((0:Int),(0:Int))) LO.val) λj1=>
  JO.run j1 aFv
noncomputable def g10:Sg tG:=⟨[.row 3,.i .i64],.one (.i .i64),iQ⟩
theorem s10:Sok 10 g10:=sgx [] trivial (.s .o (.s .o (.j ⟨[],[],[(.s 5,.i .i64)]⟩ (.s .o (.k (.l ⟨[1,8,9],[],[(.s 5,.i .i64),(.s 10,.i .i64)]⟩ (.s .o (.s .o (.j ⟨[1,8,9,10],[],[(.s 5,.i .i64)]⟩ .o .o)))))) .o))) kr kr kr
noncomputable def aFu  (s2:(List Int)×Int×Int×Int×Int×Bool×Int×Int×Int×Bool×Bool×Bool×Bool×(List Int)×(List Int)×(List Int)):Option DBare:=
 Option.bind (cL (DBare.mk (DCore.mk s2.1 s2.2.1 s2.2.2.1 s2.2.2.2.1 s2.2.2.2.2.1 s2.2.2.2.2.2.1 s2.2.2.2.2.2.2.1 s2.2.2.2.2.2.2.2.1 s2.2.2.2.2.2.2.2.2.1 s2.2.2.2.2.2.2.2.2.2.1 s2.2.2.2.2.2.2.2.2.2.2.1 s2.2.2.2.2.2.2.2.2.2.2.2.1 s2.2.2.2.2.2.2.2.2.2.2.2.2.1) s2.2.2.2.2.2.2.2.2.2.2.2.2.2.1 s2.2.2.2.2.2.2.2.2.2.2.2.2.2.2.1 s2.2.2.2.2.2.2.2.2.2.2.2.2.2.2.2)) λv3=>
 some v3
noncomputable def vN (x_steps:Int)(s4:(List Int)×Int×Int×Int×Int×Bool×Int×Int×Int×Bool×Bool×Bool×Bool×(List Int)×(List Int)×(List Int)×Int):Option (LO ((List Int)×Int×Int×Int×Int×Bool×Int×Int×Int×Bool×Bool×Bool×Bool×(List Int)×(List Int)×(List Int)×Int) (JO ((List Int)×Int×Int×Int×Int×Bool×Int×Int×Int×Bool×Bool×Bool×Bool×(List Int)×(List Int)×(List Int)) DBare)):=
 cond (decide (s4.2.2.2.2.2.2.2.2.2.2.2.2.2.2.2.2<x_steps))
  (Option.bind (kU (DBare.mk (DCore.mk s4.1 s4.2.1 s4.2.2.1 s4.2.2.2.1 s4.2.2.2.2.1 s4.2.2.2.2.2.1 s4.2.2.2.2.2.2.1 s4.2.2.2.2.2.2.2.1 s4.2.2.2.2.2.2.2.2.1 s4.2.2.2.2.2.2.2.2.2.1 s4.2.2.2.2.2.2.2.2.2.2.1 s4.2.2.2.2.2.2.2.2.2.2.2.1 s4.2.2.2.2.2.2.2.2.2.2.2.2.1) s4.2.2.2.2.2.2.2.2.2.2.2.2.2.1 s4.2.2.2.2.2.2.2.2.2.2.2.2.2.2.1 s4.2.2.2.2.2.2.2.2.2.2.2.2.2.2.2.1)) λv5=>
  some (.next (v5.C.Regs,v5.C.Pc,v5.C.Root,v5.C.Vector,v5.C.Saved,v5.C.SavedUser,v5.C.Cause,v5.C.Bad,v5.C.Timer,v5.C.Waits,v5.C.User,v5.C.On,v5.C.Stopped,v5.Mem,v5.In,v5.Out,w64 (s4.2.2.2.2.2.2.2.2.2.2.2.2.2.2.2.2+(1:Int)))))
  (some (.ret (.go (s4.1,s4.2.1,s4.2.2.1,s4.2.2.2.1,s4.2.2.2.2.1,s4.2.2.2.2.2.1,s4.2.2.2.2.2.2.1,s4.2.2.2.2.2.2.2.1,s4.2.2.2.2.2.2.2.2.1,s4.2.2.2.2.2.2.2.2.2.1,s4.2.2.2.2.2.2.2.2.2.2.1,s4.2.2.2.2.2.2.2.2.2.2.2.1,s4.2.2.2.2.2.2.2.2.2.2.2.2.1,s4.2.2.2.2.2.2.2.2.2.2.2.2.2.1,s4.2.2.2.2.2.2.2.2.2.2.2.2.2.2.1,s4.2.2.2.2.2.2.2.2.2.2.2.2.2.2.2.1))))
noncomputable def oT (x_b:DBare)(x_steps:Int):Option DBare:=
 Option.bind (pX x_b) λv1=>
 cond (!v1)
  (some (DBare.mk (DCore.mk ([]:List Int) (0:Int) (0:Int) (0:Int) (0:Int) false (0:Int) (0:Int) (0:Int) false false false false) ([]:List Int) ([]:List Int) ([]:List Int)))
  (cond (decide (x_steps<(0:Int)))
   (some (DBare.mk (DCore.mk ([]:List Int) (0:Int) (0:Int) (0:Int) (0:Int) false (0:Int) (0:Int) (0:Int) false false false false) ([]:List Int) ([]:List Int) ([]:List Int)))
   (cond (decide ((300:Int)<x_steps))
    (some (DBare.mk (DCore.mk ([]:List Int) (0:Int) (0:Int) (0:Int) (0:Int) false (0:Int) (0:Int) (0:Int) false false false false) ([]:List Int) ([]:List Int) ([]:List Int)))
    (Option.bind (Option.bind (iter (vN x_steps) (x_b.C.Regs,x_b.C.Pc,x_b.C.Root,x_b.C.Vector,x_b.C.Saved,x_b.C.SavedUser,x_b.C.Cause,x_b.C.Bad,x_b.C.Timer,x_b.C.Waits,x_b.C.User,x_b.C.On,x_b.C.Stopped,x_b.Mem,x_b.In,x_b.Out,(0:Int))) LO.val) λj2=>
     JO.run j2 aFu)))
noncomputable def g13:Sg tG:=⟨[.st 42,.i .i64],.one (.st 42),oT⟩
theorem s13:Sok 13 g13:=sgx [(35,.r g35),(36,.r g36),(32,.r g32)] ⟨s35,s36,s32,trivial⟩ (.s .o (.s .o (.j ⟨[2,4],[],[(.c 2 0,.rb 3),(.c 2 1,.i .i64),(.c 2 2,.i .i64),(.c 2 3,.i .i64),(.c 2 4,.i .i64),(.c 2 5,.b),(.c 2 6,.i .i64),(.c 2 7,.i .i64),(.c 2 8,.i .i64),(.c 2 9,.b),(.c 2 10,.b),(.c 2 11,.b),(.c 2 12,.b),(.c 2 13,.rb 3),(.c 2 14,.rb 3),(.c 2 15,.rb 3)]⟩ (.s .o (.k (.l ⟨[1,2,4],[],[(.c 2 0,.rb 3),(.c 2 1,.i .i64),(.c 2 2,.i .i64),(.c 2 3,.i .i64),(.c 2 4,.i .i64),(.c 2 5,.b),(.c 2 6,.i .i64),(.c 2 7,.i .i64),(.c 2 8,.i .i64),(.c 2 9,.b),(.c 2 10,.b),(.c 2 11,.b),(.c 2 12,.b),(.c 2 13,.rb 3),(.c 2 14,.rb 3),(.c 2 15,.rb 3),(.s 5,.i .i64)]⟩ .o))) .o))) kr kr kr
noncomputable def uK  (s1:(List Int)×(List Int)×Int):Option (Dl20Rd×(List Int)):=some ((Dl20Rd.mk s1.2.1 s1.2.2),s1.1)
noncomputable def jY  (s3:(List Int)×Int×(List Int)×Int):Option (LO ((List Int)×Int×(List Int)×Int) (JO ((List Int)×(List Int)×Int) (Dl20Rd×(List Int)))):=
 cond (decide ((0:Int)<s3.2.2.2))
  (Option.bind (aA (Dl20Rd.mk s3.1 s3.2.1) (3:Int)) λv4=>
  Option.bind (aA v4.1 (30:Int)) λv5=>
  grd ((List.length s3.2.2.1+List.length ([w64 (v4.2-(w64 ((w64 (Int.tdiv v5.2 (29:Int)))*(4:Int))))]:List Int))*8<=2^47/\List.length s3.2.2.1+List.length ([w64 (v4.2-(w64 ((w64 (Int.tdiv v5.2 (29:Int)))*(4:Int))))]:List Int)<=2^47) (some (.next (v5.1.b,v5.1.p,s3.2.2.1++([w64 (v4.2-(w64 ((w64 (Int.tdiv v5.2 (29:Int)))*(4:Int))))]:List Int),w64 (s3.2.2.2-(1:Int))))))
  (some (.ret (.go (s3.2.2.1,s3.1,s3.2.1))))
noncomputable def mX (x_r:Dl20Rd)(x_most:Int):Option (Dl20Rd×(List Int)):=
 Option.bind (Option.bind (aA x_r (w64 (x_most+(1:Int)))) λv2=>
  Option.bind (iter jY (v2.1.b,v2.1.p,([]:List Int),v2.2)) LO.val) λj1=>
  JO.run j1 uK
noncomputable def g17:Sw tG:=⟨[.pt 71,.v (.i .i64)],.one (.row 3),mX⟩
theorem s17:Sjk 17 g17:=sgy [(38,.w g38)] ⟨s38,trivial⟩ (.s .o (.s .o (.j ⟨[],[0],[(.s 5,.ro 3),(.d 0 0,.rb 5),(.d 0 1,.i .i64)]⟩ (.s .o (.k (.l ⟨[0],[],[(.c 0 0,.rb 5),(.c 0 1,.i .i64),(.s 5,.ro 3),(.s 6,.i .i64)]⟩ .o))) .o))) kr kr kr
noncomputable def jI (x_code:List Int):Option (DHost×Int×(List Int)):=
 Option.bind (iU x_code) λv1=>
 Option.bind (pY v1) λv2=>
 Option.bind (rW v2.1 v2.2) λv3=>
 Option.bind (mX v3.1 (12:Int)) λv4=>
 some (v2.2,v3.2,v4.2)
noncomputable def g4:Sg tG:=⟨[.row 5],.three (.sb 26) (.i .i64) (.rb 3),jI⟩
theorem s4:Sok 4 g4:=sgx [(14,.o g14),(15,.w g15),(16,.w g16),(17,.w g17)] ⟨s14,s15,s16,s17,trivial⟩ (.s .o (.s .o (.s .o (.s (.g [.fr (.c 6 0) 0,.fr (.c 6 1) 0] [1] []) .o)))) kr kr kr
noncomputable def rY  (s8:Unit):Option Bool:=
 Option.bind kQ  λv9=>
 some v9
noncomputable def kW (s10:Int)(s11:Unit):Option (LO Int (JO Unit Bool)):=some (.next (w64 (s10+(1:Int))))
noncomputable def dH (v1:DHost×Int×(List Int))(v2:DHost×Int×Bool)(v6:DHost×Int)(s7:Int)(s10:Int):Option (LO Int (JO Unit Bool)):=
 cond (decide (s10<(3:Int)))
  (cond (decide (v6.2=s7))
   (Option.bind (Option.bind (kA v2.1 s10) λv12=>
    Option.bind (kA v6.1 s10) λv13=>
    cond (!(v12.2==v13.2))
     (some (.out (.ret (.out false))))
     (cond v12.2
      (Option.bind (iQ v1.2.2 s10) λv14=>
      Option.bind (oT v12.1 v14) λv15=>
      Option.bind (mN v13.1 v15) λv16=>
      cond (!v16)
       (some (.out (.ret (.out false))))
       (some (.go ())))
      (some (.go ())))) λj11=>
    JO.run j11 (kW s10))
   (some (.ret (.go ()))))
  (some (.ret (.go ())))
noncomputable def sF (v1:DHost×Int×(List Int))(v2:DHost×Int×Bool)(v6:DHost×Int)(s7:Int):Option Bool:=
 Option.bind (Option.bind (iter (dH v1 v2 v6 s7) (0:Int)) LO.val) λj8=>
  JO.run j8 rY
noncomputable def rH (s17:Int×Int)(s18:Int):Option (LO (Int×Int) (JO Int Bool)):=some (.next (s18,w64 (s17.2+(1:Int))))
noncomputable def eO (v1:DHost×Int×(List Int))(v2:DHost×Int×Bool)(s17:Int×Int):Option (LO (Int×Int) (JO Int Bool)):=
 cond (decide (s17.2<(3:Int)))
  (Option.bind (grd ((0:Int)<=s17.2/\s17.2<((List.length v2.1.Guests:Nat):Int)) (cond (List.getD v2.1.Guests (Int.toNat s17.2) default).Live
   (Option.bind (iQ v1.2.2 s17.2) λv19=>
   some (.go (w64 (s17.1+v19))))
   (some (.go s17.1)))) λj18=>
   JO.run j18 (rH s17))
  (some (.ret (.go s17.1)))
noncomputable def iB (x_code:List Int):Option Bool:=
 cond (decide ((1048576:Int)<((List.length x_code:Nat):Int)))
  (some true)
  (Option.bind (jI x_code) λv1=>
  Option.bind (kZ v1.1 v1.2.1) λv2=>
  Option.bind (lM v1.1 v1.2.1) λv3=>
  cond (!(v2.2.2==v3.2.2))
   (some false)
   (cond (!decide (v2.2.1=v3.2.1))
    (some false)
    (Option.bind (mY v2.1 v3.1) λv4=>
    cond (!v4)
     (some false)
     (cond (!v2.2.2)
      (Option.bind kQ  λv5=>
      some v5)
      (Option.bind (oO v2.1 v1.2.2) λv6=>
      Option.bind (Option.bind (iter (eO v1 v2) ((0:Int),(0:Int))) LO.val) λj7=>
       JO.run j7 (sF v1 v2 v6))))))
noncomputable def g3:Sg tG:=⟨[.row 5],.one .b,iB⟩
theorem s3:Sok 3 g3:=sgx [(4,.r g4),(5,.r g5),(6,.r g6),(7,.r g7),(8,.r g8),(9,.r g9),(10,.r g10),(11,.r g11),(13,.r g13),(12,.r g12)] ⟨s4,s5,s6,s7,s8,s9,s10,s11,s13,s12,trivial⟩ (.s .o (.s .o (.s .o (.s .o (.s .o (.s .o (.s .o (.s .o (.s .o (.j ⟨[5,6,12,13],[],[(.s 14,.i .i64)]⟩ (.s .o (.k (.l ⟨[5,6,12,13],[],[(.s 14,.i .i64),(.s 15,.i .i64)]⟩ (.s .o (.j ⟨[5,6,12,13,15],[],[(.s 14,.i .i64)]⟩ .o .o))))) (.j ⟨[],[],[]⟩ (.s .o (.k (.l ⟨[5,6,12,13,14],[],[(.s 16,.i .i64)]⟩ (.s .o (.j ⟨[5,6,12,13,14,16],[],[]⟩ .o .o))))) .o))))))))))) kr kr kr
theorem aCs{x_code:List Int}{R_:Bool}(hh:iB x_code=some R_):Fn Tryz.prog 3 [bo (eI .u8) x_code] (.bool R_):=kc (s3 x_code R_ hh)
end Go.Proofs.YtobbmlnagjhofaaGreat
