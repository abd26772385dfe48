/- Plain functions of the program, and that it hands back what they say. Made by program. -/
import Derived.Test.YtkjabgefacfpfaaWTD
import Derived.Test.YtkjabgefacfpfaaProg
namespace Go.Proofs.Ytkjabgefacfpfaa
open Go.RowKit
set_option maxRecDepth 100000
set_option linter.all false
set_option maxHeartbeats 0
noncomputable def bL (x_n:Int)(x_low:Int)(x_high:Int):Option Bool:=
 cond (decide (x_low<=x_n))
  (some (decide (x_n<=x_high)))
  (some false)
noncomputable def g73:Sg tG:=⟨[.i .i64,.i .i64,.i .i64],.one .b,bL⟩
theorem s73:Sok 73 g73:=sgx [] trivial .o kr kr kr
noncomputable def dZ (x_n:Int):Option Bool:=
 Option.bind (bL x_n (0:Int) (4095:Int)) λv1=>
 some v1
noncomputable def aLp:Sg tG:=⟨[.i .i64],.one .b,dZ⟩
theorem aRr:Sok 117 aLp:=sgx [(73,.r g73)] ⟨s73,trivial⟩ .o kr kr kr
noncomputable def kT (x_list:List Int)(x_most:Int)(s1:Unit):Option Bool:=some (decide (((List.length x_list:Nat):Int)<=x_most))
noncomputable def kO (x_list:List Int)(s2:Int):Option (LO Int (JO Unit Bool)):=
 cond (decide (s2<((List.length x_list:Nat):Int)))
  (grd ((0:Int)<=s2/\s2<((List.length x_list:Nat):Int)) (Option.bind (dZ (List.getD x_list (Int.toNat s2) default)) λv3=>
   cond (!v3)
    (some (.ret (.out false)))
    (some (.next (w64 (s2+(1:Int)))))))
  (some (.ret (.go ())))
noncomputable def cO (x_list:List Int)(x_most:Int):Option Bool:=
 Option.bind (Option.bind (iter (kO x_list) (0:Int)) LO.val) λj1=>
  JO.run j1 (kT x_list x_most)
noncomputable def g90:Sg tG:=⟨[.row 3,.i .i64],.one .b,cO⟩
theorem s90:Sok 90 g90:=sgx [(117,.r aLp)] ⟨aRr,trivial⟩ (.s .o (.j ⟨[0,1],[],[]⟩ (.s .o (.k (.l ⟨[0,1],[],[(.s 5,.i .i64)]⟩ .o))) .o)) kr kr kr
noncomputable def sK (x_c:DCore)(s1:Unit):Option Bool:=
 cond (decide (((List.length x_c.Regs:Nat):Int)=(4:Int)))
  (Option.bind (bL x_c.Pc (0:Int) (63:Int)) λv2=>
  cond v2
   (Option.bind (bL x_c.Vector (0:Int) (63:Int)) λv3=>
   cond v3
    (Option.bind (bL x_c.Saved (0:Int) (63:Int)) λv4=>
    cond v4
     (Option.bind (bL x_c.Bad (0:Int) (63:Int)) λv5=>
     cond v5
      (Option.bind (bL x_c.Root (-1:Int) (7:Int)) λv6=>
      cond v6
       (Option.bind (bL x_c.Cause (0:Int) (4:Int)) λv7=>
       cond v7
        (Option.bind (dZ x_c.Timer) λv8=>
        some v8)
        (some false))
       (some false))
      (some false))
     (some false))
    (some false))
   (some false))
  (some false)
noncomputable def rV (x_c:DCore)(s9:Int):Option (LO Int (JO Unit Bool)):=
 cond (decide (s9<((List.length x_c.Regs:Nat):Int)))
  (grd ((0:Int)<=s9/\s9<((List.length x_c.Regs:Nat):Int)) (Option.bind (dZ (List.getD x_c.Regs (Int.toNat s9) default)) λv10=>
   cond (!v10)
    (some (.ret (.out false)))
    (some (.next (w64 (s9+(1:Int)))))))
  (some (.ret (.go ())))
noncomputable def fU (x_c:DCore):Option Bool:=
 Option.bind (Option.bind (iter (rV x_c) (0:Int)) LO.val) λj1=>
  JO.run j1 (sK x_c)
noncomputable def g92:Sg tG:=⟨[.st 38],.one .b,fU⟩
theorem s92:Sok 92 g92:=sgx [(117,.r aLp),(73,.r g73)] ⟨aRr,s73,trivial⟩ (.s .o (.j ⟨[1],[],[]⟩ (.s .o (.k (.l ⟨[1],[],[(.s 3,.i .i64)]⟩ .o))) .o)) kr kr kr
noncomputable def tO (x_mem:List Int)(s1:Unit):Option Bool:=some (decide (((List.length x_mem:Nat):Int)=(64:Int)))
noncomputable def tD (x_mem:List Int)(s2:Int):Option (LO Int (JO Unit Bool)):=
 cond (decide (s2<((List.length x_mem:Nat):Int)))
  (grd ((0:Int)<=s2/\s2<((List.length x_mem:Nat):Int)) (Option.bind (dZ (List.getD x_mem (Int.toNat s2) default)) λv3=>
   cond (!v3)
    (some (.ret (.out false)))
    (some (.next (w64 (s2+(1:Int)))))))
  (some (.ret (.go ())))
noncomputable def mN (x_mem:List Int):Option Bool:=
 Option.bind (Option.bind (iter (tD x_mem) (0:Int)) LO.val) λj1=>
  JO.run j1 (tO x_mem)
noncomputable def bBh:Sg tG:=⟨[.row 3],.one .b,mN⟩
theorem bFd:Sok 144 bBh:=sgx [(117,.r aLp)] ⟨aRr,trivial⟩ (.s .o (.j ⟨[0],[],[]⟩ (.s .o (.k (.l ⟨[0],[],[(.s 3,.i .i64)]⟩ .o))) .o)) kr kr kr
noncomputable def lJ (x_b:DBare):Option Bool:=
 Option.bind (fU x_b.C) λv1=>
 cond v1
  (Option.bind (mN x_b.Mem) λv2=>
  cond v2
   (Option.bind (cO x_b.In (30:Int)) λv3=>
   cond v3
    (Option.bind (cO x_b.Out (30:Int)) λv4=>
    some v4)
    (some false))
   (some false))
  (some false)
noncomputable def bCo:Sg tG:=⟨[.st 82],.one .b,lJ⟩
theorem bEy:Sok 133 bCo:=sgx [(92,.r g92),(144,.r bBh),(90,.r g90)] ⟨s92,bFd,s90,trivial⟩ .o kr kr kr
noncomputable def fV (x_n:Int):Option Bool:=
 cond (decide ((0:Int)<=x_n))
  (some (decide (x_n<=(4095:Int))))
  (some false)
noncomputable def g52:Sg tG:=⟨[.i .i64],.one .b,fV⟩
theorem s52:Sok 52 g52:=sgx [] trivial .o kr kr kr
noncomputable def aBn  (s1:Unit):Option Bool:=some true
noncomputable def aBc (x_list:List Int)(s2:Int):Option (LO Int (JO Unit Bool)):=
 cond (decide (s2<((List.length x_list:Nat):Int)))
  (grd ((0:Int)<=s2/\s2<((List.length x_list:Nat):Int)) (Option.bind (fV (List.getD x_list (Int.toNat s2) default)) λv3=>
   cond (!v3)
    (some (.ret (.out false)))
    (some (.next (w64 (s2+(1:Int)))))))
  (some (.ret (.go ())))
noncomputable def kL (x_list:List Int):Option Bool:=
 Option.bind (Option.bind (iter (aBc x_list) (0:Int)) LO.val) λj1=>
  JO.run j1 aBn
noncomputable def g49:Sg tG:=⟨[.row 3],.one .b,kL⟩
theorem s49:Sok 49 g49:=sgx [(52,.r g52)] ⟨s52,trivial⟩ (.s .o (.j ⟨[],[],[]⟩ (.s .o (.k (.l ⟨[5,6],[],[(.s 7,.i .i64)]⟩ .o))) .o)) kr kr kr
noncomputable def cL (x_addr:Int):Option Bool:=
 cond (decide ((0:Int)<=x_addr))
  (some (decide (x_addr<(64:Int))))
  (some false)
noncomputable def g78:Sg tG:=⟨[.i .i64],.one .b,cL⟩
theorem s78:Sok 78 g78:=sgx [] trivial .o kr kr kr
noncomputable def pP (x_page:Int):Option Bool:=
 cond (decide ((0:Int)<=x_page))
  (some (decide (x_page<(8:Int))))
  (some false)
noncomputable def aWg:Sg tG:=⟨[.i .i64],.one .b,pP⟩
theorem bDm:Sok 109 aWg:=sgx [] trivial .o kr kr kr
noncomputable def pS (x_root:Int):Option Bool:=
 cond (decide (x_root=(-1:Int)))
  (some true)
  (Option.bind (pP x_root) λv1=>
  some v1)
noncomputable def bCm:Sg tG:=⟨[.i .i64],.one .b,pS⟩
theorem bFb:Sok 137 bCm:=sgx [(109,.r aWg)] ⟨bDm,trivial⟩ .o kr kr kr
noncomputable def xY (x_c:DCore):Option Bool:=
 cond (decide (((List.length x_c.Regs:Nat):Int)=(4:Int)))
  (Option.bind (kL x_c.Regs) λv1=>
  Option.bind (cL x_c.Pc) λv2=>
  cond v2
   (Option.bind (cL x_c.Vector) λv3=>
   cond v3
    (Option.bind (cL x_c.Saved) λv4=>
    cond v4
     (Option.bind (cL x_c.Bad) λv5=>
     cond (decide ((0:Int)<=x_c.Cause))
      (cond v1
       (cond v5
        (Option.bind (pS x_c.Root) λv6=>
        cond v6
         (cond (decide (x_c.Cause<=(4:Int)))
          (Option.bind (fV x_c.Timer) λv7=>
          some v7)
          (some false))
         (some false))
        (some false))
       (some false))
      (cond v1
       (cond v5
        (Option.bind (pS x_c.Root) λv8=>
        cond v8
         (some false)
         (some false))
        (some false))
       (some false)))
     (cond (decide ((0:Int)<=x_c.Cause))
      (cond v1
       (some false)
       (some false))
      (cond v1
       (some false)
       (some false))))
    (cond (decide ((0:Int)<=x_c.Cause))
     (cond v1
      (some false)
      (some false))
     (cond v1
      (some false)
      (some false))))
   (cond (decide ((0:Int)<=x_c.Cause))
    (cond v1
     (some false)
     (some false))
    (cond v1
     (some false)
     (some false))))
  (Option.bind (cL x_c.Pc) λv9=>
  cond v9
   (Option.bind (cL x_c.Vector) λv10=>
   cond v10
    (Option.bind (cL x_c.Saved) λv11=>
    cond v11
     (Option.bind (cL x_c.Bad) λv12=>
     cond (decide ((0:Int)<=x_c.Cause))
      (some false)
      (some false))
     (cond (decide ((0:Int)<=x_c.Cause))
      (some false)
      (some false)))
    (cond (decide ((0:Int)<=x_c.Cause))
     (some false)
     (some false)))
   (cond (decide ((0:Int)<=x_c.Cause))
    (some false)
    (some false)))
noncomputable def bEb:Sg tG:=⟨[.st 38],.one .b,xY⟩
theorem bGb:Sok 120 bEb:=sgx [(49,.r g49),(78,.r g78),(137,.r bCm),(52,.r g52)] ⟨s49,s78,bFb,s52,trivial⟩ .o kr kr kr
noncomputable def rZ (x_words:List Int):Option Bool:=
 cond (decide (((List.length x_words:Nat):Int)<=(30:Int)))
  (Option.bind (kL x_words) λv1=>
  some v1)
  (some false)
noncomputable def bDw:Sg tG:=⟨[.row 3],.one .b,rZ⟩
theorem bFz:Sok 122 bDw:=sgx [(49,.r g49)] ⟨s49,trivial⟩ .o kr kr kr
noncomputable def tF (x_c:DCore):Option Bool:=
 cond (decide (x_c.Pc=(0:Int)))
  (cond (decide (x_c.Root=(0:Int)))
   (cond (decide (x_c.Vector=(0:Int)))
    (cond (decide (x_c.Saved=(0:Int)))
     (cond x_c.SavedUser
      (cond (decide (((List.length x_c.Regs:Nat):Int)=(0:Int)))
       (cond (decide (x_c.Bad=(0:Int)))
        (cond (decide (x_c.Cause=(0:Int)))
         (cond (decide (x_c.Timer=(0:Int)))
          (some false)
          (some false))
         (some false))
        (some false))
       (some false))
      (cond x_c.Waits
       (cond (decide (((List.length x_c.Regs:Nat):Int)=(0:Int)))
        (cond (decide (x_c.Bad=(0:Int)))
         (cond (decide (x_c.Cause=(0:Int)))
          (cond (decide (x_c.Timer=(0:Int)))
           (some false)
           (some false))
          (some false))
         (some false))
        (some false))
       (cond x_c.User
        (cond (decide (((List.length x_c.Regs:Nat):Int)=(0:Int)))
         (cond (decide (x_c.Bad=(0:Int)))
          (cond (decide (x_c.Cause=(0:Int)))
           (cond (decide (x_c.Timer=(0:Int)))
            (some false)
            (some false))
           (some false))
          (some false))
         (some false))
        (cond x_c.On
         (cond (decide (((List.length x_c.Regs:Nat):Int)=(0:Int)))
          (cond (decide (x_c.Bad=(0:Int)))
           (cond (decide (x_c.Cause=(0:Int)))
            (cond (decide (x_c.Timer=(0:Int)))
             (some false)
             (some false))
            (some false))
           (some false))
          (some false))
         (cond (decide (((List.length x_c.Regs:Nat):Int)=(0:Int)))
          (cond (decide (x_c.Bad=(0:Int)))
           (cond (decide (x_c.Cause=(0:Int)))
            (cond (decide (x_c.Timer=(0:Int)))
             (some (!x_c.Stopped))
             (some false))
            (some false))
           (some false))
          (some false))))))
     (cond x_c.SavedUser
      (cond (decide (((List.length x_c.Regs:Nat):Int)=(0:Int)))
       (some false)
       (some false))
      (cond x_c.Waits
       (cond (decide (((List.length x_c.Regs:Nat):Int)=(0:Int)))
        (some false)
        (some false))
       (cond x_c.User
        (cond (decide (((List.length x_c.Regs:Nat):Int)=(0:Int)))
         (some false)
         (some false))
        (cond x_c.On
         (cond (decide (((List.length x_c.Regs:Nat):Int)=(0:Int)))
          (some false)
          (some false))
         (cond (decide (((List.length x_c.Regs:Nat):Int)=(0:Int)))
          (some false)
          (some false)))))))
    (cond x_c.SavedUser
     (cond (decide (((List.length x_c.Regs:Nat):Int)=(0:Int)))
      (some false)
      (some false))
     (cond x_c.Waits
      (cond (decide (((List.length x_c.Regs:Nat):Int)=(0:Int)))
       (some false)
       (some false))
      (cond x_c.User
       (cond (decide (((List.length x_c.Regs:Nat):Int)=(0:Int)))
        (some false)
        (some false))
       (cond x_c.On
        (cond (decide (((List.length x_c.Regs:Nat):Int)=(0:Int)))
         (some false)
         (some false))
        (cond (decide (((List.length x_c.Regs:Nat):Int)=(0:Int)))
         (some false)
         (some false)))))))
   (cond x_c.SavedUser
    (cond (decide (((List.length x_c.Regs:Nat):Int)=(0:Int)))
     (some false)
     (some false))
    (cond x_c.Waits
     (cond (decide (((List.length x_c.Regs:Nat):Int)=(0:Int)))
      (some false)
      (some false))
     (cond x_c.User
      (cond (decide (((List.length x_c.Regs:Nat):Int)=(0:Int)))
       (some false)
       (some false))
      (cond x_c.On
       (cond (decide (((List.length x_c.Regs:Nat):Int)=(0:Int)))
        (some false)
        (some false))
       (cond (decide (((List.length x_c.Regs:Nat):Int)=(0:Int)))
        (some false)
        (some false)))))))
  (cond x_c.SavedUser
   (cond (decide (((List.length x_c.Regs:Nat):Int)=(0:Int)))
    (some false)
    (some false))
   (cond x_c.Waits
    (cond (decide (((List.length x_c.Regs:Nat):Int)=(0:Int)))
     (some false)
     (some false))
    (cond x_c.User
     (cond (decide (((List.length x_c.Regs:Nat):Int)=(0:Int)))
      (some false)
      (some false))
     (cond x_c.On
      (cond (decide (((List.length x_c.Regs:Nat):Int)=(0:Int)))
       (some false)
       (some false))
      (cond (decide (((List.length x_c.Regs:Nat):Int)=(0:Int)))
       (some false)
       (some false))))))
noncomputable def bBe:Sg tG:=⟨[.st 38],.one .b,tF⟩
theorem bGg:Sok 136 bBe:=sgx [] trivial .o kr kr kr
noncomputable def qB (x_guest:DGuest):Option Bool:=
 Option.bind (tF x_guest.C) λv1=>
 cond v1
  (cond (decide (((List.length x_guest.Pages:Nat):Int)=(0:Int)))
   (cond (decide (((List.length x_guest.In:Nat):Int)=(0:Int)))
    (some (decide (((List.length x_guest.Out:Nat):Int)=(0:Int))))
    (some false))
   (some false))
  (some false)
noncomputable def bDv:Sg tG:=⟨[.st 41],.one .b,qB⟩
theorem bGc:Sok 119 bDv:=sgx [(136,.r bBe)] ⟨bGg,trivial⟩ .o kr kr kr
noncomputable def xR (x_s:DSlot):Option Bool:=
 cond (decide (x_s.Frame=(-1:Int)))
  (cond (!x_s.Write)
   (some (!x_s.Dirty))
   (some false))
  (cond (decide ((0:Int)<=x_s.Frame))
   (some (decide (x_s.Frame<(20:Int))))
   (some false))
noncomputable def bCs:Sg tG:=⟨[.st 43],.one .b,xR⟩
theorem bGe:Sok 138 bCs:=sgx [] trivial .o kr kr kr
noncomputable def aBf  (s1:Unit):Option Bool:=some true
noncomputable def aBa (x_pages:List DSlot)(s2:Int):Option (LO Int (JO Unit Bool)):=
 cond (decide (s2<((List.length x_pages:Nat):Int)))
  (grd ((0:Int)<=s2/\s2<((List.length x_pages:Nat):Int)) (Option.bind (xR (DSlot.mk (List.getD x_pages (Int.toNat s2) default).Frame (List.getD x_pages (Int.toNat s2) default).Write (List.getD x_pages (Int.toNat s2) default).Dirty)) λv3=>
   cond (!v3)
    (some (.ret (.out false)))
    (some (.next (w64 (s2+(1:Int)))))))
  (some (.ret (.go ())))
noncomputable def vL (x_pages:List DSlot):Option Bool:=
 cond (!decide (((List.length x_pages:Nat):Int)=(8:Int)))
  (some false)
  (Option.bind (Option.bind (iter (aBa x_pages) (0:Int)) LO.val) λj1=>
   JO.run j1 aBf)
noncomputable def bDo:Sg tG:=⟨[.row 43],.one .b,vL⟩
theorem bFg:Sok 121 bDo:=sgx [(138,.r bCs)] ⟨bGe,trivial⟩ (.s .o (.s .o (.j ⟨[],[],[]⟩ (.s .o (.k (.l ⟨[8,9],[],[(.s 10,.i .i64)]⟩ .o))) .o))) kr kr kr
noncomputable def vN (x_guest:DGuest):Option Bool:=
 cond (!x_guest.Live)
  (Option.bind (qB x_guest) λv1=>
  some v1)
  (Option.bind (xY x_guest.C) λv2=>
  cond v2
   (Option.bind (vL x_guest.Pages) λv3=>
   cond v3
    (Option.bind (rZ x_guest.In) λv4=>
    cond v4
     (Option.bind (rZ x_guest.Out) λv5=>
     some v5)
     (some false))
    (some false))
   (some false))
noncomputable def g94:Sg tG:=⟨[.st 41],.one .b,vN⟩
theorem s94:Sok 94 g94:=sgx [(119,.r bDv),(120,.r bEb),(121,.r bDo),(122,.r bDw)] ⟨bGc,bGb,bFg,bFz,trivial⟩ .o kr kr kr
noncomputable def zM  (s1:Unit):Option Bool:=some true
noncomputable def yN (x_guests:List DGuest)(s2:Int):Option (LO Int (JO Unit Bool)):=
 cond (decide (s2<((List.length x_guests:Nat):Int)))
  (grd ((0:Int)<=s2/\s2<((List.length x_guests:Nat):Int)) (Option.bind (vN (DGuest.mk (List.getD x_guests (Int.toNat s2) default).Live (DCore.mk ((List.getD x_guests (Int.toNat s2) default).C).Regs ((List.getD x_guests (Int.toNat s2) default).C).Pc ((List.getD x_guests (Int.toNat s2) default).C).Root ((List.getD x_guests (Int.toNat s2) default).C).Vector ((List.getD x_guests (Int.toNat s2) default).C).Saved ((List.getD x_guests (Int.toNat s2) default).C).SavedUser ((List.getD x_guests (Int.toNat s2) default).C).Cause ((List.getD x_guests (Int.toNat s2) default).C).Bad ((List.getD x_guests (Int.toNat s2) default).C).Timer ((List.getD x_guests (Int.toNat s2) default).C).Waits ((List.getD x_guests (Int.toNat s2) default).C).User ((List.getD x_guests (Int.toNat s2) default).C).On ((List.getD x_guests (Int.toNat s2) default).C).Stopped) (List.getD x_guests (Int.toNat s2) default).Pages (List.getD x_guests (Int.toNat s2) default).In (List.getD x_guests (Int.toNat s2) default).Out)) λv3=>
   cond (!v3)
    (some (.ret (.out false)))
    (some (.next (w64 (s2+(1:Int)))))))
  (some (.ret (.go ())))
noncomputable def tH (x_guests:List DGuest):Option Bool:=
 cond (!decide (((List.length x_guests:Nat):Int)=(3:Int)))
  (some false)
  (Option.bind (Option.bind (iter (yN x_guests) (0:Int)) LO.val) λj1=>
   JO.run j1 zM)
noncomputable def g50:Sg tG:=⟨[.row 41],.one .b,tH⟩
theorem s50:Sok 50 g50:=sgx [(94,.r g94)] ⟨s94,trivial⟩ (.s .o (.s .o (.j ⟨[],[],[]⟩ (.s .o (.k (.l ⟨[8,9],[],[(.s 10,.i .i64)]⟩ .o))) .o))) kr kr kr
noncomputable def uX  (s1:List Int):Option (List Int):=some s1
noncomputable def vF (s2:(List Int)×Int)(s3:List Int):Option (LO ((List Int)×Int) (JO (List Int) (List Int))):=some (.next (s3,w64 (s2.2+(1:Int))))
noncomputable def uG (s4:(List Int)×Int)(s5:List Int):Option (LO ((List Int)×Int) (JO (List Int) (LO ((List Int)×Int) (JO (List Int) (List Int))))):=some (.next (s5,w64 (s4.2+(1:Int))))
noncomputable def uS (x_guests:List DGuest)(s2:(List Int)×Int)(s4:(List Int)×Int):Option (LO ((List Int)×Int) (JO (List Int) (LO ((List Int)×Int) (JO (List Int) (List Int))))):=
 cond (decide (s4.2<((List.length (List.getD x_guests (Int.toNat s2.2) default).Pages:Nat):Int)))
  (Option.bind (grd ((0:Int)<=s4.2/\s4.2<((List.length (List.getD x_guests (Int.toNat s2.2) default).Pages:Nat):Int)) (cond (!decide ((List.getD (List.getD x_guests (Int.toNat s2.2) default).Pages (Int.toNat s4.2) default).Frame=(-1:Int)))
   (grd ((0:Int)<=(List.getD (List.getD x_guests (Int.toNat s2.2) default).Pages (Int.toNat s4.2) default).Frame/\(List.getD (List.getD x_guests (Int.toNat s2.2) default).Pages (Int.toNat s4.2) default).Frame<((List.length s4.1:Nat):Int)) (grd ((0:Int)<=(List.getD (List.getD x_guests (Int.toNat s2.2) default).Pages (Int.toNat s4.2) default).Frame/\(List.getD (List.getD x_guests (Int.toNat s2.2) default).Pages (Int.toNat s4.2) default).Frame<((List.length s4.1:Nat):Int)) (some (.go (List.set s4.1 (Int.toNat (List.getD (List.getD x_guests (Int.toNat s2.2) default).Pages (Int.toNat s4.2) default).Frame) (w64 ((List.getD s4.1 (Int.toNat (List.getD (List.getD x_guests (Int.toNat s2.2) default).Pages (Int.toNat s4.2) default).Frame) default)+(1:Int))))))))
   (some (.go s4.1)))) λj5=>
   JO.run j5 (uG s4))
  (some (.ret (.go s4.1)))
noncomputable def uN (x_guests:List DGuest)(s2:(List Int)×Int):Option (LO ((List Int)×Int) (JO (List Int) (List Int))):=
 cond (decide (s2.2<((List.length x_guests:Nat):Int)))
  (Option.bind (grd ((0:Int)<=s2.2/\s2.2<((List.length x_guests:Nat):Int)) (Option.bind (iter (uS x_guests s2) (s2.1,(0:Int))) LO.val)) λj3=>
   JO.run j3 (vF s2))
  (some (.ret (.go s2.1)))
noncomputable def pE (x_guests:List DGuest):Option (List Int):=
 Option.bind (Option.bind (iter (uN x_guests) ((List.replicate (Int.toNat (20:Int)) (0:Int)),(0:Int))) LO.val) λj1=>
  JO.run j1 uX
noncomputable def g86:Sg tG:=⟨[.row 41],.one (.row 3),pE⟩
theorem s86:Sok 86 g86:=sgx [] trivial (.s .o (.s .o (.j ⟨[],[],[(.s 3,.ro 3)]⟩ (.s .o (.k (.l ⟨[9,10],[],[(.s 3,.ro 3),(.s 11,.i .i64)]⟩ (.s .o (.s .o (.j ⟨[9,10,11],[],[(.s 3,.ro 3)]⟩ (.k (.s .o (.s .o (.k (.l ⟨[9,10,11,16,17],[],[(.s 3,.ro 3),(.s 18,.i .i64)]⟩ (.s .o (.s .o (.j ⟨[9,10,11,16,17,18],[],[(.s 3,.ro 3)]⟩ .o .o)))))))) .o)))))) .o))) kr kr kr
noncomputable def qQ  (s2:Unit):Option Bool:=some true
noncomputable def qY (s3:Int)(s4:Unit):Option (LO Int (JO Unit Bool)):=some (.next (w64 (s3+(1:Int))))
noncomputable def qW (s5:Int)(s6:Unit):Option (LO Int (JO Unit (LO Int (JO Unit Bool)))):=some (.next (w64 (s5+(1:Int))))
noncomputable def rD (x_guests:List DGuest)(v1:List Int)(s3:Int)(s5:Int):Option (LO Int (JO Unit (LO Int (JO Unit Bool)))):=
 cond (decide (s5<((List.length (List.getD x_guests (Int.toNat s3) default).Pages:Nat):Int)))
  (Option.bind (grd ((0:Int)<=s5/\s5<((List.length (List.getD x_guests (Int.toNat s3) default).Pages:Nat):Int)) (cond (List.getD (List.getD x_guests (Int.toNat s3) default).Pages (Int.toNat s5) default).Write
   (grd ((0:Int)<=(List.getD (List.getD x_guests (Int.toNat s3) default).Pages (Int.toNat s5) default).Frame/\(List.getD (List.getD x_guests (Int.toNat s3) default).Pages (Int.toNat s5) default).Frame<((List.length v1:Nat):Int)) (cond (decide ((1:Int)<(List.getD v1 (Int.toNat (List.getD (List.getD x_guests (Int.toNat s3) default).Pages (Int.toNat s5) default).Frame) default)))
    (some (.out (.ret (.out (.ret (.out false))))))
    (some (.go ()))))
   (some (.go ())))) λj6=>
   JO.run j6 (qW s5))
  (some (.ret (.go ())))
noncomputable def rC (x_guests:List DGuest)(v1:List Int)(s3:Int):Option (LO Int (JO Unit Bool)):=
 cond (decide (s3<((List.length x_guests:Nat):Int)))
  (Option.bind (grd ((0:Int)<=s3/\s3<((List.length x_guests:Nat):Int)) (Option.bind (iter (rD x_guests v1 s3) (0:Int)) LO.val)) λj4=>
   JO.run j4 (qY s3))
  (some (.ret (.go ())))
noncomputable def lE (x_guests:List DGuest):Option Bool:=
 Option.bind (pE x_guests) λv1=>
 Option.bind (Option.bind (iter (rC x_guests v1) (0:Int)) LO.val) λj2=>
  JO.run j2 qQ
noncomputable def g51:Sg tG:=⟨[.row 41],.one .b,lE⟩
theorem s51:Sok 51 g51:=sgx [(86,.r g86)] ⟨s86,trivial⟩ (.s .o (.s .o (.j ⟨[],[],[]⟩ (.s .o (.k (.l ⟨[3,10,11],[],[(.s 12,.i .i64)]⟩ (.s .o (.s .o (.j ⟨[3,10,11,12],[],[]⟩ (.k (.s .o (.s .o (.k (.l ⟨[3,10,11,12,17,18],[],[(.s 19,.i .i64)]⟩ (.s .o (.s .o (.j ⟨[3,10,11,12,17,18,19],[],[]⟩ .o .o)))))))) .o)))))) .o))) kr kr kr
noncomputable def pQ (x_h:DHost):Option Bool:=
 cond (decide (((List.length x_h.Words:Nat):Int)=(160:Int)))
  (Option.bind (kL x_h.Words) λv1=>
  cond v1
   (Option.bind (tH x_h.Guests) λv2=>
   cond v2
    (Option.bind (lE x_h.Guests) λv3=>
    some v3)
    (some false))
   (some false))
  (some false)
noncomputable def g14:Sg tG:=⟨[.st 26],.one .b,pQ⟩
theorem s14:Sok 14 g14:=sgx [(49,.r g49),(50,.r g50),(51,.r g51)] ⟨s49,s50,s51,trivial⟩ .o kr kr kr
noncomputable def iO (x_g:DGuest):Option Bool:=
 cond (decide (((List.length x_g.C.Regs:Nat):Int)=(0:Int)))
  (cond (decide (x_g.C.Pc=(0:Int)))
   (cond (decide (x_g.C.Root=(0:Int)))
    (cond (decide (x_g.C.Vector=(0:Int)))
     (cond (decide (x_g.C.Saved=(0:Int)))
      (cond (!x_g.C.SavedUser)
       (cond (decide (x_g.C.Cause=(0:Int)))
        (cond (decide (x_g.C.Bad=(0:Int)))
         (cond (decide (x_g.C.Timer=(0:Int)))
          (cond (!x_g.C.Waits)
           (cond (!x_g.C.User)
            (cond (!x_g.C.On)
             (cond (!x_g.C.Stopped)
              (cond (decide (((List.length x_g.Pages:Nat):Int)=(0:Int)))
               (cond (decide (((List.length x_g.In:Nat):Int)=(0:Int)))
                (some (decide (((List.length x_g.Out:Nat):Int)=(0:Int))))
                (some false))
               (some false))
              (some false))
             (some false))
            (some false))
           (some false))
          (some false))
         (some false))
        (some false))
       (some false))
      (some false))
     (some false))
    (some false))
   (some false))
  (some false)
noncomputable def g91:Sg tG:=⟨[.st 41],.one .b,iO⟩
theorem s91:Sok 91 g91:=sgx [] trivial .o kr kr kr
noncomputable def aDd  (s3:Unit):Option Bool:=some true
noncomputable def mA (s4:Int)(s5:Unit):Option (LO Int (JO Unit Bool)):=some (.next (w64 (s4+(1:Int))))
noncomputable def hZ (s2:(List Int)×(List Bool))(s4:Int):Option (LO Int (JO Unit Bool)):=
 cond (decide (s4<(20:Int)))
  (Option.bind (grd ((0:Int)<=s4/\s4<((List.length s2.1:Nat):Int)) (cond (decide ((1:Int)<(List.getD s2.1 (Int.toNat s4) default)))
   (grd ((0:Int)<=s4/\s4<((List.length s2.2:Nat):Int)) (cond (List.getD s2.2 (Int.toNat s4) default)
    (some (.out (.ret (.out false))))
    (some (.go ()))))
   (some (.go ())))) λj5=>
   JO.run j5 (mA s4))
  (some (.ret (.go ())))
noncomputable def rX  (s2:(List Int)×(List Bool)):Option Bool:=
 Option.bind (Option.bind (iter (hZ s2) (0:Int)) LO.val) λj3=>
  JO.run j3 aDd
noncomputable def mC (s6:(List Int)×(List Bool)×Int)(s7:(List Int)×(List Bool)):Option (LO ((List Int)×(List Bool)×Int) (JO ((List Int)×(List Bool)) Bool)):=some (.next (s7.1,s7.2,w64 (s6.2.2+(1:Int))))
noncomputable def kZ (s12:(List Int)×(List Bool)×Int)(s13:(List Bool)×(List Int)):Option (LO ((List Int)×(List Bool)×Int) (JO ((List Int)×(List Bool)) (LO ((List Int)×(List Bool)×Int) (JO ((List Int)×(List Bool)) Bool)))):=some (.next (s13.2,s13.1,w64 (s12.2.2+(1:Int))))
noncomputable def kQ (x_h:DHost)(s6:(List Int)×(List Bool)×Int)(s12:(List Int)×(List Bool)×Int)(s14:Unit):Option (JO ((List Bool)×(List Int)) (LO ((List Int)×(List Bool)×Int) (JO ((List Int)×(List Bool)) (LO ((List Int)×(List Bool)×Int) (JO ((List Int)×(List Bool)) Bool))))):=
 cond (decide ((0:Int)<=(List.getD (List.getD x_h.Guests (Int.toNat s6.2.2) default).Pages (Int.toNat s12.2.2) default).Frame))
  (grd ((0:Int)<=(List.getD (List.getD x_h.Guests (Int.toNat s6.2.2) default).Pages (Int.toNat s12.2.2) default).Frame/\(List.getD (List.getD x_h.Guests (Int.toNat s6.2.2) default).Pages (Int.toNat s12.2.2) default).Frame<((List.length s12.1:Nat):Int)) (grd ((0:Int)<=(List.getD (List.getD x_h.Guests (Int.toNat s6.2.2) default).Pages (Int.toNat s12.2.2) default).Frame/\(List.getD (List.getD x_h.Guests (Int.toNat s6.2.2) default).Pages (Int.toNat s12.2.2) default).Frame<((List.length s12.1:Nat):Int)) (grd ((0:Int)<=(List.getD (List.getD x_h.Guests (Int.toNat s6.2.2) default).Pages (Int.toNat s12.2.2) default).Frame/\(List.getD (List.getD x_h.Guests (Int.toNat s6.2.2) default).Pages (Int.toNat s12.2.2) default).Frame<((List.length s12.2.1:Nat):Int)) (cond (List.getD s12.2.1 (Int.toNat (List.getD (List.getD x_h.Guests (Int.toNat s6.2.2) default).Pages (Int.toNat s12.2.2) default).Frame) default)
   (grd ((0:Int)<=(List.getD (List.getD x_h.Guests (Int.toNat s6.2.2) default).Pages (Int.toNat s12.2.2) default).Frame/\(List.getD (List.getD x_h.Guests (Int.toNat s6.2.2) default).Pages (Int.toNat s12.2.2) default).Frame<((List.length s12.2.1:Nat):Int)) (some (.go ((List.set s12.2.1 (Int.toNat (List.getD (List.getD x_h.Guests (Int.toNat s6.2.2) default).Pages (Int.toNat s12.2.2) default).Frame) true),List.set s12.1 (Int.toNat (List.getD (List.getD x_h.Guests (Int.toNat s6.2.2) default).Pages (Int.toNat s12.2.2) default).Frame) (w64 ((List.getD s12.1 (Int.toNat (List.getD (List.getD x_h.Guests (Int.toNat s6.2.2) default).Pages (Int.toNat s12.2.2) default).Frame) default)+(1:Int)))))))
   (grd ((0:Int)<=(List.getD (List.getD x_h.Guests (Int.toNat s6.2.2) default).Pages (Int.toNat s12.2.2) default).Frame/\(List.getD (List.getD x_h.Guests (Int.toNat s6.2.2) default).Pages (Int.toNat s12.2.2) default).Frame<((List.length s12.2.1:Nat):Int)) (some (.go ((List.set s12.2.1 (Int.toNat (List.getD (List.getD x_h.Guests (Int.toNat s6.2.2) default).Pages (Int.toNat s12.2.2) default).Frame) (List.getD (List.getD x_h.Guests (Int.toNat s6.2.2) default).Pages (Int.toNat s12.2.2) default).Write),List.set s12.1 (Int.toNat (List.getD (List.getD x_h.Guests (Int.toNat s6.2.2) default).Pages (Int.toNat s12.2.2) default).Frame) (w64 ((List.getD s12.1 (Int.toNat (List.getD (List.getD x_h.Guests (Int.toNat s6.2.2) default).Pages (Int.toNat s12.2.2) default).Frame) default)+(1:Int)))))))))))
  (some (.go (s12.2.1,s12.1)))
noncomputable def fA (x_h:DHost)(s6:(List Int)×(List Bool)×Int)(s12:(List Int)×(List Bool)×Int):Option (LO ((List Int)×(List Bool)×Int) (JO ((List Int)×(List Bool)) (LO ((List Int)×(List Bool)×Int) (JO ((List Int)×(List Bool)) Bool)))):=
 cond (decide (s12.2.2<((List.length (List.getD x_h.Guests (Int.toNat s6.2.2) default).Pages:Nat):Int)))
  (Option.bind (grd ((0:Int)<=s12.2.2/\s12.2.2<((List.length (List.getD x_h.Guests (Int.toNat s6.2.2) default).Pages:Nat):Int)) (Option.bind (Option.bind (bL (List.getD (List.getD x_h.Guests (Int.toNat s6.2.2) default).Pages (Int.toNat s12.2.2) default).Frame (-1:Int) (19:Int)) λv15=>
   cond (!v15)
    (some (.out (.out (.ret (.out (.ret (.out false)))))))
    (cond (decide ((List.getD (List.getD x_h.Guests (Int.toNat s6.2.2) default).Pages (Int.toNat s12.2.2) default).Frame=(-1:Int)))
     (cond (List.getD (List.getD x_h.Guests (Int.toNat s6.2.2) default).Pages (Int.toNat s12.2.2) default).Write
      (some (.out (.out (.ret (.out (.ret (.out false)))))))
      (cond (List.getD (List.getD x_h.Guests (Int.toNat s6.2.2) default).Pages (Int.toNat s12.2.2) default).Dirty
       (some (.out (.out (.ret (.out (.ret (.out false)))))))
       (some (.go ()))))
     (some (.go ())))) λj14=>
   JO.run j14 (kQ x_h s6 s12))) λj13=>
   JO.run j13 (kZ s12))
  (some (.ret (.go (s12.1,s12.2.1))))
noncomputable def fO (x_h:DHost)(s6:(List Int)×(List Bool)×Int):Option (LO ((List Int)×(List Bool)×Int) (JO ((List Int)×(List Bool)) Bool)):=
 cond (decide (s6.2.2<((List.length x_h.Guests:Nat):Int)))
  (Option.bind (grd ((0:Int)<=s6.2.2/\s6.2.2<((List.length x_h.Guests:Nat):Int)) (cond (!(List.getD x_h.Guests (Int.toNat s6.2.2) default).Live)
   (Option.bind (iO (DGuest.mk (List.getD x_h.Guests (Int.toNat s6.2.2) default).Live (DCore.mk ((List.getD x_h.Guests (Int.toNat s6.2.2) default).C).Regs ((List.getD x_h.Guests (Int.toNat s6.2.2) default).C).Pc ((List.getD x_h.Guests (Int.toNat s6.2.2) default).C).Root ((List.getD x_h.Guests (Int.toNat s6.2.2) default).C).Vector ((List.getD x_h.Guests (Int.toNat s6.2.2) default).C).Saved ((List.getD x_h.Guests (Int.toNat s6.2.2) default).C).SavedUser ((List.getD x_h.Guests (Int.toNat s6.2.2) default).C).Cause ((List.getD x_h.Guests (Int.toNat s6.2.2) default).C).Bad ((List.getD x_h.Guests (Int.toNat s6.2.2) default).C).Timer ((List.getD x_h.Guests (Int.toNat s6.2.2) default).C).Waits ((List.getD x_h.Guests (Int.toNat s6.2.2) default).C).User ((List.getD x_h.Guests (Int.toNat s6.2.2) default).C).On ((List.getD x_h.Guests (Int.toNat s6.2.2) default).C).Stopped) (List.getD x_h.Guests (Int.toNat s6.2.2) default).Pages (List.getD x_h.Guests (Int.toNat s6.2.2) default).In (List.getD x_h.Guests (Int.toNat s6.2.2) default).Out)) λv8=>
   cond (!v8)
    (some (.out (.ret (.out false))))
    (some (.go (s6.1,s6.2.1))))
   (Option.bind (fU (DCore.mk ((List.getD x_h.Guests (Int.toNat s6.2.2) default).C).Regs ((List.getD x_h.Guests (Int.toNat s6.2.2) default).C).Pc ((List.getD x_h.Guests (Int.toNat s6.2.2) default).C).Root ((List.getD x_h.Guests (Int.toNat s6.2.2) default).C).Vector ((List.getD x_h.Guests (Int.toNat s6.2.2) default).C).Saved ((List.getD x_h.Guests (Int.toNat s6.2.2) default).C).SavedUser ((List.getD x_h.Guests (Int.toNat s6.2.2) default).C).Cause ((List.getD x_h.Guests (Int.toNat s6.2.2) default).C).Bad ((List.getD x_h.Guests (Int.toNat s6.2.2) default).C).Timer ((List.getD x_h.Guests (Int.toNat s6.2.2) default).C).Waits ((List.getD x_h.Guests (Int.toNat s6.2.2) default).C).User ((List.getD x_h.Guests (Int.toNat s6.2.2) default).C).On ((List.getD x_h.Guests (Int.toNat s6.2.2) default).C).Stopped)) λv9=>
   cond (!v9)
    (some (.out (.ret (.out false))))
    (cond (!decide (((List.length (List.getD x_h.Guests (Int.toNat s6.2.2) default).Pages:Nat):Int)=(8:Int)))
     (some (.out (.ret (.out false))))
     (Option.bind (cO (List.getD x_h.Guests (Int.toNat s6.2.2) default).In (30:Int)) λv10=>
     cond (!v10)
      (some (.out (.ret (.out false))))
      (Option.bind (cO (List.getD x_h.Guests (Int.toNat s6.2.2) default).Out (30:Int)) λv11=>
      cond (!v11)
       (some (.out (.ret (.out false))))
       (Option.bind (iter (fA x_h s6) (s6.1,s6.2.1,(0:Int))) LO.val))))))) λj7=>
   JO.run j7 (mC s6))
  (some (.ret (.go (s6.1,s6.2.1))))
noncomputable def eV (x_h:DHost):Option Bool:=
 Option.bind (cO x_h.Words (160:Int)) λv1=>
 cond (!v1)
  (some false)
  (cond (!decide (((List.length x_h.Words:Nat):Int)=(160:Int)))
   (some false)
   (cond (!decide (((List.length x_h.Guests:Nat):Int)=(3:Int)))
    (some false)
    (Option.bind (Option.bind (iter (fO x_h) ((List.replicate (Int.toNat (20:Int)) (0:Int)),List.replicate (Int.toNat (20:Int)) false,(0:Int))) LO.val) λj2=>
     JO.run j2 rX)))
noncomputable def g45:Sg tG:=⟨[.st 26],.one .b,eV⟩
theorem s45:Sok 45 g45:=sgx [(90,.r g90),(91,.r g91),(92,.r g92),(73,.r g73)] ⟨s90,s91,s92,s73,trivial⟩ (.s .o (.s .o (.s .o (.s .o (.j ⟨[],[],[(.s 3,.ro 3),(.s 4,.ro 4)]⟩ (.s .o (.k (.l ⟨[1],[],[(.s 3,.ro 3),(.s 4,.ro 4),(.s 5,.i .i64)]⟩ (.s .o (.j ⟨[1,5],[],[(.s 3,.ro 3),(.s 4,.ro 4)]⟩ (.k (.s .o (.s .o (.s .o (.s .o (.k (.l ⟨[1,5,6],[],[(.s 3,.ro 3),(.s 4,.ro 4),(.s 7,.i .i64)]⟩ (.s .o (.j ⟨[1,5,6,7],[],[(.s 4,.ro 4),(.s 3,.ro 3)]⟩ (.k (.s .o (.j ⟨[1,3,4,5,6,7,8],[],[]⟩ .o .o))) .o))))))))) .o))))) (.j ⟨[],[],[]⟩ (.s .o (.k (.l ⟨[3,4],[],[(.s 9,.i .i64)]⟩ (.s .o (.j ⟨[3,4,9],[],[]⟩ .o .o))))) .o)))))) kr kr kr
noncomputable def iQ (x_list:List Int):Option (List Int):=grd ((0:Int)<=((List.length x_list:Nat):Int)/\((List.length x_list:Nat):Int)*8<=2^47/\((List.length x_list:Nat):Int)<=2^47) (some (over (List.replicate (Int.toNat ((List.length x_list:Nat):Int)) (0:Int)) 0 (List.length (List.replicate (Int.toNat ((List.length x_list:Nat):Int)) (0:Int))) x_list))
noncomputable def g41:Sg tG:=⟨[.row 3],.one (.row 3),iQ⟩
theorem s41:Sok 41 g41:=sgx [] trivial .o kr kr kr
noncomputable def iG (x_c:DCore):Option DCore:=grd ((List.length ([]:List Int)+List.length x_c.Regs)*8<=2^47/\List.length ([]:List Int)+List.length x_c.Regs<=2^47) (some (DCore.mk (([]:List Int)++x_c.Regs) x_c.Pc x_c.Root x_c.Vector x_c.Saved x_c.SavedUser x_c.Cause x_c.Bad x_c.Timer x_c.Waits x_c.User x_c.On x_c.Stopped))
noncomputable def aXe:Sg tG:=⟨[.st 38],.one (.st 38),iG⟩
theorem bBr:Sok 118 aXe:=sgx [] trivial .o kr kr kr
noncomputable def oA (x_guests:List DGuest)(x_g:Int):Option Bool:=
 cond (decide ((0:Int)<=x_g))
  (cond (decide (x_g<(3:Int)))
   (grd ((0:Int)<=x_g/\x_g<((List.length x_guests:Nat):Int)) (some (List.getD x_guests (Int.toNat x_g) default).Live))
   (some false))
  (some false)
noncomputable def g77:Sg tG:=⟨[.row 41,.i .i64],.one .b,oA⟩
theorem s77:Sok 77 g77:=sgx [] trivial .o kr kr kr
noncomputable def tP (x_h:DHost)(x_g:Int):Option Bool:=
 Option.bind (pQ x_h) λv1=>
 cond v1
  (Option.bind (oA x_h.Guests x_g) λv2=>
  some v2)
  (some false)
noncomputable def g84:Sg tG:=⟨[.st 26,.i .i64],.one .b,tP⟩
theorem s84:Sok 84 g84:=sgx [(14,.r g14),(77,.r g77)] ⟨s14,s77,trivial⟩ .o kr kr kr
noncomputable def fX (x_h:DHost)(x_g:Int):Option Bool:=
 Option.bind (eV x_h) λv1=>
 cond v1
  (Option.bind (bL x_g (0:Int) (2:Int)) λv2=>
  cond v2
   (grd ((0:Int)<=x_g/\x_g<((List.length x_h.Guests:Nat):Int)) (some (List.getD x_h.Guests (Int.toNat x_g) default).Live))
   (some false))
  (some false)
noncomputable def g72:Sg tG:=⟨[.st 26,.i .i64],.one .b,fX⟩
theorem s72:Sok 72 g72:=sgx [(45,.r g45),(73,.r g73)] ⟨s45,s73,trivial⟩ .o kr kr kr
noncomputable def qC (x_b:DBare):Option DBare:=
 Option.bind (iQ x_b.C.Regs) λv1=>
 Option.bind (iQ x_b.Mem) λv2=>
 Option.bind (iQ x_b.In) λv3=>
 Option.bind (iQ x_b.Out) λv4=>
 some (DBare.mk (DCore.mk v1 x_b.C.Pc x_b.C.Root x_b.C.Vector x_b.C.Saved x_b.C.SavedUser x_b.C.Cause x_b.C.Bad x_b.C.Timer x_b.C.Waits x_b.C.User x_b.C.On x_b.C.Stopped) v2 v3 v4)
noncomputable def g95:Sg tG:=⟨[.st 82],.one (.st 82),qC⟩
theorem s95:Sok 95 g95:=sgx [(41,.r g41)] ⟨s41,trivial⟩ .o kr kr kr
theorem aEr:LW 116 ⟨12,[.tmp 4],.seq (.reg false (rg 116 0)) (.seq (.reg false (rg 116 1)) .ret)⟩:=kr
noncomputable def lI (x_words:List Int)(x_page:Int):Option (List Int):=grd ((0:Int)<=(w64 (x_page*(8:Int)))/\(w64 (x_page*(8:Int)))<=(w64 ((w64 (x_page+(1:Int)))*(8:Int)))/\(w64 ((w64 (x_page+(1:Int)))*(8:Int)))<=((List.length x_words:Nat):Int)) (some (List.take (Int.toNat (w64 ((w64 (x_page+(1:Int)))*(8:Int)))-Int.toNat (w64 (x_page*(8:Int)))) (List.drop (Int.toNat (w64 (x_page*(8:Int)))) x_words)))
noncomputable def bBa:Sg tG:=⟨[.row 3,.i .i64],.one (.rb 3),lI⟩
theorem bDp:Sok 116 bBa:=sgx [] trivial .o kr kr kr
theorem aGt{x_words:List Int}{x_page:Int}{R_:(List Int)}(hh:lI x_words x_page=some R_):Fn Try.prog 116 [bo (eI .i64) x_words,.int .i64 x_page] (bo (eI .i64) R_):=kc (bDp x_words x_page R_ hh)
noncomputable def mS (x_words:List Int)(x_page:Int):Option ((List Int)×(Nat×Nat)):=grd ((0:Int)<=(w64 (x_page*(8:Int)))/\(w64 (x_page*(8:Int)))<=(w64 ((w64 (x_page+(1:Int)))*(8:Int)))/\(w64 ((w64 (x_page+(1:Int)))*(8:Int)))<=((List.length x_words:Nat):Int)) (some (x_words,((Int.toNat (w64 (x_page*(8:Int)))),(Int.toNat (w64 ((w64 (x_page+(1:Int)))*(8:Int)))-Int.toNat (w64 (x_page*(8:Int)))))))
theorem aDr{x_words:List Int}{x_page:Int}{R_:(List Int)×(Nat×Nat)}(hh:mS x_words x_page=some R_):Inl Try.prog 116 [.sref 0 [] 0 (List.length x_words) 1,.int .i64 x_page] [(0,some (rI_3 x_words))] 1 (.sref 0 [] (0+R_.2.1*1) R_.2.2 1) [(0,some (rI_3 R_.1))] 1:=by unfold mS at hh;let q1:Root:=(rI_3 x_words);refine Inl.start aEr [0,1] [0] (E:=sp 12 [(0,sw 0 x_words),(1,ii x_page)]) (H1:=[(0,some q1)]) kr kr (sy [0,1] [0] (sp 12 [(0,sw 0 x_words),(1,ii x_page)]) [(0,some q1)] 1 (Aw.sreg [4] [0] (yu 6 [(5,sw 0 x_words),(6,ii x_page),(7,ii (w64 (x_page*(8:Int)))),(8,ii x_page),(9,ii (w64 (x_page+(1:Int)))),(10,ii (w64 ((w64 (x_page+(1:Int)))*(8:Int))))] [(0,some q1)] 1 ?_)));obtain⟨hg2,hh⟩:=bU hh;refine ys (.slc 1 (.t 5) (some (.t 7)) (some (.t 10))) (some 11) (aMv (r:=0) (π:=[]) (o:=0) (k:=(List.length x_words)) (sz:=1) (l:=(w64 (x_page*(8:Int)))) (h:=(w64 ((w64 (x_page+(1:Int)))*(8:Int)))) kr kr kr hg2 ?_);refine yt (sp 12 [(4,.sref 0 [] (0+Int.toNat (w64 (x_page*(8:Int)))*1) (Int.toNat (w64 ((w64 (x_page+(1:Int)))*(8:Int)))-Int.toNat (w64 (x_page*(8:Int)))) 1)]) [(0,some q1)] 1 (Aw.ret ?_);rw[eC hh];exact aFx (r':= .sref 0 [] (0+Int.toNat (w64 (x_page*(8:Int)))*1) (Int.toNat (w64 ((w64 (x_page+(1:Int)))*(8:Int)))-Int.toNat (w64 (x_page*(8:Int)))) 1) kr (el [some 0] (uB aAa) (hn bW gJ))
theorem aDl:LW 123 ⟨29,[.tmp 4],.seq (.reg false (rg 123 0)) (.seq (.reg false (rg 123 1)) (.seq (.seq (.reg false (rg 123 2)) (.block 0 (.loop (.seq (.reg false (rg 123 3)) (.seq (.cond (.t 12) .skip (.exit 0)) (.seq (.block 1 (.seq (.reg false (rg 123 4)) (.seq (.reg false (rg 123 5)) (.cond (.t 18) (.regd (rg 123 6) (rg 123 7)) .skip)))) (.reg false (rg 123 8)))))))) (.seq (.reg false (rg 123 10)) .ret)))⟩:=kr
noncomputable def lD  (s1:List Int):Option (List Int):=some s1
noncomputable def kN (s2:(List Int)×Int)(s3:List Int):Option (LO ((List Int)×Int) (JO (List Int) (List Int))):=some (.next (s3,w64 (s2.2+(1:Int))))
noncomputable def qI (x_words:List Int)(x_pages:List DSlot)(s2:(List Int)×Int):Option (LO ((List Int)×Int) (JO (List Int) (List Int))):=
 cond (decide (s2.2<((List.length x_pages:Nat):Int)))
  (Option.bind (grd ((0:Int)<=s2.2/\s2.2<((List.length x_pages:Nat):Int)) (cond (!decide ((List.getD x_pages (Int.toNat s2.2) default).Frame=(-1:Int)))
   (Option.bind (mS s2.1 s2.2) λv4=>
   grd (List.length v4.1=(List.length s2.1)) (grd (v4.2.1+v4.2.2<=List.length v4.1) (Option.bind (lI x_words (List.getD x_pages (Int.toNat s2.2) default).Frame) λv5=>
    some (.go (over v4.1 v4.2.1 v4.2.2 v5)))))
   (some (.go s2.1)))) λj3=>
   JO.run j3 (kN s2))
  (some (.ret (.go s2.1)))
noncomputable def kK (x_words:List Int)(x_pages:List DSlot):Option (List Int):=
 Option.bind (Option.bind (iter (qI x_words x_pages) ((List.replicate (Int.toNat (64:Int)) (0:Int)),(0:Int))) LO.val) λj1=>
  JO.run j1 lD
theorem aEo{x_words:List Int}{x_pages:List DSlot}{R_:(List Int)}(hh:kK x_words x_pages=some R_):Fn Try.prog 123 [bo (eI .i64) x_words,bo kP x_pages] (.own 3 1 (List.length R_) (fl (eI .i64) R_)):=by let z2:=(0,bo (eI .i64) x_words);let z3:=(1,bo kP x_pages);let z4:=(10,ii ((List.length x_pages:Nat):Int));let z5:EV:=(5,.sref 0 [] 0 (List.length (List.replicate (Int.toNat (64:Int)) (0:Int))) 1);let z6:=(9,bo kP x_pages);unfold kK at hh;refine Fn.start aDl [0,1] (E:=sp 29 [z2,z3]) kr (v:=sw 0 R_) (Hr:=[(0,some (rI_3 R_))]) (k:=1) kr (sy [0,1] [] (sp 29 [z2,z3]) [] 0 (Aw.sreg [0,1,5] [0] (ys (.mk 3 1 8 [ii 0] (.c (ii 64))) (some 8) (aJb (c:=(eI .i64)) (d:=(0:Int)) (k:=(64:Int)) kr dd kr ?_))));let q1:Root:=(rI_3 (List.replicate (Int.toNat (64:Int)) (0:Int)));refine yt (sp 29 [z2,z3,z5]) [(0,some q1)] 1 ?_;obtain⟨j1,hh,hk1⟩:=bind_some hh;refine Aw.join (S:=(List Int)) (λs1=>sp 29 [(5,sw 0 s1)]) (λs1=>[(0,some (rI_3 s1))]) 1 (λs1=>lD s1=some R_) ?_ ?_;{intro s1 hh;unfold lD at hh;refine sy [4] [0] (sp 29 [(4,sw 0 s1)]) [(0,some (rI_3 s1))] 1 (Aw.ret ?_);rw[eC hh];exact aFx (r':=sw 0 s1) kr (Ent.list [some 0] rfl rfl (Nat.zero_le _) (uB aAa) (hn bW gJ))};intro Q1 hN1 hR1 hE1;refine sy [0,5,9,10,11] [0] (sp 29 [z2,z5,z6,z4,(11,ii 0)]) [(0,some q1)] 1 (Aw.block ?_);obtain⟨o2,hi2,hk2⟩:=bind_some hh;refine Aw.iter (λ(s2:(List Int)×Int)=>sp 29 [(0,bo (eI .i64) x_words),(5,sw 0 s2.1),(9,bo kP x_pages),(10,ii ((List.length x_pages:Nat):Int)),(11,ii s2.2)]) (λ(s2:(List Int)×Int)=>[(0,some (rI_3 s2.1))]) 1 hi2 (el [some 0] (nZ kr (ro bW (rs (.sref 0 [] 0 (List.length (List.replicate (Int.toNat (64:Int)) (0:Int))) 1) (ro iS (ri (ri aCj)))))) (hn bW gJ)) ?_;intro s2 u2 Q2 hh hN2 hX2 hR2;let z7:EH:=(0,some (rI_3 s2.1));let z8:=(11,ii s2.2);let z9:=(12,bb (decide (s2.2<((List.length x_pages:Nat):Int))));let z10:=(5,sw 0 s2.1);let z11:=(6,ii s2.2);let z1:=List.getD x_pages (Int.toNat s2.2) default;let z12:=(18,bb (!decide (z1.Frame=(-1:Int))));unfold qI at hh;refine sy [0,5,9,10,11,12] [0] (sp 29 [z2,z10,z6,z4,z8,z9]) [z7] 1 (Aw.seq ?_);rcases aHd hh with⟨hb,hh⟩|⟨hb,hh⟩;{refine cF hb (Aw.exit (bBu (hX2 _ _ _ _ _ (eC hh) ?_)));intro hout;rw[hout]at hk2;refine aYk ?_;obtain rfl:=eC hk2;exact hN1 s2.1 _ _ _ hk1 (el [some 0] (nZ kr (rs (sw 0 s2.1) aCj)) (hn bW gJ))};refine cT hb (Aw.xskip (λ_ _ _ hq=>bCn hq) ?_);obtain⟨j3,hh,hk3⟩:=bind_some hh;refine Aw.join (S:=(List Int)) (λs3=>sp 29 [(0,bo (eI .i64) x_words),(5,sw 0 s3),(9,bo kP x_pages),(10,ii ((List.length x_pages:Nat):Int)),(11,ii s2.2)]) (λs3=>[(0,some (rI_3 s3))]) 1 (λs3=>kN s2 s3=some u2) ?_ ?_;{intro s3 hh;unfold kN at hh;exact Aw.oreg (ye (sp 29 [z2,(5,sw 0 s3),z6,z4,(11,ii (w64 (s2.2+(1:Int)))),(27,ii (w64 (s2.2+(1:Int))))]) [(0,some (rI_3 s3))] 1 (hN2 (s3,w64 (s2.2+(1:Int))) _ _ _ (eC hh) (el [some 0] (nZ kr (ro bW (rs (sw 0 s3) (ro iS (ri (ri aCj)))))) (hn bW gJ))))};intro Q3 hN3 hR3 hE3;refine Aw.block (Aw.sreg [0,5,6,7,9,10,11] [0,1] (yj 1  (sp 29 [z2,z10,z6,z4,z8,z9,(13,ii s2.2)]) [z7] 1 ?_));obtain⟨hg104,hh⟩:=bU hh;refine ys (.iadr 3 (.t 9) (.t 11)) (some 14) (aZa (kd:= .i64) (c:=kP) (xs:=x_pages) wJ dd kr kr hg104 ?_);refine ys (.load true 3 (.t 14)) (some 15) (aUn (c:=kP) (xs:=x_pages) (o:=Int.toNat s2.2*3) (i:=(Int.toNat s2.2)) (off:=0) (v:= .agg [ii z1.Frame,bb z1.Write,bb z1.Dirty]) wJ kr ltn ltn dd kr ?_);let q2:Root:=⟨43,[ii z1.Frame,bb z1.Write,bb z1.Dirty]⟩;let z13:=(1,some q2);refine yt (sp 29 [z2,z10,z11,(7,pp 1),z6,z4,z8]) [z7,z13] 2 (sy [0,5,6,7,9,10,11,18] [0,1] (sp 29 [z2,z10,z11,(7,pp 1),z6,z4,z8,z12]) [z7,z13] 2 ?_);rcases aHd hh with⟨hb,hh⟩|⟨hb,hh⟩;{refine cF hb (Aw.skip (aRn ?_));obtain rfl:=eC hh;exact hN3 s2.1 _ _ _ hk3 (el [some 0] (nZ kr (ro bW (rs (sw 0 s2.1) (ro iS (ri (ri aCj)))))) (hn bW gJ))};refine cT hb (Aw.oregd [0] kr (dj 2 (sp 29 [z2,z10,z11,(7,pp 1),z6,z4,z8,z12,(19,sw 0 s2.1),(20,ii s2.2)]) [z7,z13] 2 ?_));obtain⟨v4,hv4,hh⟩:=bind_some hh;let z14:EH:=(0,some (rI_3 v4.1));let z15:EV:=(21,.sref 0 [] (0+v4.2.1*1) v4.2.2 1);obtain⟨hg107,hh⟩:=bU hh;obtain⟨hg108,hh⟩:=bU hh;refine ds (.call 116 [.t 19,.t 20]) (some 21) (bEg rfl (cf (.sref 0 [] (0+v4.2.1*1) v4.2.2 1) [z14] 2 [0] (aDr hv4) [sw 0 s2.1,ii s2.2] rz (hn bW gJ) aAa (hn bW gJ) ⟨⟨⟨by decide,aVh rfl rfl⟩,Hld.un ?_⟩⟩));refine dt (sp 29 [z2,z10,z11,(7,pp 1),z6,z4,z8,z12,(19,sw 0 s2.1),(20,ii s2.2),z15,(22,bo (eI .i64) x_words),(23,pp 1),(24,ii z1.Frame)]) [z14,(0,none),z7,z13] 2 ?_;obtain⟨v5,hv5,hh⟩:=bind_some hh;refine ys (.call 116 [.t 22,.t 24]) (some 25) (aJx (r:=bo (eI .i64) v5) (v:=bo (eI .i64) v5) (Hr:=[]) (n':=2) (aGt hv5) (aYl (vs:=[bo (eI .i64) x_words,ii z1.Frame]) kr (oH (aD (aHi (cC dB))) (cz1 aAs))) nrr kr ?_);let q3:Root:=(rI_3 (over v4.1 v4.2.1 v4.2.2 v5));refine ys (.cpy 1 (.t 21) (.t 25)) (some 26) (aKr (c:=(eI .i64)) (xs:=v4.1) (ys:=v5) (e:=3) (r:=0) (π:=[]) (o:=0+v4.2.1*1) (k:=v4.2.2) (i:=v4.2.1) (H':=[(0,some q3),z14,(0,none),z7,z13]) cB (rpv kr (aUd (c:=(eI .i64)) (xs:=v5) cB)) kr kr ltn ltn kr ?_);refine ye (sp 29 [z2,z10,z11,(7,pp 1),z6,z4,z8,z12,(19,sw 0 s2.1),(20,ii s2.2),z15,(22,bo (eI .i64) x_words),(23,pp 1),(24,ii z1.Frame),(25,bo (eI .i64) v5),(26,ii ((min v4.2.2 (List.length v5):Nat):Int))]) [(0,some q3),z14,(0,none),z7,z13] 2 (aRn ?_);obtain rfl:=eC hh;exact hN3 (over v4.1 v4.2.1 v4.2.2 v5) _ _ _ hk3 (el [some 0] (nZ kr (ro bW (rs (sw 0 s2.1) (ro iS (ri (ri aCj)))))) (hn bW gJ))
noncomputable def bBv:Sg tG:=⟨[.row 3,.row 43],.one (.row 3),kK⟩
theorem bGa:Sok 123 bBv:=λx_words x_pages R_ hh=>kc (aEo (x_words:=x_words) (x_pages:=x_pages) hh)
noncomputable def xN (x_h:DHost)(x_g:Int):Option DBare:=
 grd ((0:Int)<=x_g/\x_g<((List.length x_h.Guests:Nat):Int)) (Option.bind (kK x_h.Words (List.getD x_h.Guests (Int.toNat x_g) default).Pages) λv1=>
  some (DBare.mk (DCore.mk ((List.getD x_h.Guests (Int.toNat x_g) default).C).Regs ((List.getD x_h.Guests (Int.toNat x_g) default).C).Pc ((List.getD x_h.Guests (Int.toNat x_g) default).C).Root ((List.getD x_h.Guests (Int.toNat x_g) default).C).Vector ((List.getD x_h.Guests (Int.toNat x_g) default).C).Saved ((List.getD x_h.Guests (Int.toNat x_g) default).C).SavedUser ((List.getD x_h.Guests (Int.toNat x_g) default).C).Cause ((List.getD x_h.Guests (Int.toNat x_g) default).C).Bad ((List.getD x_h.Guests (Int.toNat x_g) default).C).Timer ((List.getD x_h.Guests (Int.toNat x_g) default).C).Waits ((List.getD x_h.Guests (Int.toNat x_g) default).C).User ((List.getD x_h.Guests (Int.toNat x_g) default).C).On ((List.getD x_h.Guests (Int.toNat x_g) default).C).Stopped) v1 (List.getD x_h.Guests (Int.toNat x_g) default).In (List.getD x_h.Guests (Int.toNat x_g) default).Out))
noncomputable def g96:Sg tG:=⟨[.st 26,.i .i64],.one (.sb 82),xN⟩
theorem s96:Sok 96 g96:=sgx [(123,.r bBv)] ⟨bGa,trivial⟩ .o kr kr kr
noncomputable def mV (x_h:DHost)(x_g:Int):Option (DBare×Bool):=
 Option.bind (tP x_h x_g) λv1=>
 cond (!v1)
  (some ((DBare.mk (DCore.mk ([]:List Int) (0:Int) (0:Int) (0:Int) (0:Int) false (0:Int) (0:Int) (0:Int) false false false false) ([]:List Int) ([]:List Int) ([]:List Int)),false))
  (Option.bind (xN x_h x_g) λv2=>
  Option.bind (qC v2) λv3=>
  some (v3,true))
noncomputable def g54:Sg tG:=⟨[.st 26,.i .i64],.two (.st 82) .b,mV⟩
theorem s54:Sok 54 g54:=sgx [(84,.r g84),(96,.r g96),(95,.r g95)] ⟨s84,s96,s95,trivial⟩ .o kr kr kr
noncomputable def aCv  (s1:List Int):Option (List Int):=some s1
noncomputable def aDb (x_a:List Int)(s2:(List Int)×Int):Option (LO ((List Int)×Int) (JO (List Int) (List Int))):=
 cond (decide (s2.2<((List.length x_a:Nat):Int)))
  (grd ((0:Int)<=s2.2/\s2.2<((List.length x_a:Nat):Int)) (grd ((0:Int)<=s2.2/\s2.2<((List.length s2.1:Nat):Int)) (some (.next ((List.set s2.1 (Int.toNat s2.2) (List.getD x_a (Int.toNat s2.2) default)),w64 (s2.2+(1:Int)))))))
  (some (.ret (.go s2.1)))
noncomputable def iF (x_a:List Int):Option (List Int):=
 grd ((0:Int)<=((List.length x_a:Nat):Int)/\((List.length x_a:Nat):Int)*8<=2^47/\((List.length x_a:Nat):Int)<=2^47) (Option.bind (Option.bind (iter (aDb x_a) ((List.replicate (Int.toNat ((List.length x_a:Nat):Int)) (0:Int)),(0:Int))) LO.val) λj1=>
  JO.run j1 aCv)
noncomputable def g60:Sg tG:=⟨[.row 3],.one (.row 3),iF⟩
theorem s60:Sok 60 g60:=sgx [] trivial (.s .o (.s .o (.j ⟨[],[],[(.s 3,.ro 3)]⟩ (.s .o (.k (.l ⟨[0],[],[(.s 3,.ro 3),(.s 4,.i .i64)]⟩ .o))) .o))) kr kr kr
noncomputable def aDf  (s1:Unit):Option Bool:=some true
noncomputable def aDp (x_a:List Int)(x_b:List Int)(s2:Int):Option (LO Int (JO Unit Bool)):=
 cond (decide (s2<((List.length x_a:Nat):Int)))
  (grd ((0:Int)<=s2/\s2<((List.length x_a:Nat):Int)) (grd ((0:Int)<=s2/\s2<((List.length x_b:Nat):Int)) (cond (!decide ((List.getD x_a (Int.toNat s2) default)=(List.getD x_b (Int.toNat s2) default)))
   (some (.ret (.out false)))
   (some (.next (w64 (s2+(1:Int))))))))
  (some (.ret (.go ())))
noncomputable def iL (x_a:List Int)(x_b:List Int):Option Bool:=
 cond (!decide (((List.length x_a:Nat):Int)=((List.length x_b:Nat):Int)))
  (some false)
  (Option.bind (Option.bind (iter (aDp x_a x_b) (0:Int)) LO.val) λj1=>
   JO.run j1 aDf)
noncomputable def g62:Sg tG:=⟨[.row 3,.row 3],.one .b,iL⟩
theorem s62:Sok 62 g62:=sgx [] trivial (.s .o (.s .o (.j ⟨[],[],[]⟩ (.s .o (.k (.l ⟨[0,1],[],[(.s 5,.i .i64)]⟩ .o))) .o))) kr kr kr
noncomputable def xP (x_a:DCore):Option DCore:=
 Option.bind (iF x_a.Regs) λv1=>
 some (DCore.mk v1 x_a.Pc x_a.Root x_a.Vector x_a.Saved x_a.SavedUser x_a.Cause x_a.Bad x_a.Timer x_a.Waits x_a.User x_a.On x_a.Stopped)
noncomputable def bBt:Sg tG:=⟨[.st 120],.one (.st 38),xP⟩
theorem bFn:Sok 126 bBt:=sgx [(60,.r g60)] ⟨s60,trivial⟩ .o kr kr kr
noncomputable def xX (x_a:DCore)(x_b:DCore):Option Bool:=
 Option.bind (iL x_a.Regs x_b.Regs) λv1=>
 cond (!v1)
  (some false)
  (cond (!decide (x_a.Pc=x_b.Pc))
   (some false)
   (cond (!decide (x_a.Root=x_b.Root))
    (some false)
    (cond (!decide (x_a.Vector=x_b.Vector))
     (some false)
     (cond (!decide (x_a.Saved=x_b.Saved))
      (some false)
      (cond (!(x_a.SavedUser==x_b.SavedUser))
       (some false)
       (cond (!decide (x_a.Cause=x_b.Cause))
        (some false)
        (cond (!decide (x_a.Bad=x_b.Bad))
         (some false)
         (cond (!decide (x_a.Timer=x_b.Timer))
          (some false)
          (cond (!(x_a.Waits==x_b.Waits))
           (some false)
           (cond (!(x_a.User==x_b.User))
            (some false)
            (cond (!(x_a.On==x_b.On))
             (some false)
             (cond (!(x_a.Stopped==x_b.Stopped))
              (some false)
              (some true)))))))))))))
noncomputable def bDe:Sg tG:=⟨[.st 38,.st 38],.one .b,xX⟩
theorem bFo:Sok 128 bDe:=sgx [(62,.r g62)] ⟨s62,trivial⟩ .o kr kr kr
noncomputable def iH (x_a:List Int)(x_left:Int):Option Int:=
 cond (decide ((w64 (x_left-((List.length x_a:Nat):Int)))<(0:Int)))
  (some (-1:Int))
  (some (w64 (x_left-((List.length x_a:Nat):Int))))
noncomputable def g58:Sg tG:=⟨[.row 3,.i .i64],.one (.i .i64),iH⟩
theorem s58:Sok 58 g58:=sgx [] trivial .o kr kr kr
noncomputable def xO (x_a:DCore)(x_left:Int):Option Int:=
 Option.bind (iH x_a.Regs x_left) λv1=>
 cond (decide (v1<(0:Int)))
  (some (-1:Int))
  (some v1)
noncomputable def bDc:Sg tG:=⟨[.st 120,.i .i64],.one (.i .i64),xO⟩
theorem bFr:Sok 124 bDc:=sgx [(58,.r g58)] ⟨s58,trivial⟩ .o kr kr kr
noncomputable def gW (x_g:DGuest):Option DGuest:=
 cond (!x_g.Live)
  (some (DGuest.mk false (DCore.mk ([]:List Int) (0:Int) (0:Int) (0:Int) (0:Int) false (0:Int) (0:Int) (0:Int) false false false false) ([]:List DSlot) ([]:List Int) ([]:List Int)))
  (Option.bind (iG x_g.C) λv1=>
  grd (List.length x_g.Pages*16<=2^47/\List.length x_g.Pages<=2^47) (grd (List.length x_g.In*8<=2^47/\List.length x_g.In<=2^47) (grd (List.length x_g.Out*8<=2^47/\List.length x_g.Out<=2^47) (some (DGuest.mk true v1 x_g.Pages x_g.In x_g.Out)))))
noncomputable def g93:Sg tG:=⟨[.st 41],.one (.st 41),gW⟩
theorem s93:Sok 93 g93:=sgx [(118,.r aXe)] ⟨bBr,trivial⟩ .o kr kr kr
noncomputable def aDm (x_h:DHost)(s1:List DGuest):Option DHost:=some (DHost.mk (([]:List Int)++x_h.Words) s1)
noncomputable def hT (x_h:DHost)(s2:(List DGuest)×Int):Option (LO ((List DGuest)×Int) (JO (List DGuest) DHost)):=
 cond (decide (s2.2<((List.length x_h.Guests:Nat):Int)))
  (grd ((0:Int)<=s2.2/\s2.2<((List.length x_h.Guests:Nat):Int)) (Option.bind (gW (DGuest.mk (List.getD x_h.Guests (Int.toNat s2.2) default).Live (DCore.mk ((List.getD x_h.Guests (Int.toNat s2.2) default).C).Regs ((List.getD x_h.Guests (Int.toNat s2.2) default).C).Pc ((List.getD x_h.Guests (Int.toNat s2.2) default).C).Root ((List.getD x_h.Guests (Int.toNat s2.2) default).C).Vector ((List.getD x_h.Guests (Int.toNat s2.2) default).C).Saved ((List.getD x_h.Guests (Int.toNat s2.2) default).C).SavedUser ((List.getD x_h.Guests (Int.toNat s2.2) default).C).Cause ((List.getD x_h.Guests (Int.toNat s2.2) default).C).Bad ((List.getD x_h.Guests (Int.toNat s2.2) default).C).Timer ((List.getD x_h.Guests (Int.toNat s2.2) default).C).Waits ((List.getD x_h.Guests (Int.toNat s2.2) default).C).User ((List.getD x_h.Guests (Int.toNat s2.2) default).C).On ((List.getD x_h.Guests (Int.toNat s2.2) default).C).Stopped) (List.getD x_h.Guests (Int.toNat s2.2) default).Pages (List.getD x_h.Guests (Int.toNat s2.2) default).In (List.getD x_h.Guests (Int.toNat s2.2) default).Out)) λv3=>
   grd ((List.length s2.1+1)*176<=2^47/\List.length s2.1+1<=2^47) (some (.next ((s2.1++([v3]:List DGuest)),w64 (s2.2+(1:Int)))))))
  (some (.ret (.go s2.1)))
noncomputable def lH (x_h:DHost):Option DHost:=
 grd ((List.length ([]:List Int)+List.length x_h.Words)*8<=2^47/\List.length ([]:List Int)+List.length x_h.Words<=2^47) (Option.bind (Option.bind (iter (hT x_h) (([]:List DGuest),(0:Int))) LO.val) λj1=>
  JO.run j1 (aDm x_h))
noncomputable def g46:Sg tG:=⟨[.st 26],.one (.st 2026),lH⟩
theorem s46:Sok 46 g46:=sgx [(93,.r g93)] ⟨s93,trivial⟩ (.s .o (.s .o (.j ⟨[2,3],[],[(.c 3 1,.ro 1041)]⟩ (.s .o (.k (.l ⟨[1,2,3],[],[(.c 3 1,.ro 1041),(.s 4,.i .i64)]⟩ (.s .o (.s (.k (.g [] [] [.fo (.c 3 1) 0])) .o))))) .o))) kr kr kr
noncomputable def iD (x_w:Int):Option DEntry:=
 Option.bind (dZ x_w) λv1=>
 cond (!v1)
  (some (DEntry.mk false false false (0:Int)))
  (some (DEntry.mk (decide ((Int.tmod x_w (2:Int))=(1:Int))) (decide ((Int.tmod (w64 (Int.tdiv x_w (2:Int))) (2:Int))=(1:Int))) (decide ((Int.tmod (w64 (Int.tdiv x_w (4:Int))) (2:Int))=(1:Int))) (Int.tmod (w64 (Int.tdiv x_w (8:Int))) (8:Int))))
noncomputable def bEd:Sg tG:=⟨[.i .i64],.one (.st 132),iD⟩
theorem bGk:Sok 110 bEd:=sgx [(117,.r aLp)] ⟨aRr,trivial⟩ .o kr kr kr
noncomputable def lM (x_h:DHost)(x_g:Int)(x_at:Int):Option Int:=
 grd ((0:Int)<=x_g/\x_g<((List.length x_h.Guests:Nat):Int)) (grd ((0:Int)<=(w64 (Int.tdiv x_at (8:Int)))/\(w64 (Int.tdiv x_at (8:Int)))<((List.length (List.getD x_h.Guests (Int.toNat x_g) default).Pages:Nat):Int)) (cond (decide ((List.getD (List.getD x_h.Guests (Int.toNat x_g) default).Pages (Int.toNat (w64 (Int.tdiv x_at (8:Int)))) default).Frame<(0:Int)))
  (some (0:Int))
  (grd ((0:Int)<=(w64 ((w64 ((List.getD (List.getD x_h.Guests (Int.toNat x_g) default).Pages (Int.toNat (w64 (Int.tdiv x_at (8:Int)))) default).Frame*(8:Int)))+(Int.tmod x_at (8:Int))))/\(w64 ((w64 ((List.getD (List.getD x_h.Guests (Int.toNat x_g) default).Pages (Int.toNat (w64 (Int.tdiv x_at (8:Int)))) default).Frame*(8:Int)))+(Int.tmod x_at (8:Int))))<((List.length x_h.Words:Nat):Int)) (some (List.getD x_h.Words (Int.toNat (w64 ((w64 ((List.getD (List.getD x_h.Guests (Int.toNat x_g) default).Pages (Int.toNat (w64 (Int.tdiv x_at (8:Int)))) default).Frame*(8:Int)))+(Int.tmod x_at (8:Int))))) default)))))
noncomputable def bBi:Sg tG:=⟨[.st 26,.i .i64,.i .i64],.one (.i .i64),lM⟩
theorem bFa:Sok 111 bBi:=sgx [] trivial .o kr kr kr
noncomputable def zI  (s2:List DShade):Option (List DShade):=some s2
noncomputable def jQ (x_h:DHost)(x_g:Int)(s3:(List DShade)×Int)(s4:Bool×Bool×Bool×Int):Option (LO ((List DShade)×Int) (JO (List DShade) (List DShade))):=grd ((0:Int)<=x_g/\x_g<((List.length x_h.Guests:Nat):Int)) (grd ((0:Int)<=s4.2.2.2/\s4.2.2.2<((List.length (List.getD x_h.Guests (Int.toNat x_g) default).Pages:Nat):Int)) (grd ((List.length s3.1+List.length ([DShade.mk s4.1 s4.2.1 s4.2.2.1 s4.2.2.2 (List.getD (List.getD x_h.Guests (Int.toNat x_g) default).Pages (Int.toNat s4.2.2.2) default).Frame (List.getD (List.getD x_h.Guests (Int.toNat x_g) default).Pages (Int.toNat s4.2.2.2) default).Write]:List DShade))*32<=2^47/\List.length s3.1+List.length ([DShade.mk s4.1 s4.2.1 s4.2.2.1 s4.2.2.2 (List.getD (List.getD x_h.Guests (Int.toNat x_g) default).Pages (Int.toNat s4.2.2.2) default).Frame (List.getD (List.getD x_h.Guests (Int.toNat x_g) default).Pages (Int.toNat s4.2.2.2) default).Write]:List DShade)<=2^47) (some (.next ((s3.1++([DShade.mk s4.1 s4.2.1 s4.2.2.1 s4.2.2.2 (List.getD (List.getD x_h.Guests (Int.toNat x_g) default).Pages (Int.toNat s4.2.2.2) default).Frame (List.getD (List.getD x_h.Guests (Int.toNat x_g) default).Pages (Int.toNat s4.2.2.2) default).Write]:List DShade)),w64 (s3.2+(1:Int)))))))
noncomputable def fY (x_h:DHost)(x_g:Int)(s3:(List DShade)×Int):Option (LO ((List DShade)×Int) (JO (List DShade) (List DShade))):=
 cond (decide (s3.2<(8:Int)))
  (Option.bind (grd ((0:Int)<=x_g/\x_g<((List.length x_h.Guests:Nat):Int)) (cond (decide ((0:Int)<=((List.getD x_h.Guests (Int.toNat x_g) default).C).Root))
   (Option.bind (lM x_h x_g (w64 ((w64 (((List.getD x_h.Guests (Int.toNat x_g) default).C).Root*(8:Int)))+s3.2))) λv5=>
   Option.bind (iD v5) λv6=>
   some (.go (v6.There,v6.Write,v6.User,v6.Page)))
   (some (.go (true,true,true,s3.2))))) λj4=>
   JO.run j4 (jQ x_h x_g s3))
  (some (.ret (.go s3.1)))
noncomputable def gH (x_h:DHost)(x_g:Int):Option (List DShade):=
 Option.bind (fX x_h x_g) λv1=>
 cond (!v1)
  (some ([]:List DShade))
  (Option.bind (Option.bind (iter (fY x_h x_g) (([]:List DShade),(0:Int))) LO.val) λj2=>
   JO.run j2 zI)
noncomputable def g74:Sg tG:=⟨[.st 26,.i .i64],.one (.row 66),gH⟩
theorem s74:Sok 74 g74:=sgx [(72,.r g72),(111,.r bBi),(110,.r bEd)] ⟨s72,bFa,bGk,trivial⟩ (.s .o (.s .o (.s .o (.j ⟨[],[],[(.s 5,.ro 66)]⟩ (.s .o (.k (.l ⟨[1,2],[],[(.s 5,.ro 66),(.s 6,.i .i64)]⟩ (.s .o (.s (.k (.s .o (.j ⟨[1,2,5,6,7],[],[(.c 7 0,.b),(.c 7 1,.b),(.c 7 2,.b),(.c 7 3,.i .i64)]⟩ .o .o))) .o))))) .o)))) kr kr kr
noncomputable def sP (x_words:List Int)(x_s:DSlot):Option (List Int):=
 cond (decide (x_s.Frame=(-1:Int)))
  (some (List.replicate (Int.toNat (8:Int)) (0:Int)))
  (Option.bind (lI x_words x_s.Frame) λv1=>
  some v1)
noncomputable def g98:Sg tG:=⟨[.row 3,.st 43],.one (.rb 3),sP⟩
theorem s98:Sok 98 g98:=sgx [(116,.r bBa)] ⟨bDp,trivial⟩ .o kr kr kr
noncomputable def sO (x_w:Int):Option DEntry:=
 Option.bind (fV x_w) λv1=>
 cond (!v1)
  (some (DEntry.mk false false false (0:Int)))
  (some (DEntry.mk (decide ((Int.tmod (w64 (Int.tdiv x_w (1:Int))) (2:Int))=(1:Int))) (decide ((Int.tmod (w64 (Int.tdiv x_w (2:Int))) (2:Int))=(1:Int))) (decide ((Int.tmod (w64 (Int.tdiv x_w (4:Int))) (2:Int))=(1:Int))) (Int.tmod (w64 (Int.tdiv x_w (8:Int))) (8:Int))))
noncomputable def bCa:Sg tG:=⟨[.i .i64],.one (.st 132),sO⟩
theorem bFf:Sok 134 bCa:=sgx [(52,.r g52)] ⟨s52,trivial⟩ .o kr kr kr
noncomputable def vJ (x_h:DHost)(x_g:Int)(x_number:Int):Option DEntry:=
 grd ((0:Int)<=x_g/\x_g<((List.length x_h.Guests:Nat):Int)) (cond (decide (((List.getD x_h.Guests (Int.toNat x_g) default).C).Root=(-1:Int)))
  (some (DEntry.mk true true true x_number))
  (grd ((0:Int)<=((List.getD x_h.Guests (Int.toNat x_g) default).C).Root/\((List.getD x_h.Guests (Int.toNat x_g) default).C).Root<((List.length (List.getD x_h.Guests (Int.toNat x_g) default).Pages:Nat):Int)) (Option.bind (sP x_h.Words (DSlot.mk (List.getD (List.getD x_h.Guests (Int.toNat x_g) default).Pages (Int.toNat ((List.getD x_h.Guests (Int.toNat x_g) default).C).Root) default).Frame (List.getD (List.getD x_h.Guests (Int.toNat x_g) default).Pages (Int.toNat ((List.getD x_h.Guests (Int.toNat x_g) default).C).Root) default).Write (List.getD (List.getD x_h.Guests (Int.toNat x_g) default).Pages (Int.toNat ((List.getD x_h.Guests (Int.toNat x_g) default).C).Root) default).Dirty)) λv1=>
   grd ((0:Int)<=x_number/\x_number<((List.length v1:Nat):Int)) (Option.bind (sO (List.getD v1 (Int.toNat x_number) default)) λv2=>
    some v2))))
noncomputable def bDz:Sg tG:=⟨[.st 26,.i .i64,.i .i64],.one (.st 132),vJ⟩
theorem bFu:Sok 112 bDz:=sgx [(98,.r g98),(134,.r bCa)] ⟨s98,bFf,trivial⟩ .o kr kr kr
noncomputable def vO (x_h:DHost)(x_g:Int)(x_number:Int):Option DShade:=
 Option.bind (vJ x_h x_g x_number) λv1=>
 grd ((0:Int)<=x_g/\x_g<((List.length x_h.Guests:Nat):Int)) (grd ((0:Int)<=v1.Page/\v1.Page<((List.length (List.getD x_h.Guests (Int.toNat x_g) default).Pages:Nat):Int)) (some (DShade.mk v1.There v1.Write v1.User v1.Page (List.getD (List.getD x_h.Guests (Int.toNat x_g) default).Pages (Int.toNat v1.Page) default).Frame (List.getD (List.getD x_h.Guests (Int.toNat x_g) default).Pages (Int.toNat v1.Page) default).Write)))
noncomputable def g79:Sg tG:=⟨[.st 26,.i .i64,.i .i64],.one (.st 66),vO⟩
theorem s79:Sok 79 g79:=sgx [(112,.r bDz)] ⟨bFu,trivial⟩ .o kr kr kr
noncomputable def xS (x_h:DHost)(x_line:DLine):Option Bool:=
 Option.bind (oA x_h.Guests x_line.Tag) λv1=>
 cond v1
  (Option.bind (pP x_line.At) λv2=>
  cond v2
   (Option.bind (vO x_h x_line.Tag x_line.At) λv3=>
   some ((x_line.What.There==v3.There)&&((x_line.What.Write==v3.Write)&&((x_line.What.User==v3.User)&&(decide (x_line.What.Page=v3.Page)&&(decide (x_line.What.Frame=v3.Frame)&&((x_line.What.Ready==v3.Ready)&&true)))))))
   (some false))
  (some false)
noncomputable def g70:Sg tG:=⟨[.st 26,.st 68],.one .b,xS⟩
theorem s70:Sok 70 g70:=sgx [(77,.r g77),(109,.r aWg),(79,.r g79)] ⟨s77,bDm,s79,trivial⟩ .o kr kr kr
noncomputable def aBk  (s1:Unit):Option Int:=some (-1:Int)
noncomputable def aBe (s2:Int)(s3:Unit):Option (LO Int (JO Unit Int)):=some (.next (w64 (s2+(1:Int))))
noncomputable def aBb (x_tags:List DLine)(x_g:Int)(x_number:Int)(s2:Int):Option (LO Int (JO Unit Int)):=
 cond (decide (s2<((List.length x_tags:Nat):Int)))
  (Option.bind (grd ((0:Int)<=s2/\s2<((List.length x_tags:Nat):Int)) (cond (decide ((List.getD x_tags (Int.toNat s2) default).Tag=x_g))
   (cond (decide ((List.getD x_tags (Int.toNat s2) default).At=x_number))
    (some (.out (.ret (.out s2))))
    (some (.go ())))
   (some (.go ())))) λj3=>
   JO.run j3 (aBe s2))
  (some (.ret (.go ())))
noncomputable def uD (x_tags:List DLine)(x_g:Int)(x_number:Int):Option Int:=
 Option.bind (Option.bind (iter (aBb x_tags x_g x_number) (0:Int)) LO.val) λj1=>
  JO.run j1 aBk
noncomputable def g71:Sg tG:=⟨[.row 68,.i .i64,.i .i64],.one (.i .i64),uD⟩
theorem s71:Sok 71 g71:=sgx [] trivial (.s .o (.j ⟨[],[],[]⟩ (.s .o (.k (.l ⟨[1,2,9,10],[],[(.s 11,.i .i64)]⟩ (.s .o (.s .o (.j ⟨[1,2,9,10,11],[],[]⟩ .o .o)))))) .o)) kr kr kr
noncomputable def aDj  (s2:Unit):Option Bool:=some true
noncomputable def aDw (x_h:DHost)(x_tags:List DLine)(s3:Int):Option (LO Int (JO Unit Bool)):=
 cond (decide (s3<((List.length x_tags:Nat):Int)))
  (grd ((0:Int)<=s3/\s3<((List.length x_tags:Nat):Int)) (Option.bind (xS x_h (DLine.mk (List.getD x_tags (Int.toNat s3) default).Tag (List.getD x_tags (Int.toNat s3) default).At (DShade.mk ((List.getD x_tags (Int.toNat s3) default).What).There ((List.getD x_tags (Int.toNat s3) default).What).Write ((List.getD x_tags (Int.toNat s3) default).What).User ((List.getD x_tags (Int.toNat s3) default).What).Page ((List.getD x_tags (Int.toNat s3) default).What).Frame ((List.getD x_tags (Int.toNat s3) default).What).Ready))) λv4=>
   cond (!v4)
    (some (.ret (.out false)))
    (grd ((0:Int)<=(0:Int)/\(0:Int)<=s3/\s3<=((List.length x_tags:Nat):Int)) (Option.bind (uD (List.take (Int.toNat s3-Int.toNat (0:Int)) (List.drop (Int.toNat (0:Int)) x_tags)) (List.getD x_tags (Int.toNat s3) default).Tag (List.getD x_tags (Int.toNat s3) default).At) λv5=>
     cond (!decide (v5=(-1:Int)))
      (some (.ret (.out false)))
      (some (.next (w64 (s3+(1:Int)))))))))
  (some (.ret (.go ())))
noncomputable def aIl (x_h:DHost)(x_tags:List DLine):Option Bool:=
 Option.bind (pQ x_h) λv1=>
 cond (!v1)
  (some false)
  (cond (decide ((6:Int)<((List.length x_tags:Nat):Int)))
   (some false)
   (Option.bind (Option.bind (iter (aDw x_h x_tags) (0:Int)) LO.val) λj2=>
    JO.run j2 aDj))
noncomputable def g29:Sg tG:=⟨[.st 26,.row 68],.one .b,aIl⟩
theorem s29:Sok 29 g29:=sgx [(14,.r g14),(70,.r g70),(71,.r g71)] ⟨s14,s70,s71,trivial⟩ (.s .o (.s .o (.j ⟨[],[],[]⟩ (.s .o (.k (.l ⟨[1,2,15,16],[],[(.s 17,.i .i64)]⟩ .o))) .o))) kr kr kr
noncomputable def aDs  (s2:Unit):Option Bool:=some true
noncomputable def rU (s3:Int)(s4:Unit):Option (LO Int (JO Unit Bool)):=some (.next (w64 (s3+(1:Int))))
noncomputable def mB (s8:Int)(s9:Unit):Option (LO Int (JO Unit (LO Int (JO Unit Bool)))):=some (.next (w64 (s8+(1:Int))))
noncomputable def hY (x_tags:List DLine)(s3:Int)(s8:Int):Option (LO Int (JO Unit (LO Int (JO Unit Bool)))):=
 cond (decide (s8<s3))
  (Option.bind (grd ((0:Int)<=s8/\s8<((List.length x_tags:Nat):Int)) (cond (decide ((List.getD x_tags (Int.toNat s8) default).Tag=(List.getD x_tags (Int.toNat s3) default).Tag))
   (grd ((0:Int)<=s8/\s8<((List.length x_tags:Nat):Int)) (cond (decide ((List.getD x_tags (Int.toNat s8) default).At=(List.getD x_tags (Int.toNat s3) default).At))
    (some (.out (.ret (.out (.ret (.out false))))))
    (some (.go ()))))
   (some (.go ())))) λj9=>
   JO.run j9 (mB s8))
  (some (.ret (.go ())))
noncomputable def hU (x_h:DHost)(x_tags:List DLine)(s3:Int):Option (LO Int (JO Unit Bool)):=
 cond (decide (s3<((List.length x_tags:Nat):Int)))
  (Option.bind (grd ((0:Int)<=s3/\s3<((List.length x_tags:Nat):Int)) (Option.bind (fX x_h (List.getD x_tags (Int.toNat s3) default).Tag) λv5=>
   cond (!v5)
    (some (.out (.ret (.out false))))
    (Option.bind (bL (List.getD x_tags (Int.toNat s3) default).At (0:Int) (7:Int)) λv6=>
    cond (!v6)
     (some (.out (.ret (.out false))))
     (Option.bind (gH x_h (List.getD x_tags (Int.toNat s3) default).Tag) λv7=>
     grd ((0:Int)<=(List.getD x_tags (Int.toNat s3) default).At/\(List.getD x_tags (Int.toNat s3) default).At<((List.length v7:Nat):Int)) (cond (!(((List.getD v7 (Int.toNat (List.getD x_tags (Int.toNat s3) default).At) default).There==((List.getD x_tags (Int.toNat s3) default).What).There)&&(((List.getD v7 (Int.toNat (List.getD x_tags (Int.toNat s3) default).At) default).Write==((List.getD x_tags (Int.toNat s3) default).What).Write)&&(((List.getD v7 (Int.toNat (List.getD x_tags (Int.toNat s3) default).At) default).User==((List.getD x_tags (Int.toNat s3) default).What).User)&&(decide ((List.getD v7 (Int.toNat (List.getD x_tags (Int.toNat s3) default).At) default).Page=((List.getD x_tags (Int.toNat s3) default).What).Page)&&(decide ((List.getD v7 (Int.toNat (List.getD x_tags (Int.toNat s3) default).At) default).Frame=((List.getD x_tags (Int.toNat s3) default).What).Frame)&&(((List.getD v7 (Int.toNat (List.getD x_tags (Int.toNat s3) default).At) default).Ready==((List.getD x_tags (Int.toNat s3) default).What).Ready)&&true)))))))
      (some (.out (.ret (.out false))))
      (Option.bind (iter (hY x_tags s3) (0:Int)) LO.val)))))) λj4=>
   JO.run j4 (rU s3))
  (some (.ret (.go ())))
noncomputable def lN (x_h:DHost)(x_tags:List DLine):Option Bool:=
 Option.bind (eV x_h) λv1=>
 cond (!v1)
  (some false)
  (cond (decide ((6:Int)<((List.length x_tags:Nat):Int)))
   (some false)
   (Option.bind (Option.bind (iter (hU x_h x_tags) (0:Int)) LO.val) λj2=>
    JO.run j2 aDs))
noncomputable def g30:Sg tG:=⟨[.st 26,.row 68],.one .b,lN⟩
theorem s30:Sok 30 g30:=sgx [(45,.r g45),(72,.r g72),(73,.r g73),(74,.r g74)] ⟨s45,s72,s73,s74,trivial⟩ (.s .o (.s .o (.j ⟨[],[],[]⟩ (.s .o (.k (.l ⟨[1,2],[],[(.s 5,.i .i64)]⟩ (.s .o (.j ⟨[1,2,5],[],[]⟩ (.k (.s .o (.s .o (.s .o (.k (.l ⟨[1,2,5,6],[],[(.s 7,.i .i64)]⟩ (.s .o (.j ⟨[1,2,5,6,7],[],[]⟩ .o .o)))))))) .o))))) .o))) kr kr kr
noncomputable def qG (x_table:List DShade)(x_addr:Int)(s1:Unit):Option (Int×Int):=some ((w64 ((w64 ((List.getD x_table (Int.toNat (w64 (Int.tdiv x_addr (8:Int)))) default).Frame*(8:Int)))+(Int.tmod x_addr (8:Int)))),(0:Int))
noncomputable def jX (x_table:List DShade)(x_addr:Int)(x_user:Bool)(x_write:Bool):Option (Int×Int):=
 grd ((0:Int)<=(w64 (Int.tdiv x_addr (8:Int)))/\(w64 (Int.tdiv x_addr (8:Int)))<((List.length x_table:Nat):Int)) (Option.bind (cond (!(List.getD x_table (Int.toNat (w64 (Int.tdiv x_addr (8:Int)))) default).There)
  (some (.out ((-1:Int),(1:Int))))
  (cond x_write
   (cond (!(List.getD x_table (Int.toNat (w64 (Int.tdiv x_addr (8:Int)))) default).Write)
    (some (.out ((-1:Int),(1:Int))))
    (cond x_user
     (cond (!(List.getD x_table (Int.toNat (w64 (Int.tdiv x_addr (8:Int)))) default).User)
      (some (.out ((-1:Int),(1:Int))))
      (cond (decide ((List.getD x_table (Int.toNat (w64 (Int.tdiv x_addr (8:Int)))) default).Frame<(0:Int)))
       (some (.out ((-1:Int),(2:Int))))
       (cond x_write
        (cond (!(List.getD x_table (Int.toNat (w64 (Int.tdiv x_addr (8:Int)))) default).Ready)
         (some (.out ((-1:Int),(3:Int))))
         (some (.go ())))
        (some (.go ())))))
     (cond (decide ((List.getD x_table (Int.toNat (w64 (Int.tdiv x_addr (8:Int)))) default).Frame<(0:Int)))
      (some (.out ((-1:Int),(2:Int))))
      (cond x_write
       (cond (!(List.getD x_table (Int.toNat (w64 (Int.tdiv x_addr (8:Int)))) default).Ready)
        (some (.out ((-1:Int),(3:Int))))
        (some (.go ())))
       (some (.go ()))))))
   (cond x_user
    (cond (!(List.getD x_table (Int.toNat (w64 (Int.tdiv x_addr (8:Int)))) default).User)
     (some (.out ((-1:Int),(1:Int))))
     (cond (decide ((List.getD x_table (Int.toNat (w64 (Int.tdiv x_addr (8:Int)))) default).Frame<(0:Int)))
      (some (.out ((-1:Int),(2:Int))))
      (cond x_write
       (cond (!(List.getD x_table (Int.toNat (w64 (Int.tdiv x_addr (8:Int)))) default).Ready)
        (some (.out ((-1:Int),(3:Int))))
        (some (.go ())))
       (some (.go ())))))
    (cond (decide ((List.getD x_table (Int.toNat (w64 (Int.tdiv x_addr (8:Int)))) default).Frame<(0:Int)))
     (some (.out ((-1:Int),(2:Int))))
     (cond x_write
      (cond (!(List.getD x_table (Int.toNat (w64 (Int.tdiv x_addr (8:Int)))) default).Ready)
       (some (.out ((-1:Int),(3:Int))))
       (some (.go ())))
      (some (.go ()))))))) λj1=>
  JO.run j1 (qG x_table x_addr))
noncomputable def g83:Sg tG:=⟨[.row 66,.i .i64,.b,.b],.two (.i .i64) (.i .i64),jX⟩
theorem s83:Sok 83 g83:=sgx [] trivial (.s .o (.s .o (.j ⟨[1,10],[],[]⟩ .o .o))) kr kr kr
noncomputable def gN (x_addr:Int)(x_user:Bool)(x_write:Bool)(s5:(List DLine)×(List DShade)):Option ((List DLine)×Int×Int):=
 Option.bind (jX s5.2 x_addr x_user x_write) λv6=>
 some (s5.1,v6.1,v6.2)
noncomputable def qH (x_h:DHost)(x_tags:List DLine)(x_g:Int)(x_addr:Int)(x_user:Bool)(x_write:Bool)(s4:(List DShade)×Bool):Option ((List DLine)×Int×Int):=
 Option.bind (cond (!s4.2)
  (Option.bind (gH x_h x_g) λv7=>
  grd ((0:Int)<=(w64 (Int.tdiv x_addr (8:Int)))/\(w64 (Int.tdiv x_addr (8:Int)))<((List.length v7:Nat):Int)) (grd ((List.length (([]:List DLine)++x_tags)+List.length ([DLine.mk x_g (w64 (Int.tdiv x_addr (8:Int))) (DShade.mk (List.getD v7 (Int.toNat (w64 (Int.tdiv x_addr (8:Int)))) default).There (List.getD v7 (Int.toNat (w64 (Int.tdiv x_addr (8:Int)))) default).Write (List.getD v7 (Int.toNat (w64 (Int.tdiv x_addr (8:Int)))) default).User (List.getD v7 (Int.toNat (w64 (Int.tdiv x_addr (8:Int)))) default).Page (List.getD v7 (Int.toNat (w64 (Int.tdiv x_addr (8:Int)))) default).Frame (List.getD v7 (Int.toNat (w64 (Int.tdiv x_addr (8:Int)))) default).Ready)]:List DLine))*48<=2^47/\List.length (([]:List DLine)++x_tags)+List.length ([DLine.mk x_g (w64 (Int.tdiv x_addr (8:Int))) (DShade.mk (List.getD v7 (Int.toNat (w64 (Int.tdiv x_addr (8:Int)))) default).There (List.getD v7 (Int.toNat (w64 (Int.tdiv x_addr (8:Int)))) default).Write (List.getD v7 (Int.toNat (w64 (Int.tdiv x_addr (8:Int)))) default).User (List.getD v7 (Int.toNat (w64 (Int.tdiv x_addr (8:Int)))) default).Page (List.getD v7 (Int.toNat (w64 (Int.tdiv x_addr (8:Int)))) default).Frame (List.getD v7 (Int.toNat (w64 (Int.tdiv x_addr (8:Int)))) default).Ready)]:List DLine)<=2^47) (cond (decide ((6:Int)<((List.length ((([]:List DLine)++x_tags)++([DLine.mk x_g (w64 (Int.tdiv x_addr (8:Int))) (DShade.mk (List.getD v7 (Int.toNat (w64 (Int.tdiv x_addr (8:Int)))) default).There (List.getD v7 (Int.toNat (w64 (Int.tdiv x_addr (8:Int)))) default).Write (List.getD v7 (Int.toNat (w64 (Int.tdiv x_addr (8:Int)))) default).User (List.getD v7 (Int.toNat (w64 (Int.tdiv x_addr (8:Int)))) default).Page (List.getD v7 (Int.toNat (w64 (Int.tdiv x_addr (8:Int)))) default).Frame (List.getD v7 (Int.toNat (w64 (Int.tdiv x_addr (8:Int)))) default).Ready)]:List DLine)):Nat):Int)))
   (grd ((0:Int)<=(1:Int)/\(1:Int)<=((List.length ((([]:List DLine)++x_tags)++([DLine.mk x_g (w64 (Int.tdiv x_addr (8:Int))) (DShade.mk (List.getD v7 (Int.toNat (w64 (Int.tdiv x_addr (8:Int)))) default).There (List.getD v7 (Int.toNat (w64 (Int.tdiv x_addr (8:Int)))) default).Write (List.getD v7 (Int.toNat (w64 (Int.tdiv x_addr (8:Int)))) default).User (List.getD v7 (Int.toNat (w64 (Int.tdiv x_addr (8:Int)))) default).Page (List.getD v7 (Int.toNat (w64 (Int.tdiv x_addr (8:Int)))) default).Frame (List.getD v7 (Int.toNat (w64 (Int.tdiv x_addr (8:Int)))) default).Ready)]:List DLine)):Nat):Int)/\((List.length ((([]:List DLine)++x_tags)++([DLine.mk x_g (w64 (Int.tdiv x_addr (8:Int))) (DShade.mk (List.getD v7 (Int.toNat (w64 (Int.tdiv x_addr (8:Int)))) default).There (List.getD v7 (Int.toNat (w64 (Int.tdiv x_addr (8:Int)))) default).Write (List.getD v7 (Int.toNat (w64 (Int.tdiv x_addr (8:Int)))) default).User (List.getD v7 (Int.toNat (w64 (Int.tdiv x_addr (8:Int)))) default).Page (List.getD v7 (Int.toNat (w64 (Int.tdiv x_addr (8:Int)))) default).Frame (List.getD v7 (Int.toNat (w64 (Int.tdiv x_addr (8:Int)))) default).Ready)]:List DLine)):Nat):Int)<=((List.length ((([]:List DLine)++x_tags)++([DLine.mk x_g (w64 (Int.tdiv x_addr (8:Int))) (DShade.mk (List.getD v7 (Int.toNat (w64 (Int.tdiv x_addr (8:Int)))) default).There (List.getD v7 (Int.toNat (w64 (Int.tdiv x_addr (8:Int)))) default).Write (List.getD v7 (Int.toNat (w64 (Int.tdiv x_addr (8:Int)))) default).User (List.getD v7 (Int.toNat (w64 (Int.tdiv x_addr (8:Int)))) default).Page (List.getD v7 (Int.toNat (w64 (Int.tdiv x_addr (8:Int)))) default).Frame (List.getD v7 (Int.toNat (w64 (Int.tdiv x_addr (8:Int)))) default).Ready)]:List DLine)):Nat):Int)) (some (.go ((List.take (Int.toNat ((List.length ((([]:List DLine)++x_tags)++([DLine.mk x_g (w64 (Int.tdiv x_addr (8:Int))) (DShade.mk (List.getD v7 (Int.toNat (w64 (Int.tdiv x_addr (8:Int)))) default).There (List.getD v7 (Int.toNat (w64 (Int.tdiv x_addr (8:Int)))) default).Write (List.getD v7 (Int.toNat (w64 (Int.tdiv x_addr (8:Int)))) default).User (List.getD v7 (Int.toNat (w64 (Int.tdiv x_addr (8:Int)))) default).Page (List.getD v7 (Int.toNat (w64 (Int.tdiv x_addr (8:Int)))) default).Frame (List.getD v7 (Int.toNat (w64 (Int.tdiv x_addr (8:Int)))) default).Ready)]:List DLine)):Nat):Int)-Int.toNat (1:Int)) (List.drop 1 ((([]:List DLine)++x_tags)++([DLine.mk x_g (w64 (Int.tdiv x_addr (8:Int))) (DShade.mk (List.getD v7 (Int.toNat (w64 (Int.tdiv x_addr (8:Int)))) default).There (List.getD v7 (Int.toNat (w64 (Int.tdiv x_addr (8:Int)))) default).Write (List.getD v7 (Int.toNat (w64 (Int.tdiv x_addr (8:Int)))) default).User (List.getD v7 (Int.toNat (w64 (Int.tdiv x_addr (8:Int)))) default).Page (List.getD v7 (Int.toNat (w64 (Int.tdiv x_addr (8:Int)))) default).Frame (List.getD v7 (Int.toNat (w64 (Int.tdiv x_addr (8:Int)))) default).Ready)]:List DLine)))),v7))))
   (some (.go (((([]:List DLine)++x_tags)++([DLine.mk x_g (w64 (Int.tdiv x_addr (8:Int))) (DShade.mk (List.getD v7 (Int.toNat (w64 (Int.tdiv x_addr (8:Int)))) default).There (List.getD v7 (Int.toNat (w64 (Int.tdiv x_addr (8:Int)))) default).Write (List.getD v7 (Int.toNat (w64 (Int.tdiv x_addr (8:Int)))) default).User (List.getD v7 (Int.toNat (w64 (Int.tdiv x_addr (8:Int)))) default).Page (List.getD v7 (Int.toNat (w64 (Int.tdiv x_addr (8:Int)))) default).Frame (List.getD v7 (Int.toNat (w64 (Int.tdiv x_addr (8:Int)))) default).Ready)]:List DLine)),v7))))))
  (some (.go ((([]:List DLine)++x_tags),s4.1)))) λj5=>
  JO.run j5 (gN x_addr x_user x_write)
noncomputable def gM (s8:(List DShade)×Bool×Int)(s9:(List DShade)×Bool):Option (LO ((List DShade)×Bool×Int) (JO ((List DShade)×Bool) ((List DLine)×Int×Int))):=some (.next (s9.1,s9.2,w64 (s8.2.2+(1:Int))))
noncomputable def gS (x_tags:List DLine)(x_g:Int)(x_addr:Int)(s8:(List DShade)×Bool×Int):Option (LO ((List DShade)×Bool×Int) (JO ((List DShade)×Bool) ((List DLine)×Int×Int))):=
 cond (decide (s8.2.2<((List.length x_tags:Nat):Int)))
  (Option.bind (grd ((0:Int)<=s8.2.2/\s8.2.2<((List.length x_tags:Nat):Int)) (cond (decide ((List.getD x_tags (Int.toNat s8.2.2) default).Tag=x_g))
   (grd ((0:Int)<=s8.2.2/\s8.2.2<((List.length x_tags:Nat):Int)) (cond (decide ((List.getD x_tags (Int.toNat s8.2.2) default).At=(w64 (Int.tdiv x_addr (8:Int)))))
    (grd ((0:Int)<=s8.2.2/\s8.2.2<((List.length x_tags:Nat):Int)) (grd ((0:Int)<=(w64 (Int.tdiv x_addr (8:Int)))/\(w64 (Int.tdiv x_addr (8:Int)))<((List.length s8.1:Nat):Int)) (some (.go ((List.set s8.1 (Int.toNat (w64 (Int.tdiv x_addr (8:Int)))) (DShade.mk ((List.getD x_tags (Int.toNat s8.2.2) default).What).There ((List.getD x_tags (Int.toNat s8.2.2) default).What).Write ((List.getD x_tags (Int.toNat s8.2.2) default).What).User ((List.getD x_tags (Int.toNat s8.2.2) default).What).Page ((List.getD x_tags (Int.toNat s8.2.2) default).What).Frame ((List.getD x_tags (Int.toNat s8.2.2) default).What).Ready)),true)))))
    (some (.go (s8.1,s8.2.1)))))
   (some (.go (s8.1,s8.2.1))))) λj9=>
   JO.run j9 (gM s8))
  (some (.ret (.go (s8.1,s8.2.1))))
noncomputable def kI (x_h:DHost)(x_tags:List DLine)(x_g:Int)(x_addr:Int)(x_user:Bool)(x_write:Bool):Option ((List DLine)×Int×Int):=
 Option.bind (lN x_h x_tags) λv1=>
 cond (!v1)
  (some (([]:List DLine),(-1:Int),(-1:Int)))
  (Option.bind (fX x_h x_g) λv2=>
  cond (!v2)
   (some (([]:List DLine),(-1:Int),(-1:Int)))
   (Option.bind (bL x_addr (0:Int) (63:Int)) λv3=>
   cond (!v3)
    (some (([]:List DLine),(-1:Int),(-1:Int)))
    (grd ((List.length ([]:List DLine)+List.length x_tags)*48<=2^47/\List.length ([]:List DLine)+List.length x_tags<=2^47) (Option.bind (Option.bind (iter (gS x_tags x_g x_addr) ((List.replicate (Int.toNat (8:Int)) (DShade.mk false false false (0:Int) (0:Int) false)),false,(0:Int))) LO.val) λj4=>
     JO.run j4 (qH x_h x_tags x_g x_addr x_user x_write)))))
noncomputable def g33:Sg tG:=⟨[.st 26,.row 68,.i .i64,.i .i64,.b,.b],.three (.row 68) (.i .i64) (.i .i64),kI⟩
theorem s33:Sok 33 g33:=sgx [(30,.r g30),(72,.r g72),(73,.r g73),(74,.r g74),(83,.r g83)] ⟨s30,s72,s73,s74,s83,trivial⟩ (.s .o (.s .o (.s .o (.s .o (.s .o (.s .o (.j ⟨[2,3,4,5,6,15],[],[(.s 16,.ro 66),(.s 17,.b)]⟩ (.s .o (.k (.l ⟨[1,2,3,4,5,6,15],[],[(.s 16,.ro 66),(.s 17,.b),(.s 18,.i .i64)]⟩ (.s .o (.j ⟨[1,2,3,4,5,6,15,18],[],[(.s 16,.ro 66),(.s 17,.b)]⟩ .o .o))))) (.j ⟨[3,4,5],[],[(.s 15,.ro 68),(.s 16,.ro 66)]⟩ (.s .o (.c (.s .o (.s .o (.s .o (.c (.g [] [] [.ct 15]) .o)))) .o)) .o)))))))) kr kr kr
noncomputable def sQ  (s1:List Int):Option (List Int):=some s1
noncomputable def rR (s2:(List Int)×Int)(s3:List Int):Option (LO ((List Int)×Int) (JO (List Int) (List Int))):=some (.next (s3,w64 (s2.2+(1:Int))))
noncomputable def lU (s4:(List Int)×Int)(s5:List Int):Option (LO ((List Int)×Int) (JO (List Int) (LO ((List Int)×Int) (JO (List Int) (List Int))))):=some (.next (s5,w64 (s4.2+(1:Int))))
noncomputable def fQ (x_h:DHost)(s2:(List Int)×Int)(s4:(List Int)×Int):Option (LO ((List Int)×Int) (JO (List Int) (LO ((List Int)×Int) (JO (List Int) (List Int))))):=
 grd ((0:Int)<=s2.2/\s2.2<((List.length x_h.Guests:Nat):Int)) (cond (decide (s4.2<((List.length (List.getD x_h.Guests (Int.toNat s2.2) default).Pages:Nat):Int)))
  (Option.bind (grd ((0:Int)<=s2.2/\s2.2<((List.length x_h.Guests:Nat):Int)) (grd ((0:Int)<=s4.2/\s4.2<((List.length (List.getD x_h.Guests (Int.toNat s2.2) default).Pages:Nat):Int)) (cond (decide ((0:Int)<=(List.getD (List.getD x_h.Guests (Int.toNat s2.2) default).Pages (Int.toNat s4.2) default).Frame))
   (grd ((0:Int)<=(List.getD (List.getD x_h.Guests (Int.toNat s2.2) default).Pages (Int.toNat s4.2) default).Frame/\(List.getD (List.getD x_h.Guests (Int.toNat s2.2) default).Pages (Int.toNat s4.2) default).Frame<((List.length s4.1:Nat):Int)) (grd ((0:Int)<=(List.getD (List.getD x_h.Guests (Int.toNat s2.2) default).Pages (Int.toNat s4.2) default).Frame/\(List.getD (List.getD x_h.Guests (Int.toNat s2.2) default).Pages (Int.toNat s4.2) default).Frame<((List.length s4.1:Nat):Int)) (some (.go (List.set s4.1 (Int.toNat (List.getD (List.getD x_h.Guests (Int.toNat s2.2) default).Pages (Int.toNat s4.2) default).Frame) (w64 ((List.getD s4.1 (Int.toNat (List.getD (List.getD x_h.Guests (Int.toNat s2.2) default).Pages (Int.toNat s4.2) default).Frame) default)+(1:Int))))))))
   (some (.go s4.1))))) λj5=>
   JO.run j5 (lU s4))
  (some (.ret (.go s4.1))))
noncomputable def hO (x_h:DHost)(s2:(List Int)×Int):Option (LO ((List Int)×Int) (JO (List Int) (List Int))):=
 cond (decide (s2.2<((List.length x_h.Guests:Nat):Int)))
  (Option.bind (Option.bind (iter (fQ x_h s2) (s2.1,(0:Int))) LO.val) λj3=>
   JO.run j3 (rR s2))
  (some (.ret (.go s2.1)))
noncomputable def iP (x_h:DHost):Option (List Int):=
 Option.bind (Option.bind (iter (hO x_h) ((List.replicate (Int.toNat (20:Int)) (0:Int)),(0:Int))) LO.val) λj1=>
  JO.run j1 sQ
noncomputable def g47:Sg tG:=⟨[.st 26],.one (.row 3),iP⟩
theorem s47:Sok 47 g47:=sgx [] trivial (.s .o (.s .o (.j ⟨[],[],[(.s 3,.ro 3)]⟩ (.s .o (.k (.l ⟨[1],[],[(.s 3,.ro 3),(.s 4,.i .i64)]⟩ (.s .o (.j ⟨[1,4],[],[(.s 3,.ro 3)]⟩ (.k (.s .o (.k (.l ⟨[1,4],[],[(.s 3,.ro 3),(.s 5,.i .i64)]⟩ (.s .o (.j ⟨[1,4,5],[],[(.s 3,.ro 3)]⟩ .o .o)))))) .o))))) .o))) kr kr kr
noncomputable def zJ  (s3:List Int):Option (List Int):=some s3
noncomputable def oX (s4:(List Int)×Int)(s5:List Int):Option (LO ((List Int)×Int) (JO (List Int) (List Int))):=some (.next (s5,w64 (s4.2+(1:Int))))
noncomputable def fZ (v2:List Int)(s4:(List Int)×Int):Option (LO ((List Int)×Int) (JO (List Int) (List Int))):=
 cond (decide (s4.2<(20:Int)))
  (Option.bind (grd ((0:Int)<=s4.2/\s4.2<((List.length v2:Nat):Int)) (cond (decide ((List.getD v2 (Int.toNat s4.2) default)=(0:Int)))
   (grd ((List.length s4.1+List.length ([s4.2]:List Int))*8<=2^47/\List.length s4.1+List.length ([s4.2]:List Int)<=2^47) (some (.go (s4.1++([s4.2]:List Int)))))
   (some (.go s4.1)))) λj5=>
   JO.run j5 (oX s4))
  (some (.ret (.go s4.1)))
noncomputable def jB (x_h:DHost):Option (List Int):=
 Option.bind (eV x_h) λv1=>
 cond (!v1)
  (some ([]:List Int))
  (Option.bind (iP x_h) λv2=>
  Option.bind (Option.bind (iter (fZ v2) (([]:List Int),(0:Int))) LO.val) λj3=>
   JO.run j3 zJ)
noncomputable def g85:Sg tG:=⟨[.st 26],.one (.row 3),jB⟩
theorem s85:Sok 85 g85:=sgx [(45,.r g45),(47,.r g47)] ⟨s45,s47,trivial⟩ (.s .o (.s .o (.s .o (.s .o (.j ⟨[],[],[(.s 3,.ro 3)]⟩ (.s .o (.k (.l ⟨[4],[],[(.s 3,.ro 3),(.s 5,.i .i64)]⟩ (.s .o (.j ⟨[4,5],[],[(.s 3,.ro 3)]⟩ .o .o))))) .o))))) kr kr kr
noncomputable def pM (x_b:DBare)(v3:DHost)(s4:Int)(v6:DCore)(s7:(List Int)×(List DSlot)):Option (DHost×Int×Bool):=
 cond (decide (s4<(0:Int)))
  (some ((DHost.mk ([]:List Int) ([]:List DGuest)),(-1:Int),false))
  (grd ((0:Int)<=s4/\s4<((List.length v3.Guests:Nat):Int)) (some ((DHost.mk s7.1 (List.set v3.Guests (Int.toNat s4) (DGuest.mk true v6 s7.2 x_b.In x_b.Out))),s4,true)))
noncomputable def jK (s8:(List Int)×(List Int)×(List DSlot)×Int)(s9:(List Int)×(List Int)×(List DSlot)):Option (LO ((List Int)×(List Int)×(List DSlot)×Int) (JO ((List Int)×(List DSlot)) (DHost×Int×Bool))):=some (.next (s9.1,s9.2.1,s9.2.2,w64 (s8.2.2.2+(1:Int))))
noncomputable def nJ (x_b:DBare)(s8:(List Int)×(List Int)×(List DSlot)×Int)(s10:Bool):Option (JO ((List Int)×(List Int)×(List DSlot)) (LO ((List Int)×(List Int)×(List DSlot)×Int) (JO ((List Int)×(List DSlot)) (DHost×Int×Bool)))):=
 cond s10
  (grd ((List.length s8.2.2.1+List.length ([DSlot.mk (-1:Int) false false]:List DSlot))*16<=2^47/\List.length s8.2.2.1+List.length ([DSlot.mk (-1:Int) false false]:List DSlot)<=2^47) (some (.go (s8.1,s8.2.1,s8.2.2.1++([DSlot.mk (-1:Int) false false]:List DSlot)))))
  (cond (decide (((List.length s8.2.1:Nat):Int)=(0:Int)))
   (some (.out (.ret (.out ((DHost.mk ([]:List Int) ([]:List DGuest)),(-1:Int),false)))))
   (grd ((0:Int)<=(0:Int)/\(0:Int)<((List.length s8.2.1:Nat):Int)) (grd ((0:Int)<=(w64 ((List.getD s8.2.1 (Int.toNat (0:Int)) default)*(8:Int)))/\(w64 ((List.getD s8.2.1 (Int.toNat (0:Int)) default)*(8:Int)))<=((List.length s8.1:Nat):Int)/\((List.length s8.1:Nat):Int)<=((List.length s8.1:Nat):Int)) (grd ((0:Int)<=(0:Int)/\(0:Int)<((List.length s8.2.1:Nat):Int)) (grd ((List.length s8.2.2.1+List.length ([DSlot.mk (List.getD s8.2.1 (Int.toNat (0:Int)) default) true false]:List DSlot))*16<=2^47/\List.length s8.2.2.1+List.length ([DSlot.mk (List.getD s8.2.1 (Int.toNat (0:Int)) default) true false]:List DSlot)<=2^47) (grd ((0:Int)<=(1:Int)/\(1:Int)<=((List.length s8.2.1:Nat):Int)/\((List.length s8.2.1:Nat):Int)<=((List.length s8.2.1:Nat):Int)) (some (.go ((over s8.1 (Int.toNat (w64 ((List.getD s8.2.1 (Int.toNat (0:Int)) default)*(8:Int)))) (Int.toNat ((List.length s8.1:Nat):Int)-Int.toNat (w64 ((List.getD s8.2.1 (Int.toNat (0:Int)) default)*(8:Int)))) (List.take (Int.toNat (w64 ((w64 (s8.2.2.2+(1:Int)))*(8:Int)))-Int.toNat (w64 (s8.2.2.2*(8:Int)))) (List.drop (Int.toNat (w64 (s8.2.2.2*(8:Int)))) x_b.Mem))),List.take (Int.toNat ((List.length s8.2.1:Nat):Int)-Int.toNat (1:Int)) (List.drop (Int.toNat (1:Int)) s8.2.1),s8.2.2.1++([DSlot.mk (List.getD s8.2.1 (Int.toNat (0:Int)) default) true false]:List DSlot))))))))))
noncomputable def iZ (s11:Bool×Int)(s12:Bool):Option (LO (Bool×Int) (JO Bool (JO ((List Int)×(List Int)×(List DSlot)) (LO ((List Int)×(List Int)×(List DSlot)×Int) (JO ((List Int)×(List DSlot)) (DHost×Int×Bool)))))):=some (.next (s12,w64 (s11.2+(1:Int))))
noncomputable def eH (x_b:DBare)(s8:(List Int)×(List Int)×(List DSlot)×Int)(s11:Bool×Int):Option (LO (Bool×Int) (JO Bool (JO ((List Int)×(List Int)×(List DSlot)) (LO ((List Int)×(List Int)×(List DSlot)×Int) (JO ((List Int)×(List DSlot)) (DHost×Int×Bool)))))):=
 cond (decide (s11.2<(8:Int)))
  (Option.bind (cond s11.1
   (grd ((0:Int)<=s11.2/\s11.2<((List.length (List.take (Int.toNat (w64 ((w64 (s8.2.2.2+(1:Int)))*(8:Int)))-Int.toNat (w64 (s8.2.2.2*(8:Int)))) (List.drop (Int.toNat (w64 (s8.2.2.2*(8:Int)))) x_b.Mem)):Nat):Int)) (some (.go (decide ((List.getD (List.take (Int.toNat (w64 ((w64 (s8.2.2.2+(1:Int)))*(8:Int)))-Int.toNat (w64 (s8.2.2.2*(8:Int)))) (List.drop (Int.toNat (w64 (s8.2.2.2*(8:Int)))) x_b.Mem)) (Int.toNat s11.2) default)=(0:Int))))))
   (some (.go false))) λj12=>
   JO.run j12 (iZ s11))
  (some (.ret (.go s11.1)))
noncomputable def dP (x_b:DBare)(s4:Int)(s8:(List Int)×(List Int)×(List DSlot)×Int):Option (LO ((List Int)×(List Int)×(List DSlot)×Int) (JO ((List Int)×(List DSlot)) (DHost×Int×Bool))):=
 cond (decide (s8.2.2.2<(8:Int)))
  (cond (decide ((0:Int)<=s4))
   (Option.bind (grd ((0:Int)<=(w64 (s8.2.2.2*(8:Int)))/\(w64 (s8.2.2.2*(8:Int)))<=(w64 ((w64 (s8.2.2.2+(1:Int)))*(8:Int)))/\(w64 ((w64 (s8.2.2.2+(1:Int)))*(8:Int)))<=((List.length x_b.Mem:Nat):Int)) (Option.bind (Option.bind (iter (eH x_b s8) (true,(0:Int))) LO.val) λj10=>
    JO.run j10 (nJ x_b s8))) λj9=>
    JO.run j9 (jK s8))
   (some (.ret (.go (s8.1,s8.2.2.1)))))
  (some (.ret (.go (s8.1,s8.2.2.1))))
noncomputable def oJ (x_h:DHost)(x_b:DBare)(v3:DHost)(s4:Int):Option (DHost×Int×Bool):=
 Option.bind (jB x_h) λv5=>
 Option.bind (iG x_b.C) λv6=>
 grd (List.length x_b.In*8<=2^47/\List.length x_b.In<=2^47) (grd (List.length x_b.Out*8<=2^47/\List.length x_b.Out<=2^47) (Option.bind (Option.bind (iter (dP x_b s4) (v3.Words,v5,([]:List DSlot),(0:Int))) LO.val) λj7=>
  JO.run j7 (pM x_b v3 s4 v6)))
noncomputable def nK (s13:Int×Int)(s14:Int):Option (LO (Int×Int) (JO Int (DHost×Int×Bool))):=some (.next (s14,w64 (s13.2-(1:Int))))
noncomputable def dL (x_h:DHost)(s13:Int×Int):Option (LO (Int×Int) (JO Int (DHost×Int×Bool))):=
 cond (decide ((0:Int)<=s13.2))
  (Option.bind (grd ((0:Int)<=s13.2/\s13.2<((List.length x_h.Guests:Nat):Int)) (cond (!(List.getD x_h.Guests (Int.toNat s13.2) default).Live)
   (some (.go s13.2))
   (some (.go s13.1)))) λj14=>
   JO.run j14 (nK s13))
  (some (.ret (.go s13.1)))
noncomputable def jD (x_h:DHost)(x_b:DBare):Option (DHost×Int×Bool):=
 Option.bind (eV x_h) λv1=>
 cond (!v1)
  (some ((DHost.mk ([]:List Int) ([]:List DGuest)),(-1:Int),false))
  (Option.bind (lJ x_b) λv2=>
  cond (!v2)
   (some ((DHost.mk ([]:List Int) ([]:List DGuest)),(-1:Int),false))
   (Option.bind (lH x_h) λv3=>
   Option.bind (Option.bind (iter (dL x_h) ((-1:Int),(2:Int))) LO.val) λj4=>
    JO.run j4 (oJ x_h x_b v3)))
noncomputable def bDd:Sg tG:=⟨[.st 26,.st 82],.three (.st 2026) (.i .i64) .b,jD⟩
theorem bGl:Sok 107 bDd:=sgx [(45,.r g45),(133,.r bCo),(46,.r g46),(85,.r g85),(118,.r aXe)] ⟨s45,bEy,s46,s85,bBr,trivial⟩ (.s .o (.s .o (.s .o (.s .o (.j ⟨[2,3,4,7],[],[(.s 8,.i .i64)]⟩ (.s .o (.k (.l ⟨[2,3,4,7],[],[(.s 8,.i .i64),(.s 9,.i .i64)]⟩ (.s .o (.j ⟨[2,3,4,7,9],[],[(.s 8,.i .i64)]⟩ .o .o))))) (.s .o (.s (.g [.fr (.s 10) 0] [] []) (.j ⟨[4,7,8,11],[],[(.c 7 0,.ro 3),(.c 11 14,.ro 43)]⟩ (.s .o (.k (.l ⟨[3,4,7,8,11],[],[(.c 7 0,.ro 3),(.s 10,.rb 3),(.c 11 14,.ro 43),(.s 12,.i .i64)]⟩ (.s .o (.j ⟨[3,4,7,8,11,12],[],[(.c 7 0,.ro 3),(.s 10,.rb 3),(.c 11 14,.ro 43)]⟩ (.k (.s .o (.s .o (.j ⟨[3,4,7,8,10,11,12,13],[],[(.s 14,.b)]⟩ (.s .o (.k (.l ⟨[3,4,7,8,10,11,12,13],[],[(.s 14,.b),(.s 15,.i .i64)]⟩ (.s .o (.j ⟨[3,4,7,8,10,11,12,13,15],[],[(.s 14,.b)]⟩ .o .o))))) .o)))) .o))))) (.s .o (.s (.g [] [] [.fo (.c 7 1) 0]) .o)))))))))) kr kr kr
theorem aCm:LW 40 ⟨11,[.tmp 2],.seq (.reg false (rg 40 0)) (.seq (.seq (.reg false (rg 40 1)) (.cond (.t 5) (.reg false (rg 40 2)) .skip)) (.seq (.reg false (rg 40 3)) .ret))⟩:=kr
noncomputable def kU  (s1:List Int):Option Dl20Rd:=some (Dl20Rd.mk s1 (0:Int))
noncomputable def fH (x_code:List Int):Option Dl20Rd:=
 Option.bind (cond (decide ((2000:Int)<((List.length x_code:Nat):Int)))
  (grd ((0:Int)<=(0:Int)/\(0:Int)<=(2000:Int)/\(2000:Int)<=((List.length x_code:Nat):Int)) (some (.go (List.take (Int.toNat (2000:Int)-Int.toNat (0:Int)) (List.drop (Int.toNat (0:Int)) x_code)))))
  (some (.go x_code))) λj1=>
  JO.run j1 kU
theorem aEj{x_code:List Int}{R_:Dl20Rd}(hh:fH x_code=some R_):Inl Try.prog 40 [bo (eI .u8) x_code] [] 0 (pp 0) [(0,some ⟨109,[bo (eI .u8) R_.b,.int .i64 R_.p]⟩)] 1:=by let z3:=(0,bo (eI .u8) x_code);let z4:=(5,bb (decide ((2000:Int)<((List.length x_code:Nat):Int))));let z1:=List.drop (Int.toNat (0:Int)) x_code;let z2:=List.take (Int.toNat (2000:Int)-Int.toNat (0:Int)) z1;unfold fH at hh;refine Inl.start aCm [0] [] (E:=sp 11 [z3]) (H1:=[]) kr kr (sy [0] [] (sp 11 [z3]) [] 0 ?_);obtain⟨j1,hh,hk1⟩:=bind_some hh;refine Aw.join (S:=(List Int)) (λs1=>sp 11 [(0,bo (eI .u8) s1)]) (λs1=>[]) 0 (λs1=>kU s1=some R_) ?_ ?_;{intro s1 hh;unfold kU at hh;refine Aw.sreg [2] [0] ?_;let q1:Root:=⟨109,[bo (eI .u8) s1,ii 0]⟩;refine yt (sp 11 [(2,pp 0)]) [(0,some q1)] 1 (Aw.ret ?_);rw[eC hh];exact aFx (r':=pp 0) kr (el [some 0] (uB (aAn dd rfl)) (hq q1 rz gJ))};intro Q1 hN1 hR1 hE1;refine sy [0,5] [] (sp 11 [z3,z4]) [] 0 ?_;rcases aHd hh with⟨hb,hh⟩|⟨hb,hh⟩;{refine cF hb (Aw.skip ?_);obtain rfl:=eC hh;exact hN1 x_code _ _ _ hk1 (el [] (nZ kr (ro bW aCj)) gJ)};refine cT hb (Aw.oreg (yu 1 [(6,bo (eI .u8) x_code)] [] 0 ?_));obtain⟨hg6,hh⟩:=bU hh;refine ys (.slc 1 (.t 6) none (some (.c (ii 2000)))) (some 7) (aUo (c:=(eI .u8)) (xs:=x_code) (l:=(0:Int)) (h:=(2000:Int)) cB kr kr kr hg6 ?_);refine ye (sp 11 [(0,bo (eI .u8) z2),z4,(6,bo (eI .u8) x_code),(7,bo (eI .u8) z2)]) [] 0 ?_;obtain rfl:=eC hh;exact hN1 z2 _ _ _ hk1 (el [] (nZ kr (ro bW aCj)) gJ)
noncomputable def g40:So tG:=⟨[.row 5],109,fH⟩
theorem s40:Sop 40 g40:=λx_code R_ hh=>kc (aEj (x_code:=x_code) hh)
noncomputable def aA (x_r:Dl20Rd)(x_n:Int):Option (Dl20Rd×Int):=
 cond (decide (x_n<(1:Int)))
  (some ((Dl20Rd.mk x_r.b (w64 (x_r.p+(1:Int)))),(0:Int)))
  (cond (decide (((List.length x_r.b:Nat):Int)=(0:Int)))
   (some ((Dl20Rd.mk x_r.b (w64 (x_r.p+(1:Int)))),(0:Int)))
   (cond (decide ((w64 ((w64 (x_r.p+(1:Int)))-(1:Int)))<((List.length x_r.b:Nat):Int)))
    (grd ((0:Int)<=(w64 ((w64 (x_r.p+(1:Int)))-(1:Int)))/\(w64 ((w64 (x_r.p+(1:Int)))-(1:Int)))<((List.length x_r.b:Nat):Int)) (grd (x_n≠0) (some ((Dl20Rd.mk x_r.b (w64 (x_r.p+(1:Int)))),Int.tmod (IntKind.wrap .i64 (List.getD x_r.b (Int.toNat (w64 ((w64 (x_r.p+(1:Int)))-(1:Int)))) default)) x_n))))
    (grd (((List.length x_r.b:Nat):Int)≠0) (grd ((0:Int)<=(Int.tmod (w64 ((w64 (x_r.p+(1:Int)))-(1:Int))) ((List.length x_r.b:Nat):Int))/\(Int.tmod (w64 ((w64 (x_r.p+(1:Int)))-(1:Int))) ((List.length x_r.b:Nat):Int))<((List.length x_r.b:Nat):Int)) (grd (((List.length x_r.b:Nat):Int)≠0) (grd ((0:Int)<=(Int.tmod (w64 ((w64 ((w64 ((w64 (x_r.p+(1:Int)))-(1:Int)))*(7:Int)))+(3:Int))) ((List.length x_r.b:Nat):Int))/\(Int.tmod (w64 ((w64 ((w64 ((w64 (x_r.p+(1:Int)))-(1:Int)))*(7:Int)))+(3:Int))) ((List.length x_r.b:Nat):Int))<((List.length x_r.b:Nat):Int)) (grd (((List.length x_r.b:Nat):Int)≠0) (grd (x_n≠0) (some ((Dl20Rd.mk x_r.b (w64 (x_r.p+(1:Int)))),Int.tmod (bits .xor .i64 (w64 ((w64 ((w64 ((w64 ((IntKind.wrap .i64 (List.getD x_r.b (Int.toNat (Int.tmod (w64 ((w64 (x_r.p+(1:Int)))-(1:Int))) ((List.length x_r.b:Nat):Int))) default))*(131:Int)))+(w64 ((IntKind.wrap .i64 (List.getD x_r.b (Int.toNat (Int.tmod (w64 ((w64 ((w64 ((w64 (x_r.p+(1:Int)))-(1:Int)))*(7:Int)))+(3:Int))) ((List.length x_r.b:Nat):Int))) default))*(1117:Int)))))+(w64 ((w64 ((w64 (x_r.p+(1:Int)))-(1:Int)))*(29:Int)))))+(w64 ((w64 (Int.tdiv (w64 ((w64 (x_r.p+(1:Int)))-(1:Int))) ((List.length x_r.b:Nat):Int)))*(53:Int))))) (w64 (Int.tdiv (w64 ((w64 ((w64 ((w64 ((IntKind.wrap .i64 (List.getD x_r.b (Int.toNat (Int.tmod (w64 ((w64 (x_r.p+(1:Int)))-(1:Int))) ((List.length x_r.b:Nat):Int))) default))*(131:Int)))+(w64 ((IntKind.wrap .i64 (List.getD x_r.b (Int.toNat (Int.tmod (w64 ((w64 ((w64 ((w64 (x_r.p+(1:Int)))-(1:Int)))*(7:Int)))+(3:Int))) ((List.length x_r.b:Nat):Int))) default))*(1117:Int)))))+(w64 ((w64 ((w64 (x_r.p+(1:Int)))-(1:Int)))*(29:Int)))))+(w64 ((w64 (Int.tdiv (w64 ((w64 (x_r.p+(1:Int)))-(1:Int))) ((List.length x_r.b:Nat):Int)))*(53:Int))))) (64:Int)))) x_n))))))))))
noncomputable def g76:Sw tG:=⟨[.pt 109,.v (.i .i64)],.one (.i .i64),aA⟩
theorem s76:Sjk 76 g76:=sgy [] trivial .o kr kr kr
noncomputable def cA (x_r:Dl20Rd):Option (Dl20Rd×Int):=
 Option.bind (aA x_r (16:Int)) λv1=>
 Option.bind (aA v1.1 (256:Int)) λv2=>
 some (v2.1,w64 ((w64 (v1.2*(256:Int)))+v2.2))
noncomputable def aLr:Sw tG:=⟨[.pt 109],.one (.i .i64),cA⟩
theorem aRq:Sjk 105 aLr:=sgy [(76,.w g76)] ⟨s76,trivial⟩ .o kr kr kr
noncomputable def bH (x_r:Dl20Rd)(x_n:Int):Option (Dl20Rd×Bool):=
 cond (decide ((0:Int)<x_n))
  (Option.bind (aA x_r x_n) λv1=>
  some (v1.1,decide (v1.2=(w64 (x_n-(1:Int))))))
  (some (x_r,false))
noncomputable def aCn:Sw tG:=⟨[.pt 109,.v (.i .i64)],.one .b,bH⟩
theorem aHh:Sjk 108 aCn:=sgy [(76,.w g76)] ⟨s76,trivial⟩ .o kr kr kr
noncomputable def yD  (s4:Int):Option Int:=some s4
noncomputable def yF (x_e:DEntry)(s3:Int):Option Int:=
 Option.bind (cond x_e.User
  (some (.go (w64 (s3+(4:Int)))))
  (some (.go s3))) λj4=>
  JO.run j4 yD
noncomputable def yC (x_e:DEntry)(s2:Int):Option Int:=
 Option.bind (cond x_e.Write
  (some (.go (w64 (s2+(2:Int)))))
  (some (.go s2))) λj3=>
  JO.run j3 (yF x_e)
noncomputable def cK (x_e:DEntry):Option Int:=
 Option.bind (bL x_e.Page (0:Int) (7:Int)) λv1=>
 cond (!v1)
  (some (-1:Int))
  (Option.bind (cond x_e.There
   (some (.go (w64 ((w64 (x_e.Page*(8:Int)))+(1:Int)))))
   (some (.go (w64 (x_e.Page*(8:Int)))))) λj2=>
   JO.run j2 (yC x_e))
noncomputable def aVy:Sg tG:=⟨[.st 132],.one (.i .i64),cK⟩
theorem bAy:Sok 141 aVy:=sgx [(73,.r g73)] ⟨s73,trivial⟩ (.s .o (.s .o (.s .o (.j ⟨[1],[],[(.s 3,.i .i64)]⟩ .o (.j ⟨[1],[],[(.s 3,.i .i64)]⟩ .o (.j ⟨[],[],[(.s 3,.i .i64)]⟩ .o .o)))))) kr kr kr
noncomputable def aCo  (s2:(List Int)×Int×(List Int)):Option (Dl20Rd×(List Int)):=some ((Dl20Rd.mk s2.1 s2.2.1),s2.2.2)
noncomputable def sL (x_n:Int)(s1:(List Int)×Int×(List Int)):Option (Dl20Rd×(List Int)):=
 Option.bind (Option.bind (bH (Dl20Rd.mk s1.1 s1.2.1) x_n) λv3=>
  cond v3.2
   (Option.bind (aA v3.1 (2:Int)) λv4=>
   cond (decide (v4.2=(0:Int)))
    (grd ((0:Int)<=(0:Int)/\(0:Int)<=(63:Int)/\(63:Int)<=((List.length s1.2.2:Nat):Int)) (some (.go (v4.1.b,v4.1.p,List.take (Int.toNat (63:Int)-Int.toNat (0:Int)) s1.2.2))))
    (Option.bind (aA v4.1 (64:Int)) λv5=>
    Option.bind (aA v5.1 (2:Int)) λv6=>
    grd ((0:Int)<=v5.2/\v5.2<((List.length s1.2.2:Nat):Int)) (some (.go (v6.1.b,v6.1.p,List.set s1.2.2 (Int.toNat v5.2) (w64 ((4096:Int)-(w64 (v6.2*(4097:Int))))))))))
   (some (.go (v3.1.b,v3.1.p,s1.2.2)))) λj2=>
  JO.run j2 aCo
noncomputable def rT (s7:(List Int)×Int×(List Int)×Int)(s9:(List Int)×Int×Int):Option (LO ((List Int)×Int×(List Int)×Int) (JO ((List Int)×Int×(List Int)) (Dl20Rd×(List Int)))):=grd ((List.length s7.2.2.1+List.length ([s9.2.2]:List Int))*8<=2^47/\List.length s7.2.2.1+List.length ([s9.2.2]:List Int)<=2^47) (some (.next (s9.1,s9.2.1,s7.2.2.1++([s9.2.2]:List Int),w64 (s7.2.2.2+(1:Int)))))
noncomputable def rY (s7:(List Int)×Int×(List Int)×Int)(s8:(List Int)×Int×Int):Option (LO ((List Int)×Int×(List Int)×Int) (JO ((List Int)×Int×(List Int)) (Dl20Rd×(List Int)))):=
 Option.bind (cond (decide ((w64 (Int.tdiv s7.2.2.2 (8:Int)))=(1:Int)))
  (Option.bind (aA (Dl20Rd.mk s8.1 s8.2.1) (5:Int)) λv10=>
  Option.bind (aA v10.1 (4:Int)) λv11=>
  Option.bind (aA v11.1 (3:Int)) λv12=>
  Option.bind (aA v12.1 (8:Int)) λv13=>
  Option.bind (cK (DEntry.mk (decide ((0:Int)<v10.2)) (decide ((0:Int)<v11.2)) (decide ((0:Int)<v12.2)) v13.2)) λv14=>
  some (.go (v13.1.b,v13.1.p,v14)))
  (cond (decide ((w64 (Int.tdiv s7.2.2.2 (8:Int)))=(2:Int)))
   (Option.bind (aA (Dl20Rd.mk s8.1 s8.2.1) (5:Int)) λv15=>
   Option.bind (aA v15.1 (4:Int)) λv16=>
   Option.bind (aA v16.1 (3:Int)) λv17=>
   Option.bind (aA v17.1 (8:Int)) λv18=>
   Option.bind (cK (DEntry.mk (decide ((0:Int)<v15.2)) (decide ((0:Int)<v16.2)) (decide ((0:Int)<v17.2)) v18.2)) λv19=>
   some (.go (v18.1.b,v18.1.p,v19)))
   (some (.go (s8.1,s8.2.1,s8.2.2))))) λj9=>
  JO.run j9 (rT s7)
noncomputable def lY  (s7:(List Int)×Int×(List Int)×Int):Option (LO ((List Int)×Int×(List Int)×Int) (JO ((List Int)×Int×(List Int)) (Dl20Rd×(List Int)))):=
 cond (decide (s7.2.2.2<(64:Int)))
  (Option.bind (Option.bind (aA (Dl20Rd.mk s7.1 s7.2.1) (2:Int)) λv20=>
   cond (decide (v20.2=(0:Int)))
    (Option.bind (cA v20.1) λv21=>
    some (.go (v21.1.b,v21.1.p,v21.2)))
    (some (.go (v20.1.b,v20.1.p,(0:Int))))) λj8=>
   JO.run j8 (rY s7))
  (some (.ret (.go (s7.1,s7.2.1,s7.2.2.1))))
noncomputable def iI (x_r:Dl20Rd)(x_n:Int):Option (Dl20Rd×(List Int)):=
 Option.bind (Option.bind (iter lY (x_r.b,x_r.p,([]:List Int),(0:Int))) LO.val) λj1=>
  JO.run j1 (sL x_n)
noncomputable def aVr:Sw tG:=⟨[.pt 109,.v (.i .i64)],.one (.row 3),iI⟩
theorem bCe:Sjk 132 aVr:=sgy [(76,.w g76),(105,.w aLr),(141,.r aVy),(108,.w aCn)] ⟨s76,aRq,bAy,aHh,trivial⟩ (.s .o (.s .o (.j ⟨[0,1],[],[(.c 0 0,.rb 5),(.c 0 1,.i .i64),(.s 5,.ro 3)]⟩ (.s .o (.k (.l ⟨[0,1],[],[(.c 0 0,.rb 5),(.c 0 1,.i .i64),(.s 5,.ro 3),(.s 6,.i .i64)]⟩ (.s .o (.s (.k (.s .o (.j ⟨[0,1,5,6],[],[(.c 0 0,.rb 5),(.c 0 1,.i .i64),(.s 7,.i .i64)]⟩ .o (.j ⟨[0,1,5,6],[],[(.c 0 0,.rb 5),(.c 0 1,.i .i64),(.s 7,.i .i64)]⟩ .o .o)))) .o))))) (.j ⟨[],[0],[(.d 0 0,.rb 5),(.d 0 1,.i .i64),(.s 5,.ro 3)]⟩ .o .o)))) kr kr kr
noncomputable def mY:Option Bool:=
 Option.bind (fV (5:Int)) λv1=>
 cond v1
  (Option.bind (fV (-1:Int)) λv2=>
  some (!v2))
  (some false)
noncomputable def g15:Sg tG:=⟨[],.one .b,mY⟩
theorem s15:Sok 15 g15:=sgx [(52,.r g52)] ⟨s52,trivial⟩ .o kr kr kr
noncomputable def nH (x_i:DIns):Option Bool:=
 Option.bind (bL x_i.Op (0:Int) (15:Int)) λv1=>
 cond v1
  (Option.bind (bL x_i.A (0:Int) (3:Int)) λv2=>
  cond v2
   (Option.bind (bL x_i.N (0:Int) (63:Int)) λv3=>
   some v3)
   (some false))
  (some false)
noncomputable def bDs:Sg tG:=⟨[.st 157],.one .b,nH⟩
theorem bFt:Sok 145 bDs:=sgx [(73,.r g73)] ⟨s73,trivial⟩ .o kr kr kr
noncomputable def zN (v3:Dl20Rd×Int)(v4:Dl20Rd×Int)(v5:Dl20Rd×Int)(v6:Dl20Rd×Int)(v7:Dl20Rd×Int)(v8:Dl20Rd×Int)(v9:Dl20Rd×Int)(v10:Dl20Rd×Int)(v11:Dl20Rd×Int)(v12:Dl20Rd×Int)(v13:Dl20Rd×Int)(s15:(List Int)×Int×(List Int)×Int×Int):Option (Dl20Rd×DCore):=some ((Dl20Rd.mk s15.1 s15.2.1),DCore.mk s15.2.2.1 s15.2.2.2.1 s15.2.2.2.2 (w64 ((24:Int)+v3.2)) v4.2 (decide (v9.2=(0:Int))) v5.2 v6.2 (w64 (v7.2*v8.2)) (decide (v10.2=(0:Int))) (decide (v11.2=(0:Int))) (decide (v12.2=(0:Int))) (decide (v13.2=(0:Int))))
noncomputable def pI (x_n:Int)(v1:Dl20Rd×Int)(v2:Dl20Rd×Int)(v3:Dl20Rd×Int)(v4:Dl20Rd×Int)(v5:Dl20Rd×Int)(v6:Dl20Rd×Int)(v7:Dl20Rd×Int)(v8:Dl20Rd×Int)(v9:Dl20Rd×Int)(v10:Dl20Rd×Int)(v11:Dl20Rd×Int)(v12:Dl20Rd×Int)(v13:Dl20Rd×Int)(s14:(List Int)×Int×(List Int)):Option (Dl20Rd×DCore):=
 Option.bind (Option.bind (bH (Dl20Rd.mk s14.1 s14.2.1) x_n) λv16=>
  cond v16.2
   (Option.bind (aA v16.1 (4:Int)) λv17=>
   cond (decide (v17.2=(0:Int)))
    (grd ((0:Int)<=(0:Int)/\(0:Int)<=(3:Int)/\(3:Int)<=((List.length s14.2.2:Nat):Int)) (some (.go (v17.1.b,v17.1.p,List.take (Int.toNat (3:Int)-Int.toNat (0:Int)) s14.2.2,v1.2,List.getD ([(-1:Int),(1:Int),(2:Int)]:List Int) (Int.toNat v2.2) default))))
    (cond (decide (v17.2=(1:Int)))
     (Option.bind (aA v17.1 (2:Int)) λv18=>
     some (.go (v18.1.b,v18.1.p,s14.2.2,w64 ((64:Int)-(w64 (v18.2*(65:Int)))),List.getD ([(-1:Int),(1:Int),(2:Int)]:List Int) (Int.toNat v2.2) default)))
     (cond (decide (v17.2=(2:Int)))
      (Option.bind (aA v17.1 (2:Int)) λv19=>
      some (.go (v19.1.b,v19.1.p,s14.2.2,v1.2,w64 ((8:Int)-(w64 (v19.2*(10:Int)))))))
      (Option.bind (aA v17.1 (4:Int)) λv20=>
      grd ((0:Int)<=v20.2/\v20.2<((List.length s14.2.2:Nat):Int)) (some (.go (v20.1.b,v20.1.p,List.set s14.2.2 (Int.toNat v20.2) (-1:Int),v1.2,List.getD ([(-1:Int),(1:Int),(2:Int)]:List Int) (Int.toNat v2.2) default)))))))
   (some (.go (v16.1.b,v16.1.p,s14.2.2,v1.2,List.getD ([(-1:Int),(1:Int),(2:Int)]:List Int) (Int.toNat v2.2) default)))) λj15=>
  JO.run j15 (zN v3 v4 v5 v6 v7 v8 v9 v10 v11 v12 v13)
noncomputable def jP  (s21:(List Int)×Int×(List Int)×Int):Option (LO ((List Int)×Int×(List Int)×Int) (JO ((List Int)×Int×(List Int)) (Dl20Rd×DCore))):=
 cond (decide (s21.2.2.2<(4:Int)))
  (Option.bind (aA (Dl20Rd.mk s21.1 s21.2.1) (64:Int)) λv22=>
  Option.bind (aA v22.1 (16:Int)) λv23=>
  Option.bind (cA v23.1) λv24=>
  Option.bind (aA v24.1 (3:Int)) λv25=>
  grd ((0:Int)<=v25.2/\v25.2<((List.length ([v22.2,v23.2,v24.2]:List Int):Nat):Int)) (grd ((List.length s21.2.2.1+List.length ([List.getD ([v22.2,v23.2,v24.2]:List Int) (Int.toNat v25.2) default]:List Int))*8<=2^47/\List.length s21.2.2.1+List.length ([List.getD ([v22.2,v23.2,v24.2]:List Int) (Int.toNat v25.2) default]:List Int)<=2^47) (some (.next (v25.1.b,v25.1.p,s21.2.2.1++([List.getD ([v22.2,v23.2,v24.2]:List Int) (Int.toNat v25.2) default]:List Int),w64 (s21.2.2.2+(1:Int)))))))
  (some (.ret (.go (s21.1,s21.2.1,s21.2.2.1))))
noncomputable def gZ (x_r:Dl20Rd)(x_n:Int):Option (Dl20Rd×DCore):=
 Option.bind (aA x_r (64:Int)) λv1=>
 Option.bind (aA v1.1 (3:Int)) λv2=>
 grd ((0:Int)<=v2.2/\v2.2<((List.length ([(-1:Int),(1:Int),(2:Int)]:List Int):Nat):Int)) (Option.bind (aA v2.1 (4:Int)) λv3=>
  Option.bind (aA v3.1 (64:Int)) λv4=>
  Option.bind (aA v4.1 (5:Int)) λv5=>
  Option.bind (aA v5.1 (64:Int)) λv6=>
  Option.bind (aA v6.1 (4:Int)) λv7=>
  Option.bind (aA v7.1 (6:Int)) λv8=>
  Option.bind (aA v8.1 (2:Int)) λv9=>
  Option.bind (aA v9.1 (6:Int)) λv10=>
  Option.bind (aA v10.1 (3:Int)) λv11=>
  Option.bind (aA v11.1 (2:Int)) λv12=>
  Option.bind (aA v12.1 (25:Int)) λv13=>
  Option.bind (Option.bind (iter jP (v13.1.b,v13.1.p,([]:List Int),(0:Int))) LO.val) λj14=>
   JO.run j14 (pI x_n v1 v2 v3 v4 v5 v6 v7 v8 v9 v10 v11 v12 v13))
noncomputable def bCw:Sw tG:=⟨[.pt 109,.v (.i .i64)],.one (.st 38),gZ⟩
theorem bFp:Sjk 130 bCw:=sgy [(76,.w g76),(105,.w aLr),(108,.w aCn)] ⟨s76,aRq,aHh,trivial⟩ (.s .o (.s (.m [0]) (.s .o (.s .o (.s .o (.s .o (.s .o (.j ⟨[0,1,4,5],[],[(.c 0 0,.rb 5),(.c 0 1,.i .i64),(.c 5 0,.ro 3)]⟩ (.s .o (.k (.l ⟨[0,1,4,5],[],[(.c 0 0,.rb 5),(.c 0 1,.i .i64),(.c 5 0,.ro 3),(.s 6,.i .i64)]⟩ (.s .o (.s (.k (.m [0])) .o))))) (.j ⟨[4,5],[0],[(.d 0 0,.rb 5),(.d 0 1,.i .i64),(.c 5 0,.ro 3),(.c 5 1,.i .i64),(.c 5 2,.i .i64)]⟩ (.s .o (.c (.s .o (.k (.s .o (.c .o (.s .o (.c .o (.s .o (.c .o (.m [0]))))))))) .o)) .o))))))))) kr kr kr
noncomputable def aDo  (s4:Int×(List Int)×Int×Int×Int):Option (Dl20Rd×DIns):=some ((Dl20Rd.mk s4.2.1 s4.2.2.1),DIns.mk s4.1 s4.2.2.2.1 s4.2.2.2.2)
noncomputable def lL (x_r:Dl20Rd)(x_n:Int):Option (Dl20Rd×DIns):=
 Option.bind (aA x_r (16:Int)) λv1=>
 Option.bind (aA v1.1 (4:Int)) λv2=>
 Option.bind (aA v2.1 (64:Int)) λv3=>
 Option.bind (Option.bind (bH v3.1 x_n) λv5=>
  cond v5.2
   (Option.bind (aA v5.1 (3:Int)) λv6=>
   cond (decide (v6.2=(0:Int)))
    (Option.bind (aA v6.1 (2:Int)) λv7=>
    some (.go ((w64 ((16:Int)-(w64 (v7.2*(17:Int))))),v7.1.b,v7.1.p,v2.2,v3.2)))
    (cond (decide (v6.2=(1:Int)))
     (some (.go (v1.2,v6.1.b,v6.1.p,(4:Int),v3.2)))
     (Option.bind (aA v6.1 (2:Int)) λv8=>
     some (.go (v1.2,v8.1.b,v8.1.p,v2.2,w64 ((64:Int)-(w64 (v8.2*(65:Int)))))))))
   (some (.go (v1.2,v5.1.b,v5.1.p,v2.2,v3.2)))) λj4=>
  JO.run j4 aDo
noncomputable def bCd:Sw tG:=⟨[.pt 109,.v (.i .i64)],.one (.st 157),lL⟩
theorem bFi:Sjk 142 bCd:=sgy [(76,.w g76),(108,.w aCn)] ⟨s76,aHh,trivial⟩ (.s .o (.s .o (.j ⟨[4,5],[0],[(.c 5 0,.i .i64),(.d 0 0,.rb 5),(.d 0 1,.i .i64),(.c 5 1,.i .i64),(.c 5 2,.i .i64)]⟩ .o .o))) kr kr kr
noncomputable def jY (x_i:DIns):Option Int:=
 Option.bind (nH x_i) λv1=>
 cond (!v1)
  (some (-1:Int))
  (some (w64 ((w64 ((w64 (x_i.Op*(256:Int)))+(w64 (x_i.A*(64:Int)))))+x_i.N)))
noncomputable def bDl:Sg tG:=⟨[.st 157],.one (.i .i64),jY⟩
theorem bEz:Sok 143 bDl:=sgx [(145,.r bDs)] ⟨bFt,trivial⟩ .o kr kr kr
noncomputable def qK  (s2:(List Int)×(List Int)×Int):Option (Dl20Rd×(List Int)):=some ((Dl20Rd.mk s2.2.1 s2.2.2),s2.1)
noncomputable def pZ (s3:(List Int)×Int×(List Int)×Int)(s4:(List Int)×Int×(List Int)):Option (LO ((List Int)×Int×(List Int)×Int) (JO ((List Int)×(List Int)×Int) (Dl20Rd×(List Int)))):=some (.next (s4.1,s4.2.1,s4.2.2,w64 (s3.2.2.2+(1:Int))))
noncomputable def oR (s3:(List Int)×Int×(List Int)×Int)(v11:Dl20Rd×DIns)(s13:(List Int)×Int×Int):Option (JO ((List Int)×Int×(List Int)) (LO ((List Int)×Int×(List Int)×Int) (JO ((List Int)×(List Int)×Int) (Dl20Rd×(List Int))))):=
 Option.bind (jY (DIns.mk s13.2.2 v11.2.A v11.2.N)) λv14=>
 grd ((0:Int)<=s3.2.2.2/\s3.2.2.2<((List.length s3.2.2.1:Nat):Int)) (some (.go (s13.1,s13.2.1,List.set s3.2.2.1 (Int.toNat s3.2.2.2) v14)))
noncomputable def oS (s3:(List Int)×Int×(List Int)×Int)(v11:Dl20Rd×DIns)(s12:(List Int)×Int×Int):Option (JO ((List Int)×Int×(List Int)) (LO ((List Int)×Int×(List Int)×Int) (JO ((List Int)×(List Int)×Int) (Dl20Rd×(List Int))))):=
 Option.bind (cond (decide (s12.2.2=(0:Int)))
  (Option.bind (aA (Dl20Rd.mk s12.1 s12.2.1) (4:Int)) λv15=>
  cond (decide ((0:Int)<v15.2))
   (some (.go (v15.1.b,v15.1.p,(1:Int))))
   (some (.go (v15.1.b,v15.1.p,s12.2.2))))
  (some (.go (s12.1,s12.2.1,s12.2.2)))) λj13=>
  JO.run j13 (oR s3 v11)
noncomputable def qE (s3:(List Int)×Int×(List Int)×Int)(s5:Bool):Option (JO ((List Int)×Int×(List Int)) (LO ((List Int)×Int×(List Int)×Int) (JO ((List Int)×(List Int)×Int) (Dl20Rd×(List Int))))):=
 cond s5
  (Option.bind (aA (Dl20Rd.mk s3.1 s3.2.1) (3:Int)) λv6=>
  cond (decide ((0:Int)<v6.2))
   (Option.bind (aA v6.1 (8:Int)) λv7=>
   Option.bind (aA v7.1 (4:Int)) λv8=>
   Option.bind (aA v8.1 (3:Int)) λv9=>
   Option.bind (cK (DEntry.mk (decide ((0:Int)<v7.2)) (decide ((0:Int)<v8.2)) (decide ((0:Int)<v9.2)) (Int.tmod s3.2.2.2 (8:Int)))) λv10=>
   grd ((0:Int)<=s3.2.2.2/\s3.2.2.2<((List.length s3.2.2.1:Nat):Int)) (some (.go (v9.1.b,v9.1.p,List.set s3.2.2.1 (Int.toNat s3.2.2.2) v10))))
   (some (.go (v6.1.b,v6.1.p,s3.2.2.1))))
  (Option.bind (lL (Dl20Rd.mk s3.1 s3.2.1) (0:Int)) λv11=>
  Option.bind (Option.bind (aA v11.1 (2:Int)) λv16=>
   cond (decide (v16.2=(0:Int)))
    (Option.bind (aA v16.1 (10:Int)) λv17=>
    grd ((0:Int)<=v17.2/\v17.2<((10:Nat):Int)) (some (.go (v17.1.b,v17.1.p,List.getD ([(1:Int),(2:Int),(3:Int),(4:Int),(3:Int),(4:Int),(6:Int),(7:Int),(11:Int),(15:Int)]:List Int) (Int.toNat v17.2) default))))
    (some (.go (v16.1.b,v16.1.p,v11.2.Op)))) λj12=>
   JO.run j12 (oS s3 v11))
noncomputable def kM  (s3:(List Int)×Int×(List Int)×Int):Option (LO ((List Int)×Int×(List Int)×Int) (JO ((List Int)×(List Int)×Int) (Dl20Rd×(List Int)))):=
 cond (decide (s3.2.2.2<((List.length s3.2.2.1:Nat):Int)))
  (Option.bind (Option.bind (cond (decide ((w64 (Int.tdiv s3.2.2.2 (8:Int)))=(1:Int)))
   (some (.go (decide ((w64 (Int.tdiv s3.2.2.2 (8:Int)))=(1:Int)))))
   (some (.go (decide ((w64 (Int.tdiv s3.2.2.2 (8:Int)))=(2:Int)))))) λj5=>
   JO.run j5 (qE s3)) λj4=>
   JO.run j4 (pZ s3))
  (some (.ret (.go (s3.2.2.1,s3.1,s3.2.1))))
noncomputable def kA (x_r:Dl20Rd):Option (Dl20Rd×(List Int)):=
 Option.bind (iI x_r (0:Int)) λv1=>
 Option.bind (Option.bind (iter kM (v1.1.b,v1.1.p,v1.2,(0:Int))) LO.val) λj2=>
  JO.run j2 qK
noncomputable def bDy:Sw tG:=⟨[.pt 109],.one (.row 3),kA⟩
theorem bGh:Sjk 131 bDy:=sgy [(132,.w aVr),(76,.w g76),(141,.r aVy),(142,.w bCd),(143,.r bDl)] ⟨bCe,s76,bAy,bFi,bEz,trivial⟩ (.s .o (.s .o (.j ⟨[],[0],[(.s 3,.ro 3),(.d 0 0,.rb 5),(.d 0 1,.i .i64)]⟩ (.s .o (.k (.l ⟨[0],[],[(.c 0 0,.rb 5),(.c 0 1,.i .i64),(.s 3,.ro 3),(.s 4,.i .i64)]⟩ (.s .o (.j ⟨[0,4],[],[(.c 0 0,.rb 5),(.c 0 1,.i .i64),(.s 3,.ro 3)]⟩ (.k (.s .o (.k (.j ⟨[0,3,4],[],[(.s 41,.b)]⟩ .o (.c .o (.s .o (.j ⟨[0,3,4,5],[],[(.c 0 0,.rb 5),(.c 0 1,.i .i64),(.c 5 0,.i .i64)]⟩ .o (.j ⟨[0,3,4,5],[],[(.c 0 0,.rb 5),(.c 0 1,.i .i64),(.c 5 0,.i .i64)]⟩ .o .o)))))))) .o))))) .o))) kr kr kr
noncomputable def aBh (s4:(List Int)×Int×(List Int))(s5:(List Int)×Int×Int×Int×Int×Bool×Int×Int×Int×Bool×Bool×Bool×Bool×(List Int)×Int×(List Int)×(List Int)):Option (Dl20Rd×DBare):=some ((Dl20Rd.mk s5.2.2.2.2.2.2.2.2.2.2.2.2.2.1 s5.2.2.2.2.2.2.2.2.2.2.2.2.2.2.1),DBare.mk (DCore.mk s5.1 s5.2.1 s5.2.2.1 s5.2.2.2.1 s5.2.2.2.2.1 s5.2.2.2.2.2.1 s5.2.2.2.2.2.2.1 s5.2.2.2.2.2.2.2.1 s5.2.2.2.2.2.2.2.2.1 s5.2.2.2.2.2.2.2.2.2.1 s5.2.2.2.2.2.2.2.2.2.2.1 s5.2.2.2.2.2.2.2.2.2.2.2.1 s5.2.2.2.2.2.2.2.2.2.2.2.2.1) s5.2.2.2.2.2.2.2.2.2.2.2.2.2.2.2.1 s5.2.2.2.2.2.2.2.2.2.2.2.2.2.2.2.2 s4.2.2)
noncomputable def qL (x_n:Int)(v1:Dl20Rd×DCore)(v2:Dl20Rd×(List Int))(s3:(List Int)×Int×(List Int))(s4:(List Int)×Int×(List Int)):Option (Dl20Rd×DBare):=
 Option.bind (Option.bind (bH (Dl20Rd.mk s4.1 s4.2.1) x_n) λv6=>
  cond v6.2
   (Option.bind (aA v6.1 (3:Int)) λv7=>
   cond (decide (v7.2=(0:Int)))
    (Option.bind (gZ v7.1 (1:Int)) λv8=>
    some (.go (v8.2.Regs,v8.2.Pc,v8.2.Root,v8.2.Vector,v8.2.Saved,v8.2.SavedUser,v8.2.Cause,v8.2.Bad,v8.2.Timer,v8.2.Waits,v8.2.User,v8.2.On,v8.2.Stopped,v8.1.b,v8.1.p,v2.2,s3.2.2)))
    (cond (decide (v7.2=(1:Int)))
     (Option.bind (iI v7.1 (1:Int)) λv9=>
     some (.go (v1.2.Regs,v1.2.Pc,v1.2.Root,v1.2.Vector,v1.2.Saved,v1.2.SavedUser,v1.2.Cause,v1.2.Bad,v1.2.Timer,v1.2.Waits,v1.2.User,v1.2.On,v1.2.Stopped,v9.1.b,v9.1.p,v9.2,s3.2.2)))
     (some (.go (v1.2.Regs,v1.2.Pc,v1.2.Root,v1.2.Vector,v1.2.Saved,v1.2.SavedUser,v1.2.Cause,v1.2.Bad,v1.2.Timer,v1.2.Waits,v1.2.User,v1.2.On,v1.2.Stopped,v7.1.b,v7.1.p,v2.2,List.replicate (Int.toNat (31:Int)) (0:Int))))))
   (some (.go (v1.2.Regs,v1.2.Pc,v1.2.Root,v1.2.Vector,v1.2.Saved,v1.2.SavedUser,v1.2.Cause,v1.2.Bad,v1.2.Timer,v1.2.Waits,v1.2.User,v1.2.On,v1.2.Stopped,v6.1.b,v6.1.p,v2.2,s3.2.2)))) λj5=>
  JO.run j5 (aBh s4)
noncomputable def oO  (s11:(List Int)×Int×(List Int)×Int):Option (LO ((List Int)×Int×(List Int)×Int) (JO ((List Int)×Int×(List Int)) (Dl20Rd×DBare))):=
 cond (decide ((0:Int)<s11.2.2.2))
  (Option.bind (cA (Dl20Rd.mk s11.1 s11.2.1)) λv12=>
  grd ((List.length s11.2.2.1+List.length ([v12.2]:List Int))*8<=2^47/\List.length s11.2.2.1+List.length ([v12.2]:List Int)<=2^47) (some (.next (v12.1.b,v12.1.p,s11.2.2.1++([v12.2]:List Int),w64 (s11.2.2.2-(1:Int))))))
  (some (.ret (.go (s11.1,s11.2.1,s11.2.2.1))))
noncomputable def qO (x_n:Int)(v1:Dl20Rd×DCore)(v2:Dl20Rd×(List Int))(s3:(List Int)×Int×(List Int)):Option (Dl20Rd×DBare):=
 Option.bind (Option.bind (aA (Dl20Rd.mk s3.1 s3.2.1) (3:Int)) λv10=>
  Option.bind (iter oO (v10.1.b,v10.1.p,([]:List Int),v10.2)) LO.val) λj4=>
  JO.run j4 (qL x_n v1 v2 s3)
noncomputable def gI  (s14:(List Int)×Int×(List Int)×Int):Option (LO ((List Int)×Int×(List Int)×Int) (JO ((List Int)×Int×(List Int)) (Dl20Rd×DBare))):=
 cond (decide ((0:Int)<s14.2.2.2))
  (Option.bind (cA (Dl20Rd.mk s14.1 s14.2.1)) λv15=>
  grd ((List.length s14.2.2.1+List.length ([v15.2]:List Int))*8<=2^47/\List.length s14.2.2.1+List.length ([v15.2]:List Int)<=2^47) (some (.next (v15.1.b,v15.1.p,s14.2.2.1++([v15.2]:List Int),w64 (s14.2.2.2-(1:Int))))))
  (some (.ret (.go (s14.1,s14.2.1,s14.2.2.1))))
noncomputable def jU (x_r:Dl20Rd)(x_n:Int):Option (Dl20Rd×DBare):=
 Option.bind (gZ x_r (0:Int)) λv1=>
 Option.bind (kA v1.1) λv2=>
 Option.bind (Option.bind (aA v2.1 (4:Int)) λv13=>
  Option.bind (iter gI (v13.1.b,v13.1.p,([]:List Int),v13.2)) LO.val) λj3=>
  JO.run j3 (qO x_n v1 v2)
noncomputable def bCh:Sw tG:=⟨[.pt 109,.v (.i .i64)],.one (.st 82),jU⟩
theorem bGi:Sjk 106 bCh:=sgy [(130,.w bCw),(131,.w bDy),(76,.w g76),(105,.w aLr),(108,.w aCn),(132,.w aVr)] ⟨bFp,bGh,s76,aRq,aHh,bCe,trivial⟩ (.s .o (.s .o (.j ⟨[0,1,4,5],[],[(.c 0 0,.rb 5),(.c 0 1,.i .i64),(.c 5 14,.ro 3)]⟩ (.s .o (.k (.l ⟨[0,1,4,5],[],[(.c 0 0,.rb 5),(.c 0 1,.i .i64),(.c 5 14,.ro 3),(.s 6,.i .i64)]⟩ (.s .o (.s (.k (.m [0])) .o))))) (.j ⟨[0,1,4,5],[],[(.c 0 0,.rb 5),(.c 0 1,.i .i64),(.c 5 15,.ro 3)]⟩ (.s .o (.k (.l ⟨[0,1,4,5],[],[(.c 0 0,.rb 5),(.c 0 1,.i .i64),(.c 5 15,.ro 3),(.s 7,.i .i64)]⟩ (.s .o (.s (.k (.m [0])) .o))))) (.j ⟨[4,5],[0],[(.c 5 0,.ro 3),(.c 5 1,.i .i64),(.c 5 2,.i .i64),(.c 5 3,.i .i64),(.c 5 4,.i .i64),(.c 5 5,.b),(.c 5 6,.i .i64),(.c 5 7,.i .i64),(.c 5 8,.i .i64),(.c 5 9,.b),(.c 5 10,.b),(.c 5 11,.b),(.c 5 12,.b),(.d 0 0,.rb 5),(.d 0 1,.i .i64),(.c 5 13,.ro 3),(.c 5 14,.ro 3)]⟩ .o .o))))) kr kr kr
theorem aCd:LW 104 ⟨6,[.cell 2 true 2],.seq (.reg false (rg 104 0)) (.seq (.rega [rg 104 1,rg 104 2]) .ret)⟩:=kr
noncomputable def jW (x_none:Int):Option DHost:=some (DHost.mk (List.replicate (Int.toNat (160:Int)) (0:Int)) (List.replicate (Int.toNat (3:Int)) (DGuest.mk false (DCore.mk ([]:List Int) (0:Int) (0:Int) (0:Int) (0:Int) false (0:Int) (0:Int) (0:Int) false false false false) ([]:List DSlot) ([]:List Int) ([]:List Int))))
theorem aFh{x_none:Int}{R_:DHost}(hh:jW x_none=some R_):Fn Try.prog 104 [.int .i64 x_none] (.agg [.own 3 1 (List.length R_.Words) (fl (eI .i64) R_.Words),.own 41 17 (List.length R_.Guests) (fl pY R_.Guests)]):=by let z1:=DCore.mk ([]:List Int) (0:Int) (0:Int) (0:Int) (0:Int) false (0:Int) (0:Int) (0:Int) false false false false;let z2:=DGuest.mk false z1 ([]:List DSlot) ([]:List Int) ([]:List Int);unfold jW at hh;refine Fn.start aCd [] (E:=sp 6 []) kr (v:= .agg [sw 0 R_.Words,.sref 1 [] 0 (List.length R_.Guests) 17]) (Hr:=[(1,some (rO41 R_.Guests)),(0,some (rI_3 R_.Words))]) (k:=2) kr (sy [2] [0] (sp 6 [(2,pp 0)]) [(0,some ⟨26,[.nil,.nil]⟩)] 1 (Aw.srega [2] [0,1,2] (aTl ?_ (aTl ?_ bCc))));{refine ys (.mk 3 1 8 [ii 0] (.c (ii 160))) (some 3) (aJb (c:=(eI .i64)) (d:=(0:Int)) (k:=(160:Int)) kr dd kr ?_);refine ys (.mk 41 17 176 zc0 (.c (ii 3))) (some 4) (aKy (z:=(bb false:: .nil::wW [.nil,.nil,.nil])) (k:=(3:Int)) kr dd ?_);let q1:Root:=⟨26,[.sref 1 [] 0 (List.length (List.replicate (Int.toNat (160:Int)) (0:Int))) 1,.sref 2 [] 0 (Int.toNat (3:Int)) 17]⟩;let q2:Root:=(rI_3 (List.replicate (Int.toNat (160:Int)) (0:Int)));let q3:Root:=⟨41,aO (bb false:: .nil::wW [.nil,.nil,.nil]) (Int.toNat (3:Int))⟩;refine yt (sp 6 [(2,pp 0)]) [(0,some q1),(1,some q2),(2,some q3)] 3 (Aw.ent (Ent.foldM (c:=pY) (k:=Int.toNat (3:Int)) (d:=z2) (R:=2) (e:=41) (us2:=sp 6 [(2,pp 0)]) (H2:=[(0,some ⟨26,[.sref 1 [] 0 (List.length (List.replicate (Int.toNat (160:Int)) (0:Int))) 1,.sref 3 [] 0 (List.length (List.replicate (Int.toNat (3:Int)) z2)) 17]⟩),(1,some q2)]) (L:=[none,some none,none,none,none,none,none,none,none,none,none,none,none,none,some none,some none,some none]) (ws:=(bb false:: .own 3 1 0 []::wW [.own 43 3 0 [],.own 3 1 0 [],.own 3 1 0 []])) dd kr kr (dI (tC (dI (dI (dI (dI (dI (dI (dI (dI (dI (dI (dI (dI (tC (tC (tC aYr))))))))))))))))) rfl (aTm kr (aYe (u:=pp 0) kr (.same _) aYt)) (aRk (t:=q1) rfl kr rfl (aIy (.same _) (aIy (.sref _ _ _ _ eqn) aYh)) (aRk (t:=q2) rfl kr rfl aMk bBj))) (Aw.ret ?_));rw[eC hh];let q4:Root:=(rO41 (List.replicate (Int.toNat (3:Int)) z2));exact aFx (r':= .agg [.sref 1 [] 0 (List.length (List.replicate (Int.toNat (160:Int)) (0:Int))) 1,.sref 3 [] 0 (List.length (List.replicate (Int.toNat (3:Int)) z2)) 17]) kr (Ent.list [some 1,some 3] rfl rfl (Nat.zero_le _) (uB (iR rz)) (hn nN (hn bW gJ)))};refine ys (.mk 41 17 176 zc0 (.c (ii 3))) (some 4) (aKy (z:=(bb false:: .nil::wW [.nil,.nil,.nil])) (k:=(3:Int)) kr dd ?_);refine ys (.mk 3 1 8 [ii 0] (.c (ii 160))) (some 3) (aJb (c:=(eI .i64)) (d:=(0:Int)) (k:=(160:Int)) kr dd kr ?_);let q5:Root:=⟨26,[.sref 2 [] 0 (List.length (List.replicate (Int.toNat (160:Int)) (0:Int))) 1,.sref 1 [] 0 (Int.toNat (3:Int)) 17]⟩;let q6:Root:=⟨41,aO (bb false:: .nil::wW [.nil,.nil,.nil]) (Int.toNat (3:Int))⟩;let q7:Root:=(rI_3 (List.replicate (Int.toNat (160:Int)) (0:Int)));refine yt (sp 6 [(2,pp 0)]) [(0,some q5),(1,some q6),(2,some q7)] 3 (Aw.ent (Ent.foldM (c:=pY) (k:=Int.toNat (3:Int)) (d:=z2) (R:=1) (e:=41) (us2:=sp 6 [(2,pp 0)]) (H2:=[(0,some ⟨26,[.sref 2 [] 0 (List.length (List.replicate (Int.toNat (160:Int)) (0:Int))) 1,.sref 3 [] 0 (List.length (List.replicate (Int.toNat (3:Int)) z2)) 17]⟩),(2,some q7)]) (L:=[none,some none,none,none,none,none,none,none,none,none,none,none,none,none,some none,some none,some none]) (ws:=(bb false:: .own 3 1 0 []::wW [.own 43 3 0 [],.own 3 1 0 [],.own 3 1 0 []])) dd kr kr (dI (tC (dI (dI (dI (dI (dI (dI (dI (dI (dI (dI (dI (dI (tC (tC (tC aYr))))))))))))))))) rfl (aTm kr (aYe (u:=pp 0) kr (.same _) aYt)) (aRk (t:=q5) rfl kr rfl (aIy (.same _) (aIy (.sref _ _ _ _ eqn) aYh)) (aRk (t:=q7) rfl kr rfl aMk bBj))) (Aw.ret ?_));rw[eC hh];let q8:Root:=(rO41 (List.replicate (Int.toNat (3:Int)) z2));exact aFx (r':= .agg [.sref 2 [] 0 (List.length (List.replicate (Int.toNat (160:Int)) (0:Int))) 1,.sref 3 [] 0 (List.length (List.replicate (Int.toNat (3:Int)) z2)) 17]) kr (Ent.list [some 2,some 3] rfl rfl (Nat.zero_le _) (uB (iR rz)) (hn nN (hn bW gJ)))
noncomputable def bDg:Sg tG:=⟨[.i .i64],.one (.st 2026),jW⟩
theorem bGf:Sok 104 bDg:=λx_none R_ hh=>kc (aFh (x_none:=x_none) hh)
noncomputable def aBm  (s5:(List Int)×(List Int)×Int×(List DGuest)):Option (Dl20Rd×DHost):=some ((Dl20Rd.mk s5.2.1 s5.2.2.1),DHost.mk s5.1 s5.2.2.2)
noncomputable def qA (x_n:Int)(s3:(List Int)×Int×(List Int)×(List DGuest))(s4:(List Int)×Int×(List DGuest)):Option (Dl20Rd×DHost):=
 Option.bind (Option.bind (bH (Dl20Rd.mk s4.1 s4.2.1) x_n) λv6=>
  cond v6.2
   (Option.bind (aA v6.1 (4:Int)) λv7=>
   cond (decide (v7.2=(0:Int)))
    (Option.bind (aA v7.1 (9:Int)) λv8=>
    grd ((0:Int)<=v8.2/\v8.2<((List.length s3.2.2.1:Nat):Int)) (some (.go ((List.set s3.2.2.1 (Int.toNat v8.2) (4096:Int)),v8.1.b,v8.1.p,s4.2.2))))
    (cond (decide (v7.2=(1:Int)))
     (grd ((0:Int)<=(0:Int)/\(0:Int)<=(2:Int)/\(2:Int)<=((List.length s4.2.2:Nat):Int)) (some (.go (s3.2.2.1,v7.1.b,v7.1.p,List.take (Int.toNat (2:Int)-Int.toNat (0:Int)) s4.2.2))))
     (cond (decide (v7.2=(2:Int)))
      (grd ((0:Int)<=(2:Int)/\(2:Int)<((List.length s4.2.2:Nat):Int)) (some (.go (s3.2.2.1,v7.1.b,v7.1.p,List.set s4.2.2 2 (DGuest.mk false (DCore.mk ([]:List Int) (0:Int) (0:Int) (0:Int) (0:Int) false (0:Int) (0:Int) (0:Int) false false false false) ([]:List DSlot) ([(1:Int)]:List Int) ([]:List Int))))))
      (grd ((0:Int)<=(0:Int)/\(0:Int)<((List.length s4.2.2:Nat):Int)) (some (.go (s3.2.2.1,v7.1.b,v7.1.p,List.set s4.2.2 0 (DGuest.mk (List.getD s4.2.2 0 default).Live (List.getD s4.2.2 0 default).C ([DSlot.mk (3:Int) true false,DSlot.mk (3:Int) false false]:List DSlot) (List.getD s4.2.2 0 default).In (List.getD s4.2.2 0 default).Out))))))))
   (some (.go (s3.2.2.1,v6.1.b,v6.1.p,s4.2.2)))) λj5=>
  JO.run j5 aBm
noncomputable def pC (s10:(List Int)×Int×(List DGuest)×Int)(s11:(List Int)×Int×(List DGuest)):Option (LO ((List Int)×Int×(List DGuest)×Int) (JO ((List Int)×Int×(List DGuest)) (Dl20Rd×DHost))):=some (.next (s11.1,s11.2.1,s11.2.2,w64 (s10.2.2.2-(1:Int))))
noncomputable def jG  (s10:(List Int)×Int×(List DGuest)×Int):Option (LO ((List Int)×Int×(List DGuest)×Int) (JO ((List Int)×Int×(List DGuest)) (Dl20Rd×DHost))):=
 cond (decide ((0:Int)<s10.2.2.2))
  (Option.bind (Option.bind (aA (Dl20Rd.mk s10.1 s10.2.1) (3:Int)) λv12=>
   Option.bind (aA v12.1 (3:Int)) λv13=>
   Option.bind (aA v13.1 (8:Int)) λv14=>
   grd ((0:Int)<=v12.2/\v12.2<((List.length s10.2.2.1:Nat):Int)) (cond (List.getD s10.2.2.1 (Int.toNat v12.2) default).Live
    (grd ((0:Int)<=v13.2/\v13.2<((List.length s10.2.2.1:Nat):Int)) (cond (List.getD s10.2.2.1 (Int.toNat v13.2) default).Live
     (grd ((0:Int)<=v12.2/\v12.2<((List.length s10.2.2.1:Nat):Int)) (grd ((0:Int)<=v14.2/\v14.2<((List.length (List.getD s10.2.2.1 (Int.toNat v12.2) default).Pages:Nat):Int)) (cond (decide ((0:Int)<=(List.getD (List.getD s10.2.2.1 (Int.toNat v12.2) default).Pages (Int.toNat v14.2) default).Frame))
      (grd ((0:Int)<=v12.2/\v12.2<((List.length s10.2.2.1:Nat):Int)) (grd ((0:Int)<=v14.2/\v14.2<((List.length (List.getD s10.2.2.1 (Int.toNat v12.2) default).Pages:Nat):Int)) (grd ((0:Int)<=v13.2/\v13.2<((List.length s10.2.2.1:Nat):Int)) (Option.bind (aA v14.1 (8:Int)) λv15=>
       grd ((0:Int)<=v12.2/\v12.2<((List.length s10.2.2.1:Nat):Int)) (grd ((0:Int)<=v14.2/\v14.2<((List.length (List.getD (List.set s10.2.2.1 (Int.toNat v12.2) (DGuest.mk (List.getD s10.2.2.1 (Int.toNat v12.2) default).Live (List.getD s10.2.2.1 (Int.toNat v12.2) default).C (List.set (List.getD s10.2.2.1 (Int.toNat v12.2) default).Pages (Int.toNat v14.2) (DSlot.mk (List.getD (List.getD s10.2.2.1 (Int.toNat v12.2) default).Pages (Int.toNat v14.2) default).Frame false (List.getD (List.getD s10.2.2.1 (Int.toNat v12.2) default).Pages (Int.toNat v14.2) default).Dirty)) (List.getD s10.2.2.1 (Int.toNat v12.2) default).In (List.getD s10.2.2.1 (Int.toNat v12.2) default).Out)) (Int.toNat v12.2) default).Pages:Nat):Int)) (Option.bind (aA v15.1 (2:Int)) λv16=>
        grd ((0:Int)<=v15.2/\v15.2<((List.length (List.getD (List.set s10.2.2.1 (Int.toNat v12.2) (DGuest.mk (List.getD s10.2.2.1 (Int.toNat v12.2) default).Live (List.getD s10.2.2.1 (Int.toNat v12.2) default).C (List.set (List.getD s10.2.2.1 (Int.toNat v12.2) default).Pages (Int.toNat v14.2) (DSlot.mk (List.getD (List.getD s10.2.2.1 (Int.toNat v12.2) default).Pages (Int.toNat v14.2) default).Frame false (List.getD (List.getD s10.2.2.1 (Int.toNat v12.2) default).Pages (Int.toNat v14.2) default).Dirty)) (List.getD s10.2.2.1 (Int.toNat v12.2) default).In (List.getD s10.2.2.1 (Int.toNat v12.2) default).Out)) (Int.toNat v13.2) default).Pages:Nat):Int)) (some (.go (v16.1.b,v16.1.p,List.set (List.set s10.2.2.1 (Int.toNat v12.2) (DGuest.mk (List.getD s10.2.2.1 (Int.toNat v12.2) default).Live (List.getD s10.2.2.1 (Int.toNat v12.2) default).C (List.set (List.getD s10.2.2.1 (Int.toNat v12.2) default).Pages (Int.toNat v14.2) (DSlot.mk (List.getD (List.getD s10.2.2.1 (Int.toNat v12.2) default).Pages (Int.toNat v14.2) default).Frame false (List.getD (List.getD s10.2.2.1 (Int.toNat v12.2) default).Pages (Int.toNat v14.2) default).Dirty)) (List.getD s10.2.2.1 (Int.toNat v12.2) default).In (List.getD s10.2.2.1 (Int.toNat v12.2) default).Out)) (Int.toNat v13.2) (DGuest.mk (List.getD (List.set s10.2.2.1 (Int.toNat v12.2) (DGuest.mk (List.getD s10.2.2.1 (Int.toNat v12.2) default).Live (List.getD s10.2.2.1 (Int.toNat v12.2) default).C (List.set (List.getD s10.2.2.1 (Int.toNat v12.2) default).Pages (Int.toNat v14.2) (DSlot.mk (List.getD (List.getD s10.2.2.1 (Int.toNat v12.2) default).Pages (Int.toNat v14.2) default).Frame false (List.getD (List.getD s10.2.2.1 (Int.toNat v12.2) default).Pages (Int.toNat v14.2) default).Dirty)) (List.getD s10.2.2.1 (Int.toNat v12.2) default).In (List.getD s10.2.2.1 (Int.toNat v12.2) default).Out)) (Int.toNat v13.2) default).Live (List.getD (List.set s10.2.2.1 (Int.toNat v12.2) (DGuest.mk (List.getD s10.2.2.1 (Int.toNat v12.2) default).Live (List.getD s10.2.2.1 (Int.toNat v12.2) default).C (List.set (List.getD s10.2.2.1 (Int.toNat v12.2) default).Pages (Int.toNat v14.2) (DSlot.mk (List.getD (List.getD s10.2.2.1 (Int.toNat v12.2) default).Pages (Int.toNat v14.2) default).Frame false (List.getD (List.getD s10.2.2.1 (Int.toNat v12.2) default).Pages (Int.toNat v14.2) default).Dirty)) (List.getD s10.2.2.1 (Int.toNat v12.2) default).In (List.getD s10.2.2.1 (Int.toNat v12.2) default).Out)) (Int.toNat v13.2) default).C (List.set (List.getD (List.set s10.2.2.1 (Int.toNat v12.2) (DGuest.mk (List.getD s10.2.2.1 (Int.toNat v12.2) default).Live (List.getD s10.2.2.1 (Int.toNat v12.2) default).C (List.set (List.getD s10.2.2.1 (Int.toNat v12.2) default).Pages (Int.toNat v14.2) (DSlot.mk (List.getD (List.getD s10.2.2.1 (Int.toNat v12.2) default).Pages (Int.toNat v14.2) default).Frame false (List.getD (List.getD s10.2.2.1 (Int.toNat v12.2) default).Pages (Int.toNat v14.2) default).Dirty)) (List.getD s10.2.2.1 (Int.toNat v12.2) default).In (List.getD s10.2.2.1 (Int.toNat v12.2) default).Out)) (Int.toNat v13.2) default).Pages (Int.toNat v15.2) (DSlot.mk (List.getD (List.getD (List.set s10.2.2.1 (Int.toNat v12.2) (DGuest.mk (List.getD s10.2.2.1 (Int.toNat v12.2) default).Live (List.getD s10.2.2.1 (Int.toNat v12.2) default).C (List.set (List.getD s10.2.2.1 (Int.toNat v12.2) default).Pages (Int.toNat v14.2) (DSlot.mk (List.getD (List.getD s10.2.2.1 (Int.toNat v12.2) default).Pages (Int.toNat v14.2) default).Frame false (List.getD (List.getD s10.2.2.1 (Int.toNat v12.2) default).Pages (Int.toNat v14.2) default).Dirty)) (List.getD s10.2.2.1 (Int.toNat v12.2) default).In (List.getD s10.2.2.1 (Int.toNat v12.2) default).Out)) (Int.toNat v12.2) default).Pages (Int.toNat v14.2) default).Frame false (decide (v16.2=(0:Int))))) (List.getD (List.set s10.2.2.1 (Int.toNat v12.2) (DGuest.mk (List.getD s10.2.2.1 (Int.toNat v12.2) default).Live (List.getD s10.2.2.1 (Int.toNat v12.2) default).C (List.set (List.getD s10.2.2.1 (Int.toNat v12.2) default).Pages (Int.toNat v14.2) (DSlot.mk (List.getD (List.getD s10.2.2.1 (Int.toNat v12.2) default).Pages (Int.toNat v14.2) default).Frame false (List.getD (List.getD s10.2.2.1 (Int.toNat v12.2) default).Pages (Int.toNat v14.2) default).Dirty)) (List.getD s10.2.2.1 (Int.toNat v12.2) default).In (List.getD s10.2.2.1 (Int.toNat v12.2) default).Out)) (Int.toNat v13.2) default).In (List.getD (List.set s10.2.2.1 (Int.toNat v12.2) (DGuest.mk (List.getD s10.2.2.1 (Int.toNat v12.2) default).Live (List.getD s10.2.2.1 (Int.toNat v12.2) default).C (List.set (List.getD s10.2.2.1 (Int.toNat v12.2) default).Pages (Int.toNat v14.2) (DSlot.mk (List.getD (List.getD s10.2.2.1 (Int.toNat v12.2) default).Pages (Int.toNat v14.2) default).Frame false (List.getD (List.getD s10.2.2.1 (Int.toNat v12.2) default).Pages (Int.toNat v14.2) default).Dirty)) (List.getD s10.2.2.1 (Int.toNat v12.2) default).In (List.getD s10.2.2.1 (Int.toNat v12.2) default).Out)) (Int.toNat v13.2) default).Out))))))))))
      (some (.go (v14.1.b,v14.1.p,s10.2.2.1))))))
     (some (.go (v14.1.b,v14.1.p,s10.2.2.1)))))
    (some (.go (v14.1.b,v14.1.p,s10.2.2.1))))) λj11=>
   JO.run j11 (pC s10))
  (some (.ret (.go (s10.1,s10.2.1,s10.2.2.1))))
noncomputable def qF (x_n:Int)(s3:(List Int)×Int×(List Int)×(List DGuest)):Option (Dl20Rd×DHost):=
 Option.bind (Option.bind (aA (Dl20Rd.mk s3.1 s3.2.1) (4:Int)) λv9=>
  Option.bind (iter jG (v9.1.b,v9.1.p,s3.2.2.2,v9.2)) LO.val) λj4=>
  JO.run j4 (qA x_n s3)
noncomputable def pF (s18:(List Int)×Int×(List Int)×(List DGuest)×(List Int)×Int×Int×Int×Int×Bool×Int×Int×Int×Bool×Bool×Bool×Bool×(List Int)×(List Int)×(List Int)×Int)(s19:(List Int)×Int×(List Int)×(List DGuest)×(List Int)×Int×Int×Int×Int×Bool×Int×Int×Int×Bool×Bool×Bool×Bool×(List Int)×(List Int)×(List Int)):Option (LO ((List Int)×Int×(List Int)×(List DGuest)×(List Int)×Int×Int×Int×Int×Bool×Int×Int×Int×Bool×Bool×Bool×Bool×(List Int)×(List Int)×(List Int)×Int) (JO ((List Int)×Int×(List Int)×(List DGuest)) (Dl20Rd×DHost))):=some (.next (s19.1,s19.2.1,s19.2.2.1,s19.2.2.2.1,s19.2.2.2.2.1,s19.2.2.2.2.2.1,s19.2.2.2.2.2.2.1,s19.2.2.2.2.2.2.2.1,s19.2.2.2.2.2.2.2.2.1,s19.2.2.2.2.2.2.2.2.2.1,s19.2.2.2.2.2.2.2.2.2.2.1,s19.2.2.2.2.2.2.2.2.2.2.2.1,s19.2.2.2.2.2.2.2.2.2.2.2.2.1,s19.2.2.2.2.2.2.2.2.2.2.2.2.2.1,s19.2.2.2.2.2.2.2.2.2.2.2.2.2.2.1,s19.2.2.2.2.2.2.2.2.2.2.2.2.2.2.2.1,s19.2.2.2.2.2.2.2.2.2.2.2.2.2.2.2.2.1,s19.2.2.2.2.2.2.2.2.2.2.2.2.2.2.2.2.2.1,s19.2.2.2.2.2.2.2.2.2.2.2.2.2.2.2.2.2.2.1,s19.2.2.2.2.2.2.2.2.2.2.2.2.2.2.2.2.2.2.2,w64 (s18.2.2.2.2.2.2.2.2.2.2.2.2.2.2.2.2.2.2.2.2-(1:Int))))
noncomputable def oL (s18:(List Int)×Int×(List Int)×(List DGuest)×(List Int)×Int×Int×Int×Int×Bool×Int×Int×Int×Bool×Bool×Bool×Bool×(List Int)×(List Int)×(List Int)×Int)(v20:Dl20Rd×DBare)(s21:(List Int)×Int×(List Int)):Option (JO ((List Int)×Int×(List Int)×(List DGuest)×(List Int)×Int×Int×Int×Int×Bool×Int×Int×Int×Bool×Bool×Bool×Bool×(List Int)×(List Int)×(List Int)) (LO ((List Int)×Int×(List Int)×(List DGuest)×(List Int)×Int×Int×Int×Int×Bool×Int×Int×Int×Bool×Bool×Bool×Bool×(List Int)×(List Int)×(List Int)×Int) (JO ((List Int)×Int×(List Int)×(List DGuest)) (Dl20Rd×DHost)))):=
 Option.bind (jD (DHost.mk s18.2.2.1 s18.2.2.2.1) (DBare.mk v20.2.C s21.2.2 v20.2.In v20.2.Out)) λv22=>
 cond v22.2.2
  (some (.go (s21.1,s21.2.1,v22.1.Words,v22.1.Guests,v20.2.C.Regs,v20.2.C.Pc,v20.2.C.Root,v20.2.C.Vector,v20.2.C.Saved,v20.2.C.SavedUser,v20.2.C.Cause,v20.2.C.Bad,v20.2.C.Timer,v20.2.C.Waits,v20.2.C.User,v20.2.C.On,v20.2.C.Stopped,s21.2.2,v20.2.In,v20.2.Out)))
  (some (.go (s21.1,s21.2.1,s18.2.2.1,s18.2.2.2.1,v20.2.C.Regs,v20.2.C.Pc,v20.2.C.Root,v20.2.C.Vector,v20.2.C.Saved,v20.2.C.SavedUser,v20.2.C.Cause,v20.2.C.Bad,v20.2.C.Timer,v20.2.C.Waits,v20.2.C.User,v20.2.C.On,v20.2.C.Stopped,s21.2.2,v20.2.In,v20.2.Out)))
noncomputable def oZ (s23:(List Int)×Int×(List Int)×Int)(s24:(List Int)×Int×(List Int)):Option (LO ((List Int)×Int×(List Int)×Int) (JO ((List Int)×Int×(List Int)) (JO ((List Int)×Int×(List Int)×(List DGuest)×(List Int)×Int×Int×Int×Int×Bool×Int×Int×Int×Bool×Bool×Bool×Bool×(List Int)×(List Int)×(List Int)) (LO ((List Int)×Int×(List Int)×(List DGuest)×(List Int)×Int×Int×Int×Int×Bool×Int×Int×Int×Bool×Bool×Bool×Bool×(List Int)×(List Int)×(List Int)×Int) (JO ((List Int)×Int×(List Int)×(List DGuest)) (Dl20Rd×DHost)))))):=some (.next (s24.1,s24.2.1,s24.2.2,w64 (s23.2.2.2+(1:Int))))
noncomputable def oQ (s18:(List Int)×Int×(List Int)×(List DGuest)×(List Int)×Int×Int×Int×Int×Bool×Int×Int×Int×Bool×Bool×Bool×Bool×(List Int)×(List Int)×(List Int)×Int)(s23:(List Int)×Int×(List Int)×Int)(s25:(List Int)×Int×(List Int)):Option (JO ((List Int)×Int×(List Int)) (LO ((List Int)×Int×(List Int)×Int) (JO ((List Int)×Int×(List Int)) (JO ((List Int)×Int×(List Int)×(List DGuest)×(List Int)×Int×Int×Int×Int×Bool×Int×Int×Int×Bool×Bool×Bool×Bool×(List Int)×(List Int)×(List Int)) (LO ((List Int)×Int×(List Int)×(List DGuest)×(List Int)×Int×Int×Int×Int×Bool×Int×Int×Int×Bool×Bool×Bool×Bool×(List Int)×(List Int)×(List Int)×Int) (JO ((List Int)×Int×(List Int)×(List DGuest)) (Dl20Rd×DHost))))))):=
 cond (decide ((0:Int)<((List.length s18.2.2.2.2.2.2.2.2.2.2.2.2.2.2.2.2.2.1:Nat):Int)))
  (Option.bind (aA (Dl20Rd.mk s25.1 s25.2.1) (3:Int)) λv26=>
  cond (decide (v26.2=(0:Int)))
   (grd ((0:Int)<=(w64 (s23.2.2.2*(8:Int)))/\(w64 (s23.2.2.2*(8:Int)))<=(w64 ((w64 (s23.2.2.2+(1:Int)))*(8:Int)))/\(w64 ((w64 (s23.2.2.2+(1:Int)))*(8:Int)))<=((List.length s25.2.2:Nat):Int)) (grd ((0:Int)<=(w64 (s23.2.2.2*(8:Int)))/\(w64 (s23.2.2.2*(8:Int)))<=((List.length s18.2.2.2.2.2.2.2.2.2.2.2.2.2.2.2.2.2.1:Nat):Int)/\((List.length s18.2.2.2.2.2.2.2.2.2.2.2.2.2.2.2.2.2.1:Nat):Int)<=((List.length s18.2.2.2.2.2.2.2.2.2.2.2.2.2.2.2.2.2.1:Nat):Int)) (some (.go (v26.1.b,v26.1.p,over s25.2.2 (Int.toNat (w64 (s23.2.2.2*(8:Int)))) (Int.toNat (w64 ((w64 (s23.2.2.2+(1:Int)))*(8:Int)))-Int.toNat (w64 (s23.2.2.2*(8:Int)))) (List.take (Int.toNat ((List.length s18.2.2.2.2.2.2.2.2.2.2.2.2.2.2.2.2.2.1:Nat):Int)-Int.toNat (w64 (s23.2.2.2*(8:Int)))) (List.drop (Int.toNat (w64 (s23.2.2.2*(8:Int)))) s18.2.2.2.2.2.2.2.2.2.2.2.2.2.2.2.2.2.1)))))))
   (some (.go (v26.1.b,v26.1.p,s25.2.2))))
  (some (.go (s25.1,s25.2.1,s25.2.2)))
noncomputable def jE (s18:(List Int)×Int×(List Int)×(List DGuest)×(List Int)×Int×Int×Int×Int×Bool×Int×Int×Int×Bool×Bool×Bool×Bool×(List Int)×(List Int)×(List Int)×Int)(s23:(List Int)×Int×(List Int)×Int):Option (LO ((List Int)×Int×(List Int)×Int) (JO ((List Int)×Int×(List Int)) (JO ((List Int)×Int×(List Int)×(List DGuest)×(List Int)×Int×Int×Int×Int×Bool×Int×Int×Int×Bool×Bool×Bool×Bool×(List Int)×(List Int)×(List Int)) (LO ((List Int)×Int×(List Int)×(List DGuest)×(List Int)×Int×Int×Int×Int×Bool×Int×Int×Int×Bool×Bool×Bool×Bool×(List Int)×(List Int)×(List Int)×Int) (JO ((List Int)×Int×(List Int)×(List DGuest)) (Dl20Rd×DHost)))))):=
 cond (decide (s23.2.2.2<(8:Int)))
  (Option.bind (Option.bind (cond (decide ((3:Int)<s23.2.2.2))
   (Option.bind (aA (Dl20Rd.mk s23.1 s23.2.1) (2:Int)) λv27=>
   cond (decide (v27.2=(0:Int)))
    (grd ((0:Int)<=(w64 (s23.2.2.2*(8:Int)))/\(w64 (s23.2.2.2*(8:Int)))<=((List.length s23.2.2.1:Nat):Int)/\((List.length s23.2.2.1:Nat):Int)<=((List.length s23.2.2.1:Nat):Int)) (some (.go (v27.1.b,v27.1.p,over s23.2.2.1 (Int.toNat (w64 (s23.2.2.2*(8:Int)))) (Int.toNat ((List.length s23.2.2.1:Nat):Int)-Int.toNat (w64 (s23.2.2.2*(8:Int)))) (List.replicate (Int.toNat (8:Int)) (0:Int))))))
    (some (.go (v27.1.b,v27.1.p,s23.2.2.1))))
   (some (.go (s23.1,s23.2.1,s23.2.2.1)))) λj25=>
   JO.run j25 (oQ s18 s23)) λj24=>
   JO.run j24 (oZ s23))
  (some (.ret (.go (s23.1,s23.2.1,s23.2.2.1))))
noncomputable def jF  (s18:(List Int)×Int×(List Int)×(List DGuest)×(List Int)×Int×Int×Int×Int×Bool×Int×Int×Int×Bool×Bool×Bool×Bool×(List Int)×(List Int)×(List Int)×Int):Option (LO ((List Int)×Int×(List Int)×(List DGuest)×(List Int)×Int×Int×Int×Int×Bool×Int×Int×Int×Bool×Bool×Bool×Bool×(List Int)×(List Int)×(List Int)×Int) (JO ((List Int)×Int×(List Int)×(List DGuest)) (Dl20Rd×DHost))):=
 cond (decide ((0:Int)<s18.2.2.2.2.2.2.2.2.2.2.2.2.2.2.2.2.2.2.2.2))
  (Option.bind (Option.bind (jU (Dl20Rd.mk s18.1 s18.2.1) (0:Int)) λv20=>
   Option.bind (Option.bind (iter (jE s18) (v20.1.b,v20.1.p,v20.2.Mem,(0:Int))) LO.val) λj21=>
    JO.run j21 (oL s18 v20)) λj19=>
   JO.run j19 (pF s18))
  (some (.ret (.go (s18.1,s18.2.1,s18.2.2.1,s18.2.2.2.1))))
noncomputable def qM (x_n:Int)(v1:DHost)(s2:(List Int)×Int×(List Int)):Option (Dl20Rd×DHost):=
 Option.bind (Option.bind (aA (Dl20Rd.mk s2.1 s2.2.1) (3:Int)) λv17=>
  Option.bind (iter jF (v17.1.b,v17.1.p,s2.2.2,v1.Guests,([]:List Int),(0:Int),(0:Int),(0:Int),(0:Int),false,(0:Int),(0:Int),(0:Int),false,false,false,false,([]:List Int),([]:List Int),([]:List Int),w64 ((1:Int)+v17.2))) LO.val) λj3=>
  JO.run j3 (qF x_n)
noncomputable def pH (s28:(List Int)×Int×(List Int)×Int)(s29:(List Int)×Int×(List Int)):Option (LO ((List Int)×Int×(List Int)×Int) (JO ((List Int)×Int×(List Int)) (Dl20Rd×DHost))):=some (.next (s29.1,s29.2.1,s29.2.2,w64 (s28.2.2.2+(1:Int))))
noncomputable def jT  (s28:(List Int)×Int×(List Int)×Int):Option (LO ((List Int)×Int×(List Int)×Int) (JO ((List Int)×Int×(List Int)) (Dl20Rd×DHost))):=
 cond (decide (s28.2.2.2<((List.length s28.2.2.1:Nat):Int)))
  (Option.bind (Option.bind (aA (Dl20Rd.mk s28.1 s28.2.1) (4:Int)) λv30=>
   cond (decide (v30.2=(0:Int)))
    (Option.bind (cA v30.1) λv31=>
    grd ((0:Int)<=s28.2.2.2/\s28.2.2.2<((List.length s28.2.2.1:Nat):Int)) (some (.go (v31.1.b,v31.1.p,List.set s28.2.2.1 (Int.toNat s28.2.2.2) v31.2))))
    (some (.go (v30.1.b,v30.1.p,s28.2.2.1)))) λj29=>
   JO.run j29 (pH s28))
  (some (.ret (.go (s28.1,s28.2.1,s28.2.2.1))))
noncomputable def kJ (x_r:Dl20Rd)(x_n:Int):Option (Dl20Rd×DHost):=
 Option.bind (jW (0:Int)) λv1=>
 Option.bind (Option.bind (iter jT (x_r.b,x_r.p,v1.Words,(0:Int))) LO.val) λj2=>
  JO.run j2 (qM x_n v1)
noncomputable def g68:Sw tG:=⟨[.pt 109,.v (.i .i64)],.one (.st 2026),kJ⟩
theorem s68:Sjk 68 g68:=sgy [(104,.r bDg),(76,.w g76),(105,.w aLr),(106,.w bCh),(107,.r bDd),(108,.w aCn)] ⟨bGf,s76,aRq,bGi,bGl,aHh,trivial⟩ (.s .o (.s .o (.j ⟨[0,1,4,5],[],[(.c 0 0,.rb 5),(.c 0 1,.i .i64),(.c 5 0,.ro 3)]⟩ (.s .o (.k (.l ⟨[0,1,4,5],[],[(.c 0 0,.rb 5),(.c 0 1,.i .i64),(.c 5 0,.ro 3),(.s 6,.i .i64)]⟩ (.s .o (.j ⟨[0,1,4,5,6],[],[(.c 0 0,.rb 5),(.c 0 1,.i .i64),(.c 5 0,.ro 3)]⟩ (.k (.s .o (.c (.m [0]) .o))) .o))))) (.s .o (.j ⟨[0,1,4,5],[],[(.c 0 0,.rb 5),(.c 0 1,.i .i64),(.c 5 0,.ro 3),(.c 5 1,.ro 1041)]⟩ (.s .o (.k (.l ⟨[0,1,4,5,7],[],[(.c 0 0,.rb 5),(.c 0 1,.i .i64),(.c 5 0,.ro 3),(.c 5 1,.ro 1041),(.c 7 0,.ro 3),(.c 7 1,.i .i64),(.c 7 2,.i .i64),(.c 7 3,.i .i64),(.c 7 4,.i .i64),(.c 7 5,.b),(.c 7 6,.i .i64),(.c 7 7,.i .i64),(.c 7 8,.i .i64),(.c 7 9,.b),(.c 7 10,.b),(.c 7 11,.b),(.c 7 12,.b),(.c 7 13,.ro 3),(.c 7 14,.ro 3),(.c 7 15,.ro 3),(.s 8,.i .i64)]⟩ (.s .o (.j ⟨[0,1,4,5,7,8],[],[(.c 0 0,.rb 5),(.c 0 1,.i .i64),(.c 5 0,.ro 3),(.c 5 1,.ro 1041),(.c 7 0,.ro 3),(.c 7 1,.i .i64),(.c 7 2,.i .i64),(.c 7 3,.i .i64),(.c 7 4,.i .i64),(.c 7 5,.b),(.c 7 6,.i .i64),(.c 7 7,.i .i64),(.c 7 8,.i .i64),(.c 7 9,.b),(.c 7 10,.b),(.c 7 11,.b),(.c 7 12,.b),(.c 7 13,.ro 3),(.c 7 14,.ro 3),(.c 7 15,.ro 3)]⟩ (.k (.s .o (.j ⟨[0,1,4,5,7,8,9],[],[(.c 0 0,.rb 5),(.c 0 1,.i .i64),(.c 9 13,.ro 3)]⟩ (.s .o (.k (.l ⟨[0,1,4,5,7,8,9],[],[(.c 0 0,.rb 5),(.c 0 1,.i .i64),(.c 9 13,.ro 3),(.s 10,.i .i64)]⟩ (.s .o (.j ⟨[0,1,4,5,7,8,9,10],[],[(.c 0 0,.rb 5),(.c 0 1,.i .i64),(.c 9 13,.ro 3)]⟩ (.k (.j ⟨[0,1,4,5,7,8,9,10],[],[(.c 0 0,.rb 5),(.c 0 1,.i .i64),(.c 9 13,.ro 3)]⟩ .o .o)) .o))))) .o))) .o))))) (.j ⟨[0,1,4,5],[],[(.c 0 0,.rb 5),(.c 0 1,.i .i64),(.c 5 1,.ro 1041)]⟩ (.s .o (.k (.l ⟨[0,1,4,5],[],[(.c 0 0,.rb 5),(.c 0 1,.i .i64),(.c 5 1,.ro 1041),(.s 14,.i .i64)]⟩ (.s .o (.j ⟨[0,1,4,5,14],[],[(.c 0 0,.rb 5),(.c 0 1,.i .i64),(.c 5 1,.ro 1041)]⟩ (.k (.s .o (.s .o (.s .o (.s .o (.c (.s .o (.m [0])) .o)))))) .o))))) (.j ⟨[4,5],[0],[(.c 5 0,.ro 3),(.d 0 0,.rb 5),(.d 0 1,.i .i64),(.c 5 1,.ro 1041)]⟩ (.s .o (.c (.s .o (.k (.s .o (.c (.m [0]) (.s .o (.c .o (.s .o (.c (.g [] [] [.fo (.c 5 1) 0]) (.g [] [] [.fo (.c 5 1) 0]))))))))) .o)) .o))))))) kr kr kr
noncomputable def qJ  (s2:(List Int)×Int×(List DLine)):Option (Dl20Rd×(List DLine)):=some ((Dl20Rd.mk s2.1 s2.2.1),s2.2.2)
noncomputable def qD (x_n:Int)(s1:(List Int)×Int×(List DLine)):Option (Dl20Rd×(List DLine)):=
 Option.bind (cond (decide ((0:Int)<((List.length s1.2.2:Nat):Int)))
  (Option.bind (bH (Dl20Rd.mk s1.1 s1.2.1) x_n) λv3=>
  cond v3.2
   (Option.bind (aA v3.1 (3:Int)) λv4=>
   cond (decide (v4.2=(0:Int)))
    (grd ((0:Int)<=(0:Int)/\(0:Int)<((List.length s1.2.2:Nat):Int)) (grd ((0:Int)<=(0:Int)/\(0:Int)<((List.length s1.2.2:Nat):Int)) (some (.go (v4.1.b,v4.1.p,List.set s1.2.2 0 (DLine.mk (List.getD s1.2.2 0 default).Tag (List.getD s1.2.2 0 default).At (DShade.mk ((List.getD s1.2.2 0 default).What).There (!((List.getD s1.2.2 0 default).What).Write) ((List.getD s1.2.2 0 default).What).User ((List.getD s1.2.2 0 default).What).Page ((List.getD s1.2.2 0 default).What).Frame ((List.getD s1.2.2 0 default).What).Ready)))))))
    (cond (decide (v4.2=(1:Int)))
     (grd ((0:Int)<=(0:Int)/\(0:Int)<((List.length s1.2.2:Nat):Int)) (grd ((List.length s1.2.2+List.length ([DLine.mk (List.getD s1.2.2 0 default).Tag (List.getD s1.2.2 0 default).At (DShade.mk ((List.getD s1.2.2 0 default).What).There ((List.getD s1.2.2 0 default).What).Write ((List.getD s1.2.2 0 default).What).User ((List.getD s1.2.2 0 default).What).Page ((List.getD s1.2.2 0 default).What).Frame ((List.getD s1.2.2 0 default).What).Ready)]:List DLine))*48<=2^47/\List.length s1.2.2+List.length ([DLine.mk (List.getD s1.2.2 0 default).Tag (List.getD s1.2.2 0 default).At (DShade.mk ((List.getD s1.2.2 0 default).What).There ((List.getD s1.2.2 0 default).What).Write ((List.getD s1.2.2 0 default).What).User ((List.getD s1.2.2 0 default).What).Page ((List.getD s1.2.2 0 default).What).Frame ((List.getD s1.2.2 0 default).What).Ready)]:List DLine)<=2^47) (some (.go (v4.1.b,v4.1.p,s1.2.2++([DLine.mk (List.getD s1.2.2 0 default).Tag (List.getD s1.2.2 0 default).At (DShade.mk ((List.getD s1.2.2 0 default).What).There ((List.getD s1.2.2 0 default).What).Write ((List.getD s1.2.2 0 default).What).User ((List.getD s1.2.2 0 default).What).Page ((List.getD s1.2.2 0 default).What).Frame ((List.getD s1.2.2 0 default).What).Ready)]:List DLine))))))
     (Option.bind (aA v4.1 (4:Int)) λv5=>
     grd ((0:Int)<=(0:Int)/\(0:Int)<((List.length s1.2.2:Nat):Int)) (some (.go (v5.1.b,v5.1.p,List.set s1.2.2 0 (DLine.mk v5.2 (List.getD s1.2.2 0 default).At (DShade.mk ((List.getD s1.2.2 0 default).What).There ((List.getD s1.2.2 0 default).What).Write ((List.getD s1.2.2 0 default).What).User ((List.getD s1.2.2 0 default).What).Page ((List.getD s1.2.2 0 default).What).Frame ((List.getD s1.2.2 0 default).What).Ready))))))))
   (some (.go (v3.1.b,v3.1.p,s1.2.2))))
  (some (.go (s1.1,s1.2.1,s1.2.2)))) λj2=>
  JO.run j2 qJ
noncomputable def qN (s7:(List Int)×Int×(List DLine)×Int)(s8:(List Int)×Int×(List DLine)):Option (LO ((List Int)×Int×(List DLine)×Int) (JO ((List Int)×Int×(List DLine)) (Dl20Rd×(List DLine)))):=some (.next (s8.1,s8.2.1,s8.2.2,w64 (s7.2.2.2-(1:Int))))
noncomputable def gO (x_h:DHost)(s7:(List Int)×Int×(List DLine)×Int):Option (LO ((List Int)×Int×(List DLine)×Int) (JO ((List Int)×Int×(List DLine)) (Dl20Rd×(List DLine)))):=
 cond (decide ((0:Int)<s7.2.2.2))
  (Option.bind (Option.bind (aA (Dl20Rd.mk s7.1 s7.2.1) (3:Int)) λv9=>
   Option.bind (aA v9.1 (64:Int)) λv10=>
   Option.bind (kI x_h s7.2.2.1 v9.2 v10.2 true true) λv11=>
   cond (decide ((0:Int)<=v11.2.2))
    (some (.go (v10.1.b,v10.1.p,v11.1)))
    (some (.go (v10.1.b,v10.1.p,s7.2.2.1)))) λj8=>
   JO.run j8 (qN s7))
  (some (.ret (.go (s7.1,s7.2.1,s7.2.2.1))))
noncomputable def kC (x_r:Dl20Rd)(x_h:DHost)(x_n:Int):Option (Dl20Rd×(List DLine)):=
 Option.bind (Option.bind (aA x_r (10:Int)) λv6=>
  Option.bind (iter (gO x_h) (v6.1.b,v6.1.p,([]:List DLine),v6.2)) LO.val) λj1=>
  JO.run j1 (qD x_n)
noncomputable def g69:Sw tG:=⟨[.pt 109,.v (.st 26),.v (.i .i64)],.one (.row 68),kC⟩
theorem s69:Sjk 69 g69:=sgy [(76,.w g76),(33,.r g33),(108,.w aCn)] ⟨s76,s33,aHh,trivial⟩ (.s .o (.s .o (.j ⟨[0,2],[],[(.c 0 0,.rb 5),(.c 0 1,.i .i64),(.s 7,.ro 68)]⟩ (.s .o (.k (.l ⟨[0,2,4],[],[(.c 0 0,.rb 5),(.c 0 1,.i .i64),(.s 7,.ro 68),(.s 8,.i .i64)]⟩ (.s .o (.j ⟨[0,2,4,8],[],[(.c 0 0,.rb 5),(.c 0 1,.i .i64),(.s 7,.ro 68)]⟩ (.k (.s (.m [0]) .o)) .o))))) (.j ⟨[],[0],[(.d 0 0,.rb 5),(.d 0 1,.i .i64),(.s 7,.ro 68)]⟩ .o .o)))) kr kr kr
noncomputable def xQ (x_a:DSlot):Option DSlot:=some x_a
noncomputable def bBc:Sg tG:=⟨[.st 153],.one (.st 43),xQ⟩
theorem bFm:Sok 139 bBc:=sgx [] trivial .o kr kr kr
noncomputable def aBl  (s1:List DSlot):Option (List DSlot):=some s1
noncomputable def aBg (x_a:List DSlot)(s2:(List DSlot)×Int):Option (LO ((List DSlot)×Int) (JO (List DSlot) (List DSlot))):=
 cond (decide (s2.2<((List.length x_a:Nat):Int)))
  (grd ((0:Int)<=s2.2/\s2.2<((List.length x_a:Nat):Int)) (Option.bind (xQ (DSlot.mk (List.getD x_a (Int.toNat s2.2) default).Frame (List.getD x_a (Int.toNat s2.2) default).Write (List.getD x_a (Int.toNat s2.2) default).Dirty)) λv3=>
   grd ((0:Int)<=s2.2/\s2.2<((List.length s2.1:Nat):Int)) (some (.next ((List.set s2.1 (Int.toNat s2.2) v3),w64 (s2.2+(1:Int)))))))
  (some (.ret (.go s2.1)))
noncomputable def uJ (x_a:List DSlot):Option (List DSlot):=
 grd ((0:Int)<=((List.length x_a:Nat):Int)/\((List.length x_a:Nat):Int)*16<=2^47/\((List.length x_a:Nat):Int)<=2^47) (Option.bind (Option.bind (iter (aBg x_a) ((List.replicate (Int.toNat ((List.length x_a:Nat):Int)) (DSlot.mk (0:Int) false false)),(0:Int))) LO.val) λj1=>
  JO.run j1 aBl)
noncomputable def bCb:Sg tG:=⟨[.row 153],.one (.row 43),uJ⟩
theorem bEx:Sok 127 bCb:=sgx [(139,.r bBc)] ⟨bFm,trivial⟩ (.s .o (.s .o (.j ⟨[],[],[(.s 3,.ro 43)]⟩ (.s .o (.k (.l ⟨[0],[],[(.s 3,.ro 43),(.s 4,.i .i64)]⟩ .o))) .o))) kr kr kr
noncomputable def vG (x_a:DGuest):Option DGuest:=
 Option.bind (xP x_a.C) λv1=>
 Option.bind (uJ x_a.Pages) λv2=>
 Option.bind (iF x_a.In) λv3=>
 Option.bind (iF x_a.Out) λv4=>
 some (DGuest.mk x_a.Live v1 v2 v3 v4)
noncomputable def bEc:Sg tG:=⟨[.st 123],.one (.st 41),vG⟩
theorem bFq:Sok 100 bEc:=sgx [(126,.r bBt),(127,.r bCb),(60,.r g60)] ⟨bFn,bEx,s60,trivial⟩ .o kr kr kr
noncomputable def yS  (s1:List DGuest):Option (List DGuest):=some s1
noncomputable def yP (x_a:List DGuest)(s2:(List DGuest)×Int):Option (LO ((List DGuest)×Int) (JO (List DGuest) (List DGuest))):=
 cond (decide (s2.2<((List.length x_a:Nat):Int)))
  (grd ((0:Int)<=s2.2/\s2.2<((List.length x_a:Nat):Int)) (Option.bind (vG (DGuest.mk (List.getD x_a (Int.toNat s2.2) default).Live (DCore.mk ((List.getD x_a (Int.toNat s2.2) default).C).Regs ((List.getD x_a (Int.toNat s2.2) default).C).Pc ((List.getD x_a (Int.toNat s2.2) default).C).Root ((List.getD x_a (Int.toNat s2.2) default).C).Vector ((List.getD x_a (Int.toNat s2.2) default).C).Saved ((List.getD x_a (Int.toNat s2.2) default).C).SavedUser ((List.getD x_a (Int.toNat s2.2) default).C).Cause ((List.getD x_a (Int.toNat s2.2) default).C).Bad ((List.getD x_a (Int.toNat s2.2) default).C).Timer ((List.getD x_a (Int.toNat s2.2) default).C).Waits ((List.getD x_a (Int.toNat s2.2) default).C).User ((List.getD x_a (Int.toNat s2.2) default).C).On ((List.getD x_a (Int.toNat s2.2) default).C).Stopped) (List.getD x_a (Int.toNat s2.2) default).Pages (List.getD x_a (Int.toNat s2.2) default).In (List.getD x_a (Int.toNat s2.2) default).Out)) λv3=>
   grd ((0:Int)<=s2.2/\s2.2<((List.length s2.1:Nat):Int)) (some (.next ((List.set s2.1 (Int.toNat s2.2) v3),w64 (s2.2+(1:Int)))))))
  (some (.ret (.go s2.1)))
noncomputable def sZ (x_a:List DGuest):Option (List DGuest):=
 grd ((0:Int)<=((List.length x_a:Nat):Int)/\((List.length x_a:Nat):Int)*176<=2^47/\((List.length x_a:Nat):Int)<=2^47) (Option.bind (Option.bind (iter (yP x_a) ((List.replicate (Int.toNat ((List.length x_a:Nat):Int)) (DGuest.mk false (DCore.mk ([]:List Int) (0:Int) (0:Int) (0:Int) (0:Int) false (0:Int) (0:Int) (0:Int) false false false false) ([]:List DSlot) ([]:List Int) ([]:List Int))),(0:Int))) LO.val) λj1=>
  JO.run j1 yS)
noncomputable def g61:Sg tG:=⟨[.row 123],.one (.row 1041),sZ⟩
theorem s61:Sok 61 g61:=sgx [(100,.r bEc)] ⟨bFq,trivial⟩ (.s .o (.s (.g [] [] [.fo (.s 3) 0]) (.j ⟨[],[],[(.s 3,.ro 1041)]⟩ (.s .o (.k (.l ⟨[0],[],[(.s 3,.ro 1041),(.s 4,.i .i64)]⟩ (.s .o (.s (.k (.g [] [] [.fo (.s 3) 0])) .o))))) .o))) kr kr kr
noncomputable def aIj (x_a:DHost):Option DHost:=
 Option.bind (iF x_a.Words) λv1=>
 Option.bind (sZ x_a.Guests) λv2=>
 some (DHost.mk v1 v2)
noncomputable def g24:Sg tG:=⟨[.st 46],.one (.st 2026),aIj⟩
theorem s24:Sok 24 g24:=sgx [(60,.r g60),(61,.r g61)] ⟨s60,s61,trivial⟩ .o kr kr kr
noncomputable def xW (x_a:DSlot)(x_b:DSlot):Option Bool:=
 cond (!decide (x_a.Frame=x_b.Frame))
  (some false)
  (cond (!(x_a.Write==x_b.Write))
   (some false)
   (cond (!(x_a.Dirty==x_b.Dirty))
    (some false)
    (some true)))
noncomputable def bBk:Sg tG:=⟨[.st 43,.st 43],.one .b,xW⟩
theorem bFs:Sok 140 bBk:=sgx [] trivial .o kr kr kr
noncomputable def aBi  (s1:Unit):Option Bool:=some true
noncomputable def aBo (x_a:List DSlot)(x_b:List DSlot)(s2:Int):Option (LO Int (JO Unit Bool)):=
 cond (decide (s2<((List.length x_a:Nat):Int)))
  (grd ((0:Int)<=s2/\s2<((List.length x_a:Nat):Int)) (grd ((0:Int)<=s2/\s2<((List.length x_b:Nat):Int)) (Option.bind (xW (DSlot.mk (List.getD x_a (Int.toNat s2) default).Frame (List.getD x_a (Int.toNat s2) default).Write (List.getD x_a (Int.toNat s2) default).Dirty) (DSlot.mk (List.getD x_b (Int.toNat s2) default).Frame (List.getD x_b (Int.toNat s2) default).Write (List.getD x_b (Int.toNat s2) default).Dirty)) λv3=>
   cond (!v3)
    (some (.ret (.out false)))
    (some (.next (w64 (s2+(1:Int))))))))
  (some (.ret (.go ())))
noncomputable def uV (x_a:List DSlot)(x_b:List DSlot):Option Bool:=
 cond (!decide (((List.length x_a:Nat):Int)=((List.length x_b:Nat):Int)))
  (some false)
  (Option.bind (Option.bind (iter (aBo x_a x_b) (0:Int)) LO.val) λj1=>
   JO.run j1 aBi)
noncomputable def bDu:Sg tG:=⟨[.row 43,.row 43],.one .b,uV⟩
theorem bFx:Sok 129 bDu:=sgx [(140,.r bBk)] ⟨bFs,trivial⟩ (.s .o (.s .o (.j ⟨[],[],[]⟩ (.s .o (.k (.l ⟨[0,1],[],[(.s 5,.i .i64)]⟩ .o))) .o))) kr kr kr
noncomputable def tZ (x_a:DGuest)(x_b:DGuest):Option Bool:=
 cond (!(x_a.Live==x_b.Live))
  (some false)
  (Option.bind (xX x_a.C x_b.C) λv1=>
  cond (!v1)
   (some false)
   (Option.bind (uV x_a.Pages x_b.Pages) λv2=>
   cond (!v2)
    (some false)
    (Option.bind (iL x_a.In x_b.In) λv3=>
    cond (!v3)
     (some false)
     (Option.bind (iL x_a.Out x_b.Out) λv4=>
     cond (!v4)
      (some false)
      (some true)))))
noncomputable def bCp:Sg tG:=⟨[.st 41,.st 41],.one .b,tZ⟩
theorem bFv:Sok 101 bCp:=sgx [(128,.r bDe),(129,.r bDu),(62,.r g62)] ⟨bFo,bFx,s62,trivial⟩ .o kr kr kr
noncomputable def zL  (s1:Unit):Option Bool:=some true
noncomputable def yY (x_a:List DGuest)(x_b:List DGuest)(s2:Int):Option (LO Int (JO Unit Bool)):=
 cond (decide (s2<((List.length x_a:Nat):Int)))
  (grd ((0:Int)<=s2/\s2<((List.length x_a:Nat):Int)) (grd ((0:Int)<=s2/\s2<((List.length x_b:Nat):Int)) (Option.bind (tZ (DGuest.mk (List.getD x_a (Int.toNat s2) default).Live (DCore.mk ((List.getD x_a (Int.toNat s2) default).C).Regs ((List.getD x_a (Int.toNat s2) default).C).Pc ((List.getD x_a (Int.toNat s2) default).C).Root ((List.getD x_a (Int.toNat s2) default).C).Vector ((List.getD x_a (Int.toNat s2) default).C).Saved ((List.getD x_a (Int.toNat s2) default).C).SavedUser ((List.getD x_a (Int.toNat s2) default).C).Cause ((List.getD x_a (Int.toNat s2) default).C).Bad ((List.getD x_a (Int.toNat s2) default).C).Timer ((List.getD x_a (Int.toNat s2) default).C).Waits ((List.getD x_a (Int.toNat s2) default).C).User ((List.getD x_a (Int.toNat s2) default).C).On ((List.getD x_a (Int.toNat s2) default).C).Stopped) (List.getD x_a (Int.toNat s2) default).Pages (List.getD x_a (Int.toNat s2) default).In (List.getD x_a (Int.toNat s2) default).Out) (DGuest.mk (List.getD x_b (Int.toNat s2) default).Live (DCore.mk ((List.getD x_b (Int.toNat s2) default).C).Regs ((List.getD x_b (Int.toNat s2) default).C).Pc ((List.getD x_b (Int.toNat s2) default).C).Root ((List.getD x_b (Int.toNat s2) default).C).Vector ((List.getD x_b (Int.toNat s2) default).C).Saved ((List.getD x_b (Int.toNat s2) default).C).SavedUser ((List.getD x_b (Int.toNat s2) default).C).Cause ((List.getD x_b (Int.toNat s2) default).C).Bad ((List.getD x_b (Int.toNat s2) default).C).Timer ((List.getD x_b (Int.toNat s2) default).C).Waits ((List.getD x_b (Int.toNat s2) default).C).User ((List.getD x_b (Int.toNat s2) default).C).On ((List.getD x_b (Int.toNat s2) default).C).Stopped) (List.getD x_b (Int.toNat s2) default).Pages (List.getD x_b (Int.toNat s2) default).In (List.getD x_b (Int.toNat s2) default).Out)) λv3=>
   cond (!v3)
    (some (.ret (.out false)))
    (some (.next (w64 (s2+(1:Int))))))))
  (some (.ret (.go ())))
noncomputable def tA (x_a:List DGuest)(x_b:List DGuest):Option Bool:=
 cond (!decide (((List.length x_a:Nat):Int)=((List.length x_b:Nat):Int)))
  (some false)
  (Option.bind (Option.bind (iter (yY x_a x_b) (0:Int)) LO.val) λj1=>
   JO.run j1 zL)
noncomputable def g63:Sg tG:=⟨[.row 41,.row 41],.one .b,tA⟩
theorem s63:Sok 63 g63:=sgx [(101,.r bCp)] ⟨bFv,trivial⟩ (.s .o (.s .o (.j ⟨[],[],[]⟩ (.s .o (.k (.l ⟨[0,1],[],[(.s 5,.i .i64)]⟩ .o))) .o))) kr kr kr
noncomputable def aIm (x_a:DHost)(x_b:DHost):Option Bool:=
 Option.bind (iL x_a.Words x_b.Words) λv1=>
 cond (!v1)
  (some false)
  (Option.bind (tA x_a.Guests x_b.Guests) λv2=>
  cond (!v2)
   (some false)
   (some true))
noncomputable def g25:Sg tG:=⟨[.st 26,.st 26],.one .b,aIm⟩
theorem s25:Sok 25 g25:=sgx [(62,.r g62),(63,.r g63)] ⟨s62,s63,trivial⟩ .o kr kr kr
noncomputable def uE (x_a:List DSlot)(x_left:Int):Option Int:=
 cond (decide ((w64 (x_left-((List.length x_a:Nat):Int)))<(0:Int)))
  (some (-1:Int))
  (some (w64 (x_left-((List.length x_a:Nat):Int))))
noncomputable def bCg:Sg tG:=⟨[.row 153,.i .i64],.one (.i .i64),uE⟩
theorem bFw:Sok 125 bCg:=sgx [] trivial .o kr kr kr
noncomputable def uR (x_a:DGuest)(x_left:Int):Option Int:=
 Option.bind (xO x_a.C x_left) λv1=>
 cond (decide (v1<(0:Int)))
  (some (-1:Int))
  (Option.bind (uE x_a.Pages v1) λv2=>
  cond (decide (v2<(0:Int)))
   (some (-1:Int))
   (Option.bind (iH x_a.In v2) λv3=>
   cond (decide (v3<(0:Int)))
    (some (-1:Int))
    (Option.bind (iH x_a.Out v3) λv4=>
    cond (decide (v4<(0:Int)))
     (some (-1:Int))
     (some v4))))
noncomputable def g99:Sg tG:=⟨[.st 123,.i .i64],.one (.i .i64),uR⟩
theorem s99:Sok 99 g99:=sgx [(124,.r bDc),(125,.r bCg),(58,.r g58)] ⟨bFr,bFw,s58,trivial⟩ .o kr kr kr
noncomputable def zW  (s1:Int):Option Int:=some s1
noncomputable def yK (x_a:List DGuest)(s2:Int×Int):Option (LO (Int×Int) (JO Int Int)):=
 cond (decide (s2.2<((List.length x_a:Nat):Int)))
  (grd ((0:Int)<=s2.2/\s2.2<((List.length x_a:Nat):Int)) (Option.bind (uR (DGuest.mk (List.getD x_a (Int.toNat s2.2) default).Live (DCore.mk ((List.getD x_a (Int.toNat s2.2) default).C).Regs ((List.getD x_a (Int.toNat s2.2) default).C).Pc ((List.getD x_a (Int.toNat s2.2) default).C).Root ((List.getD x_a (Int.toNat s2.2) default).C).Vector ((List.getD x_a (Int.toNat s2.2) default).C).Saved ((List.getD x_a (Int.toNat s2.2) default).C).SavedUser ((List.getD x_a (Int.toNat s2.2) default).C).Cause ((List.getD x_a (Int.toNat s2.2) default).C).Bad ((List.getD x_a (Int.toNat s2.2) default).C).Timer ((List.getD x_a (Int.toNat s2.2) default).C).Waits ((List.getD x_a (Int.toNat s2.2) default).C).User ((List.getD x_a (Int.toNat s2.2) default).C).On ((List.getD x_a (Int.toNat s2.2) default).C).Stopped) (List.getD x_a (Int.toNat s2.2) default).Pages (List.getD x_a (Int.toNat s2.2) default).In (List.getD x_a (Int.toNat s2.2) default).Out) s2.1) λv3=>
   cond (decide (v3<(0:Int)))
    (some (.ret (.out (-1:Int))))
    (some (.next (v3,w64 (s2.2+(1:Int)))))))
  (some (.ret (.go s2.1)))
noncomputable def tN (x_a:List DGuest)(x_left:Int):Option Int:=
 cond (decide ((w64 (x_left-((List.length x_a:Nat):Int)))<(0:Int)))
  (some (-1:Int))
  (Option.bind (Option.bind (iter (yK x_a) ((w64 (x_left-((List.length x_a:Nat):Int))),(0:Int))) LO.val) λj1=>
   JO.run j1 zW)
noncomputable def g59:Sg tG:=⟨[.row 123,.i .i64],.one (.i .i64),tN⟩
theorem s59:Sok 59 g59:=sgx [(99,.r g99)] ⟨s99,trivial⟩ (.s .o (.s .o (.s .o (.j ⟨[],[],[(.s 1,.i .i64)]⟩ (.s .o (.k (.l ⟨[0],[],[(.s 1,.i .i64),(.s 5,.i .i64)]⟩ .o))) .o)))) kr kr kr
noncomputable def aIo (x_a:DHost)(x_left:Int):Option Int:=
 Option.bind (iH x_a.Words x_left) λv1=>
 cond (decide (v1<(0:Int)))
  (some (-1:Int))
  (Option.bind (tN x_a.Guests v1) λv2=>
  cond (decide (v2<(0:Int)))
   (some (-1:Int))
   (some v2))
noncomputable def g23:Sg tG:=⟨[.st 46,.i .i64],.one (.i .i64),aIo⟩
theorem s23:Sok 23 g23:=sgx [(58,.r g58),(59,.r g59)] ⟨s58,s59,trivial⟩ .o kr kr kr
noncomputable def aBj  (s1:List DLine):Option (List DLine):=some s1
noncomputable def kV (s2:(List DLine)×Int)(s3:List DLine):Option (LO ((List DLine)×Int) (JO (List DLine) (List DLine))):=some (.next (s3,w64 (s2.2+(1:Int))))
noncomputable def eX (x_tags:List DLine)(x_g:Int)(s2:(List DLine)×Int):Option (LO ((List DLine)×Int) (JO (List DLine) (List DLine))):=
 cond (decide (s2.2<((List.length x_tags:Nat):Int)))
  (Option.bind (grd ((0:Int)<=s2.2/\s2.2<((List.length x_tags:Nat):Int)) (cond (!decide ((List.getD x_tags (Int.toNat s2.2) default).Tag=x_g))
   (grd ((List.length s2.1+List.length ([DLine.mk (List.getD x_tags (Int.toNat s2.2) default).Tag (List.getD x_tags (Int.toNat s2.2) default).At (DShade.mk ((List.getD x_tags (Int.toNat s2.2) default).What).There ((List.getD x_tags (Int.toNat s2.2) default).What).Write ((List.getD x_tags (Int.toNat s2.2) default).What).User ((List.getD x_tags (Int.toNat s2.2) default).What).Page ((List.getD x_tags (Int.toNat s2.2) default).What).Frame ((List.getD x_tags (Int.toNat s2.2) default).What).Ready)]:List DLine))*48<=2^47/\List.length s2.1+List.length ([DLine.mk (List.getD x_tags (Int.toNat s2.2) default).Tag (List.getD x_tags (Int.toNat s2.2) default).At (DShade.mk ((List.getD x_tags (Int.toNat s2.2) default).What).There ((List.getD x_tags (Int.toNat s2.2) default).What).Write ((List.getD x_tags (Int.toNat s2.2) default).What).User ((List.getD x_tags (Int.toNat s2.2) default).What).Page ((List.getD x_tags (Int.toNat s2.2) default).What).Frame ((List.getD x_tags (Int.toNat s2.2) default).What).Ready)]:List DLine)<=2^47) (some (.go (s2.1++([DLine.mk (List.getD x_tags (Int.toNat s2.2) default).Tag (List.getD x_tags (Int.toNat s2.2) default).At (DShade.mk ((List.getD x_tags (Int.toNat s2.2) default).What).There ((List.getD x_tags (Int.toNat s2.2) default).What).Write ((List.getD x_tags (Int.toNat s2.2) default).What).User ((List.getD x_tags (Int.toNat s2.2) default).What).Page ((List.getD x_tags (Int.toNat s2.2) default).What).Frame ((List.getD x_tags (Int.toNat s2.2) default).What).Ready)]:List DLine)))))
   (some (.go s2.1)))) λj3=>
   JO.run j3 (kV s2))
  (some (.ret (.go s2.1)))
noncomputable def gX (x_tags:List DLine)(x_g:Int):Option (List DLine):=
 Option.bind (Option.bind (iter (eX x_tags x_g) (([]:List DLine),(0:Int))) LO.val) λj1=>
  JO.run j1 aBj
noncomputable def g37:Sg tG:=⟨[.row 68,.i .i64],.one (.row 68),gX⟩
theorem s37:Sok 37 g37:=sgx [] trivial (.s .o (.s .o (.j ⟨[],[],[(.s 5,.ro 68)]⟩ (.s .o (.k (.l ⟨[1,9,10],[],[(.s 5,.ro 68),(.s 11,.i .i64)]⟩ (.s .o (.s .o (.j ⟨[1,9,10,11],[],[(.s 5,.ro 68)]⟩ .o .o)))))) .o))) kr kr kr
noncomputable def aAz  (s1:List DLine):Option (List DLine):=some s1
noncomputable def kS (s2:(List DLine)×Int)(s3:List DLine):Option (LO ((List DLine)×Int) (JO (List DLine) (List DLine))):=some (.next (s3,w64 (s2.2+(1:Int))))
noncomputable def eZ (x_tags:List DLine)(x_g:Int)(s2:(List DLine)×Int):Option (LO ((List DLine)×Int) (JO (List DLine) (List DLine))):=
 cond (decide (s2.2<((List.length x_tags:Nat):Int)))
  (Option.bind (grd ((0:Int)<=s2.2/\s2.2<((List.length x_tags:Nat):Int)) (cond (!decide ((List.getD x_tags (Int.toNat s2.2) default).Tag=x_g))
   (grd ((0:Int)<=s2.2/\s2.2<((List.length x_tags:Nat):Int)) (grd ((List.length s2.1+List.length ([DLine.mk (List.getD x_tags (Int.toNat s2.2) default).Tag (List.getD x_tags (Int.toNat s2.2) default).At (DShade.mk ((List.getD x_tags (Int.toNat s2.2) default).What).There ((List.getD x_tags (Int.toNat s2.2) default).What).Write ((List.getD x_tags (Int.toNat s2.2) default).What).User ((List.getD x_tags (Int.toNat s2.2) default).What).Page ((List.getD x_tags (Int.toNat s2.2) default).What).Frame ((List.getD x_tags (Int.toNat s2.2) default).What).Ready)]:List DLine))*48<=2^47/\List.length s2.1+List.length ([DLine.mk (List.getD x_tags (Int.toNat s2.2) default).Tag (List.getD x_tags (Int.toNat s2.2) default).At (DShade.mk ((List.getD x_tags (Int.toNat s2.2) default).What).There ((List.getD x_tags (Int.toNat s2.2) default).What).Write ((List.getD x_tags (Int.toNat s2.2) default).What).User ((List.getD x_tags (Int.toNat s2.2) default).What).Page ((List.getD x_tags (Int.toNat s2.2) default).What).Frame ((List.getD x_tags (Int.toNat s2.2) default).What).Ready)]:List DLine)<=2^47) (some (.go (s2.1++([DLine.mk (List.getD x_tags (Int.toNat s2.2) default).Tag (List.getD x_tags (Int.toNat s2.2) default).At (DShade.mk ((List.getD x_tags (Int.toNat s2.2) default).What).There ((List.getD x_tags (Int.toNat s2.2) default).What).Write ((List.getD x_tags (Int.toNat s2.2) default).What).User ((List.getD x_tags (Int.toNat s2.2) default).What).Page ((List.getD x_tags (Int.toNat s2.2) default).What).Frame ((List.getD x_tags (Int.toNat s2.2) default).What).Ready)]:List DLine))))))
   (some (.go s2.1)))) λj3=>
   JO.run j3 (kS s2))
  (some (.ret (.go s2.1)))
noncomputable def kH (x_tags:List DLine)(x_g:Int):Option (List DLine):=
 Option.bind (Option.bind (iter (eZ x_tags x_g) (([]:List DLine),(0:Int))) LO.val) λj1=>
  JO.run j1 aAz
noncomputable def g38:Sg tG:=⟨[.row 68,.i .i64],.one (.row 68),kH⟩
theorem s38:Sok 38 g38:=sgx [] trivial (.s .o (.s .o (.j ⟨[],[],[(.s 5,.ro 68)]⟩ (.s .o (.k (.l ⟨[0,1],[],[(.s 5,.ro 68),(.s 6,.i .i64)]⟩ (.s .o (.j ⟨[0,1,6],[],[(.s 5,.ro 68)]⟩ .o .o))))) .o))) kr kr kr
noncomputable def zG  (s1:Unit):Option Bool:=some true
noncomputable def zA (x_a:List Int)(x_b:List Int)(s2:Int):Option (LO Int (JO Unit Bool)):=
 cond (decide (s2<((List.length x_a:Nat):Int)))
  (grd ((0:Int)<=s2/\s2<((List.length x_a:Nat):Int)) (grd ((0:Int)<=s2/\s2<((List.length x_b:Nat):Int)) (cond (!decide ((List.getD x_a (Int.toNat s2) default)=(List.getD x_b (Int.toNat s2) default)))
   (some (.ret (.out false)))
   (some (.next (w64 (s2+(1:Int))))))))
  (some (.ret (.go ())))
noncomputable def dJ (x_a:List Int)(x_b:List Int):Option Bool:=
 cond (!decide (((List.length x_a:Nat):Int)=((List.length x_b:Nat):Int)))
  (some false)
  (Option.bind (Option.bind (iter (zA x_a x_b) (0:Int)) LO.val) λj1=>
   JO.run j1 zG)
noncomputable def g18:Sg tG:=⟨[.row 3,.row 3],.one .b,dJ⟩
theorem s18:Sok 18 g18:=sgx [] trivial (.s .o (.s .o (.j ⟨[],[],[]⟩ (.s .o (.k (.l ⟨[0,1],[],[(.s 5,.i .i64)]⟩ .o))) .o))) kr kr kr
noncomputable def nI (x_a:DCore)(x_b:DCore):Option Bool:=
 Option.bind (dJ x_a.Regs x_b.Regs) λv1=>
 cond (!v1)
  (some false)
  (cond (!decide (x_a.Pc=x_b.Pc))
   (some false)
   (cond (!decide (x_a.Root=x_b.Root))
    (some false)
    (cond (!decide (x_a.Vector=x_b.Vector))
     (some false)
     (cond (!decide (x_a.Saved=x_b.Saved))
      (some false)
      (cond (!(x_a.SavedUser==x_b.SavedUser))
       (some false)
       (cond (decide (x_a.Cause=x_b.Cause))
        (cond (decide (x_a.Bad=x_b.Bad))
         (cond (decide (x_a.Timer=x_b.Timer))
          (cond (x_a.Waits==x_b.Waits)
           (cond (x_a.User==x_b.User)
            (cond (x_a.On==x_b.On)
             (some (x_a.Stopped==x_b.Stopped))
             (some false))
            (some false))
           (some false))
          (some false))
         (some false))
        (some false)))))))
noncomputable def g89:Sg tG:=⟨[.st 38,.st 38],.one .b,nI⟩
theorem s89:Sok 89 g89:=sgx [(18,.r g18)] ⟨s18,trivial⟩ .o kr kr kr
noncomputable def sU (x_a:DBare)(x_b:DBare):Option Bool:=
 Option.bind (nI x_a.C x_b.C) λv1=>
 cond v1
  (Option.bind (dJ x_a.Mem x_b.Mem) λv2=>
  cond v2
   (Option.bind (dJ x_a.In x_b.In) λv3=>
   cond v3
    (Option.bind (dJ x_a.Out x_b.Out) λv4=>
    some v4)
    (some false))
   (some false))
  (some false)
noncomputable def g55:Sg tG:=⟨[.st 82,.st 82],.one .b,sU⟩
theorem s55:Sok 55 g55:=sgx [(89,.r g89),(18,.r g18)] ⟨s89,s18,trivial⟩ .o kr kr kr
noncomputable def yA  (s4:Unit):Option Bool:=some true
noncomputable def yE (x_a:DGuest)(x_b:DGuest)(s5:Int):Option (LO Int (JO Unit Bool)):=
 cond (decide (s5<((List.length x_a.Pages:Nat):Int)))
  (grd ((0:Int)<=s5/\s5<((List.length x_a.Pages:Nat):Int)) (grd ((0:Int)<=s5/\s5<((List.length x_b.Pages:Nat):Int)) (cond (!(decide ((List.getD x_a.Pages (Int.toNat s5) default).Frame=(List.getD x_b.Pages (Int.toNat s5) default).Frame)&&(((List.getD x_a.Pages (Int.toNat s5) default).Write==(List.getD x_b.Pages (Int.toNat s5) default).Write)&&(((List.getD x_a.Pages (Int.toNat s5) default).Dirty==(List.getD x_b.Pages (Int.toNat s5) default).Dirty)&&true))))
   (some (.ret (.out false)))
   (some (.next (w64 (s5+(1:Int))))))))
  (some (.ret (.go ())))
noncomputable def rQ (x_a:DGuest)(x_b:DGuest):Option Bool:=
 cond (!(x_a.Live==x_b.Live))
  (some false)
  (Option.bind (nI x_a.C x_b.C) λv1=>
  cond (!v1)
   (some false)
   (Option.bind (dJ x_a.In x_b.In) λv2=>
   cond (!v2)
    (some false)
    (Option.bind (dJ x_a.Out x_b.Out) λv3=>
    cond (!v3)
     (some false)
     (cond (!decide (((List.length x_a.Pages:Nat):Int)=((List.length x_b.Pages:Nat):Int)))
      (some false)
      (Option.bind (Option.bind (iter (yE x_a x_b) (0:Int)) LO.val) λj4=>
       JO.run j4 yA)))))
noncomputable def g44:Sg tG:=⟨[.st 41,.st 41],.one .b,rQ⟩
theorem s44:Sok 44 g44:=sgx [(89,.r g89),(18,.r g18)] ⟨s89,s18,trivial⟩ (.s .o (.s .o (.j ⟨[],[],[]⟩ (.s .o (.k (.l ⟨[2,3],[],[(.s 5,.i .i64)]⟩ .o))) .o))) kr kr kr
noncomputable def zV  (s2:Unit):Option Bool:=some true
noncomputable def yL (x_a:DHost)(x_b:DHost)(s3:Int):Option (LO Int (JO Unit Bool)):=
 cond (decide (s3<((List.length x_a.Guests:Nat):Int)))
  (grd ((0:Int)<=s3/\s3<((List.length x_a.Guests:Nat):Int)) (grd ((0:Int)<=s3/\s3<((List.length x_b.Guests:Nat):Int)) (Option.bind (rQ (DGuest.mk (List.getD x_a.Guests (Int.toNat s3) default).Live (DCore.mk ((List.getD x_a.Guests (Int.toNat s3) default).C).Regs ((List.getD x_a.Guests (Int.toNat s3) default).C).Pc ((List.getD x_a.Guests (Int.toNat s3) default).C).Root ((List.getD x_a.Guests (Int.toNat s3) default).C).Vector ((List.getD x_a.Guests (Int.toNat s3) default).C).Saved ((List.getD x_a.Guests (Int.toNat s3) default).C).SavedUser ((List.getD x_a.Guests (Int.toNat s3) default).C).Cause ((List.getD x_a.Guests (Int.toNat s3) default).C).Bad ((List.getD x_a.Guests (Int.toNat s3) default).C).Timer ((List.getD x_a.Guests (Int.toNat s3) default).C).Waits ((List.getD x_a.Guests (Int.toNat s3) default).C).User ((List.getD x_a.Guests (Int.toNat s3) default).C).On ((List.getD x_a.Guests (Int.toNat s3) default).C).Stopped) (List.getD x_a.Guests (Int.toNat s3) default).Pages (List.getD x_a.Guests (Int.toNat s3) default).In (List.getD x_a.Guests (Int.toNat s3) default).Out) (DGuest.mk (List.getD x_b.Guests (Int.toNat s3) default).Live (DCore.mk ((List.getD x_b.Guests (Int.toNat s3) default).C).Regs ((List.getD x_b.Guests (Int.toNat s3) default).C).Pc ((List.getD x_b.Guests (Int.toNat s3) default).C).Root ((List.getD x_b.Guests (Int.toNat s3) default).C).Vector ((List.getD x_b.Guests (Int.toNat s3) default).C).Saved ((List.getD x_b.Guests (Int.toNat s3) default).C).SavedUser ((List.getD x_b.Guests (Int.toNat s3) default).C).Cause ((List.getD x_b.Guests (Int.toNat s3) default).C).Bad ((List.getD x_b.Guests (Int.toNat s3) default).C).Timer ((List.getD x_b.Guests (Int.toNat s3) default).C).Waits ((List.getD x_b.Guests (Int.toNat s3) default).C).User ((List.getD x_b.Guests (Int.toNat s3) default).C).On ((List.getD x_b.Guests (Int.toNat s3) default).C).Stopped) (List.getD x_b.Guests (Int.toNat s3) default).Pages (List.getD x_b.Guests (Int.toNat s3) default).In (List.getD x_b.Guests (Int.toNat s3) default).Out)) λv4=>
   cond (!v4)
    (some (.ret (.out false)))
    (some (.next (w64 (s3+(1:Int))))))))
  (some (.ret (.go ())))
noncomputable def aEt (x_a:DHost)(x_b:DHost):Option Bool:=
 Option.bind (dJ x_a.Words x_b.Words) λv1=>
 cond (!v1)
  (some false)
  (cond (!decide (((List.length x_a.Guests:Nat):Int)=((List.length x_b.Guests:Nat):Int)))
   (some false)
   (Option.bind (Option.bind (iter (yL x_a x_b) (0:Int)) LO.val) λj2=>
    JO.run j2 zV))
noncomputable def g12:Sg tG:=⟨[.st 26,.st 26],.one .b,aEt⟩
theorem s12:Sok 12 g12:=sgx [(18,.r g18),(44,.r g44)] ⟨s18,s44,trivial⟩ (.s .o (.s .o (.j ⟨[],[],[]⟩ (.s .o (.k (.l ⟨[2,3],[],[(.s 5,.i .i64)]⟩ .o))) .o))) kr kr kr
noncomputable def xZ  (s1:Unit):Option Bool:=some true
noncomputable def yI (s2:Int)(s3:Unit):Option (LO Int (JO Unit Bool)):=some (.next (w64 (s2+(1:Int))))
noncomputable def yB (x_a:DHost)(x_b:DHost)(x_but:Int)(s2:Int):Option (LO Int (JO Unit Bool)):=
 cond (decide (s2<(3:Int)))
  (Option.bind (Option.bind (mV x_a s2) λv4=>
   Option.bind (mV x_b s2) λv5=>
   cond (!decide (s2=x_but))
    (cond (!(v4.2==v5.2))
     (some (.out (.ret (.out false))))
     (Option.bind (sU v4.1 v5.1) λv6=>
     cond (!v6)
      (some (.out (.ret (.out false))))
      (some (.go ()))))
    (some (.go ()))) λj3=>
   JO.run j3 (yI s2))
  (some (.ret (.go ())))
noncomputable def aDa (x_a:DHost)(x_b:DHost)(x_but:Int):Option Bool:=
 Option.bind (Option.bind (iter (yB x_a x_b x_but) (0:Int)) LO.val) λj1=>
  JO.run j1 xZ
noncomputable def g19:Sg tG:=⟨[.st 26,.st 26,.i .i64],.one .b,aDa⟩
theorem s19:Sok 19 g19:=sgx [(54,.r g54),(55,.r g55)] ⟨s54,s55,trivial⟩ (.s .o (.j ⟨[],[],[]⟩ (.s .o (.k (.l ⟨[2,3,4],[],[(.s 7,.i .i64)]⟩ (.s .o (.j ⟨[2,3,4,7],[],[]⟩ .o .o))))) .o)) kr kr kr
noncomputable def gF (x_code:List Int):Option ((List DLine)×Int):=
 Option.bind (fH x_code) λv1=>
 Option.bind (kJ v1 (0:Int)) λv2=>
 Option.bind (kC v2.1 v2.2 (5:Int)) λv3=>
 Option.bind (aA v3.1 (4:Int)) λv4=>
 some (v3.2,v4.2)
noncomputable def g36:Sg tG:=⟨[.row 5],.two (.row 68) (.i .i64),gF⟩
theorem s36:Sok 36 g36:=sgx [(40,.o g40),(68,.w g68),(69,.w g69),(76,.w g76)] ⟨s40,s68,s69,s76,trivial⟩ .o kr kr kr
noncomputable def yG  (s1:Unit):Option Bool:=some true
noncomputable def fS (x_a:List DLine)(x_b:List DLine)(s2:Int):Option (LO Int (JO Unit Bool)):=
 cond (decide (s2<((List.length x_a:Nat):Int)))
  (grd ((0:Int)<=s2/\s2<((List.length x_a:Nat):Int)) (grd ((0:Int)<=s2/\s2<((List.length x_b:Nat):Int)) (cond (!(decide ((List.getD x_a (Int.toNat s2) default).Tag=(List.getD x_b (Int.toNat s2) default).Tag)&&(decide ((List.getD x_a (Int.toNat s2) default).At=(List.getD x_b (Int.toNat s2) default).At)&&((((List.getD x_a (Int.toNat s2) default).What).There==((List.getD x_b (Int.toNat s2) default).What).There)&&((((List.getD x_a (Int.toNat s2) default).What).Write==((List.getD x_b (Int.toNat s2) default).What).Write)&&((((List.getD x_a (Int.toNat s2) default).What).User==((List.getD x_b (Int.toNat s2) default).What).User)&&(decide (((List.getD x_a (Int.toNat s2) default).What).Page=((List.getD x_b (Int.toNat s2) default).What).Page)&&(decide (((List.getD x_a (Int.toNat s2) default).What).Frame=((List.getD x_b (Int.toNat s2) default).What).Frame)&&((((List.getD x_a (Int.toNat s2) default).What).Ready==((List.getD x_b (Int.toNat s2) default).What).Ready)&&true)))))))))
   (some (.ret (.out false)))
   (some (.next (w64 (s2+(1:Int))))))))
  (some (.ret (.go ())))
noncomputable def fJ (x_a:List DLine)(x_b:List DLine):Option Bool:=
 cond (!decide (((List.length x_a:Nat):Int)=((List.length x_b:Nat):Int)))
  (some false)
  (Option.bind (Option.bind (iter (fS x_a x_b) (0:Int)) LO.val) λj1=>
   JO.run j1 yG)
noncomputable def g34:Sg tG:=⟨[.row 68,.row 68],.one .b,fJ⟩
theorem s34:Sok 34 g34:=sgx [] trivial (.s .o (.s .o (.j ⟨[],[],[]⟩ (.s .o (.k (.l ⟨[0,1],[],[(.s 5,.i .i64)]⟩ .o))) .o))) kr kr kr
noncomputable def iX (v1:(List DLine)×Int)(v2:List DLine)(s5:Int)(s6:Unit):Option Bool:=
 cond (decide (((List.length v2:Nat):Int)=(w64 (((List.length v1.1:Nat):Int)-s5))))
  (Option.bind (gX v2 v1.2) λv7=>
  Option.bind (fJ v7 v2) λv8=>
  cond v8
   (Option.bind mY  λv9=>
   some v9)
   (some false))
  (some false)
noncomputable def dV (v1:(List DLine)×Int)(v2:List DLine)(s10:Int):Option (LO Int (JO Unit Bool)):=
 cond (decide (s10<((List.length v2:Nat):Int)))
  (grd ((0:Int)<=s10/\s10<((List.length v2:Nat):Int)) (cond (decide ((List.getD v2 (Int.toNat s10) default).Tag=v1.2))
   (some (.ret (.out false)))
   (some (.next (w64 (s10+(1:Int)))))))
  (some (.ret (.go ())))
noncomputable def iY (v1:(List DLine)×Int)(v2:List DLine)(s5:Int):Option Bool:=
 Option.bind (Option.bind (iter (dV v1 v2) (0:Int)) LO.val) λj6=>
  JO.run j6 (iX v1 v2 s5)
noncomputable def iC (s11:Int×Int)(s12:Int):Option (LO (Int×Int) (JO Int Bool)):=some (.next (s12,w64 (s11.2+(1:Int))))
noncomputable def dX (v1:(List DLine)×Int)(s11:Int×Int):Option (LO (Int×Int) (JO Int Bool)):=
 cond (decide (s11.2<((List.length v1.1:Nat):Int)))
  (Option.bind (grd ((0:Int)<=s11.2/\s11.2<((List.length v1.1:Nat):Int)) (cond (decide ((List.getD v1.1 (Int.toNat s11.2) default).Tag=v1.2))
   (some (.go (w64 (s11.1+(1:Int)))))
   (some (.go s11.1)))) λj12=>
   JO.run j12 (iC s11))
  (some (.ret (.go s11.1)))
noncomputable def fN (x_code:List Int):Option Bool:=
 cond (decide ((1048576:Int)<((List.length x_code:Nat):Int)))
  (some true)
  (Option.bind (gF x_code) λv1=>
  Option.bind (gX v1.1 v1.2) λv2=>
  Option.bind (kH v1.1 v1.2) λv3=>
  Option.bind (fJ v2 v3) λv4=>
  cond (!v4)
   (some false)
   (Option.bind (Option.bind (iter (dX v1) ((0:Int),(0:Int))) LO.val) λj5=>
    JO.run j5 (iY v1 v2)))
noncomputable def g9:Sg tG:=⟨[.row 5],.one .b,fN⟩
theorem s9:Sok 9 g9:=sgx [(36,.r g36),(37,.r g37),(38,.r g38),(34,.r g34),(15,.r g15)] ⟨s36,s37,s38,s34,s15,trivial⟩ (.s .o (.s .o (.s .o (.s .o (.s .o (.s .o (.j ⟨[3,4,5],[],[(.s 6,.i .i64)]⟩ (.s .o (.k (.l ⟨[3,4,5],[],[(.s 6,.i .i64),(.s 7,.i .i64)]⟩ (.s .o (.j ⟨[3,4,5,7],[],[(.s 6,.i .i64)]⟩ .o .o))))) (.j ⟨[3,4,5,6],[],[]⟩ (.s .o (.k (.l ⟨[3,4,5,6],[],[(.s 8,.i .i64)]⟩ .o))) .o)))))))) kr kr kr
theorem aBd{x_code:List Int}{R_:Bool}(hh:fN x_code=some R_):Fn Try.prog 9 [bo (eI .u8) x_code] (.bool R_):=kc (s9 x_code R_ hh)
end Go.Proofs.Ytkjabgefacfpfaa
