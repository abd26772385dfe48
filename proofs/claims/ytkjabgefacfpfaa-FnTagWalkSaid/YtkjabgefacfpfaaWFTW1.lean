/- Plain functions of the program, and that it hands back what they say. Made by program. -/
import Derived.Test.YtkjabgefacfpfaaWTD
import Derived.Test.YtkjabgefacfpfaaProg
namespace Go.Proofs.Ytkjabgefacfpfaa
open Go.RowKit
set_option maxRecDepth 100000
set_option linter.all false
set_option maxHeartbeats 0
noncomputable def bM (x_n:Int)(x_low:Int)(x_high:Int):Option Bool:=
 cond (decide (x_low<=x_n))
  (some (decide (x_n<=x_high)))
  (some false)
noncomputable def g73:Sg tG:=⟨[.i .i64,.i .i64,.i .i64],.one .b,bM⟩
theorem s73:Sok 73 g73:=sgx [] trivial .o kr kr kr
noncomputable def eC (x_n:Int):Option Bool:=
 Option.bind (bM x_n (0:Int) (4095:Int)) λv1=>
 some v1
noncomputable def aKe:Sg tG:=⟨[.i .i64],.one .b,eC⟩
theorem aRw:Sok 117 aKe:=sgx [(73,.r g73)] ⟨s73,trivial⟩ .o kr kr kr
noncomputable def mE (x_list:List Int)(x_most:Int)(s1:Unit):Option Bool:=some (decide (((List.length x_list:Nat):Int)<=x_most))
noncomputable def mB (x_list:List Int)(s2:Int):Option (LO Int (JO Unit Bool)):=
 cond (decide (s2<((List.length x_list:Nat):Int)))
  (grd ((0:Int)<=s2/\s2<((List.length x_list:Nat):Int)) (Option.bind (eC (List.getD x_list (Int.toNat s2) default)) λv3=>
   cond (!v3)
    (some (.ret (.out false)))
    (some (.next (w64 (s2+(1:Int)))))))
  (some (.ret (.go ())))
noncomputable def cP (x_list:List Int)(x_most:Int):Option Bool:=
 Option.bind (Option.bind (iter (mB x_list) (0:Int)) LO.val) λj1=>
  JO.run j1 (mE x_list x_most)
noncomputable def g90:Sg tG:=⟨[.row 3,.i .i64],.one .b,cP⟩
theorem s90:Sok 90 g90:=sgx [(117,.r aKe)] ⟨aRw,trivial⟩ (.s .o (.j ⟨[0,1],[],[]⟩ (.s .o (.k (.l ⟨[0,1],[],[(.s 5,.i .i64)]⟩ .o))) .o)) kr kr kr
noncomputable def tP (x_c:DCore)(s1:Unit):Option Bool:=
 cond (decide (((List.length x_c.Regs:Nat):Int)=(4:Int)))
  (Option.bind (bM x_c.Pc (0:Int) (63:Int)) λv2=>
  cond v2
   (Option.bind (bM x_c.Vector (0:Int) (63:Int)) λv3=>
   cond v3
    (Option.bind (bM x_c.Saved (0:Int) (63:Int)) λv4=>
    cond v4
     (Option.bind (bM x_c.Bad (0:Int) (63:Int)) λv5=>
     cond v5
      (Option.bind (bM x_c.Root (-1:Int) (7:Int)) λv6=>
      cond v6
       (Option.bind (bM x_c.Cause (0:Int) (4:Int)) λv7=>
       cond v7
        (Option.bind (eC x_c.Timer) λv8=>
        some v8)
        (some false))
       (some false))
      (some false))
     (some false))
    (some false))
   (some false))
  (some false)
noncomputable def tN (x_c:DCore)(s9:Int):Option (LO Int (JO Unit Bool)):=
 cond (decide (s9<((List.length x_c.Regs:Nat):Int)))
  (grd ((0:Int)<=s9/\s9<((List.length x_c.Regs:Nat):Int)) (Option.bind (eC (List.getD x_c.Regs (Int.toNat s9) default)) λv10=>
   cond (!v10)
    (some (.ret (.out false)))
    (some (.next (w64 (s9+(1:Int)))))))
  (some (.ret (.go ())))
noncomputable def gF (x_c:DCore):Option Bool:=
 Option.bind (Option.bind (iter (tN x_c) (0:Int)) LO.val) λj1=>
  JO.run j1 (tP x_c)
noncomputable def g92:Sg tG:=⟨[.st 38],.one .b,gF⟩
theorem s92:Sok 92 g92:=sgx [(117,.r aKe),(73,.r g73)] ⟨aRw,s73,trivial⟩ (.s .o (.j ⟨[1],[],[]⟩ (.s .o (.k (.l ⟨[1],[],[(.s 3,.i .i64)]⟩ .o))) .o)) kr kr kr
noncomputable def uO (x_mem:List Int)(s1:Unit):Option Bool:=some (decide (((List.length x_mem:Nat):Int)=(64:Int)))
noncomputable def uD (x_mem:List Int)(s2:Int):Option (LO Int (JO Unit Bool)):=
 cond (decide (s2<((List.length x_mem:Nat):Int)))
  (grd ((0:Int)<=s2/\s2<((List.length x_mem:Nat):Int)) (Option.bind (eC (List.getD x_mem (Int.toNat s2) default)) λv3=>
   cond (!v3)
    (some (.ret (.out false)))
    (some (.next (w64 (s2+(1:Int)))))))
  (some (.ret (.go ())))
noncomputable def oJ (x_mem:List Int):Option Bool:=
 Option.bind (Option.bind (iter (uD x_mem) (0:Int)) LO.val) λj1=>
  JO.run j1 (uO x_mem)
noncomputable def bCe:Sg tG:=⟨[.row 3],.one .b,oJ⟩
theorem bGx:Sok 144 bCe:=sgx [(117,.r aKe)] ⟨aRw,trivial⟩ (.s .o (.j ⟨[0],[],[]⟩ (.s .o (.k (.l ⟨[0],[],[(.s 3,.i .i64)]⟩ .o))) .o)) kr kr kr
noncomputable def mN (x_b:DBare):Option Bool:=
 Option.bind (gF x_b.C) λv1=>
 cond v1
  (Option.bind (oJ x_b.Mem) λv2=>
  cond v2
   (Option.bind (cP x_b.In (30:Int)) λv3=>
   cond v3
    (Option.bind (cP x_b.Out (30:Int)) λv4=>
    some v4)
    (some false))
   (some false))
  (some false)
noncomputable def bEy:Sg tG:=⟨[.st 82],.one .b,mN⟩
theorem bHf:Sok 133 bEy:=sgx [(92,.r g92),(144,.r bCe),(90,.r g90)] ⟨s92,bGx,s90,trivial⟩ .o kr kr kr
noncomputable def eE (x_n:Int):Option Bool:=
 cond (decide ((0:Int)<=x_n))
  (some (decide (x_n<=(4095:Int))))
  (some false)
noncomputable def g52:Sg tG:=⟨[.i .i64],.one .b,eE⟩
theorem s52:Sok 52 g52:=sgx [] trivial .o kr kr kr
noncomputable def aBz  (s1:Unit):Option Bool:=some true
noncomputable def rV (x_list:List Int)(s2:Int):Option (LO Int (JO Unit Bool)):=
 cond (decide (s2<((List.length x_list:Nat):Int)))
  (grd ((0:Int)<=s2/\s2<((List.length x_list:Nat):Int)) (Option.bind (eE (List.getD x_list (Int.toNat s2) default)) λv3=>
   cond (!v3)
    (some (.ret (.out false)))
    (some (.next (w64 (s2+(1:Int)))))))
  (some (.ret (.go ())))
noncomputable def fM (x_list:List Int):Option Bool:=
 Option.bind (Option.bind (iter (rV x_list) (0:Int)) LO.val) λj1=>
  JO.run j1 aBz
noncomputable def g49:Sg tG:=⟨[.row 3],.one .b,fM⟩
theorem s49:Sok 49 g49:=sgx [(52,.r g52)] ⟨s52,trivial⟩ (.s .o (.j ⟨[],[],[]⟩ (.s .o (.k (.l ⟨[5,6],[],[(.s 7,.i .i64)]⟩ .o))) .o)) kr kr kr
noncomputable def bK (x_addr:Int):Option Bool:=
 cond (decide ((0:Int)<=x_addr))
  (some (decide (x_addr<(64:Int))))
  (some false)
noncomputable def g78:Sg tG:=⟨[.i .i64],.one .b,bK⟩
theorem s78:Sok 78 g78:=sgx [] trivial .o kr kr kr
noncomputable def jO (x_page:Int):Option Bool:=
 cond (decide ((0:Int)<=x_page))
  (some (decide (x_page<(8:Int))))
  (some false)
noncomputable def aXt:Sg tG:=⟨[.i .i64],.one .b,jO⟩
theorem bCz:Sok 109 aXt:=sgx [] trivial .o kr kr kr
noncomputable def jT (x_root:Int):Option Bool:=
 cond (decide (x_root=(-1:Int)))
  (some true)
  (Option.bind (jO x_root) λv1=>
  some v1)
noncomputable def bCr:Sg tG:=⟨[.i .i64],.one .b,jT⟩
theorem bHj:Sok 137 bCr:=sgx [(109,.r aXt)] ⟨bCz,trivial⟩ .o kr kr kr
noncomputable def mO (x_c:DCore):Option Bool:=
 cond (decide (((List.length x_c.Regs:Nat):Int)=(4:Int)))
  (Option.bind (fM x_c.Regs) λv1=>
  Option.bind (bK x_c.Pc) λv2=>
  cond v2
   (Option.bind (bK x_c.Vector) λv3=>
   cond v3
    (Option.bind (bK x_c.Saved) λv4=>
    cond v4
     (Option.bind (bK x_c.Bad) λv5=>
     cond (decide ((0:Int)<=x_c.Cause))
      (cond v1
       (cond v5
        (Option.bind (jT x_c.Root) λv6=>
        cond v6
         (cond (decide (x_c.Cause<=(4:Int)))
          (Option.bind (eE x_c.Timer) λv7=>
          some v7)
          (some false))
         (some false))
        (some false))
       (some false))
      (cond v1
       (cond v5
        (Option.bind (jT x_c.Root) λv8=>
        cond v8
         (some false)
         (some false))
        (some false))
       (some false)))
     (cond (decide ((0:Int)<=x_c.Cause))
      (cond v1
       (some false)
       (some false))
      (cond v1
       (some false)
       (some false))))
    (cond (decide ((0:Int)<=x_c.Cause))
     (cond v1
      (some false)
      (some false))
     (cond v1
      (some false)
      (some false))))
   (cond (decide ((0:Int)<=x_c.Cause))
    (cond v1
     (some false)
     (some false))
    (cond v1
     (some false)
     (some false))))
  (Option.bind (bK x_c.Pc) λv9=>
  cond v9
   (Option.bind (bK x_c.Vector) λv10=>
   cond v10
    (Option.bind (bK x_c.Saved) λv11=>
    cond v11
     (Option.bind (bK x_c.Bad) λv12=>
     cond (decide ((0:Int)<=x_c.Cause))
      (some false)
      (some false))
     (cond (decide ((0:Int)<=x_c.Cause))
      (some false)
      (some false)))
    (cond (decide ((0:Int)<=x_c.Cause))
     (some false)
     (some false)))
   (cond (decide ((0:Int)<=x_c.Cause))
    (some false)
    (some false)))
noncomputable def bDt:Sg tG:=⟨[.st 38],.one .b,mO⟩
theorem bHg:Sok 120 bDt:=sgx [(49,.r g49),(78,.r g78),(137,.r bCr),(52,.r g52)] ⟨s49,s78,bHj,s52,trivial⟩ .o kr kr kr
noncomputable def kR (x_words:List Int):Option Bool:=
 cond (decide (((List.length x_words:Nat):Int)<=(30:Int)))
  (Option.bind (fM x_words) λv1=>
  some v1)
  (some false)
noncomputable def bCw:Sg tG:=⟨[.row 3],.one .b,kR⟩
theorem bGq:Sok 122 bCw:=sgx [(49,.r g49)] ⟨s49,trivial⟩ .o kr kr kr
noncomputable def kI (x_c:DCore):Option Bool:=
 cond (decide (x_c.Pc=(0:Int)))
  (cond (decide (x_c.Root=(0:Int)))
   (cond (decide (x_c.Vector=(0:Int)))
    (cond (decide (x_c.Saved=(0:Int)))
     (cond x_c.SavedUser
      (cond (decide (((List.length x_c.Regs:Nat):Int)=(0:Int)))
       (cond (decide (x_c.Bad=(0:Int)))
        (cond (decide (x_c.Cause=(0:Int)))
         (cond (decide (x_c.Timer=(0:Int)))
          (some false)
          (some false))
         (some false))
        (some false))
       (some false))
      (cond x_c.Waits
       (cond (decide (((List.length x_c.Regs:Nat):Int)=(0:Int)))
        (cond (decide (x_c.Bad=(0:Int)))
         (cond (decide (x_c.Cause=(0:Int)))
          (cond (decide (x_c.Timer=(0:Int)))
           (some false)
           (some false))
          (some false))
         (some false))
        (some false))
       (cond x_c.User
        (cond (decide (((List.length x_c.Regs:Nat):Int)=(0:Int)))
         (cond (decide (x_c.Bad=(0:Int)))
          (cond (decide (x_c.Cause=(0:Int)))
           (cond (decide (x_c.Timer=(0:Int)))
            (some false)
            (some false))
           (some false))
          (some false))
         (some false))
        (cond x_c.On
         (cond (decide (((List.length x_c.Regs:Nat):Int)=(0:Int)))
          (cond (decide (x_c.Bad=(0:Int)))
           (cond (decide (x_c.Cause=(0:Int)))
            (cond (decide (x_c.Timer=(0:Int)))
             (some false)
             (some false))
            (some false))
           (some false))
          (some false))
         (cond (decide (((List.length x_c.Regs:Nat):Int)=(0:Int)))
          (cond (decide (x_c.Bad=(0:Int)))
           (cond (decide (x_c.Cause=(0:Int)))
            (cond (decide (x_c.Timer=(0:Int)))
             (some (!x_c.Stopped))
             (some false))
            (some false))
           (some false))
          (some false))))))
     (cond x_c.SavedUser
      (cond (decide (((List.length x_c.Regs:Nat):Int)=(0:Int)))
       (some false)
       (some false))
      (cond x_c.Waits
       (cond (decide (((List.length x_c.Regs:Nat):Int)=(0:Int)))
        (some false)
        (some false))
       (cond x_c.User
        (cond (decide (((List.length x_c.Regs:Nat):Int)=(0:Int)))
         (some false)
         (some false))
        (cond x_c.On
         (cond (decide (((List.length x_c.Regs:Nat):Int)=(0:Int)))
          (some false)
          (some false))
         (cond (decide (((List.length x_c.Regs:Nat):Int)=(0:Int)))
          (some false)
          (some false)))))))
    (cond x_c.SavedUser
     (cond (decide (((List.length x_c.Regs:Nat):Int)=(0:Int)))
      (some false)
      (some false))
     (cond x_c.Waits
      (cond (decide (((List.length x_c.Regs:Nat):Int)=(0:Int)))
       (some false)
       (some false))
      (cond x_c.User
       (cond (decide (((List.length x_c.Regs:Nat):Int)=(0:Int)))
        (some false)
        (some false))
       (cond x_c.On
        (cond (decide (((List.length x_c.Regs:Nat):Int)=(0:Int)))
         (some false)
         (some false))
        (cond (decide (((List.length x_c.Regs:Nat):Int)=(0:Int)))
         (some false)
         (some false)))))))
   (cond x_c.SavedUser
    (cond (decide (((List.length x_c.Regs:Nat):Int)=(0:Int)))
     (some false)
     (some false))
    (cond x_c.Waits
     (cond (decide (((List.length x_c.Regs:Nat):Int)=(0:Int)))
      (some false)
      (some false))
     (cond x_c.User
      (cond (decide (((List.length x_c.Regs:Nat):Int)=(0:Int)))
       (some false)
       (some false))
      (cond x_c.On
       (cond (decide (((List.length x_c.Regs:Nat):Int)=(0:Int)))
        (some false)
        (some false))
       (cond (decide (((List.length x_c.Regs:Nat):Int)=(0:Int)))
        (some false)
        (some false)))))))
  (cond x_c.SavedUser
   (cond (decide (((List.length x_c.Regs:Nat):Int)=(0:Int)))
    (some false)
    (some false))
   (cond x_c.Waits
    (cond (decide (((List.length x_c.Regs:Nat):Int)=(0:Int)))
     (some false)
     (some false))
    (cond x_c.User
     (cond (decide (((List.length x_c.Regs:Nat):Int)=(0:Int)))
      (some false)
      (some false))
     (cond x_c.On
      (cond (decide (((List.length x_c.Regs:Nat):Int)=(0:Int)))
       (some false)
       (some false))
      (cond (decide (((List.length x_c.Regs:Nat):Int)=(0:Int)))
       (some false)
       (some false))))))
noncomputable def bFi:Sg tG:=⟨[.st 38],.one .b,kI⟩
theorem bGz:Sok 136 bFi:=sgx [] trivial .o kr kr kr
noncomputable def hY (x_guest:DGuest):Option Bool:=
 Option.bind (kI x_guest.C) λv1=>
 cond v1
  (cond (decide (((List.length x_guest.Pages:Nat):Int)=(0:Int)))
   (cond (decide (((List.length x_guest.In:Nat):Int)=(0:Int)))
    (some (decide (((List.length x_guest.Out:Nat):Int)=(0:Int))))
    (some false))
   (some false))
  (some false)
noncomputable def bDp:Sg tG:=⟨[.st 41],.one .b,hY⟩
theorem bHk:Sok 119 bDp:=sgx [(136,.r bFi)] ⟨bGz,trivial⟩ .o kr kr kr
noncomputable def mQ (x_s:DSlot):Option Bool:=
 cond (decide (x_s.Frame=(-1:Int)))
  (cond (!x_s.Write)
   (some (!x_s.Dirty))
   (some false))
  (cond (decide ((0:Int)<=x_s.Frame))
   (some (decide (x_s.Frame<(20:Int))))
   (some false))
noncomputable def bDg:Sg tG:=⟨[.st 43],.one .b,mQ⟩
theorem bGo:Sok 138 bDg:=sgx [] trivial .o kr kr kr
noncomputable def aBx  (s1:Unit):Option Bool:=some true
noncomputable def rJ (x_pages:List DSlot)(s2:Int):Option (LO Int (JO Unit Bool)):=
 cond (decide (s2<((List.length x_pages:Nat):Int)))
  (grd ((0:Int)<=s2/\s2<((List.length x_pages:Nat):Int)) (Option.bind (mQ (DSlot.mk (List.getD x_pages (Int.toNat s2) default).Frame (List.getD x_pages (Int.toNat s2) default).Write (List.getD x_pages (Int.toNat s2) default).Dirty)) λv3=>
   cond (!v3)
    (some (.ret (.out false)))
    (some (.next (w64 (s2+(1:Int)))))))
  (some (.ret (.go ())))
noncomputable def lG (x_pages:List DSlot):Option Bool:=
 cond (!decide (((List.length x_pages:Nat):Int)=(8:Int)))
  (some false)
  (Option.bind (Option.bind (iter (rJ x_pages) (0:Int)) LO.val) λj1=>
   JO.run j1 aBx)
noncomputable def bEo:Sg tG:=⟨[.row 43],.one .b,lG⟩
theorem bGh:Sok 121 bEo:=sgx [(138,.r bDg)] ⟨bGo,trivial⟩ (.s .o (.s .o (.j ⟨[],[],[]⟩ (.s .o (.k (.l ⟨[8,9],[],[(.s 10,.i .i64)]⟩ .o))) .o))) kr kr kr
noncomputable def iO (x_guest:DGuest):Option Bool:=
 cond (!x_guest.Live)
  (Option.bind (hY x_guest) λv1=>
  some v1)
  (Option.bind (mO x_guest.C) λv2=>
  cond v2
   (Option.bind (lG x_guest.Pages) λv3=>
   cond v3
    (Option.bind (kR x_guest.In) λv4=>
    cond v4
     (Option.bind (kR x_guest.Out) λv5=>
     some v5)
     (some false))
    (some false))
   (some false))
noncomputable def g94:Sg tG:=⟨[.st 41],.one .b,iO⟩
theorem s94:Sok 94 g94:=sgx [(119,.r bDp),(120,.r bDt),(121,.r bEo),(122,.r bCw)] ⟨bHk,bHg,bGh,bGq,trivial⟩ .o kr kr kr
noncomputable def aAm  (s1:Unit):Option Bool:=some true
noncomputable def gS (x_guests:List DGuest)(s2:Int):Option (LO Int (JO Unit Bool)):=
 cond (decide (s2<((List.length x_guests:Nat):Int)))
  (grd ((0:Int)<=s2/\s2<((List.length x_guests:Nat):Int)) (Option.bind (iO (DGuest.mk (List.getD x_guests (Int.toNat s2) default).Live (DCore.mk ((List.getD x_guests (Int.toNat s2) default).C).Regs ((List.getD x_guests (Int.toNat s2) default).C).Pc ((List.getD x_guests (Int.toNat s2) default).C).Root ((List.getD x_guests (Int.toNat s2) default).C).Vector ((List.getD x_guests (Int.toNat s2) default).C).Saved ((List.getD x_guests (Int.toNat s2) default).C).SavedUser ((List.getD x_guests (Int.toNat s2) default).C).Cause ((List.getD x_guests (Int.toNat s2) default).C).Bad ((List.getD x_guests (Int.toNat s2) default).C).Timer ((List.getD x_guests (Int.toNat s2) default).C).Waits ((List.getD x_guests (Int.toNat s2) default).C).User ((List.getD x_guests (Int.toNat s2) default).C).On ((List.getD x_guests (Int.toNat s2) default).C).Stopped) (List.getD x_guests (Int.toNat s2) default).Pages (List.getD x_guests (Int.toNat s2) default).In (List.getD x_guests (Int.toNat s2) default).Out)) λv3=>
   cond (!v3)
    (some (.ret (.out false)))
    (some (.next (w64 (s2+(1:Int)))))))
  (some (.ret (.go ())))
noncomputable def kF (x_guests:List DGuest):Option Bool:=
 cond (!decide (((List.length x_guests:Nat):Int)=(3:Int)))
  (some false)
  (Option.bind (Option.bind (iter (gS x_guests) (0:Int)) LO.val) λj1=>
   JO.run j1 aAm)
noncomputable def g50:Sg tG:=⟨[.row 41],.one .b,kF⟩
theorem s50:Sok 50 g50:=sgx [(94,.r g94)] ⟨s94,trivial⟩ (.s .o (.s .o (.j ⟨[],[],[]⟩ (.s .o (.k (.l ⟨[8,9],[],[(.s 10,.i .i64)]⟩ .o))) .o))) kr kr kr
noncomputable def nT  (s1:List Int):Option (List Int):=some s1
noncomputable def nM (s2:(List Int)×Int)(s3:List Int):Option (LO ((List Int)×Int) (JO (List Int) (List Int))):=some (.next (s3,w64 (s2.2+(1:Int))))
noncomputable def nW (s4:(List Int)×Int)(s5:List Int):Option (LO ((List Int)×Int) (JO (List Int) (LO ((List Int)×Int) (JO (List Int) (List Int))))):=some (.next (s5,w64 (s4.2+(1:Int))))
noncomputable def dR (x_guests:List DGuest)(s2:(List Int)×Int)(s4:(List Int)×Int):Option (LO ((List Int)×Int) (JO (List Int) (LO ((List Int)×Int) (JO (List Int) (List Int))))):=
 cond (decide (s4.2<((List.length (List.getD x_guests (Int.toNat s2.2) default).Pages:Nat):Int)))
  (Option.bind (grd ((0:Int)<=s4.2/\s4.2<((List.length (List.getD x_guests (Int.toNat s2.2) default).Pages:Nat):Int)) (cond (!decide ((List.getD (List.getD x_guests (Int.toNat s2.2) default).Pages (Int.toNat s4.2) default).Frame=(-1:Int)))
   (grd ((0:Int)<=(List.getD (List.getD x_guests (Int.toNat s2.2) default).Pages (Int.toNat s4.2) default).Frame/\(List.getD (List.getD x_guests (Int.toNat s2.2) default).Pages (Int.toNat s4.2) default).Frame<((List.length s4.1:Nat):Int)) (grd ((0:Int)<=(List.getD (List.getD x_guests (Int.toNat s2.2) default).Pages (Int.toNat s4.2) default).Frame/\(List.getD (List.getD x_guests (Int.toNat s2.2) default).Pages (Int.toNat s4.2) default).Frame<((List.length s4.1:Nat):Int)) (some (.go (List.set s4.1 (Int.toNat (List.getD (List.getD x_guests (Int.toNat s2.2) default).Pages (Int.toNat s4.2) default).Frame) (w64 ((List.getD s4.1 (Int.toNat (List.getD (List.getD x_guests (Int.toNat s2.2) default).Pages (Int.toNat s4.2) default).Frame) default)+(1:Int))))))))
   (some (.go s4.1)))) λj5=>
   JO.run j5 (nW s4))
  (some (.ret (.go s4.1)))
noncomputable def eY (x_guests:List DGuest)(s2:(List Int)×Int):Option (LO ((List Int)×Int) (JO (List Int) (List Int))):=
 cond (decide (s2.2<((List.length x_guests:Nat):Int)))
  (Option.bind (grd ((0:Int)<=s2.2/\s2.2<((List.length x_guests:Nat):Int)) (Option.bind (iter (dR x_guests s2) (s2.1,(0:Int))) LO.val)) λj3=>
   JO.run j3 (nM s2))
  (some (.ret (.go s2.1)))
noncomputable def gO (x_guests:List DGuest):Option (List Int):=
 Option.bind (Option.bind (iter (eY x_guests) ((List.replicate (Int.toNat (20:Int)) (0:Int)),(0:Int))) LO.val) λj1=>
  JO.run j1 nT
noncomputable def g86:Sg tG:=⟨[.row 41],.one (.row 3),gO⟩
theorem s86:Sok 86 g86:=sgx [] trivial (.s .o (.s .o (.j ⟨[],[],[(.s 3,.ro 3)]⟩ (.s .o (.k (.l ⟨[9,10],[],[(.s 3,.ro 3),(.s 11,.i .i64)]⟩ (.s .o (.s .o (.j ⟨[9,10,11],[],[(.s 3,.ro 3)]⟩ (.k (.s .o (.s .o (.k (.l ⟨[9,10,11,16,17],[],[(.s 3,.ro 3),(.s 18,.i .i64)]⟩ (.s .o (.s .o (.j ⟨[9,10,11,16,17,18],[],[(.s 3,.ro 3)]⟩ .o .o)))))))) .o)))))) .o))) kr kr kr
noncomputable def sC  (s2:Unit):Option Bool:=some true
noncomputable def kE (s3:Int)(s4:Unit):Option (LO Int (JO Unit Bool)):=some (.next (w64 (s3+(1:Int))))
noncomputable def fG (s5:Int)(s6:Unit):Option (LO Int (JO Unit (LO Int (JO Unit Bool)))):=some (.next (w64 (s5+(1:Int))))
noncomputable def cW (x_guests:List DGuest)(v1:List Int)(s3:Int)(s5:Int):Option (LO Int (JO Unit (LO Int (JO Unit Bool)))):=
 cond (decide (s5<((List.length (List.getD x_guests (Int.toNat s3) default).Pages:Nat):Int)))
  (Option.bind (grd ((0:Int)<=s5/\s5<((List.length (List.getD x_guests (Int.toNat s3) default).Pages:Nat):Int)) (cond (List.getD (List.getD x_guests (Int.toNat s3) default).Pages (Int.toNat s5) default).Write
   (grd ((0:Int)<=(List.getD (List.getD x_guests (Int.toNat s3) default).Pages (Int.toNat s5) default).Frame/\(List.getD (List.getD x_guests (Int.toNat s3) default).Pages (Int.toNat s5) default).Frame<((List.length v1:Nat):Int)) (cond (decide ((1:Int)<(List.getD v1 (Int.toNat (List.getD (List.getD x_guests (Int.toNat s3) default).Pages (Int.toNat s5) default).Frame) default)))
    (some (.out (.ret (.out (.ret (.out false))))))
    (some (.go ()))))
   (some (.go ())))) λj6=>
   JO.run j6 (fG s5))
  (some (.ret (.go ())))
noncomputable def dV (x_guests:List DGuest)(v1:List Int)(s3:Int):Option (LO Int (JO Unit Bool)):=
 cond (decide (s3<((List.length x_guests:Nat):Int)))
  (Option.bind (grd ((0:Int)<=s3/\s3<((List.length x_guests:Nat):Int)) (Option.bind (iter (cW x_guests v1 s3) (0:Int)) LO.val)) λj4=>
   JO.run j4 (kE s3))
  (some (.ret (.go ())))
noncomputable def eQ (x_guests:List DGuest):Option Bool:=
 Option.bind (gO x_guests) λv1=>
 Option.bind (Option.bind (iter (dV x_guests v1) (0:Int)) LO.val) λj2=>
  JO.run j2 sC
noncomputable def g51:Sg tG:=⟨[.row 41],.one .b,eQ⟩
theorem s51:Sok 51 g51:=sgx [(86,.r g86)] ⟨s86,trivial⟩ (.s .o (.s .o (.j ⟨[],[],[]⟩ (.s .o (.k (.l ⟨[3,10,11],[],[(.s 12,.i .i64)]⟩ (.s .o (.s .o (.j ⟨[3,10,11,12],[],[]⟩ (.k (.s .o (.s .o (.k (.l ⟨[3,10,11,12,17,18],[],[(.s 19,.i .i64)]⟩ (.s .o (.s .o (.j ⟨[3,10,11,12,17,18,19],[],[]⟩ .o .o)))))))) .o)))))) .o))) kr kr kr
noncomputable def jS (x_h:DHost):Option Bool:=
 cond (decide (((List.length x_h.Words:Nat):Int)=(160:Int)))
  (Option.bind (fM x_h.Words) λv1=>
  cond v1
   (Option.bind (kF x_h.Guests) λv2=>
   cond v2
    (Option.bind (eQ x_h.Guests) λv3=>
    some v3)
    (some false))
   (some false))
  (some false)
noncomputable def g14:Sg tG:=⟨[.st 26],.one .b,jS⟩
theorem s14:Sok 14 g14:=sgx [(49,.r g49),(50,.r g50),(51,.r g51)] ⟨s49,s50,s51,trivial⟩ .o kr kr kr
noncomputable def jF (x_g:DGuest):Option Bool:=
 cond (decide (((List.length x_g.C.Regs:Nat):Int)=(0:Int)))
  (cond (decide (x_g.C.Pc=(0:Int)))
   (cond (decide (x_g.C.Root=(0:Int)))
    (cond (decide (x_g.C.Vector=(0:Int)))
     (cond (decide (x_g.C.Saved=(0:Int)))
      (cond (!x_g.C.SavedUser)
       (cond (decide (x_g.C.Cause=(0:Int)))
        (cond (decide (x_g.C.Bad=(0:Int)))
         (cond (decide (x_g.C.Timer=(0:Int)))
          (cond (!x_g.C.Waits)
           (cond (!x_g.C.User)
            (cond (!x_g.C.On)
             (cond (!x_g.C.Stopped)
              (cond (decide (((List.length x_g.Pages:Nat):Int)=(0:Int)))
               (cond (decide (((List.length x_g.In:Nat):Int)=(0:Int)))
                (some (decide (((List.length x_g.Out:Nat):Int)=(0:Int))))
                (some false))
               (some false))
              (some false))
             (some false))
            (some false))
           (some false))
          (some false))
         (some false))
        (some false))
       (some false))
      (some false))
     (some false))
    (some false))
   (some false))
  (some false)
noncomputable def g91:Sg tG:=⟨[.st 41],.one .b,jF⟩
theorem s91:Sok 91 g91:=sgx [] trivial .o kr kr kr
noncomputable def aDy  (s3:Unit):Option Bool:=some true
noncomputable def nJ (s4:Int)(s5:Unit):Option (LO Int (JO Unit Bool)):=some (.next (w64 (s4+(1:Int))))
noncomputable def iY (s2:(List Int)×(List Bool))(s4:Int):Option (LO Int (JO Unit Bool)):=
 cond (decide (s4<(20:Int)))
  (Option.bind (grd ((0:Int)<=s4/\s4<((List.length s2.1:Nat):Int)) (cond (decide ((1:Int)<(List.getD s2.1 (Int.toNat s4) default)))
   (grd ((0:Int)<=s4/\s4<((List.length s2.2:Nat):Int)) (cond (List.getD s2.2 (Int.toNat s4) default)
    (some (.out (.ret (.out false))))
    (some (.go ()))))
   (some (.go ())))) λj5=>
   JO.run j5 (nJ s4))
  (some (.ret (.go ())))
noncomputable def tF  (s2:(List Int)×(List Bool)):Option Bool:=
 Option.bind (Option.bind (iter (iY s2) (0:Int)) LO.val) λj3=>
  JO.run j3 aDy
noncomputable def nC (s6:(List Int)×(List Bool)×Int)(s7:(List Int)×(List Bool)):Option (LO ((List Int)×(List Bool)×Int) (JO ((List Int)×(List Bool)) Bool)):=some (.next (s7.1,s7.2,w64 (s6.2.2+(1:Int))))
noncomputable def mD (s12:(List Int)×(List Bool)×Int)(s13:(List Bool)×(List Int)):Option (LO ((List Int)×(List Bool)×Int) (JO ((List Int)×(List Bool)) (LO ((List Int)×(List Bool)×Int) (JO ((List Int)×(List Bool)) Bool)))):=some (.next (s13.2,s13.1,w64 (s12.2.2+(1:Int))))
noncomputable def lY (x_h:DHost)(s6:(List Int)×(List Bool)×Int)(s12:(List Int)×(List Bool)×Int)(s14:Unit):Option (JO ((List Bool)×(List Int)) (LO ((List Int)×(List Bool)×Int) (JO ((List Int)×(List Bool)) (LO ((List Int)×(List Bool)×Int) (JO ((List Int)×(List Bool)) Bool))))):=
 cond (decide ((0:Int)<=(List.getD (List.getD x_h.Guests (Int.toNat s6.2.2) default).Pages (Int.toNat s12.2.2) default).Frame))
  (grd ((0:Int)<=(List.getD (List.getD x_h.Guests (Int.toNat s6.2.2) default).Pages (Int.toNat s12.2.2) default).Frame/\(List.getD (List.getD x_h.Guests (Int.toNat s6.2.2) default).Pages (Int.toNat s12.2.2) default).Frame<((List.length s12.1:Nat):Int)) (grd ((0:Int)<=(List.getD (List.getD x_h.Guests (Int.toNat s6.2.2) default).Pages (Int.toNat s12.2.2) default).Frame/\(List.getD (List.getD x_h.Guests (Int.toNat s6.2.2) default).Pages (Int.toNat s12.2.2) default).Frame<((List.length s12.1:Nat):Int)) (grd ((0:Int)<=(List.getD (List.getD x_h.Guests (Int.toNat s6.2.2) default).Pages (Int.toNat s12.2.2) default).Frame/\(List.getD (List.getD x_h.Guests (Int.toNat s6.2.2) default).Pages (Int.toNat s12.2.2) default).Frame<((List.length s12.2.1:Nat):Int)) (cond (List.getD s12.2.1 (Int.toNat (List.getD (List.getD x_h.Guests (Int.toNat s6.2.2) default).Pages (Int.toNat s12.2.2) default).Frame) default)
   (grd ((0:Int)<=(List.getD (List.getD x_h.Guests (Int.toNat s6.2.2) default).Pages (Int.toNat s12.2.2) default).Frame/\(List.getD (List.getD x_h.Guests (Int.toNat s6.2.2) default).Pages (Int.toNat s12.2.2) default).Frame<((List.length s12.2.1:Nat):Int)) (some (.go ((List.set s12.2.1 (Int.toNat (List.getD (List.getD x_h.Guests (Int.toNat s6.2.2) default).Pages (Int.toNat s12.2.2) default).Frame) true),List.set s12.1 (Int.toNat (List.getD (List.getD x_h.Guests (Int.toNat s6.2.2) default).Pages (Int.toNat s12.2.2) default).Frame) (w64 ((List.getD s12.1 (Int.toNat (List.getD (List.getD x_h.Guests (Int.toNat s6.2.2) default).Pages (Int.toNat s12.2.2) default).Frame) default)+(1:Int)))))))
   (grd ((0:Int)<=(List.getD (List.getD x_h.Guests (Int.toNat s6.2.2) default).Pages (Int.toNat s12.2.2) default).Frame/\(List.getD (List.getD x_h.Guests (Int.toNat s6.2.2) default).Pages (Int.toNat s12.2.2) default).Frame<((List.length s12.2.1:Nat):Int)) (some (.go ((List.set s12.2.1 (Int.toNat (List.getD (List.getD x_h.Guests (Int.toNat s6.2.2) default).Pages (Int.toNat s12.2.2) default).Frame) (List.getD (List.getD x_h.Guests (Int.toNat s6.2.2) default).Pages (Int.toNat s12.2.2) default).Write),List.set s12.1 (Int.toNat (List.getD (List.getD x_h.Guests (Int.toNat s6.2.2) default).Pages (Int.toNat s12.2.2) default).Frame) (w64 ((List.getD s12.1 (Int.toNat (List.getD (List.getD x_h.Guests (Int.toNat s6.2.2) default).Pages (Int.toNat s12.2.2) default).Frame) default)+(1:Int)))))))))))
  (some (.go (s12.2.1,s12.1)))
noncomputable def fE (x_h:DHost)(s6:(List Int)×(List Bool)×Int)(s12:(List Int)×(List Bool)×Int):Option (LO ((List Int)×(List Bool)×Int) (JO ((List Int)×(List Bool)) (LO ((List Int)×(List Bool)×Int) (JO ((List Int)×(List Bool)) Bool)))):=
 cond (decide (s12.2.2<((List.length (List.getD x_h.Guests (Int.toNat s6.2.2) default).Pages:Nat):Int)))
  (Option.bind (grd ((0:Int)<=s12.2.2/\s12.2.2<((List.length (List.getD x_h.Guests (Int.toNat s6.2.2) default).Pages:Nat):Int)) (Option.bind (Option.bind (bM (List.getD (List.getD x_h.Guests (Int.toNat s6.2.2) default).Pages (Int.toNat s12.2.2) default).Frame (-1:Int) (19:Int)) λv15=>
   cond (!v15)
    (some (.out (.out (.ret (.out (.ret (.out false)))))))
    (cond (decide ((List.getD (List.getD x_h.Guests (Int.toNat s6.2.2) default).Pages (Int.toNat s12.2.2) default).Frame=(-1:Int)))
     (cond (List.getD (List.getD x_h.Guests (Int.toNat s6.2.2) default).Pages (Int.toNat s12.2.2) default).Write
      (some (.out (.out (.ret (.out (.ret (.out false)))))))
      (cond (List.getD (List.getD x_h.Guests (Int.toNat s6.2.2) default).Pages (Int.toNat s12.2.2) default).Dirty
       (some (.out (.out (.ret (.out (.ret (.out false)))))))
       (some (.go ()))))
     (some (.go ())))) λj14=>
   JO.run j14 (lY x_h s6 s12))) λj13=>
   JO.run j13 (mD s12))
  (some (.ret (.go (s12.1,s12.2.1))))
noncomputable def fW (x_h:DHost)(s6:(List Int)×(List Bool)×Int):Option (LO ((List Int)×(List Bool)×Int) (JO ((List Int)×(List Bool)) Bool)):=
 cond (decide (s6.2.2<((List.length x_h.Guests:Nat):Int)))
  (Option.bind (grd ((0:Int)<=s6.2.2/\s6.2.2<((List.length x_h.Guests:Nat):Int)) (cond (!(List.getD x_h.Guests (Int.toNat s6.2.2) default).Live)
   (Option.bind (jF (DGuest.mk (List.getD x_h.Guests (Int.toNat s6.2.2) default).Live (DCore.mk ((List.getD x_h.Guests (Int.toNat s6.2.2) default).C).Regs ((List.getD x_h.Guests (Int.toNat s6.2.2) default).C).Pc ((List.getD x_h.Guests (Int.toNat s6.2.2) default).C).Root ((List.getD x_h.Guests (Int.toNat s6.2.2) default).C).Vector ((List.getD x_h.Guests (Int.toNat s6.2.2) default).C).Saved ((List.getD x_h.Guests (Int.toNat s6.2.2) default).C).SavedUser ((List.getD x_h.Guests (Int.toNat s6.2.2) default).C).Cause ((List.getD x_h.Guests (Int.toNat s6.2.2) default).C).Bad ((List.getD x_h.Guests (Int.toNat s6.2.2) default).C).Timer ((List.getD x_h.Guests (Int.toNat s6.2.2) default).C).Waits ((List.getD x_h.Guests (Int.toNat s6.2.2) default).C).User ((List.getD x_h.Guests (Int.toNat s6.2.2) default).C).On ((List.getD x_h.Guests (Int.toNat s6.2.2) default).C).Stopped) (List.getD x_h.Guests (Int.toNat s6.2.2) default).Pages (List.getD x_h.Guests (Int.toNat s6.2.2) default).In (List.getD x_h.Guests (Int.toNat s6.2.2) default).Out)) λv8=>
   cond (!v8)
    (some (.out (.ret (.out false))))
    (some (.go (s6.1,s6.2.1))))
   (Option.bind (gF (DCore.mk ((List.getD x_h.Guests (Int.toNat s6.2.2) default).C).Regs ((List.getD x_h.Guests (Int.toNat s6.2.2) default).C).Pc ((List.getD x_h.Guests (Int.toNat s6.2.2) default).C).Root ((List.getD x_h.Guests (Int.toNat s6.2.2) default).C).Vector ((List.getD x_h.Guests (Int.toNat s6.2.2) default).C).Saved ((List.getD x_h.Guests (Int.toNat s6.2.2) default).C).SavedUser ((List.getD x_h.Guests (Int.toNat s6.2.2) default).C).Cause ((List.getD x_h.Guests (Int.toNat s6.2.2) default).C).Bad ((List.getD x_h.Guests (Int.toNat s6.2.2) default).C).Timer ((List.getD x_h.Guests (Int.toNat s6.2.2) default).C).Waits ((List.getD x_h.Guests (Int.toNat s6.2.2) default).C).User ((List.getD x_h.Guests (Int.toNat s6.2.2) default).C).On ((List.getD x_h.Guests (Int.toNat s6.2.2) default).C).Stopped)) λv9=>
   cond (!v9)
    (some (.out (.ret (.out false))))
    (cond (!decide (((List.length (List.getD x_h.Guests (Int.toNat s6.2.2) default).Pages:Nat):Int)=(8:Int)))
     (some (.out (.ret (.out false))))
     (Option.bind (cP (List.getD x_h.Guests (Int.toNat s6.2.2) default).In (30:Int)) λv10=>
     cond (!v10)
      (some (.out (.ret (.out false))))
      (Option.bind (cP (List.getD x_h.Guests (Int.toNat s6.2.2) default).Out (30:Int)) λv11=>
      cond (!v11)
       (some (.out (.ret (.out false))))
       (Option.bind (iter (fE x_h s6) (s6.1,s6.2.1,(0:Int))) LO.val))))))) λj7=>
   JO.run j7 (nC s6))
  (some (.ret (.go (s6.1,s6.2.1))))
noncomputable def fB (x_h:DHost):Option Bool:=
 Option.bind (cP x_h.Words (160:Int)) λv1=>
 cond (!v1)
  (some false)
  (cond (!decide (((List.length x_h.Words:Nat):Int)=(160:Int)))
   (some false)
   (cond (!decide (((List.length x_h.Guests:Nat):Int)=(3:Int)))
    (some false)
    (Option.bind (Option.bind (iter (fW x_h) ((List.replicate (Int.toNat (20:Int)) (0:Int)),List.replicate (Int.toNat (20:Int)) false,(0:Int))) LO.val) λj2=>
     JO.run j2 tF)))
noncomputable def g45:Sg tG:=⟨[.st 26],.one .b,fB⟩
theorem s45:Sok 45 g45:=sgx [(90,.r g90),(91,.r g91),(92,.r g92),(73,.r g73)] ⟨s90,s91,s92,s73,trivial⟩ (.s .o (.s .o (.s .o (.s .o (.j ⟨[],[],[(.s 3,.ro 3),(.s 4,.ro 4)]⟩ (.s .o (.k (.l ⟨[1],[],[(.s 3,.ro 3),(.s 4,.ro 4),(.s 5,.i .i64)]⟩ (.s .o (.j ⟨[1,5],[],[(.s 3,.ro 3),(.s 4,.ro 4)]⟩ (.k (.s .o (.s .o (.s .o (.s .o (.k (.l ⟨[1,5,6],[],[(.s 3,.ro 3),(.s 4,.ro 4),(.s 7,.i .i64)]⟩ (.s .o (.j ⟨[1,5,6,7],[],[(.s 4,.ro 4),(.s 3,.ro 3)]⟩ (.k (.s .o (.j ⟨[1,3,4,5,6,7,8],[],[]⟩ .o .o))) .o))))))))) .o))))) (.j ⟨[],[],[]⟩ (.s .o (.k (.l ⟨[3,4],[],[(.s 9,.i .i64)]⟩ (.s .o (.j ⟨[3,4,9],[],[]⟩ .o .o))))) .o)))))) kr kr kr
noncomputable def jG (x_list:List Int):Option (List Int):=grd ((0:Int)<=((List.length x_list:Nat):Int)/\((List.length x_list:Nat):Int)*8<=2^47/\((List.length x_list:Nat):Int)<=2^47) (some (over (List.replicate (Int.toNat ((List.length x_list:Nat):Int)) (0:Int)) 0 (List.length (List.replicate (Int.toNat ((List.length x_list:Nat):Int)) (0:Int))) x_list))
noncomputable def g41:Sg tG:=⟨[.row 3],.one (.row 3),jG⟩
theorem s41:Sok 41 g41:=sgx [] trivial .o kr kr kr
noncomputable def jJ (x_c:DCore):Option DCore:=grd ((List.length ([]:List Int)+List.length x_c.Regs)*8<=2^47/\List.length ([]:List Int)+List.length x_c.Regs<=2^47) (some (DCore.mk (([]:List Int)++x_c.Regs) x_c.Pc x_c.Root x_c.Vector x_c.Saved x_c.SavedUser x_c.Cause x_c.Bad x_c.Timer x_c.Waits x_c.User x_c.On x_c.Stopped))
noncomputable def aZd:Sg tG:=⟨[.st 38],.one (.st 38),jJ⟩
theorem bEj:Sok 118 aZd:=sgx [] trivial .o kr kr kr
noncomputable def fN (x_guests:List DGuest)(x_g:Int):Option Bool:=
 cond (decide ((0:Int)<=x_g))
  (cond (decide (x_g<(3:Int)))
   (grd ((0:Int)<=x_g/\x_g<((List.length x_guests:Nat):Int)) (some (List.getD x_guests (Int.toNat x_g) default).Live))
   (some false))
  (some false)
noncomputable def g77:Sg tG:=⟨[.row 41,.i .i64],.one .b,fN⟩
theorem s77:Sok 77 g77:=sgx [] trivial .o kr kr kr
noncomputable def gN (x_h:DHost)(x_g:Int):Option Bool:=
 Option.bind (jS x_h) λv1=>
 cond v1
  (Option.bind (fN x_h.Guests x_g) λv2=>
  some v2)
  (some false)
noncomputable def g84:Sg tG:=⟨[.st 26,.i .i64],.one .b,gN⟩
theorem s84:Sok 84 g84:=sgx [(14,.r g14),(77,.r g77)] ⟨s14,s77,trivial⟩ .o kr kr kr
noncomputable def gG (x_h:DHost)(x_g:Int):Option Bool:=
 Option.bind (fB x_h) λv1=>
 cond v1
  (Option.bind (bM x_g (0:Int) (2:Int)) λv2=>
  cond v2
   (grd ((0:Int)<=x_g/\x_g<((List.length x_h.Guests:Nat):Int)) (some (List.getD x_h.Guests (Int.toNat x_g) default).Live))
   (some false))
  (some false)
noncomputable def g72:Sg tG:=⟨[.st 26,.i .i64],.one .b,gG⟩
theorem s72:Sok 72 g72:=sgx [(45,.r g45),(73,.r g73)] ⟨s45,s73,trivial⟩ .o kr kr kr
noncomputable def rQ (x_b:DBare):Option DBare:=
 Option.bind (jG x_b.C.Regs) λv1=>
 Option.bind (jG x_b.Mem) λv2=>
 Option.bind (jG x_b.In) λv3=>
 Option.bind (jG x_b.Out) λv4=>
 some (DBare.mk (DCore.mk v1 x_b.C.Pc x_b.C.Root x_b.C.Vector x_b.C.Saved x_b.C.SavedUser x_b.C.Cause x_b.C.Bad x_b.C.Timer x_b.C.Waits x_b.C.User x_b.C.On x_b.C.Stopped) v2 v3 v4)
noncomputable def g95:Sg tG:=⟨[.st 82],.one (.st 82),rQ⟩
theorem s95:Sok 95 g95:=sgx [(41,.r g41)] ⟨s41,trivial⟩ .o kr kr kr
theorem aGb:LW 116 ⟨12,[.tmp 4],.seq (.reg false (rg 116 0)) (.seq (.reg false (rg 116 1)) .ret)⟩:=kr
noncomputable def gI (x_words:List Int)(x_page:Int):Option (List Int):=grd ((0:Int)<=(w64 (x_page*(8:Int)))/\(w64 (x_page*(8:Int)))<=(w64 ((w64 (x_page+(1:Int)))*(8:Int)))/\(w64 ((w64 (x_page+(1:Int)))*(8:Int)))<=((List.length x_words:Nat):Int)) (some (List.take (Int.toNat (w64 ((w64 (x_page+(1:Int)))*(8:Int)))-Int.toNat (w64 (x_page*(8:Int)))) (List.drop (Int.toNat (w64 (x_page*(8:Int)))) x_words)))
noncomputable def bEg:Sg tG:=⟨[.row 3,.i .i64],.one (.rb 3),gI⟩
theorem bDk:Sok 116 bEg:=sgx [] trivial .o kr kr kr
theorem aGm{x_words:List Int}{x_page:Int}{R_:(List Int)}(hh:gI x_words x_page=some R_):Fn Try.prog 116 [bo (eI .i64) x_words,.int .i64 x_page] (bo (eI .i64) R_):=kc (bDk x_words x_page R_ hh)
noncomputable def oG (x_words:List Int)(x_page:Int):Option ((List Int)×(Nat×Nat)):=grd ((0:Int)<=(w64 (x_page*(8:Int)))/\(w64 (x_page*(8:Int)))<=(w64 ((w64 (x_page+(1:Int)))*(8:Int)))/\(w64 ((w64 (x_page+(1:Int)))*(8:Int)))<=((List.length x_words:Nat):Int)) (some (x_words,((Int.toNat (w64 (x_page*(8:Int)))),(Int.toNat (w64 ((w64 (x_page+(1:Int)))*(8:Int)))-Int.toNat (w64 (x_page*(8:Int)))))))
theorem aDp{x_words:List Int}{x_page:Int}{R_:(List Int)×(Nat×Nat)}(hh:oG x_words x_page=some R_):Inl Try.prog 116 [.sref 0 [] 0 (List.length x_words) 1,.int .i64 x_page] [(0,some (rI_3 x_words))] 1 (.sref 0 [] (0+R_.2.1*1) R_.2.2 1) [(0,some (rI_3 R_.1))] 1:=by unfold oG at hh;let q1:Root:=(rI_3 x_words);refine Inl.start aGb [0,1] [0] (E:=sp 12 [(0,sw 0 x_words),(1,ii x_page)]) (H1:=[(0,some q1)]) kr kr (sy [0,1] [0] (sp 12 [(0,sw 0 x_words),(1,ii x_page)]) [(0,some q1)] 1 (Aw.sreg [4] [0] (yu 6 [(5,sw 0 x_words),(6,ii x_page),(7,ii (w64 (x_page*(8:Int)))),(8,ii x_page),(9,ii (w64 (x_page+(1:Int)))),(10,ii (w64 ((w64 (x_page+(1:Int)))*(8:Int))))] [(0,some q1)] 1 ?_)));obtain⟨hg2,hh⟩:=bV hh;refine ys (.slc 1 (.t 5) (some (.t 7)) (some (.t 10))) (some 11) (aKl (r:=0) (π:=[]) (o:=0) (k:=(List.length x_words)) (sz:=1) (l:=(w64 (x_page*(8:Int)))) (h:=(w64 ((w64 (x_page+(1:Int)))*(8:Int)))) kr kr kr hg2 ?_);refine yt (sp 12 [(4,.sref 0 [] (0+Int.toNat (w64 (x_page*(8:Int)))*1) (Int.toNat (w64 ((w64 (x_page+(1:Int)))*(8:Int)))-Int.toNat (w64 (x_page*(8:Int)))) 1)]) [(0,some q1)] 1 (Aw.ret ?_);rw[eD hh];exact aEv (r':= .sref 0 [] (0+Int.toNat (w64 (x_page*(8:Int)))*1) (Int.toNat (w64 ((w64 (x_page+(1:Int)))*(8:Int)))-Int.toNat (w64 (x_page*(8:Int)))) 1) kr (el [some 0] (vK zL) (hn bX gY))
theorem aDf:LW 123 ⟨29,[.tmp 4],.seq (.reg false (rg 123 0)) (.seq (.reg false (rg 123 1)) (.seq (.seq (.reg false (rg 123 2)) (.block 0 (.loop (.seq (.reg false (rg 123 3)) (.seq (.cond (.t 12) .skip (.exit 0)) (.seq (.block 1 (.seq (.reg false (rg 123 4)) (.seq (.reg false (rg 123 5)) (.cond (.t 18) (.regd (rg 123 6) (rg 123 7)) .skip)))) (.reg false (rg 123 8)))))))) (.seq (.reg false (rg 123 10)) .ret)))⟩:=kr
noncomputable def lX  (s1:List Int):Option (List Int):=some s1
noncomputable def mF (s2:(List Int)×Int)(s3:List Int):Option (LO ((List Int)×Int) (JO (List Int) (List Int))):=some (.next (s3,w64 (s2.2+(1:Int))))
noncomputable def rU (x_words:List Int)(x_pages:List DSlot)(s2:(List Int)×Int):Option (LO ((List Int)×Int) (JO (List Int) (List Int))):=
 cond (decide (s2.2<((List.length x_pages:Nat):Int)))
  (Option.bind (grd ((0:Int)<=s2.2/\s2.2<((List.length x_pages:Nat):Int)) (cond (!decide ((List.getD x_pages (Int.toNat s2.2) default).Frame=(-1:Int)))
   (Option.bind (oG s2.1 s2.2) λv4=>
   grd (List.length v4.1=(List.length s2.1)) (grd (v4.2.1+v4.2.2<=List.length v4.1) (Option.bind (gI x_words (List.getD x_pages (Int.toNat s2.2) default).Frame) λv5=>
    some (.go (over v4.1 v4.2.1 v4.2.2 v5)))))
   (some (.go s2.1)))) λj3=>
   JO.run j3 (mF s2))
  (some (.ret (.go s2.1)))
noncomputable def lO (x_words:List Int)(x_pages:List DSlot):Option (List Int):=
 Option.bind (Option.bind (iter (rU x_words x_pages) ((List.replicate (Int.toNat (64:Int)) (0:Int)),(0:Int))) LO.val) λj1=>
  JO.run j1 lX
theorem aFr{x_words:List Int}{x_pages:List DSlot}{R_:(List Int)}(hh:lO x_words x_pages=some R_):Fn Try.prog 123 [bo (eI .i64) x_words,bo mI x_pages] (.own 3 1 (List.length R_) (fl (eI .i64) R_)):=by let z2:=(0,bo (eI .i64) x_words);let z3:=(1,bo mI x_pages);let z4:=(10,ii ((List.length x_pages:Nat):Int));let z5:EV:=(5,.sref 0 [] 0 (List.length (List.replicate (Int.toNat (64:Int)) (0:Int))) 1);let z6:=(9,bo mI x_pages);unfold lO at hh;refine Fn.start aDf [0,1] (E:=sp 29 [z2,z3]) kr (v:=sw 0 R_) (Hr:=[(0,some (rI_3 R_))]) (k:=1) kr (sy [0,1] [] (sp 29 [z2,z3]) [] 0 (Aw.sreg [0,1,5] [0] (ys (.mk 3 1 8 [ii 0] (.c (ii 64))) (some 8) (aJb (c:=(eI .i64)) (d:=(0:Int)) (k:=(64:Int)) kr dd kr ?_))));let q1:Root:=(rI_3 (List.replicate (Int.toNat (64:Int)) (0:Int)));refine yt (sp 29 [z2,z3,z5]) [(0,some q1)] 1 ?_;obtain⟨j1,hh,hk1⟩:=bind_some hh;refine Aw.join (S:=(List Int)) (λs1=>sp 29 [(5,sw 0 s1)]) (λs1=>[(0,some (rI_3 s1))]) 1 (λs1=>lX s1=some R_) ?_ ?_;{intro s1 hh;unfold lX at hh;refine sy [4] [0] (sp 29 [(4,sw 0 s1)]) [(0,some (rI_3 s1))] 1 (Aw.ret ?_);rw[eD hh];exact aEv (r':=sw 0 s1) kr (Ent.list [some 0] rfl rfl (Nat.zero_le _) (vK zL) (hn bX gY))};intro Q1 hN1 hR1 hE1;refine sy [0,5,9,10,11] [0] (sp 29 [z2,z5,z6,z4,(11,ii 0)]) [(0,some q1)] 1 (Aw.block ?_);obtain⟨o2,hi2,hk2⟩:=bind_some hh;refine Aw.iter (λ(s2:(List Int)×Int)=>sp 29 [(0,bo (eI .i64) x_words),(5,sw 0 s2.1),(9,bo mI x_pages),(10,ii ((List.length x_pages:Nat):Int)),(11,ii s2.2)]) (λ(s2:(List Int)×Int)=>[(0,some (rI_3 s2.1))]) 1 hi2 (el [some 0] (pN kr (ro bX (rs (.sref 0 [] 0 (List.length (List.replicate (Int.toNat (64:Int)) (0:Int))) 1) (ro jY (ri (ri aDg)))))) (hn bX gY)) ?_;intro s2 u2 Q2 hh hN2 hX2 hR2;let z7:EH:=(0,some (rI_3 s2.1));let z8:=(11,ii s2.2);let z9:=(12,bb (decide (s2.2<((List.length x_pages:Nat):Int))));let z10:=(5,sw 0 s2.1);let z11:=(6,ii s2.2);let z1:=List.getD x_pages (Int.toNat s2.2) default;let z12:=(18,bb (!decide (z1.Frame=(-1:Int))));unfold rU at hh;refine sy [0,5,9,10,11,12] [0] (sp 29 [z2,z10,z6,z4,z8,z9]) [z7] 1 (Aw.seq ?_);rcases aGl hh with⟨hb,hh⟩|⟨hb,hh⟩;{refine cF hb (Aw.exit (bEi (hX2 _ _ _ _ _ (eD hh) ?_)));intro hout;rw[hout]at hk2;refine aZp ?_;obtain rfl:=eD hk2;exact hN1 s2.1 _ _ _ hk1 (el [some 0] (pN kr (rs (sw 0 s2.1) aDg)) (hn bX gY))};refine cT hb (Aw.xskip (λ_ _ _ hq=>bEu hq) ?_);obtain⟨j3,hh,hk3⟩:=bind_some hh;refine Aw.join (S:=(List Int)) (λs3=>sp 29 [(0,bo (eI .i64) x_words),(5,sw 0 s3),(9,bo mI x_pages),(10,ii ((List.length x_pages:Nat):Int)),(11,ii s2.2)]) (λs3=>[(0,some (rI_3 s3))]) 1 (λs3=>mF s2 s3=some u2) ?_ ?_;{intro s3 hh;unfold mF at hh;exact Aw.oreg (ye (sp 29 [z2,(5,sw 0 s3),z6,z4,(11,ii (w64 (s2.2+(1:Int)))),(27,ii (w64 (s2.2+(1:Int))))]) [(0,some (rI_3 s3))] 1 (hN2 (s3,w64 (s2.2+(1:Int))) _ _ _ (eD hh) (el [some 0] (pN kr (ro bX (rs (sw 0 s3) (ro jY (ri (ri aDg)))))) (hn bX gY))))};intro Q3 hN3 hR3 hE3;refine Aw.block (Aw.sreg [0,5,6,7,9,10,11] [0,1] (yj 1  (sp 29 [z2,z10,z6,z4,z8,z9,(13,ii s2.2)]) [z7] 1 ?_));obtain⟨hg104,hh⟩:=bV hh;refine ys (.iadr 3 (.t 9) (.t 11)) (some 14) (bBw (kd:= .i64) (c:=mI) (xs:=x_pages) wJ dd kr kr hg104 ?_);refine ys (.load true 3 (.t 14)) (some 15) (aUh (c:=mI) (xs:=x_pages) (o:=Int.toNat s2.2*3) (i:=(Int.toNat s2.2)) (off:=0) (v:= .agg [ii z1.Frame,bb z1.Write,bb z1.Dirty]) wJ kr ltn ltn dd kr ?_);let q2:Root:=⟨43,[ii z1.Frame,bb z1.Write,bb z1.Dirty]⟩;let z13:=(1,some q2);refine yt (sp 29 [z2,z10,z11,(7,pp 1),z6,z4,z8]) [z7,z13] 2 (sy [0,5,6,7,9,10,11,18] [0,1] (sp 29 [z2,z10,z11,(7,pp 1),z6,z4,z8,z12]) [z7,z13] 2 ?_);rcases aGl hh with⟨hb,hh⟩|⟨hb,hh⟩;{refine cF hb (Aw.skip (aRs ?_));obtain rfl:=eD hh;exact hN3 s2.1 _ _ _ hk3 (el [some 0] (pN kr (ro bX (rs (sw 0 s2.1) (ro jY (ri (ri aDg)))))) (hn bX gY))};refine cT hb (Aw.oregd [0] kr (dj 2 (sp 29 [z2,z10,z11,(7,pp 1),z6,z4,z8,z12,(19,sw 0 s2.1),(20,ii s2.2)]) [z7,z13] 2 ?_));obtain⟨v4,hv4,hh⟩:=bind_some hh;let z14:EH:=(0,some (rI_3 v4.1));let z15:EV:=(21,.sref 0 [] (0+v4.2.1*1) v4.2.2 1);obtain⟨hg107,hh⟩:=bV hh;obtain⟨hg108,hh⟩:=bV hh;refine ds (.call 116 [.t 19,.t 20]) (some 21) (bGc rfl (cf (.sref 0 [] (0+v4.2.1*1) v4.2.2 1) [z14] 2 [0] (aDp hv4) [sw 0 s2.1,ii s2.2] rz (hn bX gY) zL (hn bX gY) ⟨⟨⟨by decide,aVn rfl rfl⟩,Hld.un ?_⟩⟩));refine dt (sp 29 [z2,z10,z11,(7,pp 1),z6,z4,z8,z12,(19,sw 0 s2.1),(20,ii s2.2),z15,(22,bo (eI .i64) x_words),(23,pp 1),(24,ii z1.Frame)]) [z14,(0,none),z7,z13] 2 ?_;obtain⟨v5,hv5,hh⟩:=bind_some hh;refine ys (.call 116 [.t 22,.t 24]) (some 25) (aJz (r:=bo (eI .i64) v5) (v:=bo (eI .i64) v5) (Hr:=[]) (n':=2) (aGm hv5) (bAa (vs:=[bo (eI .i64) x_words,ii z1.Frame]) kr (pU (aD (aIq (cD dC))) (cz1 aBb))) nrr kr ?_);let q3:Root:=(rI_3 (over v4.1 v4.2.1 v4.2.2 v5));refine ys (.cpy 1 (.t 21) (.t 25)) (some 26) (aMw (c:=(eI .i64)) (xs:=v4.1) (ys:=v5) (e:=3) (r:=0) (π:=[]) (o:=0+v4.2.1*1) (k:=v4.2.2) (i:=v4.2.1) (H':=[(0,some q3),z14,(0,none),z7,z13]) cC (rpv kr (aVh (c:=(eI .i64)) (xs:=v5) cC)) kr kr ltn ltn kr ?_);refine ye (sp 29 [z2,z10,z11,(7,pp 1),z6,z4,z8,z12,(19,sw 0 s2.1),(20,ii s2.2),z15,(22,bo (eI .i64) x_words),(23,pp 1),(24,ii z1.Frame),(25,bo (eI .i64) v5),(26,ii ((min v4.2.2 (List.length v5):Nat):Int))]) [(0,some q3),z14,(0,none),z7,z13] 2 (aRs ?_);obtain rfl:=eD hh;exact hN3 (over v4.1 v4.2.1 v4.2.2 v5) _ _ _ hk3 (el [some 0] (pN kr (ro bX (rs (sw 0 s2.1) (ro jY (ri (ri aDg)))))) (hn bX gY))
noncomputable def bDj:Sg tG:=⟨[.row 3,.row 43],.one (.row 3),lO⟩
theorem bHt:Sok 123 bDj:=λx_words x_pages R_ hh=>kc (aFr (x_words:=x_words) (x_pages:=x_pages) hh)
noncomputable def yL (x_h:DHost)(x_g:Int):Option DBare:=
 grd ((0:Int)<=x_g/\x_g<((List.length x_h.Guests:Nat):Int)) (Option.bind (lO x_h.Words (List.getD x_h.Guests (Int.toNat x_g) default).Pages) λv1=>
  some (DBare.mk (DCore.mk ((List.getD x_h.Guests (Int.toNat x_g) default).C).Regs ((List.getD x_h.Guests (Int.toNat x_g) default).C).Pc ((List.getD x_h.Guests (Int.toNat x_g) default).C).Root ((List.getD x_h.Guests (Int.toNat x_g) default).C).Vector ((List.getD x_h.Guests (Int.toNat x_g) default).C).Saved ((List.getD x_h.Guests (Int.toNat x_g) default).C).SavedUser ((List.getD x_h.Guests (Int.toNat x_g) default).C).Cause ((List.getD x_h.Guests (Int.toNat x_g) default).C).Bad ((List.getD x_h.Guests (Int.toNat x_g) default).C).Timer ((List.getD x_h.Guests (Int.toNat x_g) default).C).Waits ((List.getD x_h.Guests (Int.toNat x_g) default).C).User ((List.getD x_h.Guests (Int.toNat x_g) default).C).On ((List.getD x_h.Guests (Int.toNat x_g) default).C).Stopped) v1 (List.getD x_h.Guests (Int.toNat x_g) default).In (List.getD x_h.Guests (Int.toNat x_g) default).Out))
noncomputable def g96:Sg tG:=⟨[.st 26,.i .i64],.one (.sb 82),yL⟩
theorem s96:Sok 96 g96:=sgx [(123,.r bDj)] ⟨bHt,trivial⟩ .o kr kr kr
noncomputable def oU (x_h:DHost)(x_g:Int):Option (DBare×Bool):=
 Option.bind (gN x_h x_g) λv1=>
 cond (!v1)
  (some ((DBare.mk (DCore.mk ([]:List Int) (0:Int) (0:Int) (0:Int) (0:Int) false (0:Int) (0:Int) (0:Int) false false false false) ([]:List Int) ([]:List Int) ([]:List Int)),false))
  (Option.bind (yL x_h x_g) λv2=>
  Option.bind (rQ v2) λv3=>
  some (v3,true))
noncomputable def g54:Sg tG:=⟨[.st 26,.i .i64],.two (.st 82) .b,oU⟩
theorem s54:Sok 54 g54:=sgx [(84,.r g84),(96,.r g96),(95,.r g95)] ⟨s84,s96,s95,trivial⟩ .o kr kr kr
noncomputable def aEk  (s1:List Int):Option (List Int):=some s1
noncomputable def aDj (x_a:List Int)(s2:(List Int)×Int):Option (LO ((List Int)×Int) (JO (List Int) (List Int))):=
 cond (decide (s2.2<((List.length x_a:Nat):Int)))
  (grd ((0:Int)<=s2.2/\s2.2<((List.length x_a:Nat):Int)) (grd ((0:Int)<=s2.2/\s2.2<((List.length s2.1:Nat):Int)) (some (.next ((List.set s2.1 (Int.toNat s2.2) (List.getD x_a (Int.toNat s2.2) default)),w64 (s2.2+(1:Int)))))))
  (some (.ret (.go s2.1)))
noncomputable def jL (x_a:List Int):Option (List Int):=
 grd ((0:Int)<=((List.length x_a:Nat):Int)/\((List.length x_a:Nat):Int)*8<=2^47/\((List.length x_a:Nat):Int)<=2^47) (Option.bind (Option.bind (iter (aDj x_a) ((List.replicate (Int.toNat ((List.length x_a:Nat):Int)) (0:Int)),(0:Int))) LO.val) λj1=>
  JO.run j1 aEk)
noncomputable def g60:Sg tG:=⟨[.row 3],.one (.row 3),jL⟩
theorem s60:Sok 60 g60:=sgx [] trivial (.s .o (.s .o (.j ⟨[],[],[(.s 3,.ro 3)]⟩ (.s .o (.k (.l ⟨[0],[],[(.s 3,.ro 3),(.s 4,.i .i64)]⟩ .o))) .o))) kr kr kr
noncomputable def aEa  (s1:Unit):Option Bool:=some true
noncomputable def aDb (x_a:List Int)(x_b:List Int)(s2:Int):Option (LO Int (JO Unit Bool)):=
 cond (decide (s2<((List.length x_a:Nat):Int)))
  (grd ((0:Int)<=s2/\s2<((List.length x_a:Nat):Int)) (grd ((0:Int)<=s2/\s2<((List.length x_b:Nat):Int)) (cond (!decide ((List.getD x_a (Int.toNat s2) default)=(List.getD x_b (Int.toNat s2) default)))
   (some (.ret (.out false)))
   (some (.next (w64 (s2+(1:Int))))))))
  (some (.ret (.go ())))
noncomputable def jH (x_a:List Int)(x_b:List Int):Option Bool:=
 cond (!decide (((List.length x_a:Nat):Int)=((List.length x_b:Nat):Int)))
  (some false)
  (Option.bind (Option.bind (iter (aDb x_a x_b) (0:Int)) LO.val) λj1=>
   JO.run j1 aEa)
noncomputable def g62:Sg tG:=⟨[.row 3,.row 3],.one .b,jH⟩
theorem s62:Sok 62 g62:=sgx [] trivial (.s .o (.s .o (.j ⟨[],[],[]⟩ (.s .o (.k (.l ⟨[0,1],[],[(.s 5,.i .i64)]⟩ .o))) .o))) kr kr kr
noncomputable def yJ (x_a:DCore):Option DCore:=
 Option.bind (jL x_a.Regs) λv1=>
 some (DCore.mk v1 x_a.Pc x_a.Root x_a.Vector x_a.Saved x_a.SavedUser x_a.Cause x_a.Bad x_a.Timer x_a.Waits x_a.User x_a.On x_a.Stopped)
noncomputable def bEv:Sg tG:=⟨[.st 120],.one (.st 38),yJ⟩
theorem bHx:Sok 126 bEv:=sgx [(60,.r g60)] ⟨s60,trivial⟩ .o kr kr kr
noncomputable def yH (x_a:DCore)(x_b:DCore):Option Bool:=
 Option.bind (jH x_a.Regs x_b.Regs) λv1=>
 cond (!v1)
  (some false)
  (cond (!decide (x_a.Pc=x_b.Pc))
   (some false)
   (cond (!decide (x_a.Root=x_b.Root))
    (some false)
    (cond (!decide (x_a.Vector=x_b.Vector))
     (some false)
     (cond (!decide (x_a.Saved=x_b.Saved))
      (some false)
      (cond (!(x_a.SavedUser==x_b.SavedUser))
       (some false)
       (cond (!decide (x_a.Cause=x_b.Cause))
        (some false)
        (cond (!decide (x_a.Bad=x_b.Bad))
         (some false)
         (cond (!decide (x_a.Timer=x_b.Timer))
          (some false)
          (cond (!(x_a.Waits==x_b.Waits))
           (some false)
           (cond (!(x_a.User==x_b.User))
            (some false)
            (cond (!(x_a.On==x_b.On))
             (some false)
             (cond (!(x_a.Stopped==x_b.Stopped))
              (some false)
              (some true)))))))))))))
noncomputable def bFd:Sg tG:=⟨[.st 38,.st 38],.one .b,yH⟩
theorem bHs:Sok 128 bFd:=sgx [(62,.r g62)] ⟨s62,trivial⟩ .o kr kr kr
noncomputable def jN (x_a:List Int)(x_left:Int):Option Int:=
 cond (decide ((w64 (x_left-((List.length x_a:Nat):Int)))<(0:Int)))
  (some (-1:Int))
  (some (w64 (x_left-((List.length x_a:Nat):Int))))
noncomputable def g58:Sg tG:=⟨[.row 3,.i .i64],.one (.i .i64),jN⟩
theorem s58:Sok 58 g58:=sgx [] trivial .o kr kr kr
noncomputable def yI (x_a:DCore)(x_left:Int):Option Int:=
 Option.bind (jN x_a.Regs x_left) λv1=>
 cond (decide (v1<(0:Int)))
  (some (-1:Int))
  (some v1)
noncomputable def bEp:Sg tG:=⟨[.st 120,.i .i64],.one (.i .i64),yI⟩
theorem bHv:Sok 124 bEp:=sgx [(58,.r g58)] ⟨s58,trivial⟩ .o kr kr kr
noncomputable def iL (x_g:DGuest):Option DGuest:=
 cond (!x_g.Live)
  (some (DGuest.mk false (DCore.mk ([]:List Int) (0:Int) (0:Int) (0:Int) (0:Int) false (0:Int) (0:Int) (0:Int) false false false false) ([]:List DSlot) ([]:List Int) ([]:List Int)))
  (Option.bind (jJ x_g.C) λv1=>
  grd (List.length x_g.Pages*16<=2^47/\List.length x_g.Pages<=2^47) (grd (List.length x_g.In*8<=2^47/\List.length x_g.In<=2^47) (grd (List.length x_g.Out*8<=2^47/\List.length x_g.Out<=2^47) (some (DGuest.mk true v1 x_g.Pages x_g.In x_g.Out)))))
noncomputable def g93:Sg tG:=⟨[.st 41],.one (.st 41),iL⟩
theorem s93:Sok 93 g93:=sgx [(118,.r aZd)] ⟨bEj,trivial⟩ .o kr kr kr
noncomputable def aDv (x_h:DHost)(s1:List DGuest):Option DHost:=some (DHost.mk (([]:List Int)++x_h.Words) s1)
noncomputable def jA (x_h:DHost)(s2:(List DGuest)×Int):Option (LO ((List DGuest)×Int) (JO (List DGuest) DHost)):=
 cond (decide (s2.2<((List.length x_h.Guests:Nat):Int)))
  (grd ((0:Int)<=s2.2/\s2.2<((List.length x_h.Guests:Nat):Int)) (Option.bind (iL (DGuest.mk (List.getD x_h.Guests (Int.toNat s2.2) default).Live (DCore.mk ((List.getD x_h.Guests (Int.toNat s2.2) default).C).Regs ((List.getD x_h.Guests (Int.toNat s2.2) default).C).Pc ((List.getD x_h.Guests (Int.toNat s2.2) default).C).Root ((List.getD x_h.Guests (Int.toNat s2.2) default).C).Vector ((List.getD x_h.Guests (Int.toNat s2.2) default).C).Saved ((List.getD x_h.Guests (Int.toNat s2.2) default).C).SavedUser ((List.getD x_h.Guests (Int.toNat s2.2) default).C).Cause ((List.getD x_h.Guests (Int.toNat s2.2) default).C).Bad ((List.getD x_h.Guests (Int.toNat s2.2) default).C).Timer ((List.getD x_h.Guests (Int.toNat s2.2) default).C).Waits ((List.getD x_h.Guests (Int.toNat s2.2) default).C).User ((List.getD x_h.Guests (Int.toNat s2.2) default).C).On ((List.getD x_h.Guests (Int.toNat s2.2) default).C).Stopped) (List.getD x_h.Guests (Int.toNat s2.2) default).Pages (List.getD x_h.Guests (Int.toNat s2.2) default).In (List.getD x_h.Guests (Int.toNat s2.2) default).Out)) λv3=>
   grd ((List.length s2.1+1)*176<=2^47/\List.length s2.1+1<=2^47) (some (.next ((s2.1++([v3]:List DGuest)),w64 (s2.2+(1:Int)))))))
  (some (.ret (.go s2.1)))
noncomputable def mT (x_h:DHost):Option DHost:=
 grd ((List.length ([]:List Int)+List.length x_h.Words)*8<=2^47/\List.length ([]:List Int)+List.length x_h.Words<=2^47) (Option.bind (Option.bind (iter (jA x_h) (([]:List DGuest),(0:Int))) LO.val) λj1=>
  JO.run j1 (aDv x_h))
noncomputable def g46:Sg tG:=⟨[.st 26],.one (.st 2026),mT⟩
theorem s46:Sok 46 g46:=sgx [(93,.r g93)] ⟨s93,trivial⟩ (.s .o (.s .o (.j ⟨[2,3],[],[(.c 3 1,.ro 1041)]⟩ (.s .o (.k (.l ⟨[1,2,3],[],[(.c 3 1,.ro 1041),(.s 4,.i .i64)]⟩ (.s .o (.s (.k (.g [] [] [.fo (.c 3 1) 0])) .o))))) .o))) kr kr kr
noncomputable def iZ (x_w:Int):Option DEntry:=
 Option.bind (eC x_w) λv1=>
 cond (!v1)
  (some (DEntry.mk false false false (0:Int)))
  (some (DEntry.mk (decide ((Int.tmod x_w (2:Int))=(1:Int))) (decide ((Int.tmod (w64 (Int.tdiv x_w (2:Int))) (2:Int))=(1:Int))) (decide ((Int.tmod (w64 (Int.tdiv x_w (4:Int))) (2:Int))=(1:Int))) (Int.tmod (w64 (Int.tdiv x_w (8:Int))) (8:Int))))
noncomputable def bDf:Sg tG:=⟨[.i .i64],.one (.st 132),iZ⟩
theorem bHd:Sok 110 bDf:=sgx [(117,.r aKe)] ⟨aRw,trivial⟩ .o kr kr kr
noncomputable def mU (x_h:DHost)(x_g:Int)(x_at:Int):Option Int:=
 grd ((0:Int)<=x_g/\x_g<((List.length x_h.Guests:Nat):Int)) (grd ((0:Int)<=(w64 (Int.tdiv x_at (8:Int)))/\(w64 (Int.tdiv x_at (8:Int)))<((List.length (List.getD x_h.Guests (Int.toNat x_g) default).Pages:Nat):Int)) (cond (decide ((List.getD (List.getD x_h.Guests (Int.toNat x_g) default).Pages (Int.toNat (w64 (Int.tdiv x_at (8:Int)))) default).Frame<(0:Int)))
  (some (0:Int))
  (grd ((0:Int)<=(w64 ((w64 ((List.getD (List.getD x_h.Guests (Int.toNat x_g) default).Pages (Int.toNat (w64 (Int.tdiv x_at (8:Int)))) default).Frame*(8:Int)))+(Int.tmod x_at (8:Int))))/\(w64 ((w64 ((List.getD (List.getD x_h.Guests (Int.toNat x_g) default).Pages (Int.toNat (w64 (Int.tdiv x_at (8:Int)))) default).Frame*(8:Int)))+(Int.tmod x_at (8:Int))))<((List.length x_h.Words:Nat):Int)) (some (List.getD x_h.Words (Int.toNat (w64 ((w64 ((List.getD (List.getD x_h.Guests (Int.toNat x_g) default).Pages (Int.toNat (w64 (Int.tdiv x_at (8:Int)))) default).Frame*(8:Int)))+(Int.tmod x_at (8:Int))))) default)))))
noncomputable def bDh:Sg tG:=⟨[.st 26,.i .i64,.i .i64],.one (.i .i64),mU⟩
theorem bHc:Sok 111 bDh:=sgx [] trivial .o kr kr kr
noncomputable def zQ  (s2:List DShade):Option (List DShade):=some s2
noncomputable def kP (x_h:DHost)(x_g:Int)(s3:(List DShade)×Int)(s4:Bool×Bool×Bool×Int):Option (LO ((List DShade)×Int) (JO (List DShade) (List DShade))):=grd ((0:Int)<=x_g/\x_g<((List.length x_h.Guests:Nat):Int)) (grd ((0:Int)<=s4.2.2.2/\s4.2.2.2<((List.length (List.getD x_h.Guests (Int.toNat x_g) default).Pages:Nat):Int)) (grd ((List.length s3.1+List.length ([DShade.mk s4.1 s4.2.1 s4.2.2.1 s4.2.2.2 (List.getD (List.getD x_h.Guests (Int.toNat x_g) default).Pages (Int.toNat s4.2.2.2) default).Frame (List.getD (List.getD x_h.Guests (Int.toNat x_g) default).Pages (Int.toNat s4.2.2.2) default).Write]:List DShade))*32<=2^47/\List.length s3.1+List.length ([DShade.mk s4.1 s4.2.1 s4.2.2.1 s4.2.2.2 (List.getD (List.getD x_h.Guests (Int.toNat x_g) default).Pages (Int.toNat s4.2.2.2) default).Frame (List.getD (List.getD x_h.Guests (Int.toNat x_g) default).Pages (Int.toNat s4.2.2.2) default).Write]:List DShade)<=2^47) (some (.next ((s3.1++([DShade.mk s4.1 s4.2.1 s4.2.2.1 s4.2.2.2 (List.getD (List.getD x_h.Guests (Int.toNat x_g) default).Pages (Int.toNat s4.2.2.2) default).Frame (List.getD (List.getD x_h.Guests (Int.toNat x_g) default).Pages (Int.toNat s4.2.2.2) default).Write]:List DShade)),w64 (s3.2+(1:Int)))))))
noncomputable def gL (x_h:DHost)(x_g:Int)(s3:(List DShade)×Int):Option (LO ((List DShade)×Int) (JO (List DShade) (List DShade))):=
 cond (decide (s3.2<(8:Int)))
  (Option.bind (grd ((0:Int)<=x_g/\x_g<((List.length x_h.Guests:Nat):Int)) (cond (decide ((0:Int)<=((List.getD x_h.Guests (Int.toNat x_g) default).C).Root))
   (Option.bind (mU x_h x_g (w64 ((w64 (((List.getD x_h.Guests (Int.toNat x_g) default).C).Root*(8:Int)))+s3.2))) λv5=>
   Option.bind (iZ v5) λv6=>
   some (.go (v6.There,v6.Write,v6.User,v6.Page)))
   (some (.go (true,true,true,s3.2))))) λj4=>
   JO.run j4 (kP x_h x_g s3))
  (some (.ret (.go s3.1)))
noncomputable def gU (x_h:DHost)(x_g:Int):Option (List DShade):=
 Option.bind (gG x_h x_g) λv1=>
 cond (!v1)
  (some ([]:List DShade))
  (Option.bind (Option.bind (iter (gL x_h x_g) (([]:List DShade),(0:Int))) LO.val) λj2=>
   JO.run j2 zQ)
noncomputable def g74:Sg tG:=⟨[.st 26,.i .i64],.one (.row 66),gU⟩
theorem s74:Sok 74 g74:=sgx [(72,.r g72),(111,.r bDh),(110,.r bDf)] ⟨s72,bHc,bHd,trivial⟩ (.s .o (.s .o (.s .o (.j ⟨[],[],[(.s 5,.ro 66)]⟩ (.s .o (.k (.l ⟨[1,2],[],[(.s 5,.ro 66),(.s 6,.i .i64)]⟩ (.s .o (.s (.k (.s .o (.j ⟨[1,2,5,6,7],[],[(.c 7 0,.b),(.c 7 1,.b),(.c 7 2,.b),(.c 7 3,.i .i64)]⟩ .o .o))) .o))))) .o)))) kr kr kr
noncomputable def fY (x_words:List Int)(x_s:DSlot):Option (List Int):=
 cond (decide (x_s.Frame=(-1:Int)))
  (some (List.replicate (Int.toNat (8:Int)) (0:Int)))
  (Option.bind (gI x_words x_s.Frame) λv1=>
  some v1)
noncomputable def g98:Sg tG:=⟨[.row 3,.st 43],.one (.rb 3),fY⟩
theorem s98:Sok 98 g98:=sgx [(116,.r bEg)] ⟨bDk,trivial⟩ .o kr kr kr
noncomputable def iX (x_w:Int):Option DEntry:=
 Option.bind (eE x_w) λv1=>
 cond (!v1)
  (some (DEntry.mk false false false (0:Int)))
  (some (DEntry.mk (decide ((Int.tmod (w64 (Int.tdiv x_w (1:Int))) (2:Int))=(1:Int))) (decide ((Int.tmod (w64 (Int.tdiv x_w (2:Int))) (2:Int))=(1:Int))) (decide ((Int.tmod (w64 (Int.tdiv x_w (4:Int))) (2:Int))=(1:Int))) (Int.tmod (w64 (Int.tdiv x_w (8:Int))) (8:Int))))
noncomputable def bEs:Sg tG:=⟨[.i .i64],.one (.st 132),iX⟩
theorem bHy:Sok 134 bEs:=sgx [(52,.r g52)] ⟨s52,trivial⟩ .o kr kr kr
noncomputable def lU (x_h:DHost)(x_g:Int)(x_number:Int):Option DEntry:=
 grd ((0:Int)<=x_g/\x_g<((List.length x_h.Guests:Nat):Int)) (cond (decide (((List.getD x_h.Guests (Int.toNat x_g) default).C).Root=(-1:Int)))
  (some (DEntry.mk true true true x_number))
  (grd ((0:Int)<=((List.getD x_h.Guests (Int.toNat x_g) default).C).Root/\((List.getD x_h.Guests (Int.toNat x_g) default).C).Root<((List.length (List.getD x_h.Guests (Int.toNat x_g) default).Pages:Nat):Int)) (Option.bind (fY x_h.Words (DSlot.mk (List.getD (List.getD x_h.Guests (Int.toNat x_g) default).Pages (Int.toNat ((List.getD x_h.Guests (Int.toNat x_g) default).C).Root) default).Frame (List.getD (List.getD x_h.Guests (Int.toNat x_g) default).Pages (Int.toNat ((List.getD x_h.Guests (Int.toNat x_g) default).C).Root) default).Write (List.getD (List.getD x_h.Guests (Int.toNat x_g) default).Pages (Int.toNat ((List.getD x_h.Guests (Int.toNat x_g) default).C).Root) default).Dirty)) λv1=>
   grd ((0:Int)<=x_number/\x_number<((List.length v1:Nat):Int)) (Option.bind (iX (List.getD v1 (Int.toNat x_number) default)) λv2=>
    some v2))))
noncomputable def bEr:Sg tG:=⟨[.st 26,.i .i64,.i .i64],.one (.st 132),lU⟩
theorem bHm:Sok 112 bEr:=sgx [(98,.r g98),(134,.r bEs)] ⟨s98,bHy,trivial⟩ .o kr kr kr
noncomputable def fP (x_h:DHost)(x_g:Int)(x_number:Int):Option DShade:=
 Option.bind (lU x_h x_g x_number) λv1=>
 grd ((0:Int)<=x_g/\x_g<((List.length x_h.Guests:Nat):Int)) (grd ((0:Int)<=v1.Page/\v1.Page<((List.length (List.getD x_h.Guests (Int.toNat x_g) default).Pages:Nat):Int)) (some (DShade.mk v1.There v1.Write v1.User v1.Page (List.getD (List.getD x_h.Guests (Int.toNat x_g) default).Pages (Int.toNat v1.Page) default).Frame (List.getD (List.getD x_h.Guests (Int.toNat x_g) default).Pages (Int.toNat v1.Page) default).Write)))
noncomputable def g79:Sg tG:=⟨[.st 26,.i .i64,.i .i64],.one (.st 66),fP⟩
theorem s79:Sok 79 g79:=sgx [(112,.r bEr)] ⟨bHm,trivial⟩ .o kr kr kr
noncomputable def jE (x_h:DHost)(x_line:DLine):Option Bool:=
 Option.bind (fN x_h.Guests x_line.Tag) λv1=>
 cond v1
  (Option.bind (jO x_line.At) λv2=>
  cond v2
   (Option.bind (fP x_h x_line.Tag x_line.At) λv3=>
   some ((x_line.What.There==v3.There)&&((x_line.What.Write==v3.Write)&&((x_line.What.User==v3.User)&&(decide (x_line.What.Page=v3.Page)&&(decide (x_line.What.Frame=v3.Frame)&&((x_line.What.Ready==v3.Ready)&&true)))))))
   (some false))
  (some false)
noncomputable def g70:Sg tG:=⟨[.st 26,.st 68],.one .b,jE⟩
theorem s70:Sok 70 g70:=sgx [(77,.r g77),(109,.r aXt),(79,.r g79)] ⟨s77,bCz,s79,trivial⟩ .o kr kr kr
noncomputable def aBv  (s1:Unit):Option Int:=some (-1:Int)
noncomputable def rM (s2:Int)(s3:Unit):Option (LO Int (JO Unit Int)):=some (.next (w64 (s2+(1:Int))))
noncomputable def hZ (x_tags:List DLine)(x_g:Int)(x_number:Int)(s2:Int):Option (LO Int (JO Unit Int)):=
 cond (decide (s2<((List.length x_tags:Nat):Int)))
  (Option.bind (grd ((0:Int)<=s2/\s2<((List.length x_tags:Nat):Int)) (cond (decide ((List.getD x_tags (Int.toNat s2) default).Tag=x_g))
   (cond (decide ((List.getD x_tags (Int.toNat s2) default).At=x_number))
    (some (.out (.ret (.out s2))))
    (some (.go ())))
   (some (.go ())))) λj3=>
   JO.run j3 (rM s2))
  (some (.ret (.go ())))
noncomputable def iI (x_tags:List DLine)(x_g:Int)(x_number:Int):Option Int:=
 Option.bind (Option.bind (iter (hZ x_tags x_g x_number) (0:Int)) LO.val) λj1=>
  JO.run j1 aBv
noncomputable def g71:Sg tG:=⟨[.row 68,.i .i64,.i .i64],.one (.i .i64),iI⟩
theorem s71:Sok 71 g71:=sgx [] trivial (.s .o (.j ⟨[],[],[]⟩ (.s .o (.k (.l ⟨[1,2,9,10],[],[(.s 11,.i .i64)]⟩ (.s .o (.s .o (.j ⟨[1,2,9,10,11],[],[]⟩ .o .o)))))) .o)) kr kr kr
noncomputable def aDw  (s2:Unit):Option Bool:=some true
noncomputable def jD (x_h:DHost)(x_tags:List DLine)(s3:Int):Option (LO Int (JO Unit Bool)):=
 cond (decide (s3<((List.length x_tags:Nat):Int)))
  (grd ((0:Int)<=s3/\s3<((List.length x_tags:Nat):Int)) (Option.bind (jE x_h (DLine.mk (List.getD x_tags (Int.toNat s3) default).Tag (List.getD x_tags (Int.toNat s3) default).At (DShade.mk ((List.getD x_tags (Int.toNat s3) default).What).There ((List.getD x_tags (Int.toNat s3) default).What).Write ((List.getD x_tags (Int.toNat s3) default).What).User ((List.getD x_tags (Int.toNat s3) default).What).Page ((List.getD x_tags (Int.toNat s3) default).What).Frame ((List.getD x_tags (Int.toNat s3) default).What).Ready))) λv4=>
   cond (!v4)
    (some (.ret (.out false)))
    (grd ((0:Int)<=(0:Int)/\(0:Int)<=s3/\s3<=((List.length x_tags:Nat):Int)) (Option.bind (iI (List.take (Int.toNat s3-Int.toNat (0:Int)) (List.drop (Int.toNat (0:Int)) x_tags)) (List.getD x_tags (Int.toNat s3) default).Tag (List.getD x_tags (Int.toNat s3) default).At) λv5=>
     cond (!decide (v5=(-1:Int)))
      (some (.ret (.out false)))
      (some (.next (w64 (s3+(1:Int)))))))))
  (some (.ret (.go ())))
noncomputable def jR (x_h:DHost)(x_tags:List DLine):Option Bool:=
 Option.bind (jS x_h) λv1=>
 cond (!v1)
  (some false)
  (cond (decide ((6:Int)<((List.length x_tags:Nat):Int)))
   (some false)
   (Option.bind (Option.bind (iter (jD x_h x_tags) (0:Int)) LO.val) λj2=>
    JO.run j2 aDw))
noncomputable def g29:Sg tG:=⟨[.st 26,.row 68],.one .b,jR⟩
theorem s29:Sok 29 g29:=sgx [(14,.r g14),(70,.r g70),(71,.r g71)] ⟨s14,s70,s71,trivial⟩ (.s .o (.s .o (.j ⟨[],[],[]⟩ (.s .o (.k (.l ⟨[1,2,15,16],[],[(.s 17,.i .i64)]⟩ .o))) .o))) kr kr kr
noncomputable def aEd  (s2:Unit):Option Bool:=some true
noncomputable def tE (s3:Int)(s4:Unit):Option (LO Int (JO Unit Bool)):=some (.next (w64 (s3+(1:Int))))
noncomputable def nF (s8:Int)(s9:Unit):Option (LO Int (JO Unit (LO Int (JO Unit Bool)))):=some (.next (w64 (s8+(1:Int))))
noncomputable def jC (x_tags:List DLine)(s3:Int)(s8:Int):Option (LO Int (JO Unit (LO Int (JO Unit Bool)))):=
 cond (decide (s8<s3))
  (Option.bind (grd ((0:Int)<=s8/\s8<((List.length x_tags:Nat):Int)) (cond (decide ((List.getD x_tags (Int.toNat s8) default).Tag=(List.getD x_tags (Int.toNat s3) default).Tag))
   (grd ((0:Int)<=s8/\s8<((List.length x_tags:Nat):Int)) (cond (decide ((List.getD x_tags (Int.toNat s8) default).At=(List.getD x_tags (Int.toNat s3) default).At))
    (some (.out (.ret (.out (.ret (.out false))))))
    (some (.go ()))))
   (some (.go ())))) λj9=>
   JO.run j9 (nF s8))
  (some (.ret (.go ())))
noncomputable def iW (x_h:DHost)(x_tags:List DLine)(s3:Int):Option (LO Int (JO Unit Bool)):=
 cond (decide (s3<((List.length x_tags:Nat):Int)))
  (Option.bind (grd ((0:Int)<=s3/\s3<((List.length x_tags:Nat):Int)) (Option.bind (gG x_h (List.getD x_tags (Int.toNat s3) default).Tag) λv5=>
   cond (!v5)
    (some (.out (.ret (.out false))))
    (Option.bind (bM (List.getD x_tags (Int.toNat s3) default).At (0:Int) (7:Int)) λv6=>
    cond (!v6)
     (some (.out (.ret (.out false))))
     (Option.bind (gU x_h (List.getD x_tags (Int.toNat s3) default).Tag) λv7=>
     grd ((0:Int)<=(List.getD x_tags (Int.toNat s3) default).At/\(List.getD x_tags (Int.toNat s3) default).At<((List.length v7:Nat):Int)) (cond (!(((List.getD v7 (Int.toNat (List.getD x_tags (Int.toNat s3) default).At) default).There==((List.getD x_tags (Int.toNat s3) default).What).There)&&(((List.getD v7 (Int.toNat (List.getD x_tags (Int.toNat s3) default).At) default).Write==((List.getD x_tags (Int.toNat s3) default).What).Write)&&(((List.getD v7 (Int.toNat (List.getD x_tags (Int.toNat s3) default).At) default).User==((List.getD x_tags (Int.toNat s3) default).What).User)&&(decide ((List.getD v7 (Int.toNat (List.getD x_tags (Int.toNat s3) default).At) default).Page=((List.getD x_tags (Int.toNat s3) default).What).Page)&&(decide ((List.getD v7 (Int.toNat (List.getD x_tags (Int.toNat s3) default).At) default).Frame=((List.getD x_tags (Int.toNat s3) default).What).Frame)&&(((List.getD v7 (Int.toNat (List.getD x_tags (Int.toNat s3) default).At) default).Ready==((List.getD x_tags (Int.toNat s3) default).What).Ready)&&true)))))))
      (some (.out (.ret (.out false))))
      (Option.bind (iter (jC x_tags s3) (0:Int)) LO.val)))))) λj4=>
   JO.run j4 (tE s3))
  (some (.ret (.go ())))
noncomputable def mS (x_h:DHost)(x_tags:List DLine):Option Bool:=
 Option.bind (fB x_h) λv1=>
 cond (!v1)
  (some false)
  (cond (decide ((6:Int)<((List.length x_tags:Nat):Int)))
   (some false)
   (Option.bind (Option.bind (iter (iW x_h x_tags) (0:Int)) LO.val) λj2=>
    JO.run j2 aEd))
noncomputable def g30:Sg tG:=⟨[.st 26,.row 68],.one .b,mS⟩
theorem s30:Sok 30 g30:=sgx [(45,.r g45),(72,.r g72),(73,.r g73),(74,.r g74)] ⟨s45,s72,s73,s74,trivial⟩ (.s .o (.s .o (.j ⟨[],[],[]⟩ (.s .o (.k (.l ⟨[1,2],[],[(.s 5,.i .i64)]⟩ (.s .o (.j ⟨[1,2,5],[],[]⟩ (.k (.s .o (.s .o (.s .o (.k (.l ⟨[1,2,5,6],[],[(.s 7,.i .i64)]⟩ (.s .o (.j ⟨[1,2,5,6,7],[],[]⟩ .o .o)))))))) .o))))) .o))) kr kr kr
noncomputable def nK (x_e:DEntry)(x_user:Bool)(x_write:Bool):Option Bool:=
 cond x_e.There
  (cond x_e.Write
   (cond x_e.User
    (some true)
    (some (!x_user)))
   (cond (!x_write)
    (cond x_e.User
     (some true)
     (some (!x_user)))
    (some false)))
  (some false)
noncomputable def bCf:Sg tG:=⟨[.st 132,.b,.b],.one .b,nK⟩
theorem bHu:Sok 113 bCf:=sgx [] trivial .o kr kr kr
noncomputable def iU (x_s:DShade)(x_addr:Int)(s2:Unit):Option (Int×Int):=some ((w64 ((w64 (x_s.Frame*(8:Int)))+(Int.tmod x_addr (8:Int)))),(0:Int))
noncomputable def dI (x_s:DShade)(x_addr:Int)(x_user:Bool)(x_write:Bool):Option (Int×Int):=
 Option.bind (nK (DEntry.mk x_s.There x_s.Write x_s.User x_s.Page) x_user x_write) λv1=>
 cond (!v1)
  (some ((-1:Int),(1:Int)))
  (cond (decide (x_s.Frame=(-1:Int)))
   (some ((-1:Int),(2:Int)))
   (Option.bind (cond x_write
    (cond (!x_s.Ready)
     (some (.out ((-1:Int),(3:Int))))
     (some (.go ())))
    (some (.go ()))) λj2=>
    JO.run j2 (iU x_s x_addr)))
noncomputable def g80:Sg tG:=⟨[.st 66,.i .i64,.b,.b],.two (.i .i64) (.i .i64),dI⟩
theorem s80:Sok 80 g80:=sgx [(113,.r bCf)] ⟨bHu,trivial⟩ (.s .o (.s .o (.s .o (.s .o (.j ⟨[1,4],[],[]⟩ .o .o))))) kr kr kr
noncomputable def rW (x_table:List DShade)(x_addr:Int)(s1:Unit):Option (Int×Int):=some ((w64 ((w64 ((List.getD x_table (Int.toNat (w64 (Int.tdiv x_addr (8:Int)))) default).Frame*(8:Int)))+(Int.tmod x_addr (8:Int)))),(0:Int))
noncomputable def lP (x_table:List DShade)(x_addr:Int)(x_user:Bool)(x_write:Bool):Option (Int×Int):=
 grd ((0:Int)<=(w64 (Int.tdiv x_addr (8:Int)))/\(w64 (Int.tdiv x_addr (8:Int)))<((List.length x_table:Nat):Int)) (Option.bind (cond (!(List.getD x_table (Int.toNat (w64 (Int.tdiv x_addr (8:Int)))) default).There)
  (some (.out ((-1:Int),(1:Int))))
  (cond x_write
   (cond (!(List.getD x_table (Int.toNat (w64 (Int.tdiv x_addr (8:Int)))) default).Write)
    (some (.out ((-1:Int),(1:Int))))
    (cond x_user
     (cond (!(List.getD x_table (Int.toNat (w64 (Int.tdiv x_addr (8:Int)))) default).User)
      (some (.out ((-1:Int),(1:Int))))
      (cond (decide ((List.getD x_table (Int.toNat (w64 (Int.tdiv x_addr (8:Int)))) default).Frame<(0:Int)))
       (some (.out ((-1:Int),(2:Int))))
       (cond x_write
        (cond (!(List.getD x_table (Int.toNat (w64 (Int.tdiv x_addr (8:Int)))) default).Ready)
         (some (.out ((-1:Int),(3:Int))))
         (some (.go ())))
        (some (.go ())))))
     (cond (decide ((List.getD x_table (Int.toNat (w64 (Int.tdiv x_addr (8:Int)))) default).Frame<(0:Int)))
      (some (.out ((-1:Int),(2:Int))))
      (cond x_write
       (cond (!(List.getD x_table (Int.toNat (w64 (Int.tdiv x_addr (8:Int)))) default).Ready)
        (some (.out ((-1:Int),(3:Int))))
        (some (.go ())))
       (some (.go ()))))))
   (cond x_user
    (cond (!(List.getD x_table (Int.toNat (w64 (Int.tdiv x_addr (8:Int)))) default).User)
     (some (.out ((-1:Int),(1:Int))))
     (cond (decide ((List.getD x_table (Int.toNat (w64 (Int.tdiv x_addr (8:Int)))) default).Frame<(0:Int)))
      (some (.out ((-1:Int),(2:Int))))
      (cond x_write
       (cond (!(List.getD x_table (Int.toNat (w64 (Int.tdiv x_addr (8:Int)))) default).Ready)
        (some (.out ((-1:Int),(3:Int))))
        (some (.go ())))
       (some (.go ())))))
    (cond (decide ((List.getD x_table (Int.toNat (w64 (Int.tdiv x_addr (8:Int)))) default).Frame<(0:Int)))
     (some (.out ((-1:Int),(2:Int))))
     (cond x_write
      (cond (!(List.getD x_table (Int.toNat (w64 (Int.tdiv x_addr (8:Int)))) default).Ready)
       (some (.out ((-1:Int),(3:Int))))
       (some (.go ())))
      (some (.go ()))))))) λj1=>
  JO.run j1 (rW x_table x_addr))
noncomputable def g83:Sg tG:=⟨[.row 66,.i .i64,.b,.b],.two (.i .i64) (.i .i64),lP⟩
theorem s83:Sok 83 g83:=sgx [] trivial (.s .o (.s .o (.j ⟨[1,10],[],[]⟩ .o .o))) kr kr kr
noncomputable def iA (x_h:DHost)(x_g:Int)(x_addr:Int)(x_user:Bool)(x_write:Bool):Option (Int×Int):=
 Option.bind (gN x_h x_g) λv1=>
 cond (!v1)
  (some ((-1:Int),(-1:Int)))
  (Option.bind (bK x_addr) λv2=>
  cond (!v2)
   (some ((-1:Int),(-1:Int)))
   (Option.bind (fP x_h x_g (w64 (Int.tdiv x_addr (8:Int)))) λv3=>
   Option.bind (dI v3 x_addr x_user x_write) λv4=>
   some (v4.1,v4.2)))
noncomputable def g35:Sg tG:=⟨[.st 26,.i .i64,.i .i64,.b,.b],.two (.i .i64) (.i .i64),iA⟩
theorem s35:Sok 35 g35:=sgx [(84,.r g84),(78,.r g78),(79,.r g79),(80,.r g80)] ⟨s84,s78,s79,s80,trivial⟩ .o kr kr kr
noncomputable def eU (x_tags:List DLine):Option (List DLine):=grd ((0:Int)<=((List.length x_tags:Nat):Int)/\((List.length x_tags:Nat):Int)*48<=2^47/\((List.length x_tags:Nat):Int)<=2^47) (some (over (List.replicate (Int.toNat ((List.length x_tags:Nat):Int)) (DLine.mk (0:Int) (0:Int) (DShade.mk false false false (0:Int) (0:Int) false))) 0 (List.length (List.replicate (Int.toNat ((List.length x_tags:Nat):Int)) (DLine.mk (0:Int) (0:Int) (DShade.mk false false false (0:Int) (0:Int) false)))) x_tags))
noncomputable def g82:Sg tG:=⟨[.row 68],.one (.row 68),eU⟩
theorem s82:Sok 82 g82:=sgx [] trivial .o kr kr kr
noncomputable def kM (x_line:DLine)(s1:List DLine):Option (List DLine):=
 Option.bind (eU s1) λv2=>
 grd ((List.length v2+List.length ([x_line]:List DLine))*48<=2^47/\List.length v2+List.length ([x_line]:List DLine)<=2^47) (some (v2++([x_line]:List DLine)))
noncomputable def kH (x_tags:List DLine)(x_line:DLine):Option (List DLine):=
 Option.bind (cond (decide (((List.length x_tags:Nat):Int)=(6:Int)))
  (grd ((0:Int)<=(1:Int)/\(1:Int)<=((List.length x_tags:Nat):Int)/\((List.length x_tags:Nat):Int)<=((List.length x_tags:Nat):Int)) (some (.go (List.take (Int.toNat ((List.length x_tags:Nat):Int)-Int.toNat (1:Int)) (List.drop (Int.toNat (1:Int)) x_tags)))))
  (some (.go x_tags))) λj1=>
  JO.run j1 (kM x_line)
noncomputable def g81:Sg tG:=⟨[.row 68,.st 68],.one (.row 68),kH⟩
theorem s81:Sok 81 g81:=sgx [(82,.r g82)] ⟨s82,trivial⟩ (.s .o (.j ⟨[3],[],[(.s 0,.rb 68)]⟩ .o .o)) kr kr kr
noncomputable def iF (x_h:DHost)(x_tags:List DLine)(x_g:Int)(x_addr:Int)(x_user:Bool)(x_write:Bool):Option ((List DLine)×Int×Int):=
 Option.bind (jR x_h x_tags) λv1=>
 cond (!v1)
  (some (([]:List DLine),(-1:Int),(-1:Int)))
  (Option.bind (fN x_h.Guests x_g) λv2=>
  cond (!v2)
   (some (([]:List DLine),(-1:Int),(-1:Int)))
   (Option.bind (bK x_addr) λv3=>
   cond (!v3)
    (some (([]:List DLine),(-1:Int),(-1:Int)))
    (Option.bind (iI x_tags x_g (w64 (Int.tdiv x_addr (8:Int)))) λv4=>
    cond (decide (v4=(-1:Int)))
     (Option.bind (fP x_h x_g (w64 (Int.tdiv x_addr (8:Int)))) λv5=>
     Option.bind (dI v5 x_addr x_user x_write) λv6=>
     Option.bind (kH x_tags (DLine.mk x_g (w64 (Int.tdiv x_addr (8:Int))) v5)) λv7=>
     some (v7,v6.1,v6.2))
     (grd ((0:Int)<=v4/\v4<((List.length x_tags:Nat):Int)) (Option.bind (dI (DShade.mk ((List.getD x_tags (Int.toNat v4) default).What).There ((List.getD x_tags (Int.toNat v4) default).What).Write ((List.getD x_tags (Int.toNat v4) default).What).User ((List.getD x_tags (Int.toNat v4) default).What).Page ((List.getD x_tags (Int.toNat v4) default).What).Frame ((List.getD x_tags (Int.toNat v4) default).What).Ready) x_addr x_user x_write) λv8=>
      Option.bind (eU x_tags) λv9=>
      some (v9,v8.1,v8.2))))))
noncomputable def g32:Sg tG:=⟨[.st 26,.row 68,.i .i64,.i .i64,.b,.b],.three (.row 68) (.i .i64) (.i .i64),iF⟩
theorem s32:Sok 32 g32:=sgx [(29,.r g29),(77,.r g77),(78,.r g78),(71,.r g71),(79,.r g79),(80,.r g80),(81,.r g81),(82,.r g82)] ⟨s29,s77,s78,s71,s79,s80,s81,s82,trivial⟩ .o kr kr kr
noncomputable def hU (x_addr:Int)(x_user:Bool)(x_write:Bool)(s5:(List DLine)×(List DShade)):Option ((List DLine)×Int×Int):=
 Option.bind (lP s5.2 x_addr x_user x_write) λv6=>
 some (s5.1,v6.1,v6.2)
noncomputable def rL (x_h:DHost)(x_tags:List DLine)(x_g:Int)(x_addr:Int)(x_user:Bool)(x_write:Bool)(s4:(List DShade)×Bool):Option ((List DLine)×Int×Int):=
 Option.bind (cond (!s4.2)
  (Option.bind (gU x_h x_g) λv7=>
  grd ((0:Int)<=(w64 (Int.tdiv x_addr (8:Int)))/\(w64 (Int.tdiv x_addr (8:Int)))<((List.length v7:Nat):Int)) (grd ((List.length (([]:List DLine)++x_tags)+List.length ([DLine.mk x_g (w64 (Int.tdiv x_addr (8:Int))) (DShade.mk (List.getD v7 (Int.toNat (w64 (Int.tdiv x_addr (8:Int)))) default).There (List.getD v7 (Int.toNat (w64 (Int.tdiv x_addr (8:Int)))) default).Write (List.getD v7 (Int.toNat (w64 (Int.tdiv x_addr (8:Int)))) default).User (List.getD v7 (Int.toNat (w64 (Int.tdiv x_addr (8:Int)))) default).Page (List.getD v7 (Int.toNat (w64 (Int.tdiv x_addr (8:Int)))) default).Frame (List.getD v7 (Int.toNat (w64 (Int.tdiv x_addr (8:Int)))) default).Ready)]:List DLine))*48<=2^47/\List.length (([]:List DLine)++x_tags)+List.length ([DLine.mk x_g (w64 (Int.tdiv x_addr (8:Int))) (DShade.mk (List.getD v7 (Int.toNat (w64 (Int.tdiv x_addr (8:Int)))) default).There (List.getD v7 (Int.toNat (w64 (Int.tdiv x_addr (8:Int)))) default).Write (List.getD v7 (Int.toNat (w64 (Int.tdiv x_addr (8:Int)))) default).User (List.getD v7 (Int.toNat (w64 (Int.tdiv x_addr (8:Int)))) default).Page (List.getD v7 (Int.toNat (w64 (Int.tdiv x_addr (8:Int)))) default).Frame (List.getD v7 (Int.toNat (w64 (Int.tdiv x_addr (8:Int)))) default).Ready)]:List DLine)<=2^47) (cond (decide ((6:Int)<((List.length ((([]:List DLine)++x_tags)++([DLine.mk x_g (w64 (Int.tdiv x_addr (8:Int))) (DShade.mk (List.getD v7 (Int.toNat (w64 (Int.tdiv x_addr (8:Int)))) default).There (List.getD v7 (Int.toNat (w64 (Int.tdiv x_addr (8:Int)))) default).Write (List.getD v7 (Int.toNat (w64 (Int.tdiv x_addr (8:Int)))) default).User (List.getD v7 (Int.toNat (w64 (Int.tdiv x_addr (8:Int)))) default).Page (List.getD v7 (Int.toNat (w64 (Int.tdiv x_addr (8:Int)))) default).Frame (List.getD v7 (Int.toNat (w64 (Int.tdiv x_addr (8:Int)))) default).Ready)]:List DLine)):Nat):Int)))
   (grd ((0:Int)<=(1:Int)/\(1:Int)<=((List.length ((([]:List DLine)++x_tags)++([DLine.mk x_g (w64 (Int.tdiv x_addr (8:Int))) (DShade.mk (List.getD v7 (Int.toNat (w64 (Int.tdiv x_addr (8:Int)))) default).There (List.getD v7 (Int.toNat (w64 (Int.tdiv x_addr (8:Int)))) default).Write (List.getD v7 (Int.toNat (w64 (Int.tdiv x_addr (8:Int)))) default).User (List.getD v7 (Int.toNat (w64 (Int.tdiv x_addr (8:Int)))) default).Page (List.getD v7 (Int.toNat (w64 (Int.tdiv x_addr (8:Int)))) default).Frame (List.getD v7 (Int.toNat (w64 (Int.tdiv x_addr (8:Int)))) default).Ready)]:List DLine)):Nat):Int)/\((List.length ((([]:List DLine)++x_tags)++([DLine.mk x_g (w64 (Int.tdiv x_addr (8:Int))) (DShade.mk (List.getD v7 (Int.toNat (w64 (Int.tdiv x_addr (8:Int)))) default).There (List.getD v7 (Int.toNat (w64 (Int.tdiv x_addr (8:Int)))) default).Write (List.getD v7 (Int.toNat (w64 (Int.tdiv x_addr (8:Int)))) default).User (List.getD v7 (Int.toNat (w64 (Int.tdiv x_addr (8:Int)))) default).Page (List.getD v7 (Int.toNat (w64 (Int.tdiv x_addr (8:Int)))) default).Frame (List.getD v7 (Int.toNat (w64 (Int.tdiv x_addr (8:Int)))) default).Ready)]:List DLine)):Nat):Int)<=((List.length ((([]:List DLine)++x_tags)++([DLine.mk x_g (w64 (Int.tdiv x_addr (8:Int))) (DShade.mk (List.getD v7 (Int.toNat (w64 (Int.tdiv x_addr (8:Int)))) default).There (List.getD v7 (Int.toNat (w64 (Int.tdiv x_addr (8:Int)))) default).Write (List.getD v7 (Int.toNat (w64 (Int.tdiv x_addr (8:Int)))) default).User (List.getD v7 (Int.toNat (w64 (Int.tdiv x_addr (8:Int)))) default).Page (List.getD v7 (Int.toNat (w64 (Int.tdiv x_addr (8:Int)))) default).Frame (List.getD v7 (Int.toNat (w64 (Int.tdiv x_addr (8:Int)))) default).Ready)]:List DLine)):Nat):Int)) (some (.go ((List.take (Int.toNat ((List.length ((([]:List DLine)++x_tags)++([DLine.mk x_g (w64 (Int.tdiv x_addr (8:Int))) (DShade.mk (List.getD v7 (Int.toNat (w64 (Int.tdiv x_addr (8:Int)))) default).There (List.getD v7 (Int.toNat (w64 (Int.tdiv x_addr (8:Int)))) default).Write (List.getD v7 (Int.toNat (w64 (Int.tdiv x_addr (8:Int)))) default).User (List.getD v7 (Int.toNat (w64 (Int.tdiv x_addr (8:Int)))) default).Page (List.getD v7 (Int.toNat (w64 (Int.tdiv x_addr (8:Int)))) default).Frame (List.getD v7 (Int.toNat (w64 (Int.tdiv x_addr (8:Int)))) default).Ready)]:List DLine)):Nat):Int)-Int.toNat (1:Int)) (List.drop 1 ((([]:List DLine)++x_tags)++([DLine.mk x_g (w64 (Int.tdiv x_addr (8:Int))) (DShade.mk (List.getD v7 (Int.toNat (w64 (Int.tdiv x_addr (8:Int)))) default).There (List.getD v7 (Int.toNat (w64 (Int.tdiv x_addr (8:Int)))) default).Write (List.getD v7 (Int.toNat (w64 (Int.tdiv x_addr (8:Int)))) default).User (List.getD v7 (Int.toNat (w64 (Int.tdiv x_addr (8:Int)))) default).Page (List.getD v7 (Int.toNat (w64 (Int.tdiv x_addr (8:Int)))) default).Frame (List.getD v7 (Int.toNat (w64 (Int.tdiv x_addr (8:Int)))) default).Ready)]:List DLine)))),v7))))
   (some (.go (((([]:List DLine)++x_tags)++([DLine.mk x_g (w64 (Int.tdiv x_addr (8:Int))) (DShade.mk (List.getD v7 (Int.toNat (w64 (Int.tdiv x_addr (8:Int)))) default).There (List.getD v7 (Int.toNat (w64 (Int.tdiv x_addr (8:Int)))) default).Write (List.getD v7 (Int.toNat (w64 (Int.tdiv x_addr (8:Int)))) default).User (List.getD v7 (Int.toNat (w64 (Int.tdiv x_addr (8:Int)))) default).Page (List.getD v7 (Int.toNat (w64 (Int.tdiv x_addr (8:Int)))) default).Frame (List.getD v7 (Int.toNat (w64 (Int.tdiv x_addr (8:Int)))) default).Ready)]:List DLine)),v7))))))
  (some (.go ((([]:List DLine)++x_tags),s4.1)))) λj5=>
  JO.run j5 (hU x_addr x_user x_write)
noncomputable def iD (s8:(List DShade)×Bool×Int)(s9:(List DShade)×Bool):Option (LO ((List DShade)×Bool×Int) (JO ((List DShade)×Bool) ((List DLine)×Int×Int))):=some (.next (s9.1,s9.2,w64 (s8.2.2+(1:Int))))
noncomputable def iB (x_tags:List DLine)(x_g:Int)(x_addr:Int)(s8:(List DShade)×Bool×Int):Option (LO ((List DShade)×Bool×Int) (JO ((List DShade)×Bool) ((List DLine)×Int×Int))):=
 cond (decide (s8.2.2<((List.length x_tags:Nat):Int)))
  (Option.bind (grd ((0:Int)<=s8.2.2/\s8.2.2<((List.length x_tags:Nat):Int)) (cond (decide ((List.getD x_tags (Int.toNat s8.2.2) default).Tag=x_g))
   (grd ((0:Int)<=s8.2.2/\s8.2.2<((List.length x_tags:Nat):Int)) (cond (decide ((List.getD x_tags (Int.toNat s8.2.2) default).At=(w64 (Int.tdiv x_addr (8:Int)))))
    (grd ((0:Int)<=s8.2.2/\s8.2.2<((List.length x_tags:Nat):Int)) (grd ((0:Int)<=(w64 (Int.tdiv x_addr (8:Int)))/\(w64 (Int.tdiv x_addr (8:Int)))<((List.length s8.1:Nat):Int)) (some (.go ((List.set s8.1 (Int.toNat (w64 (Int.tdiv x_addr (8:Int)))) (DShade.mk ((List.getD x_tags (Int.toNat s8.2.2) default).What).There ((List.getD x_tags (Int.toNat s8.2.2) default).What).Write ((List.getD x_tags (Int.toNat s8.2.2) default).What).User ((List.getD x_tags (Int.toNat s8.2.2) default).What).Page ((List.getD x_tags (Int.toNat s8.2.2) default).What).Frame ((List.getD x_tags (Int.toNat s8.2.2) default).What).Ready)),true)))))
    (some (.go (s8.1,s8.2.1)))))
   (some (.go (s8.1,s8.2.1))))) λj9=>
   JO.run j9 (iD s8))
  (some (.ret (.go (s8.1,s8.2.1))))
noncomputable def iP (x_h:DHost)(x_tags:List DLine)(x_g:Int)(x_addr:Int)(x_user:Bool)(x_write:Bool):Option ((List DLine)×Int×Int):=
 Option.bind (mS x_h x_tags) λv1=>
 cond (!v1)
  (some (([]:List DLine),(-1:Int),(-1:Int)))
  (Option.bind (gG x_h x_g) λv2=>
  cond (!v2)
   (some (([]:List DLine),(-1:Int),(-1:Int)))
   (Option.bind (bM x_addr (0:Int) (63:Int)) λv3=>
   cond (!v3)
    (some (([]:List DLine),(-1:Int),(-1:Int)))
    (grd ((List.length ([]:List DLine)+List.length x_tags)*48<=2^47/\List.length ([]:List DLine)+List.length x_tags<=2^47) (Option.bind (Option.bind (iter (iB x_tags x_g x_addr) ((List.replicate (Int.toNat (8:Int)) (DShade.mk false false false (0:Int) (0:Int) false)),false,(0:Int))) LO.val) λj4=>
     JO.run j4 (rL x_h x_tags x_g x_addr x_user x_write)))))
noncomputable def g33:Sg tG:=⟨[.st 26,.row 68,.i .i64,.i .i64,.b,.b],.three (.row 68) (.i .i64) (.i .i64),iP⟩
theorem s33:Sok 33 g33:=sgx [(30,.r g30),(72,.r g72),(73,.r g73),(74,.r g74),(83,.r g83)] ⟨s30,s72,s73,s74,s83,trivial⟩ (.s .o (.s .o (.s .o (.s .o (.s .o (.s .o (.j ⟨[2,3,4,5,6,15],[],[(.s 16,.ro 66),(.s 17,.b)]⟩ (.s .o (.k (.l ⟨[1,2,3,4,5,6,15],[],[(.s 16,.ro 66),(.s 17,.b),(.s 18,.i .i64)]⟩ (.s .o (.j ⟨[1,2,3,4,5,6,15,18],[],[(.s 16,.ro 66),(.s 17,.b)]⟩ .o .o))))) (.j ⟨[3,4,5],[],[(.s 15,.ro 68),(.s 16,.ro 66)]⟩ (.s .o (.c (.s .o (.s .o (.s .o (.c (.g [] [] [.ct 15]) .o)))) .o)) .o)))))))) kr kr kr
noncomputable def tL  (s1:List Int):Option (List Int):=some s1
noncomputable def tX (s2:(List Int)×Int)(s3:List Int):Option (LO ((List Int)×Int) (JO (List Int) (List Int))):=some (.next (s3,w64 (s2.2+(1:Int))))
noncomputable def nI (s4:(List Int)×Int)(s5:List Int):Option (LO ((List Int)×Int) (JO (List Int) (LO ((List Int)×Int) (JO (List Int) (List Int))))):=some (.next (s5,w64 (s4.2+(1:Int))))
noncomputable def fU (x_h:DHost)(s2:(List Int)×Int)(s4:(List Int)×Int):Option (LO ((List Int)×Int) (JO (List Int) (LO ((List Int)×Int) (JO (List Int) (List Int))))):=
 grd ((0:Int)<=s2.2/\s2.2<((List.length x_h.Guests:Nat):Int)) (cond (decide (s4.2<((List.length (List.getD x_h.Guests (Int.toNat s2.2) default).Pages:Nat):Int)))
  (Option.bind (grd ((0:Int)<=s2.2/\s2.2<((List.length x_h.Guests:Nat):Int)) (grd ((0:Int)<=s4.2/\s4.2<((List.length (List.getD x_h.Guests (Int.toNat s2.2) default).Pages:Nat):Int)) (cond (decide ((0:Int)<=(List.getD (List.getD x_h.Guests (Int.toNat s2.2) default).Pages (Int.toNat s4.2) default).Frame))
   (grd ((0:Int)<=(List.getD (List.getD x_h.Guests (Int.toNat s2.2) default).Pages (Int.toNat s4.2) default).Frame/\(List.getD (List.getD x_h.Guests (Int.toNat s2.2) default).Pages (Int.toNat s4.2) default).Frame<((List.length s4.1:Nat):Int)) (grd ((0:Int)<=(List.getD (List.getD x_h.Guests (Int.toNat s2.2) default).Pages (Int.toNat s4.2) default).Frame/\(List.getD (List.getD x_h.Guests (Int.toNat s2.2) default).Pages (Int.toNat s4.2) default).Frame<((List.length s4.1:Nat):Int)) (some (.go (List.set s4.1 (Int.toNat (List.getD (List.getD x_h.Guests (Int.toNat s2.2) default).Pages (Int.toNat s4.2) default).Frame) (w64 ((List.getD s4.1 (Int.toNat (List.getD (List.getD x_h.Guests (Int.toNat s2.2) default).Pages (Int.toNat s4.2) default).Frame) default)+(1:Int))))))))
   (some (.go s4.1))))) λj5=>
   JO.run j5 (nI s4))
  (some (.ret (.go s4.1))))
noncomputable def jB (x_h:DHost)(s2:(List Int)×Int):Option (LO ((List Int)×Int) (JO (List Int) (List Int))):=
 cond (decide (s2.2<((List.length x_h.Guests:Nat):Int)))
  (Option.bind (Option.bind (iter (fU x_h s2) (s2.1,(0:Int))) LO.val) λj3=>
   JO.run j3 (tX s2))
  (some (.ret (.go s2.1)))
noncomputable def jP (x_h:DHost):Option (List Int):=
 Option.bind (Option.bind (iter (jB x_h) ((List.replicate (Int.toNat (20:Int)) (0:Int)),(0:Int))) LO.val) λj1=>
  JO.run j1 tL
noncomputable def g47:Sg tG:=⟨[.st 26],.one (.row 3),jP⟩
theorem s47:Sok 47 g47:=sgx [] trivial (.s .o (.s .o (.j ⟨[],[],[(.s 3,.ro 3)]⟩ (.s .o (.k (.l ⟨[1],[],[(.s 3,.ro 3),(.s 4,.i .i64)]⟩ (.s .o (.j ⟨[1,4],[],[(.s 3,.ro 3)]⟩ (.k (.s .o (.k (.l ⟨[1,4],[],[(.s 3,.ro 3),(.s 5,.i .i64)]⟩ (.s .o (.j ⟨[1,4,5],[],[(.s 3,.ro 3)]⟩ .o .o)))))) .o))))) .o))) kr kr kr
noncomputable def zM  (s3:List Int):Option (List Int):=some s3
noncomputable def qP (s4:(List Int)×Int)(s5:List Int):Option (LO ((List Int)×Int) (JO (List Int) (List Int))):=some (.next (s5,w64 (s4.2+(1:Int))))
noncomputable def hC (v2:List Int)(s4:(List Int)×Int):Option (LO ((List Int)×Int) (JO (List Int) (List Int))):=
 cond (decide (s4.2<(20:Int)))
  (Option.bind (grd ((0:Int)<=s4.2/\s4.2<((List.length v2:Nat):Int)) (cond (decide ((List.getD v2 (Int.toNat s4.2) default)=(0:Int)))
   (grd ((List.length s4.1+List.length ([s4.2]:List Int))*8<=2^47/\List.length s4.1+List.length ([s4.2]:List Int)<=2^47) (some (.go (s4.1++([s4.2]:List Int)))))
   (some (.go s4.1)))) λj5=>
   JO.run j5 (qP s4))
  (some (.ret (.go s4.1)))
noncomputable def kD (x_h:DHost):Option (List Int):=
 Option.bind (fB x_h) λv1=>
 cond (!v1)
  (some ([]:List Int))
  (Option.bind (jP x_h) λv2=>
  Option.bind (Option.bind (iter (hC v2) (([]:List Int),(0:Int))) LO.val) λj3=>
   JO.run j3 zM)
noncomputable def g85:Sg tG:=⟨[.st 26],.one (.row 3),kD⟩
theorem s85:Sok 85 g85:=sgx [(45,.r g45),(47,.r g47)] ⟨s45,s47,trivial⟩ (.s .o (.s .o (.s .o (.s .o (.j ⟨[],[],[(.s 3,.ro 3)]⟩ (.s .o (.k (.l ⟨[4],[],[(.s 3,.ro 3),(.s 5,.i .i64)]⟩ (.s .o (.j ⟨[4,5],[],[(.s 3,.ro 3)]⟩ .o .o))))) .o))))) kr kr kr
noncomputable def qK (x_b:DBare)(v3:DHost)(s4:Int)(v6:DCore)(s7:(List Int)×(List DSlot)):Option (DHost×Int×Bool):=
 cond (decide (s4<(0:Int)))
  (some ((DHost.mk ([]:List Int) ([]:List DGuest)),(-1:Int),false))
  (grd ((0:Int)<=s4/\s4<((List.length v3.Guests:Nat):Int)) (some ((DHost.mk s7.1 (List.set v3.Guests (Int.toNat s4) (DGuest.mk true v6 s7.2 x_b.In x_b.Out))),s4,true)))
noncomputable def lD (s8:(List Int)×(List Int)×(List DSlot)×Int)(s9:(List Int)×(List Int)×(List DSlot)):Option (LO ((List Int)×(List Int)×(List DSlot)×Int) (JO ((List Int)×(List DSlot)) (DHost×Int×Bool))):=some (.next (s9.1,s9.2.1,s9.2.2,w64 (s8.2.2.2+(1:Int))))
noncomputable def oZ (x_b:DBare)(s8:(List Int)×(List Int)×(List DSlot)×Int)(s10:Bool):Option (JO ((List Int)×(List Int)×(List DSlot)) (LO ((List Int)×(List Int)×(List DSlot)×Int) (JO ((List Int)×(List DSlot)) (DHost×Int×Bool)))):=
 cond s10
  (grd ((List.length s8.2.2.1+List.length ([DSlot.mk (-1:Int) false false]:List DSlot))*16<=2^47/\List.length s8.2.2.1+List.length ([DSlot.mk (-1:Int) false false]:List DSlot)<=2^47) (some (.go (s8.1,s8.2.1,s8.2.2.1++([DSlot.mk (-1:Int) false false]:List DSlot)))))
  (cond (decide (((List.length s8.2.1:Nat):Int)=(0:Int)))
   (some (.out (.ret (.out ((DHost.mk ([]:List Int) ([]:List DGuest)),(-1:Int),false)))))
   (grd ((0:Int)<=(0:Int)/\(0:Int)<((List.length s8.2.1:Nat):Int)) (grd ((0:Int)<=(w64 ((List.getD s8.2.1 (Int.toNat (0:Int)) default)*(8:Int)))/\(w64 ((List.getD s8.2.1 (Int.toNat (0:Int)) default)*(8:Int)))<=((List.length s8.1:Nat):Int)/\((List.length s8.1:Nat):Int)<=((List.length s8.1:Nat):Int)) (grd ((0:Int)<=(0:Int)/\(0:Int)<((List.length s8.2.1:Nat):Int)) (grd ((List.length s8.2.2.1+List.length ([DSlot.mk (List.getD s8.2.1 (Int.toNat (0:Int)) default) true false]:List DSlot))*16<=2^47/\List.length s8.2.2.1+List.length ([DSlot.mk (List.getD s8.2.1 (Int.toNat (0:Int)) default) true false]:List DSlot)<=2^47) (grd ((0:Int)<=(1:Int)/\(1:Int)<=((List.length s8.2.1:Nat):Int)/\((List.length s8.2.1:Nat):Int)<=((List.length s8.2.1:Nat):Int)) (some (.go ((over s8.1 (Int.toNat (w64 ((List.getD s8.2.1 (Int.toNat (0:Int)) default)*(8:Int)))) (Int.toNat ((List.length s8.1:Nat):Int)-Int.toNat (w64 ((List.getD s8.2.1 (Int.toNat (0:Int)) default)*(8:Int)))) (List.take (Int.toNat (w64 ((w64 (s8.2.2.2+(1:Int)))*(8:Int)))-Int.toNat (w64 (s8.2.2.2*(8:Int)))) (List.drop (Int.toNat (w64 (s8.2.2.2*(8:Int)))) x_b.Mem))),List.take (Int.toNat ((List.length s8.2.1:Nat):Int)-Int.toNat (1:Int)) (List.drop (Int.toNat (1:Int)) s8.2.1),s8.2.2.1++([DSlot.mk (List.getD s8.2.1 (Int.toNat (0:Int)) default) true false]:List DSlot))))))))))
noncomputable def kB (s11:Bool×Int)(s12:Bool):Option (LO (Bool×Int) (JO Bool (JO ((List Int)×(List Int)×(List DSlot)) (LO ((List Int)×(List Int)×(List DSlot)×Int) (JO ((List Int)×(List DSlot)) (DHost×Int×Bool)))))):=some (.next (s12,w64 (s11.2+(1:Int))))
noncomputable def eH (x_b:DBare)(s8:(List Int)×(List Int)×(List DSlot)×Int)(s11:Bool×Int):Option (LO (Bool×Int) (JO Bool (JO ((List Int)×(List Int)×(List DSlot)) (LO ((List Int)×(List Int)×(List DSlot)×Int) (JO ((List Int)×(List DSlot)) (DHost×Int×Bool)))))):=
 cond (decide (s11.2<(8:Int)))
  (Option.bind (cond s11.1
   (grd ((0:Int)<=s11.2/\s11.2<((List.length (List.take (Int.toNat (w64 ((w64 (s8.2.2.2+(1:Int)))*(8:Int)))-Int.toNat (w64 (s8.2.2.2*(8:Int)))) (List.drop (Int.toNat (w64 (s8.2.2.2*(8:Int)))) x_b.Mem)):Nat):Int)) (some (.go (decide ((List.getD (List.take (Int.toNat (w64 ((w64 (s8.2.2.2+(1:Int)))*(8:Int)))-Int.toNat (w64 (s8.2.2.2*(8:Int)))) (List.drop (Int.toNat (w64 (s8.2.2.2*(8:Int)))) x_b.Mem)) (Int.toNat s11.2) default)=(0:Int))))))
   (some (.go false))) λj12=>
   JO.run j12 (kB s11))
  (some (.ret (.go s11.1)))
noncomputable def dU (x_b:DBare)(s4:Int)(s8:(List Int)×(List Int)×(List DSlot)×Int):Option (LO ((List Int)×(List Int)×(List DSlot)×Int) (JO ((List Int)×(List DSlot)) (DHost×Int×Bool))):=
 cond (decide (s8.2.2.2<(8:Int)))
  (cond (decide ((0:Int)<=s4))
   (Option.bind (grd ((0:Int)<=(w64 (s8.2.2.2*(8:Int)))/\(w64 (s8.2.2.2*(8:Int)))<=(w64 ((w64 (s8.2.2.2+(1:Int)))*(8:Int)))/\(w64 ((w64 (s8.2.2.2+(1:Int)))*(8:Int)))<=((List.length x_b.Mem:Nat):Int)) (Option.bind (Option.bind (iter (eH x_b s8) (true,(0:Int))) LO.val) λj10=>
    JO.run j10 (oZ x_b s8))) λj9=>
    JO.run j9 (lD s8))
   (some (.ret (.go (s8.1,s8.2.2.1)))))
  (some (.ret (.go (s8.1,s8.2.2.1))))
noncomputable def qU (x_h:DHost)(x_b:DBare)(v3:DHost)(s4:Int):Option (DHost×Int×Bool):=
 Option.bind (kD x_h) λv5=>
 Option.bind (jJ x_b.C) λv6=>
 grd (List.length x_b.In*8<=2^47/\List.length x_b.In<=2^47) (grd (List.length x_b.Out*8<=2^47/\List.length x_b.Out<=2^47) (Option.bind (Option.bind (iter (dU x_b s4) (v3.Words,v5,([]:List DSlot),(0:Int))) LO.val) λj7=>
  JO.run j7 (qK x_b v3 s4 v6)))
noncomputable def pC (s13:Int×Int)(s14:Int):Option (LO (Int×Int) (JO Int (DHost×Int×Bool))):=some (.next (s14,w64 (s13.2-(1:Int))))
noncomputable def dN (x_h:DHost)(s13:Int×Int):Option (LO (Int×Int) (JO Int (DHost×Int×Bool))):=
 cond (decide ((0:Int)<=s13.2))
  (Option.bind (grd ((0:Int)<=s13.2/\s13.2<((List.length x_h.Guests:Nat):Int)) (cond (!(List.getD x_h.Guests (Int.toNat s13.2) default).Live)
   (some (.go s13.2))
   (some (.go s13.1)))) λj14=>
   JO.run j14 (pC s13))
  (some (.ret (.go s13.1)))
noncomputable def kC (x_h:DHost)(x_b:DBare):Option (DHost×Int×Bool):=
 Option.bind (fB x_h) λv1=>
 cond (!v1)
  (some ((DHost.mk ([]:List Int) ([]:List DGuest)),(-1:Int),false))
  (Option.bind (mN x_b) λv2=>
  cond (!v2)
   (some ((DHost.mk ([]:List Int) ([]:List DGuest)),(-1:Int),false))
   (Option.bind (mT x_h) λv3=>
   Option.bind (Option.bind (iter (dN x_h) ((-1:Int),(2:Int))) LO.val) λj4=>
    JO.run j4 (qU x_h x_b v3)))
noncomputable def bCh:Sg tG:=⟨[.st 26,.st 82],.three (.st 2026) (.i .i64) .b,kC⟩
theorem bHo:Sok 107 bCh:=sgx [(45,.r g45),(133,.r bEy),(46,.r g46),(85,.r g85),(118,.r aZd)] ⟨s45,bHf,s46,s85,bEj,trivial⟩ (.s .o (.s .o (.s .o (.s .o (.j ⟨[2,3,4,7],[],[(.s 8,.i .i64)]⟩ (.s .o (.k (.l ⟨[2,3,4,7],[],[(.s 8,.i .i64),(.s 9,.i .i64)]⟩ (.s .o (.j ⟨[2,3,4,7,9],[],[(.s 8,.i .i64)]⟩ .o .o))))) (.s .o (.s (.g [.fr (.s 10) 0] [] []) (.j ⟨[4,7,8,11],[],[(.c 7 0,.ro 3),(.c 11 14,.ro 43)]⟩ (.s .o (.k (.l ⟨[3,4,7,8,11],[],[(.c 7 0,.ro 3),(.s 10,.rb 3),(.c 11 14,.ro 43),(.s 12,.i .i64)]⟩ (.s .o (.j ⟨[3,4,7,8,11,12],[],[(.c 7 0,.ro 3),(.s 10,.rb 3),(.c 11 14,.ro 43)]⟩ (.k (.s .o (.s .o (.j ⟨[3,4,7,8,10,11,12,13],[],[(.s 14,.b)]⟩ (.s .o (.k (.l ⟨[3,4,7,8,10,11,12,13],[],[(.s 14,.b),(.s 15,.i .i64)]⟩ (.s .o (.j ⟨[3,4,7,8,10,11,12,13,15],[],[(.s 14,.b)]⟩ .o .o))))) .o)))) .o))))) (.s .o (.s (.g [] [] [.fo (.c 7 1) 0]) .o)))))))))) kr kr kr
theorem aDo:LW 40 ⟨11,[.tmp 2],.seq (.reg false (rg 40 0)) (.seq (.seq (.reg false (rg 40 1)) (.cond (.t 5) (.reg false (rg 40 2)) .skip)) (.seq (.reg false (rg 40 3)) .ret))⟩:=kr
noncomputable def mA  (s1:List Int):Option Dl20Rd:=some (Dl20Rd.mk s1 (0:Int))
noncomputable def fQ (x_code:List Int):Option Dl20Rd:=
 Option.bind (cond (decide ((2000:Int)<((List.length x_code:Nat):Int)))
  (grd ((0:Int)<=(0:Int)/\(0:Int)<=(2000:Int)/\(2000:Int)<=((List.length x_code:Nat):Int)) (some (.go (List.take (Int.toNat (2000:Int)-Int.toNat (0:Int)) (List.drop (Int.toNat (0:Int)) x_code)))))
  (some (.go x_code))) λj1=>
  JO.run j1 mA
theorem aFe{x_code:List Int}{R_:Dl20Rd}(hh:fQ x_code=some R_):Inl Try.prog 40 [bo (eI .u8) x_code] [] 0 (pp 0) [(0,some ⟨109,[bo (eI .u8) R_.b,.int .i64 R_.p]⟩)] 1:=by let z3:=(0,bo (eI .u8) x_code);let z4:=(5,bb (decide ((2000:Int)<((List.length x_code:Nat):Int))));let z1:=List.drop (Int.toNat (0:Int)) x_code;let z2:=List.take (Int.toNat (2000:Int)-Int.toNat (0:Int)) z1;unfold fQ at hh;refine Inl.start aDo [0] [] (E:=sp 11 [z3]) (H1:=[]) kr kr (sy [0] [] (sp 11 [z3]) [] 0 ?_);obtain⟨j1,hh,hk1⟩:=bind_some hh;refine Aw.join (S:=(List Int)) (λs1=>sp 11 [(0,bo (eI .u8) s1)]) (λs1=>[]) 0 (λs1=>mA s1=some R_) ?_ ?_;{intro s1 hh;unfold mA at hh;refine Aw.sreg [2] [0] ?_;let q1:Root:=⟨109,[bo (eI .u8) s1,ii 0]⟩;refine yt (sp 11 [(2,pp 0)]) [(0,some q1)] 1 (Aw.ret ?_);rw[eD hh];exact aEv (r':=pp 0) kr (el [some 0] (vK (aBo dd rfl)) (hq q1 rz gY))};intro Q1 hN1 hR1 hE1;refine sy [0,5] [] (sp 11 [z3,z4]) [] 0 ?_;rcases aGl hh with⟨hb,hh⟩|⟨hb,hh⟩;{refine cF hb (Aw.skip ?_);obtain rfl:=eD hh;exact hN1 x_code _ _ _ hk1 (el [] (pN kr (ro bX aDg)) gY)};refine cT hb (Aw.oreg (yu 1 [(6,bo (eI .u8) x_code)] [] 0 ?_));obtain⟨hg6,hh⟩:=bV hh;refine ys (.slc 1 (.t 6) none (some (.c (ii 2000)))) (some 7) (aVa (c:=(eI .u8)) (xs:=x_code) (l:=(0:Int)) (h:=(2000:Int)) cC kr kr kr hg6 ?_);refine ye (sp 11 [(0,bo (eI .u8) z2),z4,(6,bo (eI .u8) x_code),(7,bo (eI .u8) z2)]) [] 0 ?_;obtain rfl:=eD hh;exact hN1 z2 _ _ _ hk1 (el [] (pN kr (ro bX aDg)) gY)
noncomputable def g40:So tG:=⟨[.row 5],109,fQ⟩
theorem s40:Sop 40 g40:=λx_code R_ hh=>kc (aFe (x_code:=x_code) hh)
noncomputable def aA (x_r:Dl20Rd)(x_n:Int):Option (Dl20Rd×Int):=
 cond (decide (x_n<(1:Int)))
  (some ((Dl20Rd.mk x_r.b (w64 (x_r.p+(1:Int)))),(0:Int)))
  (cond (decide (((List.length x_r.b:Nat):Int)=(0:Int)))
   (some ((Dl20Rd.mk x_r.b (w64 (x_r.p+(1:Int)))),(0:Int)))
   (cond (decide ((w64 ((w64 (x_r.p+(1:Int)))-(1:Int)))<((List.length x_r.b:Nat):Int)))
    (grd ((0:Int)<=(w64 ((w64 (x_r.p+(1:Int)))-(1:Int)))/\(w64 ((w64 (x_r.p+(1:Int)))-(1:Int)))<((List.length x_r.b:Nat):Int)) (grd (x_n≠0) (some ((Dl20Rd.mk x_r.b (w64 (x_r.p+(1:Int)))),Int.tmod (IntKind.wrap .i64 (List.getD x_r.b (Int.toNat (w64 ((w64 (x_r.p+(1:Int)))-(1:Int)))) default)) x_n))))
    (grd (((List.length x_r.b:Nat):Int)≠0) (grd ((0:Int)<=(Int.tmod (w64 ((w64 (x_r.p+(1:Int)))-(1:Int))) ((List.length x_r.b:Nat):Int))/\(Int.tmod (w64 ((w64 (x_r.p+(1:Int)))-(1:Int))) ((List.length x_r.b:Nat):Int))<((List.length x_r.b:Nat):Int)) (grd (((List.length x_r.b:Nat):Int)≠0) (grd ((0:Int)<=(Int.tmod (w64 ((w64 ((w64 ((w64 (x_r.p+(1:Int)))-(1:Int)))*(7:Int)))+(3:Int))) ((List.length x_r.b:Nat):Int))/\(Int.tmod (w64 ((w64 ((w64 ((w64 (x_r.p+(1:Int)))-(1:Int)))*(7:Int)))+(3:Int))) ((List.length x_r.b:Nat):Int))<((List.length x_r.b:Nat):Int)) (grd (((List.length x_r.b:Nat):Int)≠0) (grd (x_n≠0) (some ((Dl20Rd.mk x_r.b (w64 (x_r.p+(1:Int)))),Int.tmod (bits .xor .i64 (w64 ((w64 ((w64 ((w64 ((IntKind.wrap .i64 (List.getD x_r.b (Int.toNat (Int.tmod (w64 ((w64 (x_r.p+(1:Int)))-(1:Int))) ((List.length x_r.b:Nat):Int))) default))*(131:Int)))+(w64 ((IntKind.wrap .i64 (List.getD x_r.b (Int.toNat (Int.tmod (w64 ((w64 ((w64 ((w64 (x_r.p+(1:Int)))-(1:Int)))*(7:Int)))+(3:Int))) ((List.length x_r.b:Nat):Int))) default))*(1117:Int)))))+(w64 ((w64 ((w64 (x_r.p+(1:Int)))-(1:Int)))*(29:Int)))))+(w64 ((w64 (Int.tdiv (w64 ((w64 (x_r.p+(1:Int)))-(1:Int))) ((List.length x_r.b:Nat):Int)))*(53:Int))))) (w64 (Int.tdiv (w64 ((w64 ((w64 ((w64 ((IntKind.wrap .i64 (List.getD x_r.b (Int.toNat (Int.tmod (w64 ((w64 (x_r.p+(1:Int)))-(1:Int))) ((List.length x_r.b:Nat):Int))) default))*(131:Int)))+(w64 ((IntKind.wrap .i64 (List.getD x_r.b (Int.toNat (Int.tmod (w64 ((w64 ((w64 ((w64 (x_r.p+(1:Int)))-(1:Int)))*(7:Int)))+(3:Int))) ((List.length x_r.b:Nat):Int))) default))*(1117:Int)))))+(w64 ((w64 ((w64 (x_r.p+(1:Int)))-(1:Int)))*(29:Int)))))+(w64 ((w64 (Int.tdiv (w64 ((w64 (x_r.p+(1:Int)))-(1:Int))) ((List.length x_r.b:Nat):Int)))*(53:Int))))) (64:Int)))) x_n))))))))))
noncomputable def g76:Sw tG:=⟨[.pt 109,.v (.i .i64)],.one (.i .i64),aA⟩
theorem s76:Sjk 76 g76:=sgy [] trivial .o kr kr kr
noncomputable def cA (x_r:Dl20Rd):Option (Dl20Rd×Int):=
 Option.bind (aA x_r (16:Int)) λv1=>
 Option.bind (aA v1.1 (256:Int)) λv2=>
 some (v2.1,w64 ((w64 (v1.2*(256:Int)))+v2.2))
noncomputable def aNh:Sw tG:=⟨[.pt 109],.one (.i .i64),cA⟩
theorem aSs:Sjk 105 aNh:=sgy [(76,.w g76)] ⟨s76,trivial⟩ .o kr kr kr
noncomputable def bH (x_r:Dl20Rd)(x_n:Int):Option (Dl20Rd×Bool):=
 cond (decide ((0:Int)<x_n))
  (Option.bind (aA x_r x_n) λv1=>
  some (v1.1,decide (v1.2=(w64 (x_n-(1:Int))))))
  (some (x_r,false))
noncomputable def aDr:Sw tG:=⟨[.pt 109,.v (.i .i64)],.one .b,bH⟩
theorem aHr:Sjk 108 aDr:=sgy [(76,.w g76)] ⟨s76,trivial⟩ .o kr kr kr
noncomputable def yV  (s4:Int):Option Int:=some s4
noncomputable def yT (x_e:DEntry)(s3:Int):Option Int:=
 Option.bind (cond x_e.User
  (some (.go (w64 (s3+(4:Int)))))
  (some (.go s3))) λj4=>
  JO.run j4 yV
noncomputable def yW (x_e:DEntry)(s2:Int):Option Int:=
 Option.bind (cond x_e.Write
  (some (.go (w64 (s2+(2:Int)))))
  (some (.go s2))) λj3=>
  JO.run j3 (yT x_e)
noncomputable def cI (x_e:DEntry):Option Int:=
 Option.bind (bM x_e.Page (0:Int) (7:Int)) λv1=>
 cond (!v1)
  (some (-1:Int))
  (Option.bind (cond x_e.There
   (some (.go (w64 ((w64 (x_e.Page*(8:Int)))+(1:Int)))))
   (some (.go (w64 (x_e.Page*(8:Int)))))) λj2=>
   JO.run j2 (yW x_e))
noncomputable def aZj:Sg tG:=⟨[.st 132],.one (.i .i64),cI⟩
theorem bEa:Sok 141 aZj:=sgx [(73,.r g73)] ⟨s73,trivial⟩ (.s .o (.s .o (.s .o (.j ⟨[1],[],[(.s 3,.i .i64)]⟩ .o (.j ⟨[1],[],[(.s 3,.i .i64)]⟩ .o (.j ⟨[],[],[(.s 3,.i .i64)]⟩ .o .o)))))) kr kr kr
noncomputable def aDu  (s2:(List Int)×Int×(List Int)):Option (Dl20Rd×(List Int)):=some ((Dl20Rd.mk s2.1 s2.2.1),s2.2.2)
noncomputable def tA (x_n:Int)(s1:(List Int)×Int×(List Int)):Option (Dl20Rd×(List Int)):=
 Option.bind (Option.bind (bH (Dl20Rd.mk s1.1 s1.2.1) x_n) λv3=>
  cond v3.2
   (Option.bind (aA v3.1 (2:Int)) λv4=>
   cond (decide (v4.2=(0:Int)))
    (grd ((0:Int)<=(0:Int)/\(0:Int)<=(63:Int)/\(63:Int)<=((List.length s1.2.2:Nat):Int)) (some (.go (v4.1.b,v4.1.p,List.take (Int.toNat (63:Int)-Int.toNat (0:Int)) s1.2.2))))
    (Option.bind (aA v4.1 (64:Int)) λv5=>
    Option.bind (aA v5.1 (2:Int)) λv6=>
    grd ((0:Int)<=v5.2/\v5.2<((List.length s1.2.2:Nat):Int)) (some (.go (v6.1.b,v6.1.p,List.set s1.2.2 (Int.toNat v5.2) (w64 ((4096:Int)-(w64 (v6.2*(4097:Int))))))))))
   (some (.go (v3.1.b,v3.1.p,s1.2.2)))) λj2=>
  JO.run j2 aDu
noncomputable def sX (s7:(List Int)×Int×(List Int)×Int)(s9:(List Int)×Int×Int):Option (LO ((List Int)×Int×(List Int)×Int) (JO ((List Int)×Int×(List Int)) (Dl20Rd×(List Int)))):=grd ((List.length s7.2.2.1+List.length ([s9.2.2]:List Int))*8<=2^47/\List.length s7.2.2.1+List.length ([s9.2.2]:List Int)<=2^47) (some (.next (s9.1,s9.2.1,s7.2.2.1++([s9.2.2]:List Int),w64 (s7.2.2.2+(1:Int)))))
noncomputable def tI (s7:(List Int)×Int×(List Int)×Int)(s8:(List Int)×Int×Int):Option (LO ((List Int)×Int×(List Int)×Int) (JO ((List Int)×Int×(List Int)) (Dl20Rd×(List Int)))):=
 Option.bind (cond (decide ((w64 (Int.tdiv s7.2.2.2 (8:Int)))=(1:Int)))
  (Option.bind (aA (Dl20Rd.mk s8.1 s8.2.1) (5:Int)) λv10=>
  Option.bind (aA v10.1 (4:Int)) λv11=>
  Option.bind (aA v11.1 (3:Int)) λv12=>
  Option.bind (aA v12.1 (8:Int)) λv13=>
  Option.bind (cI (DEntry.mk (decide ((0:Int)<v10.2)) (decide ((0:Int)<v11.2)) (decide ((0:Int)<v12.2)) v13.2)) λv14=>
  some (.go (v13.1.b,v13.1.p,v14)))
  (cond (decide ((w64 (Int.tdiv s7.2.2.2 (8:Int)))=(2:Int)))
   (Option.bind (aA (Dl20Rd.mk s8.1 s8.2.1) (5:Int)) λv15=>
   Option.bind (aA v15.1 (4:Int)) λv16=>
   Option.bind (aA v16.1 (3:Int)) λv17=>
   Option.bind (aA v17.1 (8:Int)) λv18=>
   Option.bind (cI (DEntry.mk (decide ((0:Int)<v15.2)) (decide ((0:Int)<v16.2)) (decide ((0:Int)<v17.2)) v18.2)) λv19=>
   some (.go (v18.1.b,v18.1.p,v19)))
   (some (.go (s8.1,s8.2.1,s8.2.2))))) λj9=>
  JO.run j9 (sX s7)
noncomputable def nB  (s7:(List Int)×Int×(List Int)×Int):Option (LO ((List Int)×Int×(List Int)×Int) (JO ((List Int)×Int×(List Int)) (Dl20Rd×(List Int)))):=
 cond (decide (s7.2.2.2<(64:Int)))
  (Option.bind (Option.bind (aA (Dl20Rd.mk s7.1 s7.2.1) (2:Int)) λv20=>
   cond (decide (v20.2=(0:Int)))
    (Option.bind (cA v20.1) λv21=>
    some (.go (v21.1.b,v21.1.p,v21.2)))
    (some (.go (v20.1.b,v20.1.p,(0:Int))))) λj8=>
   JO.run j8 (tI s7))
  (some (.ret (.go (s7.1,s7.2.1,s7.2.2.1))))
noncomputable def jQ (x_r:Dl20Rd)(x_n:Int):Option (Dl20Rd×(List Int)):=
 Option.bind (Option.bind (iter nB (x_r.b,x_r.p,([]:List Int),(0:Int))) LO.val) λj1=>
  JO.run j1 (tA x_n)
noncomputable def aXi:Sw tG:=⟨[.pt 109,.v (.i .i64)],.one (.row 3),jQ⟩
theorem bFn:Sjk 132 aXi:=sgy [(76,.w g76),(105,.w aNh),(141,.r aZj),(108,.w aDr)] ⟨s76,aSs,bEa,aHr,trivial⟩ (.s .o (.s .o (.j ⟨[0,1],[],[(.c 0 0,.rb 5),(.c 0 1,.i .i64),(.s 5,.ro 3)]⟩ (.s .o (.k (.l ⟨[0,1],[],[(.c 0 0,.rb 5),(.c 0 1,.i .i64),(.s 5,.ro 3),(.s 6,.i .i64)]⟩ (.s .o (.s (.k (.s .o (.j ⟨[0,1,5,6],[],[(.c 0 0,.rb 5),(.c 0 1,.i .i64),(.s 7,.i .i64)]⟩ .o (.j ⟨[0,1,5,6],[],[(.c 0 0,.rb 5),(.c 0 1,.i .i64),(.s 7,.i .i64)]⟩ .o .o)))) .o))))) (.j ⟨[],[0],[(.d 0 0,.rb 5),(.d 0 1,.i .i64),(.s 5,.ro 3)]⟩ .o .o)))) kr kr kr
noncomputable def iK:Option Bool:=
 Option.bind (eE (5:Int)) λv1=>
 cond v1
  (Option.bind (eE (-1:Int)) λv2=>
  some (!v2))
  (some false)
noncomputable def g15:Sg tG:=⟨[],.one .b,iK⟩
theorem s15:Sok 15 g15:=sgx [(52,.r g52)] ⟨s52,trivial⟩ .o kr kr kr
noncomputable def oS (x_i:DIns):Option Bool:=
 Option.bind (bM x_i.Op (0:Int) (15:Int)) λv1=>
 cond v1
  (Option.bind (bM x_i.A (0:Int) (3:Int)) λv2=>
  cond v2
   (Option.bind (bM x_i.N (0:Int) (63:Int)) λv3=>
   some v3)
   (some false))
  (some false)
noncomputable def bCk:Sg tG:=⟨[.st 157],.one .b,oS⟩
theorem bGj:Sok 145 bCk:=sgx [(73,.r g73)] ⟨s73,trivial⟩ .o kr kr kr
noncomputable def aAt (v3:Dl20Rd×Int)(v4:Dl20Rd×Int)(v5:Dl20Rd×Int)(v6:Dl20Rd×Int)(v7:Dl20Rd×Int)(v8:Dl20Rd×Int)(v9:Dl20Rd×Int)(v10:Dl20Rd×Int)(v11:Dl20Rd×Int)(v12:Dl20Rd×Int)(v13:Dl20Rd×Int)(s15:(List Int)×Int×(List Int)×Int×Int):Option (Dl20Rd×DCore):=some ((Dl20Rd.mk s15.1 s15.2.1),DCore.mk s15.2.2.1 s15.2.2.2.1 s15.2.2.2.2 (w64 ((24:Int)+v3.2)) v4.2 (decide (v9.2=(0:Int))) v5.2 v6.2 (w64 (v7.2*v8.2)) (decide (v10.2=(0:Int))) (decide (v11.2=(0:Int))) (decide (v12.2=(0:Int))) (decide (v13.2=(0:Int))))
noncomputable def pX (x_n:Int)(v1:Dl20Rd×Int)(v2:Dl20Rd×Int)(v3:Dl20Rd×Int)(v4:Dl20Rd×Int)(v5:Dl20Rd×Int)(v6:Dl20Rd×Int)(v7:Dl20Rd×Int)(v8:Dl20Rd×Int)(v9:Dl20Rd×Int)(v10:Dl20Rd×Int)(v11:Dl20Rd×Int)(v12:Dl20Rd×Int)(v13:Dl20Rd×Int)(s14:(List Int)×Int×(List Int)):Option (Dl20Rd×DCore):=
 Option.bind (Option.bind (bH (Dl20Rd.mk s14.1 s14.2.1) x_n) λv16=>
  cond v16.2
   (Option.bind (aA v16.1 (4:Int)) λv17=>
   cond (decide (v17.2=(0:Int)))
    (grd ((0:Int)<=(0:Int)/\(0:Int)<=(3:Int)/\(3:Int)<=((List.length s14.2.2:Nat):Int)) (some (.go (v17.1.b,v17.1.p,List.take (Int.toNat (3:Int)-Int.toNat (0:Int)) s14.2.2,v1.2,List.getD ([(-1:Int),(1:Int),(2:Int)]:List Int) (Int.toNat v2.2) default))))
    (cond (decide (v17.2=(1:Int)))
     (Option.bind (aA v17.1 (2:Int)) λv18=>
     some (.go (v18.1.b,v18.1.p,s14.2.2,w64 ((64:Int)-(w64 (v18.2*(65:Int)))),List.getD ([(-1:Int),(1:Int),(2:Int)]:List Int) (Int.toNat v2.2) default)))
     (cond (decide (v17.2=(2:Int)))
      (Option.bind (aA v17.1 (2:Int)) λv19=>
      some (.go (v19.1.b,v19.1.p,s14.2.2,v1.2,w64 ((8:Int)-(w64 (v19.2*(10:Int)))))))
      (Option.bind (aA v17.1 (4:Int)) λv20=>
      grd ((0:Int)<=v20.2/\v20.2<((List.length s14.2.2:Nat):Int)) (some (.go (v20.1.b,v20.1.p,List.set s14.2.2 (Int.toNat v20.2) (-1:Int),v1.2,List.getD ([(-1:Int),(1:Int),(2:Int)]:List Int) (Int.toNat v2.2) default)))))))
   (some (.go (v16.1.b,v16.1.p,s14.2.2,v1.2,List.getD ([(-1:Int),(1:Int),(2:Int)]:List Int) (Int.toNat v2.2) default)))) λj15=>
  JO.run j15 (aAt v3 v4 v5 v6 v7 v8 v9 v10 v11 v12 v13)
noncomputable def kU  (s21:(List Int)×Int×(List Int)×Int):Option (LO ((List Int)×Int×(List Int)×Int) (JO ((List Int)×Int×(List Int)) (Dl20Rd×DCore))):=
 cond (decide (s21.2.2.2<(4:Int)))
  (Option.bind (aA (Dl20Rd.mk s21.1 s21.2.1) (64:Int)) λv22=>
  Option.bind (aA v22.1 (16:Int)) λv23=>
  Option.bind (cA v23.1) λv24=>
  Option.bind (aA v24.1 (3:Int)) λv25=>
  grd ((0:Int)<=v25.2/\v25.2<((List.length ([v22.2,v23.2,v24.2]:List Int):Nat):Int)) (grd ((List.length s21.2.2.1+List.length ([List.getD ([v22.2,v23.2,v24.2]:List Int) (Int.toNat v25.2) default]:List Int))*8<=2^47/\List.length s21.2.2.1+List.length ([List.getD ([v22.2,v23.2,v24.2]:List Int) (Int.toNat v25.2) default]:List Int)<=2^47) (some (.next (v25.1.b,v25.1.p,s21.2.2.1++([List.getD ([v22.2,v23.2,v24.2]:List Int) (Int.toNat v25.2) default]:List Int),w64 (s21.2.2.2+(1:Int)))))))
  (some (.ret (.go (s21.1,s21.2.1,s21.2.2.1))))
noncomputable def iE (x_r:Dl20Rd)(x_n:Int):Option (Dl20Rd×DCore):=
 Option.bind (aA x_r (64:Int)) λv1=>
 Option.bind (aA v1.1 (3:Int)) λv2=>
 grd ((0:Int)<=v2.2/\v2.2<((List.length ([(-1:Int),(1:Int),(2:Int)]:List Int):Nat):Int)) (Option.bind (aA v2.1 (4:Int)) λv3=>
  Option.bind (aA v3.1 (64:Int)) λv4=>
  Option.bind (aA v4.1 (5:Int)) λv5=>
  Option.bind (aA v5.1 (64:Int)) λv6=>
  Option.bind (aA v6.1 (4:Int)) λv7=>
  Option.bind (aA v7.1 (6:Int)) λv8=>
  Option.bind (aA v8.1 (2:Int)) λv9=>
  Option.bind (aA v9.1 (6:Int)) λv10=>
  Option.bind (aA v10.1 (3:Int)) λv11=>
  Option.bind (aA v11.1 (2:Int)) λv12=>
  Option.bind (aA v12.1 (25:Int)) λv13=>
  Option.bind (Option.bind (iter kU (v13.1.b,v13.1.p,([]:List Int),(0:Int))) LO.val) λj14=>
   JO.run j14 (pX x_n v1 v2 v3 v4 v5 v6 v7 v8 v9 v10 v11 v12 v13))
noncomputable def bDm:Sw tG:=⟨[.pt 109,.v (.i .i64)],.one (.st 38),iE⟩
theorem bGm:Sjk 130 bDm:=sgy [(76,.w g76),(105,.w aNh),(108,.w aDr)] ⟨s76,aSs,aHr,trivial⟩ (.s .o (.s (.m [0]) (.s .o (.s .o (.s .o (.s .o (.s .o (.j ⟨[0,1,4,5],[],[(.c 0 0,.rb 5),(.c 0 1,.i .i64),(.c 5 0,.ro 3)]⟩ (.s .o (.k (.l ⟨[0,1,4,5],[],[(.c 0 0,.rb 5),(.c 0 1,.i .i64),(.c 5 0,.ro 3),(.s 6,.i .i64)]⟩ (.s .o (.s (.k (.m [0])) .o))))) (.j ⟨[4,5],[0],[(.d 0 0,.rb 5),(.d 0 1,.i .i64),(.c 5 0,.ro 3),(.c 5 1,.i .i64),(.c 5 2,.i .i64)]⟩ (.s .o (.c (.s .o (.k (.s .o (.c .o (.s .o (.c .o (.s .o (.c .o (.m [0]))))))))) .o)) .o))))))))) kr kr kr
noncomputable def aDz  (s4:Int×(List Int)×Int×Int×Int):Option (Dl20Rd×DIns):=some ((Dl20Rd.mk s4.2.1 s4.2.2.1),DIns.mk s4.1 s4.2.2.2.1 s4.2.2.2.2)
noncomputable def mV (x_r:Dl20Rd)(x_n:Int):Option (Dl20Rd×DIns):=
 Option.bind (aA x_r (16:Int)) λv1=>
 Option.bind (aA v1.1 (4:Int)) λv2=>
 Option.bind (aA v2.1 (64:Int)) λv3=>
 Option.bind (Option.bind (bH v3.1 x_n) λv5=>
  cond v5.2
   (Option.bind (aA v5.1 (3:Int)) λv6=>
   cond (decide (v6.2=(0:Int)))
    (Option.bind (aA v6.1 (2:Int)) λv7=>
    some (.go ((w64 ((16:Int)-(w64 (v7.2*(17:Int))))),v7.1.b,v7.1.p,v2.2,v3.2)))
    (cond (decide (v6.2=(1:Int)))
     (some (.go (v1.2,v6.1.b,v6.1.p,(4:Int),v3.2)))
     (Option.bind (aA v6.1 (2:Int)) λv8=>
     some (.go (v1.2,v8.1.b,v8.1.p,v2.2,w64 ((64:Int)-(w64 (v8.2*(65:Int)))))))))
   (some (.go (v1.2,v5.1.b,v5.1.p,v2.2,v3.2)))) λj4=>
  JO.run j4 aDz
noncomputable def bDc:Sw tG:=⟨[.pt 109,.v (.i .i64)],.one (.st 157),mV⟩
theorem bHa:Sjk 142 bDc:=sgy [(76,.w g76),(108,.w aDr)] ⟨s76,aHr,trivial⟩ (.s .o (.s .o (.j ⟨[4,5],[0],[(.c 5 0,.i .i64),(.d 0 0,.rb 5),(.d 0 1,.i .i64),(.c 5 1,.i .i64),(.c 5 2,.i .i64)]⟩ .o .o))) kr kr kr
noncomputable def lF (x_i:DIns):Option Int:=
 Option.bind (oS x_i) λv1=>
 cond (!v1)
  (some (-1:Int))
  (some (w64 ((w64 ((w64 (x_i.Op*(256:Int)))+(w64 (x_i.A*(64:Int)))))+x_i.N)))
noncomputable def bEf:Sg tG:=⟨[.st 157],.one (.i .i64),lF⟩
theorem bGn:Sok 143 bEf:=sgx [(145,.r bCk)] ⟨bGj,trivial⟩ .o kr kr kr
noncomputable def rZ  (s2:(List Int)×(List Int)×Int):Option (Dl20Rd×(List Int)):=some ((Dl20Rd.mk s2.2.1 s2.2.2),s2.1)
noncomputable def rT (s3:(List Int)×Int×(List Int)×Int)(s4:(List Int)×Int×(List Int)):Option (LO ((List Int)×Int×(List Int)×Int) (JO ((List Int)×(List Int)×Int) (Dl20Rd×(List Int)))):=some (.next (s4.1,s4.2.1,s4.2.2,w64 (s3.2.2.2+(1:Int))))
noncomputable def qD (s3:(List Int)×Int×(List Int)×Int)(v11:Dl20Rd×DIns)(s13:(List Int)×Int×Int):Option (JO ((List Int)×Int×(List Int)) (LO ((List Int)×Int×(List Int)×Int) (JO ((List Int)×(List Int)×Int) (Dl20Rd×(List Int))))):=
 Option.bind (lF (DIns.mk s13.2.2 v11.2.A v11.2.N)) λv14=>
 grd ((0:Int)<=s3.2.2.2/\s3.2.2.2<((List.length s3.2.2.1:Nat):Int)) (some (.go (s13.1,s13.2.1,List.set s3.2.2.1 (Int.toNat s3.2.2.2) v14)))
noncomputable def qQ (s3:(List Int)×Int×(List Int)×Int)(v11:Dl20Rd×DIns)(s12:(List Int)×Int×Int):Option (JO ((List Int)×Int×(List Int)) (LO ((List Int)×Int×(List Int)×Int) (JO ((List Int)×(List Int)×Int) (Dl20Rd×(List Int))))):=
 Option.bind (cond (decide (s12.2.2=(0:Int)))
  (Option.bind (aA (Dl20Rd.mk s12.1 s12.2.1) (4:Int)) λv15=>
  cond (decide ((0:Int)<v15.2))
   (some (.go (v15.1.b,v15.1.p,(1:Int))))
   (some (.go (v15.1.b,v15.1.p,s12.2.2))))
  (some (.go (s12.1,s12.2.1,s12.2.2)))) λj13=>
  JO.run j13 (qD s3 v11)
noncomputable def rR (s3:(List Int)×Int×(List Int)×Int)(s5:Bool):Option (JO ((List Int)×Int×(List Int)) (LO ((List Int)×Int×(List Int)×Int) (JO ((List Int)×(List Int)×Int) (Dl20Rd×(List Int))))):=
 cond s5
  (Option.bind (aA (Dl20Rd.mk s3.1 s3.2.1) (3:Int)) λv6=>
  cond (decide ((0:Int)<v6.2))
   (Option.bind (aA v6.1 (8:Int)) λv7=>
   Option.bind (aA v7.1 (4:Int)) λv8=>
   Option.bind (aA v8.1 (3:Int)) λv9=>
   Option.bind (cI (DEntry.mk (decide ((0:Int)<v7.2)) (decide ((0:Int)<v8.2)) (decide ((0:Int)<v9.2)) (Int.tmod s3.2.2.2 (8:Int)))) λv10=>
   grd ((0:Int)<=s3.2.2.2/\s3.2.2.2<((List.length s3.2.2.1:Nat):Int)) (some (.go (v9.1.b,v9.1.p,List.set s3.2.2.1 (Int.toNat s3.2.2.2) v10))))
   (some (.go (v6.1.b,v6.1.p,s3.2.2.1))))
  (Option.bind (mV (Dl20Rd.mk s3.1 s3.2.1) (0:Int)) λv11=>
  Option.bind (Option.bind (aA v11.1 (2:Int)) λv16=>
   cond (decide (v16.2=(0:Int)))
    (Option.bind (aA v16.1 (10:Int)) λv17=>
    grd ((0:Int)<=v17.2/\v17.2<((10:Nat):Int)) (some (.go (v17.1.b,v17.1.p,List.getD ([(1:Int),(2:Int),(3:Int),(4:Int),(3:Int),(4:Int),(6:Int),(7:Int),(11:Int),(15:Int)]:List Int) (Int.toNat v17.2) default))))
    (some (.go (v16.1.b,v16.1.p,v11.2.Op)))) λj12=>
   JO.run j12 (qQ s3 v11))
noncomputable def mJ  (s3:(List Int)×Int×(List Int)×Int):Option (LO ((List Int)×Int×(List Int)×Int) (JO ((List Int)×(List Int)×Int) (Dl20Rd×(List Int)))):=
 cond (decide (s3.2.2.2<((List.length s3.2.2.1:Nat):Int)))
  (Option.bind (Option.bind (cond (decide ((w64 (Int.tdiv s3.2.2.2 (8:Int)))=(1:Int)))
   (some (.go (decide ((w64 (Int.tdiv s3.2.2.2 (8:Int)))=(1:Int)))))
   (some (.go (decide ((w64 (Int.tdiv s3.2.2.2 (8:Int)))=(2:Int)))))) λj5=>
   JO.run j5 (rR s3)) λj4=>
   JO.run j4 (rT s3))
  (some (.ret (.go (s3.2.2.1,s3.1,s3.2.1))))
noncomputable def lJ (x_r:Dl20Rd):Option (Dl20Rd×(List Int)):=
 Option.bind (jQ x_r (0:Int)) λv1=>
 Option.bind (Option.bind (iter mJ (v1.1.b,v1.1.p,v1.2,(0:Int))) LO.val) λj2=>
  JO.run j2 rZ
noncomputable def bEn:Sw tG:=⟨[.pt 109],.one (.row 3),lJ⟩
theorem bHw:Sjk 131 bEn:=sgy [(132,.w aXi),(76,.w g76),(141,.r aZj),(142,.w bDc),(143,.r bEf)] ⟨bFn,s76,bEa,bHa,bGn,trivial⟩ (.s .o (.s .o (.j ⟨[],[0],[(.s 3,.ro 3),(.d 0 0,.rb 5),(.d 0 1,.i .i64)]⟩ (.s .o (.k (.l ⟨[0],[],[(.c 0 0,.rb 5),(.c 0 1,.i .i64),(.s 3,.ro 3),(.s 4,.i .i64)]⟩ (.s .o (.j ⟨[0,4],[],[(.c 0 0,.rb 5),(.c 0 1,.i .i64),(.s 3,.ro 3)]⟩ (.k (.s .o (.k (.j ⟨[0,3,4],[],[(.s 41,.b)]⟩ .o (.c .o (.s .o (.j ⟨[0,3,4,5],[],[(.c 0 0,.rb 5),(.c 0 1,.i .i64),(.c 5 0,.i .i64)]⟩ .o (.j ⟨[0,3,4,5],[],[(.c 0 0,.rb 5),(.c 0 1,.i .i64),(.c 5 0,.i .i64)]⟩ .o .o)))))))) .o))))) .o))) kr kr kr
noncomputable def aBw (s4:(List Int)×Int×(List Int))(s5:(List Int)×Int×Int×Int×Int×Bool×Int×Int×Int×Bool×Bool×Bool×Bool×(List Int)×Int×(List Int)×(List Int)):Option (Dl20Rd×DBare):=some ((Dl20Rd.mk s5.2.2.2.2.2.2.2.2.2.2.2.2.2.1 s5.2.2.2.2.2.2.2.2.2.2.2.2.2.2.1),DBare.mk (DCore.mk s5.1 s5.2.1 s5.2.2.1 s5.2.2.2.1 s5.2.2.2.2.1 s5.2.2.2.2.2.1 s5.2.2.2.2.2.2.1 s5.2.2.2.2.2.2.2.1 s5.2.2.2.2.2.2.2.2.1 s5.2.2.2.2.2.2.2.2.2.1 s5.2.2.2.2.2.2.2.2.2.2.1 s5.2.2.2.2.2.2.2.2.2.2.2.1 s5.2.2.2.2.2.2.2.2.2.2.2.2.1) s5.2.2.2.2.2.2.2.2.2.2.2.2.2.2.2.1 s5.2.2.2.2.2.2.2.2.2.2.2.2.2.2.2.2 s4.2.2)
noncomputable def rP (x_n:Int)(v1:Dl20Rd×DCore)(v2:Dl20Rd×(List Int))(s3:(List Int)×Int×(List Int))(s4:(List Int)×Int×(List Int)):Option (Dl20Rd×DBare):=
 Option.bind (Option.bind (bH (Dl20Rd.mk s4.1 s4.2.1) x_n) λv6=>
  cond v6.2
   (Option.bind (aA v6.1 (3:Int)) λv7=>
   cond (decide (v7.2=(0:Int)))
    (Option.bind (iE v7.1 (1:Int)) λv8=>
    some (.go (v8.2.Regs,v8.2.Pc,v8.2.Root,v8.2.Vector,v8.2.Saved,v8.2.SavedUser,v8.2.Cause,v8.2.Bad,v8.2.Timer,v8.2.Waits,v8.2.User,v8.2.On,v8.2.Stopped,v8.1.b,v8.1.p,v2.2,s3.2.2)))
    (cond (decide (v7.2=(1:Int)))
     (Option.bind (jQ v7.1 (1:Int)) λv9=>
     some (.go (v1.2.Regs,v1.2.Pc,v1.2.Root,v1.2.Vector,v1.2.Saved,v1.2.SavedUser,v1.2.Cause,v1.2.Bad,v1.2.Timer,v1.2.Waits,v1.2.User,v1.2.On,v1.2.Stopped,v9.1.b,v9.1.p,v9.2,s3.2.2)))
     (some (.go (v1.2.Regs,v1.2.Pc,v1.2.Root,v1.2.Vector,v1.2.Saved,v1.2.SavedUser,v1.2.Cause,v1.2.Bad,v1.2.Timer,v1.2.Waits,v1.2.User,v1.2.On,v1.2.Stopped,v7.1.b,v7.1.p,v2.2,List.replicate (Int.toNat (31:Int)) (0:Int))))))
   (some (.go (v1.2.Regs,v1.2.Pc,v1.2.Root,v1.2.Vector,v1.2.Saved,v1.2.SavedUser,v1.2.Cause,v1.2.Bad,v1.2.Timer,v1.2.Waits,v1.2.User,v1.2.On,v1.2.Stopped,v6.1.b,v6.1.p,v2.2,s3.2.2)))) λj5=>
  JO.run j5 (aBw s4)
noncomputable def qL  (s11:(List Int)×Int×(List Int)×Int):Option (LO ((List Int)×Int×(List Int)×Int) (JO ((List Int)×Int×(List Int)) (Dl20Rd×DBare))):=
 cond (decide ((0:Int)<s11.2.2.2))
  (Option.bind (cA (Dl20Rd.mk s11.1 s11.2.1)) λv12=>
  grd ((List.length s11.2.2.1+List.length ([v12.2]:List Int))*8<=2^47/\List.length s11.2.2.1+List.length ([v12.2]:List Int)<=2^47) (some (.next (v12.1.b,v12.1.p,s11.2.2.1++([v12.2]:List Int),w64 (s11.2.2.2-(1:Int))))))
  (some (.ret (.go (s11.1,s11.2.1,s11.2.2.1))))
noncomputable def rK (x_n:Int)(v1:Dl20Rd×DCore)(v2:Dl20Rd×(List Int))(s3:(List Int)×Int×(List Int)):Option (Dl20Rd×DBare):=
 Option.bind (Option.bind (aA (Dl20Rd.mk s3.1 s3.2.1) (3:Int)) λv10=>
  Option.bind (iter qL (v10.1.b,v10.1.p,([]:List Int),v10.2)) LO.val) λj4=>
  JO.run j4 (rP x_n v1 v2 s3)
noncomputable def gM  (s14:(List Int)×Int×(List Int)×Int):Option (LO ((List Int)×Int×(List Int)×Int) (JO ((List Int)×Int×(List Int)) (Dl20Rd×DBare))):=
 cond (decide ((0:Int)<s14.2.2.2))
  (Option.bind (cA (Dl20Rd.mk s14.1 s14.2.1)) λv15=>
  grd ((List.length s14.2.2.1+List.length ([v15.2]:List Int))*8<=2^47/\List.length s14.2.2.1+List.length ([v15.2]:List Int)<=2^47) (some (.next (v15.1.b,v15.1.p,s14.2.2.1++([v15.2]:List Int),w64 (s14.2.2.2-(1:Int))))))
  (some (.ret (.go (s14.1,s14.2.1,s14.2.2.1))))
noncomputable def lM (x_r:Dl20Rd)(x_n:Int):Option (Dl20Rd×DBare):=
 Option.bind (iE x_r (0:Int)) λv1=>
 Option.bind (lJ v1.1) λv2=>
 Option.bind (Option.bind (aA v2.1 (4:Int)) λv13=>
  Option.bind (iter gM (v13.1.b,v13.1.p,([]:List Int),v13.2)) LO.val) λj3=>
  JO.run j3 (rK x_n v1 v2)
noncomputable def bCo:Sw tG:=⟨[.pt 109,.v (.i .i64)],.one (.st 82),lM⟩
theorem bGl:Sjk 106 bCo:=sgy [(130,.w bDm),(131,.w bEn),(76,.w g76),(105,.w aNh),(108,.w aDr),(132,.w aXi)] ⟨bGm,bHw,s76,aSs,aHr,bFn,trivial⟩ (.s .o (.s .o (.j ⟨[0,1,4,5],[],[(.c 0 0,.rb 5),(.c 0 1,.i .i64),(.c 5 14,.ro 3)]⟩ (.s .o (.k (.l ⟨[0,1,4,5],[],[(.c 0 0,.rb 5),(.c 0 1,.i .i64),(.c 5 14,.ro 3),(.s 6,.i .i64)]⟩ (.s .o (.s (.k (.m [0])) .o))))) (.j ⟨[0,1,4,5],[],[(.c 0 0,.rb 5),(.c 0 1,.i .i64),(.c 5 15,.ro 3)]⟩ (.s .o (.k (.l ⟨[0,1,4,5],[],[(.c 0 0,.rb 5),(.c 0 1,.i .i64),(.c 5 15,.ro 3),(.s 7,.i .i64)]⟩ (.s .o (.s (.k (.m [0])) .o))))) (.j ⟨[4,5],[0],[(.c 5 0,.ro 3),(.c 5 1,.i .i64),(.c 5 2,.i .i64),(.c 5 3,.i .i64),(.c 5 4,.i .i64),(.c 5 5,.b),(.c 5 6,.i .i64),(.c 5 7,.i .i64),(.c 5 8,.i .i64),(.c 5 9,.b),(.c 5 10,.b),(.c 5 11,.b),(.c 5 12,.b),(.d 0 0,.rb 5),(.d 0 1,.i .i64),(.c 5 13,.ro 3),(.c 5 14,.ro 3)]⟩ .o .o))))) kr kr kr
theorem aCx:LW 104 ⟨6,[.cell 2 true 2],.seq (.reg false (rg 104 0)) (.seq (.rega [rg 104 1,rg 104 2]) .ret)⟩:=kr
noncomputable def lE (x_none:Int):Option DHost:=some (DHost.mk (List.replicate (Int.toNat (160:Int)) (0:Int)) (List.replicate (Int.toNat (3:Int)) (DGuest.mk false (DCore.mk ([]:List Int) (0:Int) (0:Int) (0:Int) (0:Int) false (0:Int) (0:Int) (0:Int) false false false false) ([]:List DSlot) ([]:List Int) ([]:List Int))))
theorem aFl{x_none:Int}{R_:DHost}(hh:lE x_none=some R_):Fn Try.prog 104 [.int .i64 x_none] (.agg [.own 3 1 (List.length R_.Words) (fl (eI .i64) R_.Words),.own 41 17 (List.length R_.Guests) (fl rG R_.Guests)]):=by let z1:=DCore.mk ([]:List Int) (0:Int) (0:Int) (0:Int) (0:Int) false (0:Int) (0:Int) (0:Int) false false false false;let z2:=DGuest.mk false z1 ([]:List DSlot) ([]:List Int) ([]:List Int);unfold lE at hh;refine Fn.start aCx [] (E:=sp 6 []) kr (v:= .agg [sw 0 R_.Words,.sref 1 [] 0 (List.length R_.Guests) 17]) (Hr:=[(1,some (rO41 R_.Guests)),(0,some (rI_3 R_.Words))]) (k:=2) kr (sy [2] [0] (sp 6 [(2,pp 0)]) [(0,some ⟨26,[.nil,.nil]⟩)] 1 (Aw.srega [2] [0,1,2] (aUq ?_ (aUq ?_ bDy))));{refine ys (.mk 3 1 8 [ii 0] (.c (ii 160))) (some 3) (aJb (c:=(eI .i64)) (d:=(0:Int)) (k:=(160:Int)) kr dd kr ?_);refine ys (.mk 41 17 176 zc0 (.c (ii 3))) (some 4) (aMs (z:=(bb false:: .nil::xS [.nil,.nil,.nil])) (k:=(3:Int)) kr dd ?_);let q1:Root:=⟨26,[.sref 1 [] 0 (List.length (List.replicate (Int.toNat (160:Int)) (0:Int))) 1,.sref 2 [] 0 (Int.toNat (3:Int)) 17]⟩;let q2:Root:=(rI_3 (List.replicate (Int.toNat (160:Int)) (0:Int)));let q3:Root:=⟨41,aP (bb false:: .nil::xS [.nil,.nil,.nil]) (Int.toNat (3:Int))⟩;refine yt (sp 6 [(2,pp 0)]) [(0,some q1),(1,some q2),(2,some q3)] 3 (Aw.ent (Ent.foldM (c:=rG) (k:=Int.toNat (3:Int)) (d:=z2) (R:=2) (e:=41) (us2:=sp 6 [(2,pp 0)]) (H2:=[(0,some ⟨26,[.sref 1 [] 0 (List.length (List.replicate (Int.toNat (160:Int)) (0:Int))) 1,.sref 3 [] 0 (List.length (List.replicate (Int.toNat (3:Int)) z2)) 17]⟩),(1,some q2)]) (L:=[none,some none,none,none,none,none,none,none,none,none,none,none,none,none,some none,some none,some none]) (ws:=(bb false:: .own 3 1 0 []::xS [.own 43 3 0 [],.own 3 1 0 [],.own 3 1 0 []])) dd kr kr (dL (tZ (dL (dL (dL (dL (dL (dL (dL (dL (dL (dL (dL (dL (tZ (tZ (tZ aZz))))))))))))))))) rfl (aVb kr (aZw (u:=pp 0) kr (.same _) aZm)) (aRo (t:=q1) rfl kr rfl (aJk (.same _) (aJk (.sref _ _ _ _ eqn) aZq)) (aRo (t:=q2) rfl kr rfl aLk bDr))) (Aw.ret ?_));rw[eD hh];let q4:Root:=(rO41 (List.replicate (Int.toNat (3:Int)) z2));exact aEv (r':= .agg [.sref 1 [] 0 (List.length (List.replicate (Int.toNat (160:Int)) (0:Int))) 1,.sref 3 [] 0 (List.length (List.replicate (Int.toNat (3:Int)) z2)) 17]) kr (Ent.list [some 1,some 3] rfl rfl (Nat.zero_le _) (vK (jU rz)) (hn pQ (hn bX gY)))};refine ys (.mk 41 17 176 zc0 (.c (ii 3))) (some 4) (aMs (z:=(bb false:: .nil::xS [.nil,.nil,.nil])) (k:=(3:Int)) kr dd ?_);refine ys (.mk 3 1 8 [ii 0] (.c (ii 160))) (some 3) (aJb (c:=(eI .i64)) (d:=(0:Int)) (k:=(160:Int)) kr dd kr ?_);let q5:Root:=⟨26,[.sref 2 [] 0 (List.length (List.replicate (Int.toNat (160:Int)) (0:Int))) 1,.sref 1 [] 0 (Int.toNat (3:Int)) 17]⟩;let q6:Root:=⟨41,aP (bb false:: .nil::xS [.nil,.nil,.nil]) (Int.toNat (3:Int))⟩;let q7:Root:=(rI_3 (List.replicate (Int.toNat (160:Int)) (0:Int)));refine yt (sp 6 [(2,pp 0)]) [(0,some q5),(1,some q6),(2,some q7)] 3 (Aw.ent (Ent.foldM (c:=rG) (k:=Int.toNat (3:Int)) (d:=z2) (R:=1) (e:=41) (us2:=sp 6 [(2,pp 0)]) (H2:=[(0,some ⟨26,[.sref 2 [] 0 (List.length (List.replicate (Int.toNat (160:Int)) (0:Int))) 1,.sref 3 [] 0 (List.length (List.replicate (Int.toNat (3:Int)) z2)) 17]⟩),(2,some q7)]) (L:=[none,some none,none,none,none,none,none,none,none,none,none,none,none,none,some none,some none,some none]) (ws:=(bb false:: .own 3 1 0 []::xS [.own 43 3 0 [],.own 3 1 0 [],.own 3 1 0 []])) dd kr kr (dL (tZ (dL (dL (dL (dL (dL (dL (dL (dL (dL (dL (dL (dL (tZ (tZ (tZ aZz))))))))))))))))) rfl (aVb kr (aZw (u:=pp 0) kr (.same _) aZm)) (aRo (t:=q5) rfl kr rfl (aJk (.same _) (aJk (.sref _ _ _ _ eqn) aZq)) (aRo (t:=q7) rfl kr rfl aLk bDr))) (Aw.ret ?_));rw[eD hh];let q8:Root:=(rO41 (List.replicate (Int.toNat (3:Int)) z2));exact aEv (r':= .agg [.sref 2 [] 0 (List.length (List.replicate (Int.toNat (160:Int)) (0:Int))) 1,.sref 3 [] 0 (List.length (List.replicate (Int.toNat (3:Int)) z2)) 17]) kr (Ent.list [some 2,some 3] rfl rfl (Nat.zero_le _) (vK (jU rz)) (hn pQ (hn bX gY)))
noncomputable def bEz:Sg tG:=⟨[.i .i64],.one (.st 2026),lE⟩
theorem bGp:Sok 104 bEz:=λx_none R_ hh=>kc (aFl (x_none:=x_none) hh)
noncomputable def aBy  (s5:(List Int)×(List Int)×Int×(List DGuest)):Option (Dl20Rd×DHost):=some ((Dl20Rd.mk s5.2.1 s5.2.2.1),DHost.mk s5.1 s5.2.2.2)
noncomputable def rO (x_n:Int)(s3:(List Int)×Int×(List Int)×(List DGuest))(s4:(List Int)×Int×(List DGuest)):Option (Dl20Rd×DHost):=
 Option.bind (Option.bind (bH (Dl20Rd.mk s4.1 s4.2.1) x_n) λv6=>
  cond v6.2
   (Option.bind (aA v6.1 (4:Int)) λv7=>
   cond (decide (v7.2=(0:Int)))
    (Option.bind (aA v7.1 (9:Int)) λv8=>
    grd ((0:Int)<=v8.2/\v8.2<((List.length s3.2.2.1:Nat):Int)) (some (.go ((List.set s3.2.2.1 (Int.toNat v8.2) (4096:Int)),v8.1.b,v8.1.p,s4.2.2))))
    (cond (decide (v7.2=(1:Int)))
     (grd ((0:Int)<=(0:Int)/\(0:Int)<=(2:Int)/\(2:Int)<=((List.length s4.2.2:Nat):Int)) (some (.go (s3.2.2.1,v7.1.b,v7.1.p,List.take (Int.toNat (2:Int)-Int.toNat (0:Int)) s4.2.2))))
     (cond (decide (v7.2=(2:Int)))
      (grd ((0:Int)<=(2:Int)/\(2:Int)<((List.length s4.2.2:Nat):Int)) (some (.go (s3.2.2.1,v7.1.b,v7.1.p,List.set s4.2.2 2 (DGuest.mk false (DCore.mk ([]:List Int) (0:Int) (0:Int) (0:Int) (0:Int) false (0:Int) (0:Int) (0:Int) false false false false) ([]:List DSlot) ([(1:Int)]:List Int) ([]:List Int))))))
      (grd ((0:Int)<=(0:Int)/\(0:Int)<((List.length s4.2.2:Nat):Int)) (some (.go (s3.2.2.1,v7.1.b,v7.1.p,List.set s4.2.2 0 (DGuest.mk (List.getD s4.2.2 0 default).Live (List.getD s4.2.2 0 default).C ([DSlot.mk (3:Int) true false,DSlot.mk (3:Int) false false]:List DSlot) (List.getD s4.2.2 0 default).In (List.getD s4.2.2 0 default).Out))))))))
   (some (.go (s3.2.2.1,v6.1.b,v6.1.p,s4.2.2)))) λj5=>
  JO.run j5 aBy
noncomputable def qW (s10:(List Int)×Int×(List DGuest)×Int)(s11:(List Int)×Int×(List DGuest)):Option (LO ((List Int)×Int×(List DGuest)×Int) (JO ((List Int)×Int×(List DGuest)) (Dl20Rd×DHost))):=some (.next (s11.1,s11.2.1,s11.2.2,w64 (s10.2.2.2-(1:Int))))
noncomputable def kL  (s10:(List Int)×Int×(List DGuest)×Int):Option (LO ((List Int)×Int×(List DGuest)×Int) (JO ((List Int)×Int×(List DGuest)) (Dl20Rd×DHost))):=
 cond (decide ((0:Int)<s10.2.2.2))
  (Option.bind (Option.bind (aA (Dl20Rd.mk s10.1 s10.2.1) (3:Int)) λv12=>
   Option.bind (aA v12.1 (3:Int)) λv13=>
   Option.bind (aA v13.1 (8:Int)) λv14=>
   grd ((0:Int)<=v12.2/\v12.2<((List.length s10.2.2.1:Nat):Int)) (cond (List.getD s10.2.2.1 (Int.toNat v12.2) default).Live
    (grd ((0:Int)<=v13.2/\v13.2<((List.length s10.2.2.1:Nat):Int)) (cond (List.getD s10.2.2.1 (Int.toNat v13.2) default).Live
     (grd ((0:Int)<=v12.2/\v12.2<((List.length s10.2.2.1:Nat):Int)) (grd ((0:Int)<=v14.2/\v14.2<((List.length (List.getD s10.2.2.1 (Int.toNat v12.2) default).Pages:Nat):Int)) (cond (decide ((0:Int)<=(List.getD (List.getD s10.2.2.1 (Int.toNat v12.2) default).Pages (Int.toNat v14.2) default).Frame))
      (grd ((0:Int)<=v12.2/\v12.2<((List.length s10.2.2.1:Nat):Int)) (grd ((0:Int)<=v14.2/\v14.2<((List.length (List.getD s10.2.2.1 (Int.toNat v12.2) default).Pages:Nat):Int)) (grd ((0:Int)<=v13.2/\v13.2<((List.length s10.2.2.1:Nat):Int)) (Option.bind (aA v14.1 (8:Int)) λv15=>
       grd ((0:Int)<=v12.2/\v12.2<((List.length s10.2.2.1:Nat):Int)) (grd ((0:Int)<=v14.2/\v14.2<((List.length (List.getD (List.set s10.2.2.1 (Int.toNat v12.2) (DGuest.mk (List.getD s10.2.2.1 (Int.toNat v12.2) default).Live (List.getD s10.2.2.1 (Int.toNat v12.2) default).C (List.set (List.getD s10.2.2.1 (Int.toNat v12.2) default).Pages (Int.toNat v14.2) (DSlot.mk (List.getD (List.getD s10.2.2.1 (Int.toNat v12.2) default).Pages (Int.toNat v14.2) default).Frame false (List.getD (List.getD s10.2.2.1 (Int.toNat v12.2) default).Pages (Int.toNat v14.2) default).Dirty)) (List.getD s10.2.2.1 (Int.toNat v12.2) default).In (List.getD s10.2.2.1 (Int.toNat v12.2) default).Out)) (Int.toNat v12.2) default).Pages:Nat):Int)) (Option.bind (aA v15.1 (2:Int)) λv16=>
        grd ((0:Int)<=v15.2/\v15.2<((List.length (List.getD (List.set s10.2.2.1 (Int.toNat v12.2) (DGuest.mk (List.getD s10.2.2.1 (Int.toNat v12.2) default).Live (List.getD s10.2.2.1 (Int.toNat v12.2) default).C (List.set (List.getD s10.2.2.1 (Int.toNat v12.2) default).Pages (Int.toNat v14.2) (DSlot.mk (List.getD (List.getD s10.2.2.1 (Int.toNat v12.2) default).Pages (Int.toNat v14.2) default).Frame false (List.getD (List.getD s10.2.2.1 (Int.toNat v12.2) default).Pages (Int.toNat v14.2) default).Dirty)) (List.getD s10.2.2.1 (Int.toNat v12.2) default).In (List.getD s10.2.2.1 (Int.toNat v12.2) default).Out)) (Int.toNat v13.2) default).Pages:Nat):Int)) (some (.go (v16.1.b,v16.1.p,List.set (List.set s10.2.2.1 (Int.toNat v12.2) (DGuest.mk (List.getD s10.2.2.1 (Int.toNat v12.2) default).Live (List.getD s10.2.2.1 (Int.toNat v12.2) default).C (List.set (List.getD s10.2.2.1 (Int.toNat v12.2) default).Pages (Int.toNat v14.2) (DSlot.mk (List.getD (List.getD s10.2.2.1 (Int.toNat v12.2) default).Pages (Int.toNat v14.2) default).Frame false (List.getD (List.getD s10.2.2.1 (Int.toNat v12.2) default).Pages (Int.toNat v14.2) default).Dirty)) (List.getD s10.2.2.1 (Int.toNat v12.2) default).In (List.getD s10.2.2.1 (Int.toNat v12.2) default).Out)) (Int.toNat v13.2) (DGuest.mk (List.getD (List.set s10.2.2.1 (Int.toNat v12.2) (DGuest.mk (List.getD s10.2.2.1 (Int.toNat v12.2) default).Live (List.getD s10.2.2.1 (Int.toNat v12.2) default).C (List.set (List.getD s10.2.2.1 (Int.toNat v12.2) default).Pages (Int.toNat v14.2) (DSlot.mk (List.getD (List.getD s10.2.2.1 (Int.toNat v12.2) default).Pages (Int.toNat v14.2) default).Frame false (List.getD (List.getD s10.2.2.1 (Int.toNat v12.2) default).Pages (Int.toNat v14.2) default).Dirty)) (List.getD s10.2.2.1 (Int.toNat v12.2) default).In (List.getD s10.2.2.1 (Int.toNat v12.2) default).Out)) (Int.toNat v13.2) default).Live (List.getD (List.set s10.2.2.1 (Int.toNat v12.2) (DGuest.mk (List.getD s10.2.2.1 (Int.toNat v12.2) default).Live (List.getD s10.2.2.1 (Int.toNat v12.2) default).C (List.set (List.getD s10.2.2.1 (Int.toNat v12.2) default).Pages (Int.toNat v14.2) (DSlot.mk (List.getD (List.getD s10.2.2.1 (Int.toNat v12.2) default).Pages (Int.toNat v14.2) default).Frame false (List.getD (List.getD s10.2.2.1 (Int.toNat v12.2) default).Pages (Int.toNat v14.2) default).Dirty)) (List.getD s10.2.2.1 (Int.toNat v12.2) default).In (List.getD s10.2.2.1 (Int.toNat v12.2) default).Out)) (Int.toNat v13.2) default).C (List.set (List.getD (List.set s10.2.2.1 (Int.toNat v12.2) (DGuest.mk (List.getD s10.2.2.1 (Int.toNat v12.2) default).Live (List.getD s10.2.2.1 (Int.toNat v12.2) default).C (List.set (List.getD s10.2.2.1 (Int.toNat v12.2) default).Pages (Int.toNat v14.2) (DSlot.mk (List.getD (List.getD s10.2.2.1 (Int.toNat v12.2) default).Pages (Int.toNat v14.2) default).Frame false (List.getD (List.getD s10.2.2.1 (Int.toNat v12.2) default).Pages (Int.toNat v14.2) default).Dirty)) (List.getD s10.2.2.1 (Int.toNat v12.2) default).In (List.getD s10.2.2.1 (Int.toNat v12.2) default).Out)) (Int.toNat v13.2) default).Pages (Int.toNat v15.2) (DSlot.mk (List.getD (List.getD (List.set s10.2.2.1 (Int.toNat v12.2) (DGuest.mk (List.getD s10.2.2.1 (Int.toNat v12.2) default).Live (List.getD s10.2.2.1 (Int.toNat v12.2) default).C (List.set (List.getD s10.2.2.1 (Int.toNat v12.2) default).Pages (Int.toNat v14.2) (DSlot.mk (List.getD (List.getD s10.2.2.1 (Int.toNat v12.2) default).Pages (Int.toNat v14.2) default).Frame false (List.getD (List.getD s10.2.2.1 (Int.toNat v12.2) default).Pages (Int.toNat v14.2) default).Dirty)) (List.getD s10.2.2.1 (Int.toNat v12.2) default).In (List.getD s10.2.2.1 (Int.toNat v12.2) default).Out)) (Int.toNat v12.2) default).Pages (Int.toNat v14.2) default).Frame false (decide (v16.2=(0:Int))))) (List.getD (List.set s10.2.2.1 (Int.toNat v12.2) (DGuest.mk (List.getD s10.2.2.1 (Int.toNat v12.2) default).Live (List.getD s10.2.2.1 (Int.toNat v12.2) default).C (List.set (List.getD s10.2.2.1 (Int.toNat v12.2) default).Pages (Int.toNat v14.2) (DSlot.mk (List.getD (List.getD s10.2.2.1 (Int.toNat v12.2) default).Pages (Int.toNat v14.2) default).Frame false (List.getD (List.getD s10.2.2.1 (Int.toNat v12.2) default).Pages (Int.toNat v14.2) default).Dirty)) (List.getD s10.2.2.1 (Int.toNat v12.2) default).In (List.getD s10.2.2.1 (Int.toNat v12.2) default).Out)) (Int.toNat v13.2) default).In (List.getD (List.set s10.2.2.1 (Int.toNat v12.2) (DGuest.mk (List.getD s10.2.2.1 (Int.toNat v12.2) default).Live (List.getD s10.2.2.1 (Int.toNat v12.2) default).C (List.set (List.getD s10.2.2.1 (Int.toNat v12.2) default).Pages (Int.toNat v14.2) (DSlot.mk (List.getD (List.getD s10.2.2.1 (Int.toNat v12.2) default).Pages (Int.toNat v14.2) default).Frame false (List.getD (List.getD s10.2.2.1 (Int.toNat v12.2) default).Pages (Int.toNat v14.2) default).Dirty)) (List.getD s10.2.2.1 (Int.toNat v12.2) default).In (List.getD s10.2.2.1 (Int.toNat v12.2) default).Out)) (Int.toNat v13.2) default).Out))))))))))
      (some (.go (v14.1.b,v14.1.p,s10.2.2.1))))))
     (some (.go (v14.1.b,v14.1.p,s10.2.2.1)))))
    (some (.go (v14.1.b,v14.1.p,s10.2.2.1))))) λj11=>
   JO.run j11 (qW s10))
  (some (.ret (.go (s10.1,s10.2.1,s10.2.2.1))))
noncomputable def rN (x_n:Int)(s3:(List Int)×Int×(List Int)×(List DGuest)):Option (Dl20Rd×DHost):=
 Option.bind (Option.bind (aA (Dl20Rd.mk s3.1 s3.2.1) (4:Int)) λv9=>
  Option.bind (iter kL (v9.1.b,v9.1.p,s3.2.2.2,v9.2)) LO.val) λj4=>
  JO.run j4 (rO x_n s3)
noncomputable def qG (s18:(List Int)×Int×(List Int)×(List DGuest)×(List Int)×Int×Int×Int×Int×Bool×Int×Int×Int×Bool×Bool×Bool×Bool×(List Int)×(List Int)×(List Int)×Int)(s19:(List Int)×Int×(List Int)×(List DGuest)×(List Int)×Int×Int×Int×Int×Bool×Int×Int×Int×Bool×Bool×Bool×Bool×(List Int)×(List Int)×(List Int)):Option (LO ((List Int)×Int×(List Int)×(List DGuest)×(List Int)×Int×Int×Int×Int×Bool×Int×Int×Int×Bool×Bool×Bool×Bool×(List Int)×(List Int)×(List Int)×Int) (JO ((List Int)×Int×(List Int)×(List DGuest)) (Dl20Rd×DHost))):=some (.next (s19.1,s19.2.1,s19.2.2.1,s19.2.2.2.1,s19.2.2.2.2.1,s19.2.2.2.2.2.1,s19.2.2.2.2.2.2.1,s19.2.2.2.2.2.2.2.1,s19.2.2.2.2.2.2.2.2.1,s19.2.2.2.2.2.2.2.2.2.1,s19.2.2.2.2.2.2.2.2.2.2.1,s19.2.2.2.2.2.2.2.2.2.2.2.1,s19.2.2.2.2.2.2.2.2.2.2.2.2.1,s19.2.2.2.2.2.2.2.2.2.2.2.2.2.1,s19.2.2.2.2.2.2.2.2.2.2.2.2.2.2.1,s19.2.2.2.2.2.2.2.2.2.2.2.2.2.2.2.1,s19.2.2.2.2.2.2.2.2.2.2.2.2.2.2.2.2.1,s19.2.2.2.2.2.2.2.2.2.2.2.2.2.2.2.2.2.1,s19.2.2.2.2.2.2.2.2.2.2.2.2.2.2.2.2.2.2.1,s19.2.2.2.2.2.2.2.2.2.2.2.2.2.2.2.2.2.2.2,w64 (s18.2.2.2.2.2.2.2.2.2.2.2.2.2.2.2.2.2.2.2.2-(1:Int))))
noncomputable def qE (s18:(List Int)×Int×(List Int)×(List DGuest)×(List Int)×Int×Int×Int×Int×Bool×Int×Int×Int×Bool×Bool×Bool×Bool×(List Int)×(List Int)×(List Int)×Int)(v20:Dl20Rd×DBare)(s21:(List Int)×Int×(List Int)):Option (JO ((List Int)×Int×(List Int)×(List DGuest)×(List Int)×Int×Int×Int×Int×Bool×Int×Int×Int×Bool×Bool×Bool×Bool×(List Int)×(List Int)×(List Int)) (LO ((List Int)×Int×(List Int)×(List DGuest)×(List Int)×Int×Int×Int×Int×Bool×Int×Int×Int×Bool×Bool×Bool×Bool×(List Int)×(List Int)×(List Int)×Int) (JO ((List Int)×Int×(List Int)×(List DGuest)) (Dl20Rd×DHost)))):=
 Option.bind (kC (DHost.mk s18.2.2.1 s18.2.2.2.1) (DBare.mk v20.2.C s21.2.2 v20.2.In v20.2.Out)) λv22=>
 cond v22.2.2
  (some (.go (s21.1,s21.2.1,v22.1.Words,v22.1.Guests,v20.2.C.Regs,v20.2.C.Pc,v20.2.C.Root,v20.2.C.Vector,v20.2.C.Saved,v20.2.C.SavedUser,v20.2.C.Cause,v20.2.C.Bad,v20.2.C.Timer,v20.2.C.Waits,v20.2.C.User,v20.2.C.On,v20.2.C.Stopped,s21.2.2,v20.2.In,v20.2.Out)))
  (some (.go (s21.1,s21.2.1,s18.2.2.1,s18.2.2.2.1,v20.2.C.Regs,v20.2.C.Pc,v20.2.C.Root,v20.2.C.Vector,v20.2.C.Saved,v20.2.C.SavedUser,v20.2.C.Cause,v20.2.C.Bad,v20.2.C.Timer,v20.2.C.Waits,v20.2.C.User,v20.2.C.On,v20.2.C.Stopped,s21.2.2,v20.2.In,v20.2.Out)))
noncomputable def qO (s23:(List Int)×Int×(List Int)×Int)(s24:(List Int)×Int×(List Int)):Option (LO ((List Int)×Int×(List Int)×Int) (JO ((List Int)×Int×(List Int)) (JO ((List Int)×Int×(List Int)×(List DGuest)×(List Int)×Int×Int×Int×Int×Bool×Int×Int×Int×Bool×Bool×Bool×Bool×(List Int)×(List Int)×(List Int)) (LO ((List Int)×Int×(List Int)×(List DGuest)×(List Int)×Int×Int×Int×Int×Bool×Int×Int×Int×Bool×Bool×Bool×Bool×(List Int)×(List Int)×(List Int)×Int) (JO ((List Int)×Int×(List Int)×(List DGuest)) (Dl20Rd×DHost)))))):=some (.next (s24.1,s24.2.1,s24.2.2,w64 (s23.2.2.2+(1:Int))))
noncomputable def qH (s18:(List Int)×Int×(List Int)×(List DGuest)×(List Int)×Int×Int×Int×Int×Bool×Int×Int×Int×Bool×Bool×Bool×Bool×(List Int)×(List Int)×(List Int)×Int)(s23:(List Int)×Int×(List Int)×Int)(s25:(List Int)×Int×(List Int)):Option (JO ((List Int)×Int×(List Int)) (LO ((List Int)×Int×(List Int)×Int) (JO ((List Int)×Int×(List Int)) (JO ((List Int)×Int×(List Int)×(List DGuest)×(List Int)×Int×Int×Int×Int×Bool×Int×Int×Int×Bool×Bool×Bool×Bool×(List Int)×(List Int)×(List Int)) (LO ((List Int)×Int×(List Int)×(List DGuest)×(List Int)×Int×Int×Int×Int×Bool×Int×Int×Int×Bool×Bool×Bool×Bool×(List Int)×(List Int)×(List Int)×Int) (JO ((List Int)×Int×(List Int)×(List DGuest)) (Dl20Rd×DHost))))))):=
 cond (decide ((0:Int)<((List.length s18.2.2.2.2.2.2.2.2.2.2.2.2.2.2.2.2.2.1:Nat):Int)))
  (Option.bind (aA (Dl20Rd.mk s25.1 s25.2.1) (3:Int)) λv26=>
  cond (decide (v26.2=(0:Int)))
   (grd ((0:Int)<=(w64 (s23.2.2.2*(8:Int)))/\(w64 (s23.2.2.2*(8:Int)))<=(w64 ((w64 (s23.2.2.2+(1:Int)))*(8:Int)))/\(w64 ((w64 (s23.2.2.2+(1:Int)))*(8:Int)))<=((List.length s25.2.2:Nat):Int)) (grd ((0:Int)<=(w64 (s23.2.2.2*(8:Int)))/\(w64 (s23.2.2.2*(8:Int)))<=((List.length s18.2.2.2.2.2.2.2.2.2.2.2.2.2.2.2.2.2.1:Nat):Int)/\((List.length s18.2.2.2.2.2.2.2.2.2.2.2.2.2.2.2.2.2.1:Nat):Int)<=((List.length s18.2.2.2.2.2.2.2.2.2.2.2.2.2.2.2.2.2.1:Nat):Int)) (some (.go (v26.1.b,v26.1.p,over s25.2.2 (Int.toNat (w64 (s23.2.2.2*(8:Int)))) (Int.toNat (w64 ((w64 (s23.2.2.2+(1:Int)))*(8:Int)))-Int.toNat (w64 (s23.2.2.2*(8:Int)))) (List.take (Int.toNat ((List.length s18.2.2.2.2.2.2.2.2.2.2.2.2.2.2.2.2.2.1:Nat):Int)-Int.toNat (w64 (s23.2.2.2*(8:Int)))) (List.drop (Int.toNat (w64 (s23.2.2.2*(8:Int)))) s18.2.2.2.2.2.2.2.2.2.2.2.2.2.2.2.2.2.1)))))))
   (some (.go (v26.1.b,v26.1.p,s25.2.2))))
  (some (.go (s25.1,s25.2.1,s25.2.2)))
noncomputable def kZ (s18:(List Int)×Int×(List Int)×(List DGuest)×(List Int)×Int×Int×Int×Int×Bool×Int×Int×Int×Bool×Bool×Bool×Bool×(List Int)×(List Int)×(List Int)×Int)(s23:(List Int)×Int×(List Int)×Int):Option (LO ((List Int)×Int×(List Int)×Int) (JO ((List Int)×Int×(List Int)) (JO ((List Int)×Int×(List Int)×(List DGuest)×(List Int)×Int×Int×Int×Int×Bool×Int×Int×Int×Bool×Bool×Bool×Bool×(List Int)×(List Int)×(List Int)) (LO ((List Int)×Int×(List Int)×(List DGuest)×(List Int)×Int×Int×Int×Int×Bool×Int×Int×Int×Bool×Bool×Bool×Bool×(List Int)×(List Int)×(List Int)×Int) (JO ((List Int)×Int×(List Int)×(List DGuest)) (Dl20Rd×DHost)))))):=
 cond (decide (s23.2.2.2<(8:Int)))
  (Option.bind (Option.bind (cond (decide ((3:Int)<s23.2.2.2))
   (Option.bind (aA (Dl20Rd.mk s23.1 s23.2.1) (2:Int)) λv27=>
   cond (decide (v27.2=(0:Int)))
    (grd ((0:Int)<=(w64 (s23.2.2.2*(8:Int)))/\(w64 (s23.2.2.2*(8:Int)))<=((List.length s23.2.2.1:Nat):Int)/\((List.length s23.2.2.1:Nat):Int)<=((List.length s23.2.2.1:Nat):Int)) (some (.go (v27.1.b,v27.1.p,over s23.2.2.1 (Int.toNat (w64 (s23.2.2.2*(8:Int)))) (Int.toNat ((List.length s23.2.2.1:Nat):Int)-Int.toNat (w64 (s23.2.2.2*(8:Int)))) (List.replicate (Int.toNat (8:Int)) (0:Int))))))
    (some (.go (v27.1.b,v27.1.p,s23.2.2.1))))
   (some (.go (s23.1,s23.2.1,s23.2.2.1)))) λj25=>
   JO.run j25 (qH s18 s23)) λj24=>
   JO.run j24 (qO s23))
  (some (.ret (.go (s23.1,s23.2.1,s23.2.2.1))))
noncomputable def kQ  (s18:(List Int)×Int×(List Int)×(List DGuest)×(List Int)×Int×Int×Int×Int×Bool×Int×Int×Int×Bool×Bool×Bool×Bool×(List Int)×(List Int)×(List Int)×Int):Option (LO ((List Int)×Int×(List Int)×(List DGuest)×(List Int)×Int×Int×Int×Int×Bool×Int×Int×Int×Bool×Bool×Bool×Bool×(List Int)×(List Int)×(List Int)×Int) (JO ((List Int)×Int×(List Int)×(List DGuest)) (Dl20Rd×DHost))):=
 cond (decide ((0:Int)<s18.2.2.2.2.2.2.2.2.2.2.2.2.2.2.2.2.2.2.2.2))
  (Option.bind (Option.bind (lM (Dl20Rd.mk s18.1 s18.2.1) (0:Int)) λv20=>
   Option.bind (Option.bind (iter (kZ s18) (v20.1.b,v20.1.p,v20.2.Mem,(0:Int))) LO.val) λj21=>
    JO.run j21 (qE s18 v20)) λj19=>
   JO.run j19 (qG s18))
  (some (.ret (.go (s18.1,s18.2.1,s18.2.2.1,s18.2.2.2.1))))
noncomputable def rY (x_n:Int)(v1:DHost)(s2:(List Int)×Int×(List Int)):Option (Dl20Rd×DHost):=
 Option.bind (Option.bind (aA (Dl20Rd.mk s2.1 s2.2.1) (3:Int)) λv17=>
  Option.bind (iter kQ (v17.1.b,v17.1.p,s2.2.2,v1.Guests,([]:List Int),(0:Int),(0:Int),(0:Int),(0:Int),false,(0:Int),(0:Int),(0:Int),false,false,false,false,([]:List Int),([]:List Int),([]:List Int),w64 ((1:Int)+v17.2))) LO.val) λj3=>
  JO.run j3 (rN x_n)
noncomputable def qV (s28:(List Int)×Int×(List Int)×Int)(s29:(List Int)×Int×(List Int)):Option (LO ((List Int)×Int×(List Int)×Int) (JO ((List Int)×Int×(List Int)) (Dl20Rd×DHost))):=some (.next (s29.1,s29.2.1,s29.2.2,w64 (s28.2.2.2+(1:Int))))
noncomputable def kW  (s28:(List Int)×Int×(List Int)×Int):Option (LO ((List Int)×Int×(List Int)×Int) (JO ((List Int)×Int×(List Int)) (Dl20Rd×DHost))):=
 cond (decide (s28.2.2.2<((List.length s28.2.2.1:Nat):Int)))
  (Option.bind (Option.bind (aA (Dl20Rd.mk s28.1 s28.2.1) (4:Int)) λv30=>
   cond (decide (v30.2=(0:Int)))
    (Option.bind (cA v30.1) λv31=>
    grd ((0:Int)<=s28.2.2.2/\s28.2.2.2<((List.length s28.2.2.1:Nat):Int)) (some (.go (v31.1.b,v31.1.p,List.set s28.2.2.1 (Int.toNat s28.2.2.2) v31.2))))
    (some (.go (v30.1.b,v30.1.p,s28.2.2.1)))) λj29=>
   JO.run j29 (qV s28))
  (some (.ret (.go (s28.1,s28.2.1,s28.2.2.1))))
noncomputable def lK (x_r:Dl20Rd)(x_n:Int):Option (Dl20Rd×DHost):=
 Option.bind (lE (0:Int)) λv1=>
 Option.bind (Option.bind (iter kW (x_r.b,x_r.p,v1.Words,(0:Int))) LO.val) λj2=>
  JO.run j2 (rY x_n v1)
noncomputable def g68:Sw tG:=⟨[.pt 109,.v (.i .i64)],.one (.st 2026),lK⟩
theorem s68:Sjk 68 g68:=sgy [(104,.r bEz),(76,.w g76),(105,.w aNh),(106,.w bCo),(107,.r bCh),(108,.w aDr)] ⟨bGp,s76,aSs,bGl,bHo,aHr,trivial⟩ (.s .o (.s .o (.j ⟨[0,1,4,5],[],[(.c 0 0,.rb 5),(.c 0 1,.i .i64),(.c 5 0,.ro 3)]⟩ (.s .o (.k (.l ⟨[0,1,4,5],[],[(.c 0 0,.rb 5),(.c 0 1,.i .i64),(.c 5 0,.ro 3),(.s 6,.i .i64)]⟩ (.s .o (.j ⟨[0,1,4,5,6],[],[(.c 0 0,.rb 5),(.c 0 1,.i .i64),(.c 5 0,.ro 3)]⟩ (.k (.s .o (.c (.m [0]) .o))) .o))))) (.s .o (.j ⟨[0,1,4,5],[],[(.c 0 0,.rb 5),(.c 0 1,.i .i64),(.c 5 0,.ro 3),(.c 5 1,.ro 1041)]⟩ (.s .o (.k (.l ⟨[0,1,4,5,7],[],[(.c 0 0,.rb 5),(.c 0 1,.i .i64),(.c 5 0,.ro 3),(.c 5 1,.ro 1041),(.c 7 0,.ro 3),(.c 7 1,.i .i64),(.c 7 2,.i .i64),(.c 7 3,.i .i64),(.c 7 4,.i .i64),(.c 7 5,.b),(.c 7 6,.i .i64),(.c 7 7,.i .i64),(.c 7 8,.i .i64),(.c 7 9,.b),(.c 7 10,.b),(.c 7 11,.b),(.c 7 12,.b),(.c 7 13,.ro 3),(.c 7 14,.ro 3),(.c 7 15,.ro 3),(.s 8,.i .i64)]⟩ (.s .o (.j ⟨[0,1,4,5,7,8],[],[(.c 0 0,.rb 5),(.c 0 1,.i .i64),(.c 5 0,.ro 3),(.c 5 1,.ro 1041),(.c 7 0,.ro 3),(.c 7 1,.i .i64),(.c 7 2,.i .i64),(.c 7 3,.i .i64),(.c 7 4,.i .i64),(.c 7 5,.b),(.c 7 6,.i .i64),(.c 7 7,.i .i64),(.c 7 8,.i .i64),(.c 7 9,.b),(.c 7 10,.b),(.c 7 11,.b),(.c 7 12,.b),(.c 7 13,.ro 3),(.c 7 14,.ro 3),(.c 7 15,.ro 3)]⟩ (.k (.s .o (.j ⟨[0,1,4,5,7,8,9],[],[(.c 0 0,.rb 5),(.c 0 1,.i .i64),(.c 9 13,.ro 3)]⟩ (.s .o (.k (.l ⟨[0,1,4,5,7,8,9],[],[(.c 0 0,.rb 5),(.c 0 1,.i .i64),(.c 9 13,.ro 3),(.s 10,.i .i64)]⟩ (.s .o (.j ⟨[0,1,4,5,7,8,9,10],[],[(.c 0 0,.rb 5),(.c 0 1,.i .i64),(.c 9 13,.ro 3)]⟩ (.k (.j ⟨[0,1,4,5,7,8,9,10],[],[(.c 0 0,.rb 5),(.c 0 1,.i .i64),(.c 9 13,.ro 3)]⟩ .o .o)) .o))))) .o))) .o))))) (.j ⟨[0,1,4,5],[],[(.c 0 0,.rb 5),(.c 0 1,.i .i64),(.c 5 1,.ro 1041)]⟩ (.s .o (.k (.l ⟨[0,1,4,5],[],[(.c 0 0,.rb 5),(.c 0 1,.i .i64),(.c 5 1,.ro 1041),(.s 14,.i .i64)]⟩ (.s .o (.j ⟨[0,1,4,5,14],[],[(.c 0 0,.rb 5),(.c 0 1,.i .i64),(.c 5 1,.ro 1041)]⟩ (.k (.s .o (.s .o (.s .o (.s .o (.c (.s .o (.m [0])) .o)))))) .o))))) (.j ⟨[4,5],[0],[(.c 5 0,.ro 3),(.d 0 0,.rb 5),(.d 0 1,.i .i64),(.c 5 1,.ro 1041)]⟩ (.s .o (.c (.s .o (.k (.s .o (.c (.m [0]) (.s .o (.c .o (.s .o (.c (.g [] [] [.fo (.c 5 1) 0]) (.g [] [] [.fo (.c 5 1) 0]))))))))) .o)) .o))))))) kr kr kr
noncomputable def rI  (s2:(List Int)×Int×(List DLine)):Option (Dl20Rd×(List DLine)):=some ((Dl20Rd.mk s2.1 s2.2.1),s2.2.2)
noncomputable def rS (x_n:Int)(s1:(List Int)×Int×(List DLine)):Option (Dl20Rd×(List DLine)):=
 Option.bind (cond (decide ((0:Int)<((List.length s1.2.2:Nat):Int)))
  (Option.bind (bH (Dl20Rd.mk s1.1 s1.2.1) x_n) λv3=>
  cond v3.2
   (Option.bind (aA v3.1 (3:Int)) λv4=>
   cond (decide (v4.2=(0:Int)))
    (grd ((0:Int)<=(0:Int)/\(0:Int)<((List.length s1.2.2:Nat):Int)) (grd ((0:Int)<=(0:Int)/\(0:Int)<((List.length s1.2.2:Nat):Int)) (some (.go (v4.1.b,v4.1.p,List.set s1.2.2 0 (DLine.mk (List.getD s1.2.2 0 default).Tag (List.getD s1.2.2 0 default).At (DShade.mk ((List.getD s1.2.2 0 default).What).There (!((List.getD s1.2.2 0 default).What).Write) ((List.getD s1.2.2 0 default).What).User ((List.getD s1.2.2 0 default).What).Page ((List.getD s1.2.2 0 default).What).Frame ((List.getD s1.2.2 0 default).What).Ready)))))))
    (cond (decide (v4.2=(1:Int)))
     (grd ((0:Int)<=(0:Int)/\(0:Int)<((List.length s1.2.2:Nat):Int)) (grd ((List.length s1.2.2+List.length ([DLine.mk (List.getD s1.2.2 0 default).Tag (List.getD s1.2.2 0 default).At (DShade.mk ((List.getD s1.2.2 0 default).What).There ((List.getD s1.2.2 0 default).What).Write ((List.getD s1.2.2 0 default).What).User ((List.getD s1.2.2 0 default).What).Page ((List.getD s1.2.2 0 default).What).Frame ((List.getD s1.2.2 0 default).What).Ready)]:List DLine))*48<=2^47/\List.length s1.2.2+List.length ([DLine.mk (List.getD s1.2.2 0 default).Tag (List.getD s1.2.2 0 default).At (DShade.mk ((List.getD s1.2.2 0 default).What).There ((List.getD s1.2.2 0 default).What).Write ((List.getD s1.2.2 0 default).What).User ((List.getD s1.2.2 0 default).What).Page ((List.getD s1.2.2 0 default).What).Frame ((List.getD s1.2.2 0 default).What).Ready)]:List DLine)<=2^47) (some (.go (v4.1.b,v4.1.p,s1.2.2++([DLine.mk (List.getD s1.2.2 0 default).Tag (List.getD s1.2.2 0 default).At (DShade.mk ((List.getD s1.2.2 0 default).What).There ((List.getD s1.2.2 0 default).What).Write ((List.getD s1.2.2 0 default).What).User ((List.getD s1.2.2 0 default).What).Page ((List.getD s1.2.2 0 default).What).Frame ((List.getD s1.2.2 0 default).What).Ready)]:List DLine))))))
     (Option.bind (aA v4.1 (4:Int)) λv5=>
     grd ((0:Int)<=(0:Int)/\(0:Int)<((List.length s1.2.2:Nat):Int)) (some (.go (v5.1.b,v5.1.p,List.set s1.2.2 0 (DLine.mk v5.2 (List.getD s1.2.2 0 default).At (DShade.mk ((List.getD s1.2.2 0 default).What).There ((List.getD s1.2.2 0 default).What).Write ((List.getD s1.2.2 0 default).What).User ((List.getD s1.2.2 0 default).What).Page ((List.getD s1.2.2 0 default).What).Frame ((List.getD s1.2.2 0 default).What).Ready))))))))
   (some (.go (v3.1.b,v3.1.p,s1.2.2))))
  (some (.go (s1.1,s1.2.1,s1.2.2)))) λj2=>
  JO.run j2 rI
noncomputable def rX (s7:(List Int)×Int×(List DLine)×Int)(s8:(List Int)×Int×(List DLine)):Option (LO ((List Int)×Int×(List DLine)×Int) (JO ((List Int)×Int×(List DLine)) (Dl20Rd×(List DLine)))):=some (.next (s8.1,s8.2.1,s8.2.2,w64 (s7.2.2.2-(1:Int))))
noncomputable def iC (x_h:DHost)(s7:(List Int)×Int×(List DLine)×Int):Option (LO ((List Int)×Int×(List DLine)×Int) (JO ((List Int)×Int×(List DLine)) (Dl20Rd×(List DLine)))):=
 cond (decide ((0:Int)<s7.2.2.2))
  (Option.bind (Option.bind (aA (Dl20Rd.mk s7.1 s7.2.1) (3:Int)) λv9=>
   Option.bind (aA v9.1 (64:Int)) λv10=>
   Option.bind (iP x_h s7.2.2.1 v9.2 v10.2 true true) λv11=>
   cond (decide ((0:Int)<=v11.2.2))
    (some (.go (v10.1.b,v10.1.p,v11.1)))
    (some (.go (v10.1.b,v10.1.p,s7.2.2.1)))) λj8=>
   JO.run j8 (rX s7))
  (some (.ret (.go (s7.1,s7.2.1,s7.2.2.1))))
noncomputable def lT (x_r:Dl20Rd)(x_h:DHost)(x_n:Int):Option (Dl20Rd×(List DLine)):=
 Option.bind (Option.bind (aA x_r (10:Int)) λv6=>
  Option.bind (iter (iC x_h) (v6.1.b,v6.1.p,([]:List DLine),v6.2)) LO.val) λj1=>
  JO.run j1 (rS x_n)
noncomputable def g69:Sw tG:=⟨[.pt 109,.v (.st 26),.v (.i .i64)],.one (.row 68),lT⟩
theorem s69:Sjk 69 g69:=sgy [(76,.w g76),(33,.r g33),(108,.w aDr)] ⟨s76,s33,aHr,trivial⟩ (.s .o (.s .o (.j ⟨[0,2],[],[(.c 0 0,.rb 5),(.c 0 1,.i .i64),(.s 7,.ro 68)]⟩ (.s .o (.k (.l ⟨[0,2,4],[],[(.c 0 0,.rb 5),(.c 0 1,.i .i64),(.s 7,.ro 68),(.s 8,.i .i64)]⟩ (.s .o (.j ⟨[0,2,4,8],[],[(.c 0 0,.rb 5),(.c 0 1,.i .i64),(.s 7,.ro 68)]⟩ (.k (.s (.m [0]) .o)) .o))))) (.j ⟨[],[0],[(.d 0 0,.rb 5),(.d 0 1,.i .i64),(.s 7,.ro 68)]⟩ .o .o)))) kr kr kr
noncomputable def yM (x_a:DSlot):Option DSlot:=some x_a
noncomputable def bDb:Sg tG:=⟨[.st 153],.one (.st 43),yM⟩
theorem bHr:Sok 139 bDb:=sgx [] trivial .o kr kr kr
noncomputable def aBt  (s1:List DSlot):Option (List DSlot):=some s1
noncomputable def aCa (x_a:List DSlot)(s2:(List DSlot)×Int):Option (LO ((List DSlot)×Int) (JO (List DSlot) (List DSlot))):=
 cond (decide (s2.2<((List.length x_a:Nat):Int)))
  (grd ((0:Int)<=s2.2/\s2.2<((List.length x_a:Nat):Int)) (Option.bind (yM (DSlot.mk (List.getD x_a (Int.toNat s2.2) default).Frame (List.getD x_a (Int.toNat s2.2) default).Write (List.getD x_a (Int.toNat s2.2) default).Dirty)) λv3=>
   grd ((0:Int)<=s2.2/\s2.2<((List.length s2.1:Nat):Int)) (some (.next ((List.set s2.1 (Int.toNat s2.2) v3),w64 (s2.2+(1:Int)))))))
  (some (.ret (.go s2.1)))
noncomputable def wH (x_a:List DSlot):Option (List DSlot):=
 grd ((0:Int)<=((List.length x_a:Nat):Int)/\((List.length x_a:Nat):Int)*16<=2^47/\((List.length x_a:Nat):Int)<=2^47) (Option.bind (Option.bind (iter (aCa x_a) ((List.replicate (Int.toNat ((List.length x_a:Nat):Int)) (DSlot.mk (0:Int) false false)),(0:Int))) LO.val) λj1=>
  JO.run j1 aBt)
noncomputable def bCg:Sg tG:=⟨[.row 153],.one (.row 43),wH⟩
theorem bGi:Sok 127 bCg:=sgx [(139,.r bDb)] ⟨bHr,trivial⟩ (.s .o (.s .o (.j ⟨[],[],[(.s 3,.ro 43)]⟩ (.s .o (.k (.l ⟨[0],[],[(.s 3,.ro 43),(.s 4,.i .i64)]⟩ .o))) .o))) kr kr kr
noncomputable def vS (x_a:DGuest):Option DGuest:=
 Option.bind (yJ x_a.C) λv1=>
 Option.bind (wH x_a.Pages) λv2=>
 Option.bind (jL x_a.In) λv3=>
 Option.bind (jL x_a.Out) λv4=>
 some (DGuest.mk x_a.Live v1 v2 v3 v4)
noncomputable def bCl:Sg tG:=⟨[.st 123],.one (.st 41),vS⟩
theorem bHe:Sok 100 bCl:=sgx [(126,.r bEv),(127,.r bCg),(60,.r g60)] ⟨bHx,bGi,s60,trivial⟩ .o kr kr kr
noncomputable def aAd  (s1:List DGuest):Option (List DGuest):=some s1
noncomputable def zE (x_a:List DGuest)(s2:(List DGuest)×Int):Option (LO ((List DGuest)×Int) (JO (List DGuest) (List DGuest))):=
 cond (decide (s2.2<((List.length x_a:Nat):Int)))
  (grd ((0:Int)<=s2.2/\s2.2<((List.length x_a:Nat):Int)) (Option.bind (vS (DGuest.mk (List.getD x_a (Int.toNat s2.2) default).Live (DCore.mk ((List.getD x_a (Int.toNat s2.2) default).C).Regs ((List.getD x_a (Int.toNat s2.2) default).C).Pc ((List.getD x_a (Int.toNat s2.2) default).C).Root ((List.getD x_a (Int.toNat s2.2) default).C).Vector ((List.getD x_a (Int.toNat s2.2) default).C).Saved ((List.getD x_a (Int.toNat s2.2) default).C).SavedUser ((List.getD x_a (Int.toNat s2.2) default).C).Cause ((List.getD x_a (Int.toNat s2.2) default).C).Bad ((List.getD x_a (Int.toNat s2.2) default).C).Timer ((List.getD x_a (Int.toNat s2.2) default).C).Waits ((List.getD x_a (Int.toNat s2.2) default).C).User ((List.getD x_a (Int.toNat s2.2) default).C).On ((List.getD x_a (Int.toNat s2.2) default).C).Stopped) (List.getD x_a (Int.toNat s2.2) default).Pages (List.getD x_a (Int.toNat s2.2) default).In (List.getD x_a (Int.toNat s2.2) default).Out)) λv3=>
   grd ((0:Int)<=s2.2/\s2.2<((List.length s2.1:Nat):Int)) (some (.next ((List.set s2.1 (Int.toNat s2.2) v3),w64 (s2.2+(1:Int)))))))
  (some (.ret (.go s2.1)))
noncomputable def uT (x_a:List DGuest):Option (List DGuest):=
 grd ((0:Int)<=((List.length x_a:Nat):Int)/\((List.length x_a:Nat):Int)*176<=2^47/\((List.length x_a:Nat):Int)<=2^47) (Option.bind (Option.bind (iter (zE x_a) ((List.replicate (Int.toNat ((List.length x_a:Nat):Int)) (DGuest.mk false (DCore.mk ([]:List Int) (0:Int) (0:Int) (0:Int) (0:Int) false (0:Int) (0:Int) (0:Int) false false false false) ([]:List DSlot) ([]:List Int) ([]:List Int))),(0:Int))) LO.val) λj1=>
  JO.run j1 aAd)
noncomputable def g61:Sg tG:=⟨[.row 123],.one (.row 1041),uT⟩
theorem s61:Sok 61 g61:=sgx [(100,.r bCl)] ⟨bHe,trivial⟩ (.s .o (.s (.g [] [] [.fo (.s 3) 0]) (.j ⟨[],[],[(.s 3,.ro 1041)]⟩ (.s .o (.k (.l ⟨[0],[],[(.s 3,.ro 1041),(.s 4,.i .i64)]⟩ (.s .o (.s (.k (.g [] [] [.fo (.s 3) 0])) .o))))) .o))) kr kr kr
noncomputable def aJa (x_a:DHost):Option DHost:=
 Option.bind (jL x_a.Words) λv1=>
 Option.bind (uT x_a.Guests) λv2=>
 some (DHost.mk v1 v2)
noncomputable def g24:Sg tG:=⟨[.st 46],.one (.st 2026),aJa⟩
theorem s24:Sok 24 g24:=sgx [(60,.r g60),(61,.r g61)] ⟨s60,s61,trivial⟩ .o kr kr kr
noncomputable def yN (x_a:DSlot)(x_b:DSlot):Option Bool:=
 cond (!decide (x_a.Frame=x_b.Frame))
  (some false)
  (cond (!(x_a.Write==x_b.Write))
   (some false)
   (cond (!(x_a.Dirty==x_b.Dirty))
    (some false)
    (some true)))
noncomputable def bCx:Sg tG:=⟨[.st 43,.st 43],.one .b,yN⟩
theorem bHp:Sok 140 bCx:=sgx [] trivial .o kr kr kr
noncomputable def aBs  (s1:Unit):Option Bool:=some true
noncomputable def aBu (x_a:List DSlot)(x_b:List DSlot)(s2:Int):Option (LO Int (JO Unit Bool)):=
 cond (decide (s2<((List.length x_a:Nat):Int)))
  (grd ((0:Int)<=s2/\s2<((List.length x_a:Nat):Int)) (grd ((0:Int)<=s2/\s2<((List.length x_b:Nat):Int)) (Option.bind (yN (DSlot.mk (List.getD x_a (Int.toNat s2) default).Frame (List.getD x_a (Int.toNat s2) default).Write (List.getD x_a (Int.toNat s2) default).Dirty) (DSlot.mk (List.getD x_b (Int.toNat s2) default).Frame (List.getD x_b (Int.toNat s2) default).Write (List.getD x_b (Int.toNat s2) default).Dirty)) λv3=>
   cond (!v3)
    (some (.ret (.out false)))
    (some (.next (w64 (s2+(1:Int))))))))
  (some (.ret (.go ())))
noncomputable def wD (x_a:List DSlot)(x_b:List DSlot):Option Bool:=
 cond (!decide (((List.length x_a:Nat):Int)=((List.length x_b:Nat):Int)))
  (some false)
  (Option.bind (Option.bind (iter (aBu x_a x_b) (0:Int)) LO.val) λj1=>
   JO.run j1 aBs)
noncomputable def bCj:Sg tG:=⟨[.row 43,.row 43],.one .b,wD⟩
theorem bHq:Sok 129 bCj:=sgx [(140,.r bCx)] ⟨bHp,trivial⟩ (.s .o (.s .o (.j ⟨[],[],[]⟩ (.s .o (.k (.l ⟨[0,1],[],[(.s 5,.i .i64)]⟩ .o))) .o))) kr kr kr
noncomputable def vY (x_a:DGuest)(x_b:DGuest):Option Bool:=
 cond (!(x_a.Live==x_b.Live))
  (some false)
  (Option.bind (yH x_a.C x_b.C) λv1=>
  cond (!v1)
   (some false)
   (Option.bind (wD x_a.Pages x_b.Pages) λv2=>
   cond (!v2)
    (some false)
    (Option.bind (jH x_a.In x_b.In) λv3=>
    cond (!v3)
     (some false)
     (Option.bind (jH x_a.Out x_b.Out) λv4=>
     cond (!v4)
      (some false)
      (some true)))))
noncomputable def bCq:Sg tG:=⟨[.st 41,.st 41],.one .b,vY⟩
theorem bGk:Sok 101 bCq:=sgx [(128,.r bFd),(129,.r bCj),(62,.r g62)] ⟨bHs,bHq,s62,trivial⟩ .o kr kr kr
noncomputable def zJ  (s1:Unit):Option Bool:=some true
noncomputable def aAk (x_a:List DGuest)(x_b:List DGuest)(s2:Int):Option (LO Int (JO Unit Bool)):=
 cond (decide (s2<((List.length x_a:Nat):Int)))
  (grd ((0:Int)<=s2/\s2<((List.length x_a:Nat):Int)) (grd ((0:Int)<=s2/\s2<((List.length x_b:Nat):Int)) (Option.bind (vY (DGuest.mk (List.getD x_a (Int.toNat s2) default).Live (DCore.mk ((List.getD x_a (Int.toNat s2) default).C).Regs ((List.getD x_a (Int.toNat s2) default).C).Pc ((List.getD x_a (Int.toNat s2) default).C).Root ((List.getD x_a (Int.toNat s2) default).C).Vector ((List.getD x_a (Int.toNat s2) default).C).Saved ((List.getD x_a (Int.toNat s2) default).C).SavedUser ((List.getD x_a (Int.toNat s2) default).C).Cause ((List.getD x_a (Int.toNat s2) default).C).Bad ((List.getD x_a (Int.toNat s2) default).C).Timer ((List.getD x_a (Int.toNat s2) default).C).Waits ((List.getD x_a (Int.toNat s2) default).C).User ((List.getD x_a (Int.toNat s2) default).C).On ((List.getD x_a (Int.toNat s2) default).C).Stopped) (List.getD x_a (Int.toNat s2) default).Pages (List.getD x_a (Int.toNat s2) default).In (List.getD x_a (Int.toNat s2) default).Out) (DGuest.mk (List.getD x_b (Int.toNat s2) default).Live (DCore.mk ((List.getD x_b (Int.toNat s2) default).C).Regs ((List.getD x_b (Int.toNat s2) default).C).Pc ((List.getD x_b (Int.toNat s2) default).C).Root ((List.getD x_b (Int.toNat s2) default).C).Vector ((List.getD x_b (Int.toNat s2) default).C).Saved ((List.getD x_b (Int.toNat s2) default).C).SavedUser ((List.getD x_b (Int.toNat s2) default).C).Cause ((List.getD x_b (Int.toNat s2) default).C).Bad ((List.getD x_b (Int.toNat s2) default).C).Timer ((List.getD x_b (Int.toNat s2) default).C).Waits ((List.getD x_b (Int.toNat s2) default).C).User ((List.getD x_b (Int.toNat s2) default).C).On ((List.getD x_b (Int.toNat s2) default).C).Stopped) (List.getD x_b (Int.toNat s2) default).Pages (List.getD x_b (Int.toNat s2) default).In (List.getD x_b (Int.toNat s2) default).Out)) λv3=>
   cond (!v3)
    (some (.ret (.out false)))
    (some (.next (w64 (s2+(1:Int))))))))
  (some (.ret (.go ())))
noncomputable def uP (x_a:List DGuest)(x_b:List DGuest):Option Bool:=
 cond (!decide (((List.length x_a:Nat):Int)=((List.length x_b:Nat):Int)))
  (some false)
  (Option.bind (Option.bind (iter (aAk x_a x_b) (0:Int)) LO.val) λj1=>
   JO.run j1 zJ)
noncomputable def g63:Sg tG:=⟨[.row 41,.row 41],.one .b,uP⟩
theorem s63:Sok 63 g63:=sgx [(101,.r bCq)] ⟨bGk,trivial⟩ (.s .o (.s .o (.j ⟨[],[],[]⟩ (.s .o (.k (.l ⟨[0,1],[],[(.s 5,.i .i64)]⟩ .o))) .o))) kr kr kr
noncomputable def aIv (x_a:DHost)(x_b:DHost):Option Bool:=
 Option.bind (jH x_a.Words x_b.Words) λv1=>
 cond (!v1)
  (some false)
  (Option.bind (uP x_a.Guests x_b.Guests) λv2=>
  cond (!v2)
   (some false)
   (some true))
noncomputable def g25:Sg tG:=⟨[.st 26,.st 26],.one .b,aIv⟩
theorem s25:Sok 25 g25:=sgx [(62,.r g62),(63,.r g63)] ⟨s62,s63,trivial⟩ .o kr kr kr
noncomputable def wC (x_a:List DSlot)(x_left:Int):Option Int:=
 cond (decide ((w64 (x_left-((List.length x_a:Nat):Int)))<(0:Int)))
  (some (-1:Int))
  (some (w64 (x_left-((List.length x_a:Nat):Int))))
noncomputable def bEh:Sg tG:=⟨[.row 153,.i .i64],.one (.i .i64),wC⟩
theorem bHh:Sok 125 bEh:=sgx [] trivial .o kr kr kr
noncomputable def wG (x_a:DGuest)(x_left:Int):Option Int:=
 Option.bind (yI x_a.C x_left) λv1=>
 cond (decide (v1<(0:Int)))
  (some (-1:Int))
  (Option.bind (wC x_a.Pages v1) λv2=>
  cond (decide (v2<(0:Int)))
   (some (-1:Int))
   (Option.bind (jN x_a.In v2) λv3=>
   cond (decide (v3<(0:Int)))
    (some (-1:Int))
    (Option.bind (jN x_a.Out v3) λv4=>
    cond (decide (v4<(0:Int)))
     (some (-1:Int))
     (some v4))))
noncomputable def g99:Sg tG:=⟨[.st 123,.i .i64],.one (.i .i64),wG⟩
theorem s99:Sok 99 g99:=sgx [(124,.r bEp),(125,.r bEh),(58,.r g58)] ⟨bHv,bHh,s58,trivial⟩ .o kr kr kr
noncomputable def aAg  (s1:Int):Option Int:=some s1
noncomputable def zI (x_a:List DGuest)(s2:Int×Int):Option (LO (Int×Int) (JO Int Int)):=
 cond (decide (s2.2<((List.length x_a:Nat):Int)))
  (grd ((0:Int)<=s2.2/\s2.2<((List.length x_a:Nat):Int)) (Option.bind (wG (DGuest.mk (List.getD x_a (Int.toNat s2.2) default).Live (DCore.mk ((List.getD x_a (Int.toNat s2.2) default).C).Regs ((List.getD x_a (Int.toNat s2.2) default).C).Pc ((List.getD x_a (Int.toNat s2.2) default).C).Root ((List.getD x_a (Int.toNat s2.2) default).C).Vector ((List.getD x_a (Int.toNat s2.2) default).C).Saved ((List.getD x_a (Int.toNat s2.2) default).C).SavedUser ((List.getD x_a (Int.toNat s2.2) default).C).Cause ((List.getD x_a (Int.toNat s2.2) default).C).Bad ((List.getD x_a (Int.toNat s2.2) default).C).Timer ((List.getD x_a (Int.toNat s2.2) default).C).Waits ((List.getD x_a (Int.toNat s2.2) default).C).User ((List.getD x_a (Int.toNat s2.2) default).C).On ((List.getD x_a (Int.toNat s2.2) default).C).Stopped) (List.getD x_a (Int.toNat s2.2) default).Pages (List.getD x_a (Int.toNat s2.2) default).In (List.getD x_a (Int.toNat s2.2) default).Out) s2.1) λv3=>
   cond (decide (v3<(0:Int)))
    (some (.ret (.out (-1:Int))))
    (some (.next (v3,w64 (s2.2+(1:Int)))))))
  (some (.ret (.go s2.1)))
noncomputable def uS (x_a:List DGuest)(x_left:Int):Option Int:=
 cond (decide ((w64 (x_left-((List.length x_a:Nat):Int)))<(0:Int)))
  (some (-1:Int))
  (Option.bind (Option.bind (iter (zI x_a) ((w64 (x_left-((List.length x_a:Nat):Int))),(0:Int))) LO.val) λj1=>
   JO.run j1 aAg)
noncomputable def g59:Sg tG:=⟨[.row 123,.i .i64],.one (.i .i64),uS⟩
theorem s59:Sok 59 g59:=sgx [(99,.r g99)] ⟨s99,trivial⟩ (.s .o (.s .o (.s .o (.j ⟨[],[],[(.s 1,.i .i64)]⟩ (.s .o (.k (.l ⟨[0],[],[(.s 1,.i .i64),(.s 5,.i .i64)]⟩ .o))) .o)))) kr kr kr
noncomputable def aIy (x_a:DHost)(x_left:Int):Option Int:=
 Option.bind (jN x_a.Words x_left) λv1=>
 cond (decide (v1<(0:Int)))
  (some (-1:Int))
  (Option.bind (uS x_a.Guests v1) λv2=>
  cond (decide (v2<(0:Int)))
   (some (-1:Int))
   (some v2))
noncomputable def g23:Sg tG:=⟨[.st 46,.i .i64],.one (.i .i64),aIy⟩
theorem s23:Sok 23 g23:=sgx [(58,.r g58),(59,.r g59)] ⟨s58,s59,trivial⟩ .o kr kr kr
noncomputable def yQ  (s1:Unit):Option Bool:=some true
noncomputable def gD (x_a:List DLine)(x_b:List DLine)(s2:Int):Option (LO Int (JO Unit Bool)):=
 cond (decide (s2<((List.length x_a:Nat):Int)))
  (grd ((0:Int)<=s2/\s2<((List.length x_a:Nat):Int)) (grd ((0:Int)<=s2/\s2<((List.length x_b:Nat):Int)) (cond (!(decide ((List.getD x_a (Int.toNat s2) default).Tag=(List.getD x_b (Int.toNat s2) default).Tag)&&(decide ((List.getD x_a (Int.toNat s2) default).At=(List.getD x_b (Int.toNat s2) default).At)&&((((List.getD x_a (Int.toNat s2) default).What).There==((List.getD x_b (Int.toNat s2) default).What).There)&&((((List.getD x_a (Int.toNat s2) default).What).Write==((List.getD x_b (Int.toNat s2) default).What).Write)&&((((List.getD x_a (Int.toNat s2) default).What).User==((List.getD x_b (Int.toNat s2) default).What).User)&&(decide (((List.getD x_a (Int.toNat s2) default).What).Page=((List.getD x_b (Int.toNat s2) default).What).Page)&&(decide (((List.getD x_a (Int.toNat s2) default).What).Frame=((List.getD x_b (Int.toNat s2) default).What).Frame)&&((((List.getD x_a (Int.toNat s2) default).What).Ready==((List.getD x_b (Int.toNat s2) default).What).Ready)&&true)))))))))
   (some (.ret (.out false)))
   (some (.next (w64 (s2+(1:Int))))))))
  (some (.ret (.go ())))
noncomputable def fS (x_a:List DLine)(x_b:List DLine):Option Bool:=
 cond (!decide (((List.length x_a:Nat):Int)=((List.length x_b:Nat):Int)))
  (some false)
  (Option.bind (Option.bind (iter (gD x_a x_b) (0:Int)) LO.val) λj1=>
   JO.run j1 yQ)
noncomputable def g34:Sg tG:=⟨[.row 68,.row 68],.one .b,fS⟩
theorem s34:Sok 34 g34:=sgx [] trivial (.s .o (.s .o (.j ⟨[],[],[]⟩ (.s .o (.k (.l ⟨[0,1],[],[(.s 5,.i .i64)]⟩ .o))) .o))) kr kr kr
noncomputable def uB  (s2:(List Int)×Int×Int):Option (Dl20Rd×Int):=
 Option.bind (aA (Dl20Rd.mk s2.1 s2.2.1) (25:Int)) λv3=>
 some (v3.1,w64 (s2.2.2-(w64 (Int.tdiv v3.2 (24:Int)))))
noncomputable def oE (x_r:Dl20Rd)(x_h:DHost):Option (Dl20Rd×Int):=
 Option.bind (aA x_r (3:Int)) λv1=>
 Option.bind (cond (decide (((List.length x_h.Guests:Nat):Int)=(3:Int)))
  (grd ((0:Int)<=v1.2/\v1.2<((List.length x_h.Guests:Nat):Int)) (cond (!(List.getD x_h.Guests (Int.toNat v1.2) default).Live)
   (Option.bind (aA v1.1 (6:Int)) λv4=>
   cond (decide ((0:Int)<v4.2))
    (some (.go (v4.1.b,v4.1.p,(0:Int))))
    (some (.go (v4.1.b,v4.1.p,v1.2))))
   (some (.go (v1.1.b,v1.1.p,v1.2)))))
  (some (.go (v1.1.b,v1.1.p,v1.2)))) λj2=>
  JO.run j2 uB
noncomputable def g75:Sw tG:=⟨[.pt 109,.v (.st 26)],.one (.i .i64),oE⟩
theorem s75:Sjk 75 g75:=sgy [(76,.w g76)] ⟨s76,trivial⟩ (.s .o (.s .o (.j ⟨[0],[],[(.c 0 0,.rb 5),(.c 0 1,.i .i64),(.s 5,.i .i64)]⟩ .o .o))) kr kr kr
noncomputable def aAl  (s1:Unit):Option Bool:=some true
noncomputable def aAu (x_a:List Int)(x_b:List Int)(s2:Int):Option (LO Int (JO Unit Bool)):=
 cond (decide (s2<((List.length x_a:Nat):Int)))
  (grd ((0:Int)<=s2/\s2<((List.length x_a:Nat):Int)) (grd ((0:Int)<=s2/\s2<((List.length x_b:Nat):Int)) (cond (!decide ((List.getD x_a (Int.toNat s2) default)=(List.getD x_b (Int.toNat s2) default)))
   (some (.ret (.out false)))
   (some (.next (w64 (s2+(1:Int))))))))
  (some (.ret (.go ())))
noncomputable def dK (x_a:List Int)(x_b:List Int):Option Bool:=
 cond (!decide (((List.length x_a:Nat):Int)=((List.length x_b:Nat):Int)))
  (some false)
  (Option.bind (Option.bind (iter (aAu x_a x_b) (0:Int)) LO.val) λj1=>
   JO.run j1 aAl)
noncomputable def g18:Sg tG:=⟨[.row 3,.row 3],.one .b,dK⟩
theorem s18:Sok 18 g18:=sgx [] trivial (.s .o (.s .o (.j ⟨[],[],[]⟩ (.s .o (.k (.l ⟨[0,1],[],[(.s 5,.i .i64)]⟩ .o))) .o))) kr kr kr
noncomputable def oW (x_a:DCore)(x_b:DCore):Option Bool:=
 Option.bind (dK x_a.Regs x_b.Regs) λv1=>
 cond (!v1)
  (some false)
  (cond (!decide (x_a.Pc=x_b.Pc))
   (some false)
   (cond (!decide (x_a.Root=x_b.Root))
    (some false)
    (cond (!decide (x_a.Vector=x_b.Vector))
     (some false)
     (cond (!decide (x_a.Saved=x_b.Saved))
      (some false)
      (cond (!(x_a.SavedUser==x_b.SavedUser))
       (some false)
       (cond (decide (x_a.Cause=x_b.Cause))
        (cond (decide (x_a.Bad=x_b.Bad))
         (cond (decide (x_a.Timer=x_b.Timer))
          (cond (x_a.Waits==x_b.Waits)
           (cond (x_a.User==x_b.User)
            (cond (x_a.On==x_b.On)
             (some (x_a.Stopped==x_b.Stopped))
             (some false))
            (some false))
           (some false))
          (some false))
         (some false))
        (some false)))))))
noncomputable def g89:Sg tG:=⟨[.st 38,.st 38],.one .b,oW⟩
theorem s89:Sok 89 g89:=sgx [(18,.r g18)] ⟨s18,trivial⟩ .o kr kr kr
noncomputable def uN (x_a:DBare)(x_b:DBare):Option Bool:=
 Option.bind (oW x_a.C x_b.C) λv1=>
 cond v1
  (Option.bind (dK x_a.Mem x_b.Mem) λv2=>
  cond v2
   (Option.bind (dK x_a.In x_b.In) λv3=>
   cond v3
    (Option.bind (dK x_a.Out x_b.Out) λv4=>
    some v4)
    (some false))
   (some false))
  (some false)
noncomputable def g55:Sg tG:=⟨[.st 82,.st 82],.one .b,uN⟩
theorem s55:Sok 55 g55:=sgx [(89,.r g89),(18,.r g18)] ⟨s89,s18,trivial⟩ .o kr kr kr
noncomputable def yZ  (s4:Unit):Option Bool:=some true
noncomputable def yU (x_a:DGuest)(x_b:DGuest)(s5:Int):Option (LO Int (JO Unit Bool)):=
 cond (decide (s5<((List.length x_a.Pages:Nat):Int)))
  (grd ((0:Int)<=s5/\s5<((List.length x_a.Pages:Nat):Int)) (grd ((0:Int)<=s5/\s5<((List.length x_b.Pages:Nat):Int)) (cond (!(decide ((List.getD x_a.Pages (Int.toNat s5) default).Frame=(List.getD x_b.Pages (Int.toNat s5) default).Frame)&&(((List.getD x_a.Pages (Int.toNat s5) default).Write==(List.getD x_b.Pages (Int.toNat s5) default).Write)&&(((List.getD x_a.Pages (Int.toNat s5) default).Dirty==(List.getD x_b.Pages (Int.toNat s5) default).Dirty)&&true))))
   (some (.ret (.out false)))
   (some (.next (w64 (s5+(1:Int))))))))
  (some (.ret (.go ())))
noncomputable def sY (x_a:DGuest)(x_b:DGuest):Option Bool:=
 cond (!(x_a.Live==x_b.Live))
  (some false)
  (Option.bind (oW x_a.C x_b.C) λv1=>
  cond (!v1)
   (some false)
   (Option.bind (dK x_a.In x_b.In) λv2=>
   cond (!v2)
    (some false)
    (Option.bind (dK x_a.Out x_b.Out) λv3=>
    cond (!v3)
     (some false)
     (cond (!decide (((List.length x_a.Pages:Nat):Int)=((List.length x_b.Pages:Nat):Int)))
      (some false)
      (Option.bind (Option.bind (iter (yU x_a x_b) (0:Int)) LO.val) λj4=>
       JO.run j4 yZ)))))
noncomputable def g44:Sg tG:=⟨[.st 41,.st 41],.one .b,sY⟩
theorem s44:Sok 44 g44:=sgx [(89,.r g89),(18,.r g18)] ⟨s89,s18,trivial⟩ (.s .o (.s .o (.j ⟨[],[],[]⟩ (.s .o (.k (.l ⟨[2,3],[],[(.s 5,.i .i64)]⟩ .o))) .o))) kr kr kr
noncomputable def aAb  (s2:Unit):Option Bool:=some true
noncomputable def zU (x_a:DHost)(x_b:DHost)(s3:Int):Option (LO Int (JO Unit Bool)):=
 cond (decide (s3<((List.length x_a.Guests:Nat):Int)))
  (grd ((0:Int)<=s3/\s3<((List.length x_a.Guests:Nat):Int)) (grd ((0:Int)<=s3/\s3<((List.length x_b.Guests:Nat):Int)) (Option.bind (sY (DGuest.mk (List.getD x_a.Guests (Int.toNat s3) default).Live (DCore.mk ((List.getD x_a.Guests (Int.toNat s3) default).C).Regs ((List.getD x_a.Guests (Int.toNat s3) default).C).Pc ((List.getD x_a.Guests (Int.toNat s3) default).C).Root ((List.getD x_a.Guests (Int.toNat s3) default).C).Vector ((List.getD x_a.Guests (Int.toNat s3) default).C).Saved ((List.getD x_a.Guests (Int.toNat s3) default).C).SavedUser ((List.getD x_a.Guests (Int.toNat s3) default).C).Cause ((List.getD x_a.Guests (Int.toNat s3) default).C).Bad ((List.getD x_a.Guests (Int.toNat s3) default).C).Timer ((List.getD x_a.Guests (Int.toNat s3) default).C).Waits ((List.getD x_a.Guests (Int.toNat s3) default).C).User ((List.getD x_a.Guests (Int.toNat s3) default).C).On ((List.getD x_a.Guests (Int.toNat s3) default).C).Stopped) (List.getD x_a.Guests (Int.toNat s3) default).Pages (List.getD x_a.Guests (Int.toNat s3) default).In (List.getD x_a.Guests (Int.toNat s3) default).Out) (DGuest.mk (List.getD x_b.Guests (Int.toNat s3) default).Live (DCore.mk ((List.getD x_b.Guests (Int.toNat s3) default).C).Regs ((List.getD x_b.Guests (Int.toNat s3) default).C).Pc ((List.getD x_b.Guests (Int.toNat s3) default).C).Root ((List.getD x_b.Guests (Int.toNat s3) default).C).Vector ((List.getD x_b.Guests (Int.toNat s3) default).C).Saved ((List.getD x_b.Guests (Int.toNat s3) default).C).SavedUser ((List.getD x_b.Guests (Int.toNat s3) default).C).Cause ((List.getD x_b.Guests (Int.toNat s3) default).C).Bad ((List.getD x_b.Guests (Int.toNat s3) default).C).Timer ((List.getD x_b.Guests (Int.toNat s3) default).C).Waits ((List.getD x_b.Guests (Int.toNat s3) default).C).User ((List.getD x_b.Guests (Int.toNat s3) default).C).On ((List.getD x_b.Guests (Int.toNat s3) default).C).Stopped) (List.getD x_b.Guests (Int.toNat s3) default).Pages (List.getD x_b.Guests (Int.toNat s3) default).In (List.getD x_b.Guests (Int.toNat s3) default).Out)) λv4=>
   cond (!v4)
    (some (.ret (.out false)))
    (some (.next (w64 (s3+(1:Int))))))))
  (some (.ret (.go ())))
noncomputable def aEw (x_a:DHost)(x_b:DHost):Option Bool:=
 Option.bind (dK x_a.Words x_b.Words) λv1=>
 cond (!v1)
  (some false)
  (cond (!decide (((List.length x_a.Guests:Nat):Int)=((List.length x_b.Guests:Nat):Int)))
   (some false)
   (Option.bind (Option.bind (iter (zU x_a x_b) (0:Int)) LO.val) λj2=>
    JO.run j2 aAb))
noncomputable def g12:Sg tG:=⟨[.st 26,.st 26],.one .b,aEw⟩
theorem s12:Sok 12 g12:=sgx [(18,.r g18),(44,.r g44)] ⟨s18,s44,trivial⟩ (.s .o (.s .o (.j ⟨[],[],[]⟩ (.s .o (.k (.l ⟨[2,3],[],[(.s 5,.i .i64)]⟩ .o))) .o))) kr kr kr
noncomputable def yY  (s1:Unit):Option Bool:=some true
noncomputable def yS (s2:Int)(s3:Unit):Option (LO Int (JO Unit Bool)):=some (.next (w64 (s2+(1:Int))))
noncomputable def yR (x_a:DHost)(x_b:DHost)(x_but:Int)(s2:Int):Option (LO Int (JO Unit Bool)):=
 cond (decide (s2<(3:Int)))
  (Option.bind (Option.bind (oU x_a s2) λv4=>
   Option.bind (oU x_b s2) λv5=>
   cond (!decide (s2=x_but))
    (cond (!(v4.2==v5.2))
     (some (.out (.ret (.out false))))
     (Option.bind (uN v4.1 v5.1) λv6=>
     cond (!v6)
      (some (.out (.ret (.out false))))
      (some (.go ()))))
    (some (.go ()))) λj3=>
   JO.run j3 (yS s2))
  (some (.ret (.go ())))
noncomputable def aCv (x_a:DHost)(x_b:DHost)(x_but:Int):Option Bool:=
 Option.bind (Option.bind (iter (yR x_a x_b x_but) (0:Int)) LO.val) λj1=>
  JO.run j1 yY
noncomputable def g19:Sg tG:=⟨[.st 26,.st 26,.i .i64],.one .b,aCv⟩
theorem s19:Sok 19 g19:=sgx [(54,.r g54),(55,.r g55)] ⟨s54,s55,trivial⟩ (.s .o (.j ⟨[],[],[]⟩ (.s .o (.k (.l ⟨[2,3,4],[],[(.s 7,.i .i64)]⟩ (.s .o (.j ⟨[2,3,4,7],[],[]⟩ .o .o))))) .o)) kr kr kr
noncomputable def gK (x_code:List Int):Option (DHost×(List DLine)×Int×Int×Bool×Bool):=
 Option.bind (fQ x_code) λv1=>
 Option.bind (lK v1 (20:Int)) λv2=>
 Option.bind (lT v2.1 v2.2 (15:Int)) λv3=>
 Option.bind (oE v3.1 v2.2) λv4=>
 Option.bind (aA v4.1 (64:Int)) λv5=>
 Option.bind (aA v5.1 (2:Int)) λv6=>
 Option.bind (aA v6.1 (2:Int)) λv7=>
 some (v2.2,v3.2,v4.2,v5.2,decide (v6.2=(0:Int)),decide (v7.2=(0:Int)))
noncomputable def g31:Sg tG:=⟨[.row 5],.tup (.sb 26) (.rb 68) [.i .i64,.i .i64,.b,.b],gK⟩
theorem s31:Sok 31 g31:=sgx [(40,.o g40),(68,.w g68),(69,.w g69),(75,.w g75),(76,.w g76)] ⟨s40,s68,s69,s75,s76,trivial⟩ (.s .o (.s .o (.s .o (.s (.g [.fr (.c 9 0) 0,.fr (.c 9 1) 0] [0,1] []) .o)))) kr kr kr
noncomputable def fR (x_code:List Int):Option Bool:=
 cond (decide ((1048576:Int)<((List.length x_code:Nat):Int)))
  (some true)
  (Option.bind (gK x_code) λv1=>
  Option.bind (iF v1.1 v1.2.1 v1.2.2.1 v1.2.2.2.1 v1.2.2.2.2.1 v1.2.2.2.2.2) λv2=>
  Option.bind (iP v1.1 v1.2.1 v1.2.2.1 v1.2.2.2.1 v1.2.2.2.2.1 v1.2.2.2.2.2) λv3=>
  cond (!decide (v2.2.1=v3.2.1))
   (some false)
   (cond (!decide (v2.2.2=v3.2.2))
    (some false)
    (Option.bind (fS v2.1 v3.1) λv4=>
    cond (!v4)
     (some false)
     (cond (decide (v2.2.2<(0:Int)))
      (cond (decide (((List.length v2.1:Nat):Int)=(0:Int)))
       (Option.bind iK  λv5=>
       some v5)
       (some false))
      (Option.bind (iA v1.1 v1.2.2.1 v1.2.2.2.1 v1.2.2.2.2.1 v1.2.2.2.2.2) λv6=>
      Option.bind (iF v1.1 v2.1 v1.2.2.1 v1.2.2.2.1 v1.2.2.2.2.1 v1.2.2.2.2.2) λv7=>
      cond (decide (v6.1=v2.2.1))
       (cond (decide (v6.2=v2.2.2))
        (cond (decide (v7.2.1=v2.2.1))
         (Option.bind (fS v7.1 v2.1) λv8=>
         cond v8
          (Option.bind (jR v1.1 v2.1) λv9=>
          cond v9
           (Option.bind iK  λv10=>
           some v10)
           (some false))
          (some false))
         (some false))
        (some false))
       (some false))))))
noncomputable def g8:Sg tG:=⟨[.row 5],.one .b,fR⟩
theorem s8:Sok 8 g8:=sgx [(31,.r g31),(32,.r g32),(33,.r g33),(34,.r g34),(15,.r g15),(35,.r g35),(29,.r g29)] ⟨s31,s32,s33,s34,s15,s35,s29,trivial⟩ .o kr kr kr
theorem aCb{x_code:List Int}{R_:Bool}(hh:fR x_code=some R_):Fn Try.prog 8 [bo (eI .u8) x_code] (.bool R_):=kc (s8 x_code R_ hh)
end Go.Proofs.Ytkjabgefacfpfaa
