/- Plain functions of the program, and that it hands back what they say. Made by program. -/
import Derived.Test.YtobbmlnagjhofaaWTD
import Derived.Test.YtobbmlnagjhofaaProg
namespace Go.Proofs.Ytobbmlnagjhofaa
open Go.RowKit
set_option maxRecDepth 100000
set_option linter.all false
set_option maxHeartbeats 0
noncomputable def hU (x_n:Int):Option Bool:=
 cond (decide ((0:Int)<=x_n))
  (some (decide (x_n<=(4095:Int))))
  (some false)
noncomputable def g52:Sg tG:=⟨[.i .i64],.one .b,hU⟩
theorem s52:Sok 52 g52:=sgx [] trivial .o kr kr kr
noncomputable def aFs  (s1:Unit):Option Bool:=some true
noncomputable def uU (x_list:List Int)(s2:Int):Option (LO Int (JO Unit Bool)):=
 cond (decide (s2<((List.length x_list:Nat):Int)))
  (grd ((0:Int)<=s2/\s2<((List.length x_list:Nat):Int)) (Option.bind (hU (List.getD x_list (Int.toNat s2) default)) λv3=>
   cond (!v3)
    (some (.ret (.out false)))
    (some (.next (w64 (s2+(1:Int)))))))
  (some (.ret (.go ())))
noncomputable def fW (x_list:List Int):Option Bool:=
 Option.bind (Option.bind (iter (uU x_list) (0:Int)) LO.val) λj1=>
  JO.run j1 aFs
noncomputable def g55:Sg tG:=⟨[.row 3],.one .b,fW⟩
theorem s55:Sok 55 g55:=sgx [(52,.r g52)] ⟨s52,trivial⟩ (.s .o (.j ⟨[],[],[]⟩ (.s .o (.k (.l ⟨[5,6],[],[(.s 7,.i .i64)]⟩ .o))) .o)) kr kr kr
noncomputable def cH (x_addr:Int):Option Bool:=
 cond (decide ((0:Int)<=x_addr))
  (some (decide (x_addr<(64:Int))))
  (some false)
noncomputable def bJy:Sg tG:=⟨[.i .i64],.one .b,cH⟩
theorem bKt:Sok 123 bJy:=sgx [] trivial .o kr kr kr
noncomputable def lZ (x_page:Int):Option Bool:=
 cond (decide ((0:Int)<=x_page))
  (some (decide (x_page<(8:Int))))
  (some false)
noncomputable def bEd:Sg tG:=⟨[.i .i64],.one .b,lZ⟩
theorem bIf:Sok 108 bEd:=sgx [] trivial .o kr kr kr
noncomputable def lT (x_root:Int):Option Bool:=
 cond (decide (x_root=(-1:Int)))
  (some true)
  (Option.bind (lZ x_root) λv1=>
  some v1)
noncomputable def bIp:Sg tG:=⟨[.i .i64],.one .b,lT⟩
theorem bLl:Sok 124 bIp:=sgx [(108,.r bEd)] ⟨bIf,trivial⟩ .o kr kr kr
noncomputable def lX (x_c:DCore):Option Bool:=
 cond (decide (((List.length x_c.Regs:Nat):Int)=(4:Int)))
  (Option.bind (fW x_c.Regs) λv1=>
  Option.bind (cH x_c.Pc) λv2=>
  cond v2
   (Option.bind (cH x_c.Vector) λv3=>
   cond v3
    (Option.bind (cH x_c.Saved) λv4=>
    cond v4
     (Option.bind (cH x_c.Bad) λv5=>
     cond (decide ((0:Int)<=x_c.Cause))
      (cond v1
       (cond v5
        (Option.bind (lT x_c.Root) λv6=>
        cond v6
         (cond (decide (x_c.Cause<=(4:Int)))
          (Option.bind (hU x_c.Timer) λv7=>
          some v7)
          (some false))
         (some false))
        (some false))
       (some false))
      (cond v1
       (cond v5
        (Option.bind (lT x_c.Root) λv8=>
        cond v8
         (some false)
         (some false))
        (some false))
       (some false)))
     (cond (decide ((0:Int)<=x_c.Cause))
      (cond v1
       (some false)
       (some false))
      (cond v1
       (some false)
       (some false))))
    (cond (decide ((0:Int)<=x_c.Cause))
     (cond v1
      (some false)
      (some false))
     (cond v1
      (some false)
      (some false))))
   (cond (decide ((0:Int)<=x_c.Cause))
    (cond v1
     (some false)
     (some false))
    (cond v1
     (some false)
     (some false))))
  (Option.bind (cH x_c.Pc) λv9=>
  cond v9
   (Option.bind (cH x_c.Vector) λv10=>
   cond v10
    (Option.bind (cH x_c.Saved) λv11=>
    cond v11
     (Option.bind (cH x_c.Bad) λv12=>
     cond (decide ((0:Int)<=x_c.Cause))
      (some false)
      (some false))
     (cond (decide ((0:Int)<=x_c.Cause))
      (some false)
      (some false)))
    (cond (decide ((0:Int)<=x_c.Cause))
     (some false)
     (some false)))
   (cond (decide ((0:Int)<=x_c.Cause))
    (some false)
    (some false)))
noncomputable def g99:Sg tG:=⟨[.st 34],.one .b,lX⟩
theorem s99:Sok 99 g99:=sgx [(55,.r g55),(123,.r bJy),(124,.r bIp),(52,.r g52)] ⟨s55,bKt,bLl,s52,trivial⟩ .o kr kr kr
noncomputable def rD (x_mem:List Int):Option Bool:=
 cond (decide (((List.length x_mem:Nat):Int)=(64:Int)))
  (Option.bind (fW x_mem) λv1=>
  some v1)
  (some false)
noncomputable def bIz:Sg tG:=⟨[.row 3],.one .b,rD⟩
theorem bLa:Sok 100 bIz:=sgx [(55,.r g55)] ⟨s55,trivial⟩ .o kr kr kr
noncomputable def jC (x_words:List Int):Option Bool:=
 cond (decide (((List.length x_words:Nat):Int)<=(30:Int)))
  (Option.bind (fW x_words) λv1=>
  some v1)
  (some false)
noncomputable def bCi:Sg tG:=⟨[.row 3],.one .b,jC⟩
theorem bJr:Sok 101 bCi:=sgx [(55,.r g55)] ⟨s55,trivial⟩ .o kr kr kr
noncomputable def lV (x_b:DBare):Option Bool:=
 Option.bind (lX x_b.C) λv1=>
 cond v1
  (Option.bind (rD x_b.Mem) λv2=>
  cond v2
   (Option.bind (jC x_b.In) λv3=>
   cond v3
    (Option.bind (jC x_b.Out) λv4=>
    some v4)
    (some false))
   (some false))
  (some false)
noncomputable def g64:Sg tG:=⟨[.st 36],.one .b,lV⟩
theorem s64:Sok 64 g64:=sgx [(99,.r g99),(100,.r bIz),(101,.r bCi)] ⟨s99,bLa,bJr,trivial⟩ .o kr kr kr
theorem aKm{x_b:DBare}{R_:Bool}(hh:lV x_b=some R_):Fn Try.prog 64 [.agg (nI x_b)] (.bool R_):=kc (s64 x_b R_ hh)
noncomputable def bX (x_n:Int)(x_low:Int)(x_high:Int):Option Bool:=
 cond (decide (x_low<=x_n))
  (some (decide (x_n<=x_high)))
  (some false)
noncomputable def g73:Sg tG:=⟨[.i .i64,.i .i64,.i .i64],.one .b,bX⟩
theorem s73:Sok 73 g73:=sgx [] trivial .o kr kr kr
noncomputable def hZ (x_n:Int):Option Bool:=
 Option.bind (bX x_n (0:Int) (4095:Int)) λv1=>
 some v1
noncomputable def aXr:Sg tG:=⟨[.i .i64],.one .b,hZ⟩
theorem bCt:Sok 126 aXr:=sgx [(73,.r g73)] ⟨s73,trivial⟩ .o kr kr kr
noncomputable def wZ (x_c:DCore)(s1:Unit):Option Bool:=
 cond (decide (((List.length x_c.Regs:Nat):Int)=(4:Int)))
  (Option.bind (bX x_c.Pc (0:Int) (63:Int)) λv2=>
  cond v2
   (Option.bind (bX x_c.Vector (0:Int) (63:Int)) λv3=>
   cond v3
    (Option.bind (bX x_c.Saved (0:Int) (63:Int)) λv4=>
    cond v4
     (Option.bind (bX x_c.Bad (0:Int) (63:Int)) λv5=>
     cond v5
      (Option.bind (bX x_c.Root (-1:Int) (7:Int)) λv6=>
      cond v6
       (Option.bind (bX x_c.Cause (0:Int) (4:Int)) λv7=>
       cond v7
        (Option.bind (hZ x_c.Timer) λv8=>
        some v8)
        (some false))
       (some false))
      (some false))
     (some false))
    (some false))
   (some false))
  (some false)
noncomputable def wO (x_c:DCore)(s9:Int):Option (LO Int (JO Unit Bool)):=
 cond (decide (s9<((List.length x_c.Regs:Nat):Int)))
  (grd ((0:Int)<=s9/\s9<((List.length x_c.Regs:Nat):Int)) (Option.bind (hZ (List.getD x_c.Regs (Int.toNat s9) default)) λv10=>
   cond (!v10)
    (some (.ret (.out false)))
    (some (.next (w64 (s9+(1:Int)))))))
  (some (.ret (.go ())))
noncomputable def jP (x_c:DCore):Option Bool:=
 Option.bind (Option.bind (iter (wO x_c) (0:Int)) LO.val) λj1=>
  JO.run j1 (wZ x_c)
noncomputable def bDg:Sg tG:=⟨[.st 34],.one .b,jP⟩
theorem bJk:Sok 104 bDg:=sgx [(126,.r aXr),(73,.r g73)] ⟨bCt,s73,trivial⟩ (.s .o (.j ⟨[1],[],[]⟩ (.s .o (.k (.l ⟨[1],[],[(.s 3,.i .i64)]⟩ .o))) .o)) kr kr kr
noncomputable def xH (x_mem:List Int)(s1:Unit):Option Bool:=some (decide (((List.length x_mem:Nat):Int)=(64:Int)))
noncomputable def xU (x_mem:List Int)(s2:Int):Option (LO Int (JO Unit Bool)):=
 cond (decide (s2<((List.length x_mem:Nat):Int)))
  (grd ((0:Int)<=s2/\s2<((List.length x_mem:Nat):Int)) (Option.bind (hZ (List.getD x_mem (Int.toNat s2) default)) λv3=>
   cond (!v3)
    (some (.ret (.out false)))
    (some (.next (w64 (s2+(1:Int)))))))
  (some (.ret (.go ())))
noncomputable def qX (x_mem:List Int):Option Bool:=
 Option.bind (Option.bind (iter (xU x_mem) (0:Int)) LO.val) λj1=>
  JO.run j1 (xH x_mem)
noncomputable def bId:Sg tG:=⟨[.row 3],.one .b,qX⟩
theorem bLs:Sok 105 bId:=sgx [(126,.r aXr)] ⟨bCt,trivial⟩ (.s .o (.j ⟨[0],[],[]⟩ (.s .o (.k (.l ⟨[0],[],[(.s 3,.i .i64)]⟩ .o))) .o)) kr kr kr
noncomputable def pC (x_list:List Int)(x_most:Int)(s1:Unit):Option Bool:=some (decide (((List.length x_list:Nat):Int)<=x_most))
noncomputable def oP (x_list:List Int)(s2:Int):Option (LO Int (JO Unit Bool)):=
 cond (decide (s2<((List.length x_list:Nat):Int)))
  (grd ((0:Int)<=s2/\s2<((List.length x_list:Nat):Int)) (Option.bind (hZ (List.getD x_list (Int.toNat s2) default)) λv3=>
   cond (!v3)
    (some (.ret (.out false)))
    (some (.next (w64 (s2+(1:Int)))))))
  (some (.ret (.go ())))
noncomputable def dC (x_list:List Int)(x_most:Int):Option Bool:=
 Option.bind (Option.bind (iter (oP x_list) (0:Int)) LO.val) λj1=>
  JO.run j1 (pC x_list x_most)
noncomputable def bDf:Sg tG:=⟨[.row 3,.i .i64],.one .b,dC⟩
theorem bHq:Sok 106 bDf:=sgx [(126,.r aXr)] ⟨bCt,trivial⟩ (.s .o (.j ⟨[0,1],[],[]⟩ (.s .o (.k (.l ⟨[0,1],[],[(.s 5,.i .i64)]⟩ .o))) .o)) kr kr kr
noncomputable def lQ (x_b:DBare):Option Bool:=
 Option.bind (jP x_b.C) λv1=>
 cond v1
  (Option.bind (qX x_b.Mem) λv2=>
  cond v2
   (Option.bind (dC x_b.In (30:Int)) λv3=>
   cond v3
    (Option.bind (dC x_b.Out (30:Int)) λv4=>
    some v4)
    (some false))
   (some false))
  (some false)
noncomputable def g68:Sg tG:=⟨[.st 36],.one .b,lQ⟩
theorem s68:Sok 68 g68:=sgx [(104,.r bDg),(105,.r bId),(106,.r bDf)] ⟨bJk,bLs,bHq,trivial⟩ .o kr kr kr
noncomputable def mK (x_c:DCore):Option Bool:=
 cond (decide (x_c.Pc=(0:Int)))
  (cond (decide (x_c.Root=(0:Int)))
   (cond (decide (x_c.Vector=(0:Int)))
    (cond (decide (x_c.Saved=(0:Int)))
     (cond x_c.SavedUser
      (cond (decide (((List.length x_c.Regs:Nat):Int)=(0:Int)))
       (cond (decide (x_c.Bad=(0:Int)))
        (cond (decide (x_c.Cause=(0:Int)))
         (cond (decide (x_c.Timer=(0:Int)))
          (some false)
          (some false))
         (some false))
        (some false))
       (some false))
      (cond x_c.Waits
       (cond (decide (((List.length x_c.Regs:Nat):Int)=(0:Int)))
        (cond (decide (x_c.Bad=(0:Int)))
         (cond (decide (x_c.Cause=(0:Int)))
          (cond (decide (x_c.Timer=(0:Int)))
           (some false)
           (some false))
          (some false))
         (some false))
        (some false))
       (cond x_c.User
        (cond (decide (((List.length x_c.Regs:Nat):Int)=(0:Int)))
         (cond (decide (x_c.Bad=(0:Int)))
          (cond (decide (x_c.Cause=(0:Int)))
           (cond (decide (x_c.Timer=(0:Int)))
            (some false)
            (some false))
           (some false))
          (some false))
         (some false))
        (cond x_c.On
         (cond (decide (((List.length x_c.Regs:Nat):Int)=(0:Int)))
          (cond (decide (x_c.Bad=(0:Int)))
           (cond (decide (x_c.Cause=(0:Int)))
            (cond (decide (x_c.Timer=(0:Int)))
             (some false)
             (some false))
            (some false))
           (some false))
          (some false))
         (cond (decide (((List.length x_c.Regs:Nat):Int)=(0:Int)))
          (cond (decide (x_c.Bad=(0:Int)))
           (cond (decide (x_c.Cause=(0:Int)))
            (cond (decide (x_c.Timer=(0:Int)))
             (some (!x_c.Stopped))
             (some false))
            (some false))
           (some false))
          (some false))))))
     (cond x_c.SavedUser
      (cond (decide (((List.length x_c.Regs:Nat):Int)=(0:Int)))
       (some false)
       (some false))
      (cond x_c.Waits
       (cond (decide (((List.length x_c.Regs:Nat):Int)=(0:Int)))
        (some false)
        (some false))
       (cond x_c.User
        (cond (decide (((List.length x_c.Regs:Nat):Int)=(0:Int)))
         (some false)
         (some false))
        (cond x_c.On
         (cond (decide (((List.length x_c.Regs:Nat):Int)=(0:Int)))
          (some false)
          (some false))
         (cond (decide (((List.length x_c.Regs:Nat):Int)=(0:Int)))
          (some false)
          (some false)))))))
    (cond x_c.SavedUser
     (cond (decide (((List.length x_c.Regs:Nat):Int)=(0:Int)))
      (some false)
      (some false))
     (cond x_c.Waits
      (cond (decide (((List.length x_c.Regs:Nat):Int)=(0:Int)))
       (some false)
       (some false))
      (cond x_c.User
       (cond (decide (((List.length x_c.Regs:Nat):Int)=(0:Int)))
        (some false)
        (some false))
       (cond x_c.On
        (cond (decide (((List.length x_c.Regs:Nat):Int)=(0:Int)))
         (some false)
         (some false))
        (cond (decide (((List.length x_c.Regs:Nat):Int)=(0:Int)))
         (some false)
         (some false)))))))
   (cond x_c.SavedUser
    (cond (decide (((List.length x_c.Regs:Nat):Int)=(0:Int)))
     (some false)
     (some false))
    (cond x_c.Waits
     (cond (decide (((List.length x_c.Regs:Nat):Int)=(0:Int)))
      (some false)
      (some false))
     (cond x_c.User
      (cond (decide (((List.length x_c.Regs:Nat):Int)=(0:Int)))
       (some false)
       (some false))
      (cond x_c.On
       (cond (decide (((List.length x_c.Regs:Nat):Int)=(0:Int)))
        (some false)
        (some false))
       (cond (decide (((List.length x_c.Regs:Nat):Int)=(0:Int)))
        (some false)
        (some false)))))))
  (cond x_c.SavedUser
   (cond (decide (((List.length x_c.Regs:Nat):Int)=(0:Int)))
    (some false)
    (some false))
   (cond x_c.Waits
    (cond (decide (((List.length x_c.Regs:Nat):Int)=(0:Int)))
     (some false)
     (some false))
    (cond x_c.User
     (cond (decide (((List.length x_c.Regs:Nat):Int)=(0:Int)))
      (some false)
      (some false))
     (cond x_c.On
      (cond (decide (((List.length x_c.Regs:Nat):Int)=(0:Int)))
       (some false)
       (some false))
      (cond (decide (((List.length x_c.Regs:Nat):Int)=(0:Int)))
       (some false)
       (some false))))))
noncomputable def bHw:Sg tG:=⟨[.st 34],.one .b,mK⟩
theorem bKu:Sok 130 bHw:=sgx [] trivial .o kr kr kr
noncomputable def kM (x_guest:DGuest):Option Bool:=
 Option.bind (mK x_guest.C) λv1=>
 cond v1
  (cond (decide (((List.length x_guest.Pages:Nat):Int)=(0:Int)))
   (cond (decide (((List.length x_guest.In:Nat):Int)=(0:Int)))
    (some (decide (((List.length x_guest.Out:Nat):Int)=(0:Int))))
    (some false))
   (some false))
  (some false)
noncomputable def bHt:Sg tG:=⟨[.st 80],.one .b,kM⟩
theorem bLf:Sok 118 bHt:=sgx [(130,.r bHw)] ⟨bKu,trivial⟩ .o kr kr kr
noncomputable def pO (x_s:DSlot):Option Bool:=
 cond (decide (x_s.Frame=(-1:Int)))
  (cond (!x_s.Write)
   (some (!x_s.Dirty))
   (some false))
  (cond (decide ((0:Int)<=x_s.Frame))
   (some (decide (x_s.Frame<(20:Int))))
   (some false))
noncomputable def bIr:Sg tG:=⟨[.st 83],.one .b,pO⟩
theorem bLq:Sok 131 bIr:=sgx [] trivial .o kr kr kr
noncomputable def aFm  (s1:Unit):Option Bool:=some true
noncomputable def uW (x_pages:List DSlot)(s2:Int):Option (LO Int (JO Unit Bool)):=
 cond (decide (s2<((List.length x_pages:Nat):Int)))
  (grd ((0:Int)<=s2/\s2<((List.length x_pages:Nat):Int)) (Option.bind (pO (DSlot.mk (List.getD x_pages (Int.toNat s2) default).Frame (List.getD x_pages (Int.toNat s2) default).Write (List.getD x_pages (Int.toNat s2) default).Dirty)) λv3=>
   cond (!v3)
    (some (.ret (.out false)))
    (some (.next (w64 (s2+(1:Int)))))))
  (some (.ret (.go ())))
noncomputable def oH (x_pages:List DSlot):Option Bool:=
 cond (!decide (((List.length x_pages:Nat):Int)=(8:Int)))
  (some false)
  (Option.bind (Option.bind (iter (uW x_pages) (0:Int)) LO.val) λj1=>
   JO.run j1 aFm)
noncomputable def bHu:Sg tG:=⟨[.row 83],.one .b,oH⟩
theorem bLt:Sok 119 bHu:=sgx [(131,.r bIr)] ⟨bLq,trivial⟩ (.s .o (.s .o (.j ⟨[],[],[]⟩ (.s .o (.k (.l ⟨[8,9],[],[(.s 10,.i .i64)]⟩ .o))) .o))) kr kr kr
noncomputable def kU (x_guest:DGuest):Option Bool:=
 cond (!x_guest.Live)
  (Option.bind (kM x_guest) λv1=>
  some v1)
  (Option.bind (lX x_guest.C) λv2=>
  cond v2
   (Option.bind (oH x_guest.Pages) λv3=>
   cond v3
    (Option.bind (jC x_guest.In) λv4=>
    cond v4
     (Option.bind (jC x_guest.Out) λv5=>
     some v5)
     (some false))
    (some false))
   (some false))
noncomputable def g92:Sg tG:=⟨[.st 80],.one .b,kU⟩
theorem s92:Sok 92 g92:=sgx [(118,.r bHt),(99,.r g99),(119,.r bHu),(101,.r bCi)] ⟨bLf,s99,bLt,bJr,trivial⟩ .o kr kr kr
noncomputable def aDp  (s1:Unit):Option Bool:=some true
noncomputable def kD (x_guests:List DGuest)(s2:Int):Option (LO Int (JO Unit Bool)):=
 cond (decide (s2<((List.length x_guests:Nat):Int)))
  (grd ((0:Int)<=s2/\s2<((List.length x_guests:Nat):Int)) (Option.bind (kU (DGuest.mk (List.getD x_guests (Int.toNat s2) default).Live (DCore.mk ((List.getD x_guests (Int.toNat s2) default).C).Regs ((List.getD x_guests (Int.toNat s2) default).C).Pc ((List.getD x_guests (Int.toNat s2) default).C).Root ((List.getD x_guests (Int.toNat s2) default).C).Vector ((List.getD x_guests (Int.toNat s2) default).C).Saved ((List.getD x_guests (Int.toNat s2) default).C).SavedUser ((List.getD x_guests (Int.toNat s2) default).C).Cause ((List.getD x_guests (Int.toNat s2) default).C).Bad ((List.getD x_guests (Int.toNat s2) default).C).Timer ((List.getD x_guests (Int.toNat s2) default).C).Waits ((List.getD x_guests (Int.toNat s2) default).C).User ((List.getD x_guests (Int.toNat s2) default).C).On ((List.getD x_guests (Int.toNat s2) default).C).Stopped) (List.getD x_guests (Int.toNat s2) default).Pages (List.getD x_guests (Int.toNat s2) default).In (List.getD x_guests (Int.toNat s2) default).Out)) λv3=>
   cond (!v3)
    (some (.ret (.out false)))
    (some (.next (w64 (s2+(1:Int)))))))
  (some (.ret (.go ())))
noncomputable def mN (x_guests:List DGuest):Option Bool:=
 cond (!decide (((List.length x_guests:Nat):Int)=(3:Int)))
  (some false)
  (Option.bind (Option.bind (iter (kD x_guests) (0:Int)) LO.val) λj1=>
   JO.run j1 aDp)
noncomputable def g56:Sg tG:=⟨[.row 80],.one .b,mN⟩
theorem s56:Sok 56 g56:=sgx [(92,.r g92)] ⟨s92,trivial⟩ (.s .o (.s .o (.j ⟨[],[],[]⟩ (.s .o (.k (.l ⟨[8,9],[],[(.s 10,.i .i64)]⟩ .o))) .o))) kr kr kr
noncomputable def qI  (s1:List Int):Option (List Int):=some s1
noncomputable def qK (s2:(List Int)×Int)(s3:List Int):Option (LO ((List Int)×Int) (JO (List Int) (List Int))):=some (.next (s3,w64 (s2.2+(1:Int))))
noncomputable def qM (s4:(List Int)×Int)(s5:List Int):Option (LO ((List Int)×Int) (JO (List Int) (LO ((List Int)×Int) (JO (List Int) (List Int))))):=some (.next (s5,w64 (s4.2+(1:Int))))
noncomputable def eR (x_guests:List DGuest)(s2:(List Int)×Int)(s4:(List Int)×Int):Option (LO ((List Int)×Int) (JO (List Int) (LO ((List Int)×Int) (JO (List Int) (List Int))))):=
 cond (decide (s4.2<((List.length (List.getD x_guests (Int.toNat s2.2) default).Pages:Nat):Int)))
  (Option.bind (grd ((0:Int)<=s4.2/\s4.2<((List.length (List.getD x_guests (Int.toNat s2.2) default).Pages:Nat):Int)) (cond (!decide ((List.getD (List.getD x_guests (Int.toNat s2.2) default).Pages (Int.toNat s4.2) default).Frame=(-1:Int)))
   (grd ((0:Int)<=(List.getD (List.getD x_guests (Int.toNat s2.2) default).Pages (Int.toNat s4.2) default).Frame/\(List.getD (List.getD x_guests (Int.toNat s2.2) default).Pages (Int.toNat s4.2) default).Frame<((List.length s4.1:Nat):Int)) (grd ((0:Int)<=(List.getD (List.getD x_guests (Int.toNat s2.2) default).Pages (Int.toNat s4.2) default).Frame/\(List.getD (List.getD x_guests (Int.toNat s2.2) default).Pages (Int.toNat s4.2) default).Frame<((List.length s4.1:Nat):Int)) (some (.go (List.set s4.1 (Int.toNat (List.getD (List.getD x_guests (Int.toNat s2.2) default).Pages (Int.toNat s4.2) default).Frame) (w64 ((List.getD s4.1 (Int.toNat (List.getD (List.getD x_guests (Int.toNat s2.2) default).Pages (Int.toNat s4.2) default).Frame) default)+(1:Int))))))))
   (some (.go s4.1)))) λj5=>
   JO.run j5 (qM s4))
  (some (.ret (.go s4.1)))
noncomputable def hC (x_guests:List DGuest)(s2:(List Int)×Int):Option (LO ((List Int)×Int) (JO (List Int) (List Int))):=
 cond (decide (s2.2<((List.length x_guests:Nat):Int)))
  (Option.bind (grd ((0:Int)<=s2.2/\s2.2<((List.length x_guests:Nat):Int)) (Option.bind (iter (eR x_guests s2) (s2.1,(0:Int))) LO.val)) λj3=>
   JO.run j3 (qK s2))
  (some (.ret (.go s2.1)))
noncomputable def gF (x_guests:List DGuest):Option (List Int):=
 Option.bind (Option.bind (iter (hC x_guests) ((List.replicate (Int.toNat (20:Int)) (0:Int)),(0:Int))) LO.val) λj1=>
  JO.run j1 qI
noncomputable def g93:Sg tG:=⟨[.row 80],.one (.row 3),gF⟩
theorem s93:Sok 93 g93:=sgx [] trivial (.s .o (.s .o (.j ⟨[],[],[(.s 3,.ro 3)]⟩ (.s .o (.k (.l ⟨[9,10],[],[(.s 3,.ro 3),(.s 11,.i .i64)]⟩ (.s .o (.s .o (.j ⟨[9,10,11],[],[(.s 3,.ro 3)]⟩ (.k (.s .o (.s .o (.k (.l ⟨[9,10,11,16,17],[],[(.s 3,.ro 3),(.s 18,.i .i64)]⟩ (.s .o (.s .o (.j ⟨[9,10,11,16,17,18],[],[(.s 3,.ro 3)]⟩ .o .o)))))))) .o)))))) .o))) kr kr kr
noncomputable def vI  (s2:Unit):Option Bool:=some true
noncomputable def mO (s3:Int)(s4:Unit):Option (LO Int (JO Unit Bool)):=some (.next (w64 (s3+(1:Int))))
noncomputable def iS (s5:Int)(s6:Unit):Option (LO Int (JO Unit (LO Int (JO Unit Bool)))):=some (.next (w64 (s5+(1:Int))))
noncomputable def dH (x_guests:List DGuest)(v1:List Int)(s3:Int)(s5:Int):Option (LO Int (JO Unit (LO Int (JO Unit Bool)))):=
 cond (decide (s5<((List.length (List.getD x_guests (Int.toNat s3) default).Pages:Nat):Int)))
  (Option.bind (grd ((0:Int)<=s5/\s5<((List.length (List.getD x_guests (Int.toNat s3) default).Pages:Nat):Int)) (cond (List.getD (List.getD x_guests (Int.toNat s3) default).Pages (Int.toNat s5) default).Write
   (grd ((0:Int)<=(List.getD (List.getD x_guests (Int.toNat s3) default).Pages (Int.toNat s5) default).Frame/\(List.getD (List.getD x_guests (Int.toNat s3) default).Pages (Int.toNat s5) default).Frame<((List.length v1:Nat):Int)) (cond (decide ((1:Int)<(List.getD v1 (Int.toNat (List.getD (List.getD x_guests (Int.toNat s3) default).Pages (Int.toNat s5) default).Frame) default)))
    (some (.out (.ret (.out (.ret (.out false))))))
    (some (.go ()))))
   (some (.go ())))) λj6=>
   JO.run j6 (iS s5))
  (some (.ret (.go ())))
noncomputable def eS (x_guests:List DGuest)(v1:List Int)(s3:Int):Option (LO Int (JO Unit Bool)):=
 cond (decide (s3<((List.length x_guests:Nat):Int)))
  (Option.bind (grd ((0:Int)<=s3/\s3<((List.length x_guests:Nat):Int)) (Option.bind (iter (dH x_guests v1 s3) (0:Int)) LO.val)) λj4=>
   JO.run j4 (mO s3))
  (some (.ret (.go ())))
noncomputable def fZ (x_guests:List DGuest):Option Bool:=
 Option.bind (gF x_guests) λv1=>
 Option.bind (Option.bind (iter (eS x_guests v1) (0:Int)) LO.val) λj2=>
  JO.run j2 vI
noncomputable def g57:Sg tG:=⟨[.row 80],.one .b,fZ⟩
theorem s57:Sok 57 g57:=sgx [(93,.r g93)] ⟨s93,trivial⟩ (.s .o (.s .o (.j ⟨[],[],[]⟩ (.s .o (.k (.l ⟨[3,10,11],[],[(.s 12,.i .i64)]⟩ (.s .o (.s .o (.j ⟨[3,10,11,12],[],[]⟩ (.k (.s .o (.s .o (.k (.l ⟨[3,10,11,12,17,18],[],[(.s 19,.i .i64)]⟩ (.s .o (.s .o (.j ⟨[3,10,11,12,17,18,19],[],[]⟩ .o .o)))))))) .o)))))) .o))) kr kr kr
noncomputable def fB (x_h:DHost):Option Bool:=
 cond (decide (((List.length x_h.Words:Nat):Int)=(160:Int)))
  (Option.bind (fW x_h.Words) λv1=>
  cond v1
   (Option.bind (mN x_h.Guests) λv2=>
   cond v2
    (Option.bind (fZ x_h.Guests) λv3=>
    some v3)
    (some false))
   (some false))
  (some false)
noncomputable def g15:Sg tG:=⟨[.st 26],.one .b,fB⟩
theorem s15:Sok 15 g15:=sgx [(55,.r g55),(56,.r g56),(57,.r g57)] ⟨s55,s56,s57,trivial⟩ .o kr kr kr
noncomputable def lU (x_g:DGuest):Option Bool:=
 cond (decide (((List.length x_g.C.Regs:Nat):Int)=(0:Int)))
  (cond (decide (x_g.C.Pc=(0:Int)))
   (cond (decide (x_g.C.Root=(0:Int)))
    (cond (decide (x_g.C.Vector=(0:Int)))
     (cond (decide (x_g.C.Saved=(0:Int)))
      (cond (!x_g.C.SavedUser)
       (cond (decide (x_g.C.Cause=(0:Int)))
        (cond (decide (x_g.C.Bad=(0:Int)))
         (cond (decide (x_g.C.Timer=(0:Int)))
          (cond (!x_g.C.Waits)
           (cond (!x_g.C.User)
            (cond (!x_g.C.On)
             (cond (!x_g.C.Stopped)
              (cond (decide (((List.length x_g.Pages:Nat):Int)=(0:Int)))
               (cond (decide (((List.length x_g.In:Nat):Int)=(0:Int)))
                (some (decide (((List.length x_g.Out:Nat):Int)=(0:Int))))
                (some false))
               (some false))
              (some false))
             (some false))
            (some false))
           (some false))
          (some false))
         (some false))
        (some false))
       (some false))
      (some false))
     (some false))
    (some false))
   (some false))
  (some false)
noncomputable def bIj:Sg tG:=⟨[.st 80],.one .b,lU⟩
theorem bLj:Sok 116 bIj:=sgx [] trivial .o kr kr kr
noncomputable def aHh  (s3:Unit):Option Bool:=some true
noncomputable def pW (s4:Int)(s5:Unit):Option (LO Int (JO Unit Bool)):=some (.next (w64 (s4+(1:Int))))
noncomputable def lI (s2:(List Int)×(List Bool))(s4:Int):Option (LO Int (JO Unit Bool)):=
 cond (decide (s4<(20:Int)))
  (Option.bind (grd ((0:Int)<=s4/\s4<((List.length s2.1:Nat):Int)) (cond (decide ((1:Int)<(List.getD s2.1 (Int.toNat s4) default)))
   (grd ((0:Int)<=s4/\s4<((List.length s2.2:Nat):Int)) (cond (List.getD s2.2 (Int.toNat s4) default)
    (some (.out (.ret (.out false))))
    (some (.go ()))))
   (some (.go ())))) λj5=>
   JO.run j5 (pW s4))
  (some (.ret (.go ())))
noncomputable def wI  (s2:(List Int)×(List Bool)):Option Bool:=
 Option.bind (Option.bind (iter (lI s2) (0:Int)) LO.val) λj3=>
  JO.run j3 aHh
noncomputable def pY (s6:(List Int)×(List Bool)×Int)(s7:(List Int)×(List Bool)):Option (LO ((List Int)×(List Bool)×Int) (JO ((List Int)×(List Bool)) Bool)):=some (.next (s7.1,s7.2,w64 (s6.2.2+(1:Int))))
noncomputable def oT (s12:(List Int)×(List Bool)×Int)(s13:(List Bool)×(List Int)):Option (LO ((List Int)×(List Bool)×Int) (JO ((List Int)×(List Bool)) (LO ((List Int)×(List Bool)×Int) (JO ((List Int)×(List Bool)) Bool)))):=some (.next (s13.2,s13.1,w64 (s12.2.2+(1:Int))))
noncomputable def oY (x_h:DHost)(s6:(List Int)×(List Bool)×Int)(s12:(List Int)×(List Bool)×Int)(s14:Unit):Option (JO ((List Bool)×(List Int)) (LO ((List Int)×(List Bool)×Int) (JO ((List Int)×(List Bool)) (LO ((List Int)×(List Bool)×Int) (JO ((List Int)×(List Bool)) Bool))))):=
 cond (decide ((0:Int)<=(List.getD (List.getD x_h.Guests (Int.toNat s6.2.2) default).Pages (Int.toNat s12.2.2) default).Frame))
  (grd ((0:Int)<=(List.getD (List.getD x_h.Guests (Int.toNat s6.2.2) default).Pages (Int.toNat s12.2.2) default).Frame/\(List.getD (List.getD x_h.Guests (Int.toNat s6.2.2) default).Pages (Int.toNat s12.2.2) default).Frame<((List.length s12.1:Nat):Int)) (grd ((0:Int)<=(List.getD (List.getD x_h.Guests (Int.toNat s6.2.2) default).Pages (Int.toNat s12.2.2) default).Frame/\(List.getD (List.getD x_h.Guests (Int.toNat s6.2.2) default).Pages (Int.toNat s12.2.2) default).Frame<((List.length s12.1:Nat):Int)) (grd ((0:Int)<=(List.getD (List.getD x_h.Guests (Int.toNat s6.2.2) default).Pages (Int.toNat s12.2.2) default).Frame/\(List.getD (List.getD x_h.Guests (Int.toNat s6.2.2) default).Pages (Int.toNat s12.2.2) default).Frame<((List.length s12.2.1:Nat):Int)) (cond (List.getD s12.2.1 (Int.toNat (List.getD (List.getD x_h.Guests (Int.toNat s6.2.2) default).Pages (Int.toNat s12.2.2) default).Frame) default)
   (grd ((0:Int)<=(List.getD (List.getD x_h.Guests (Int.toNat s6.2.2) default).Pages (Int.toNat s12.2.2) default).Frame/\(List.getD (List.getD x_h.Guests (Int.toNat s6.2.2) default).Pages (Int.toNat s12.2.2) default).Frame<((List.length s12.2.1:Nat):Int)) (some (.go ((List.set s12.2.1 (Int.toNat (List.getD (List.getD x_h.Guests (Int.toNat s6.2.2) default).Pages (Int.toNat s12.2.2) default).Frame) true),List.set s12.1 (Int.toNat (List.getD (List.getD x_h.Guests (Int.toNat s6.2.2) default).Pages (Int.toNat s12.2.2) default).Frame) (w64 ((List.getD s12.1 (Int.toNat (List.getD (List.getD x_h.Guests (Int.toNat s6.2.2) default).Pages (Int.toNat s12.2.2) default).Frame) default)+(1:Int)))))))
   (grd ((0:Int)<=(List.getD (List.getD x_h.Guests (Int.toNat s6.2.2) default).Pages (Int.toNat s12.2.2) default).Frame/\(List.getD (List.getD x_h.Guests (Int.toNat s6.2.2) default).Pages (Int.toNat s12.2.2) default).Frame<((List.length s12.2.1:Nat):Int)) (some (.go ((List.set s12.2.1 (Int.toNat (List.getD (List.getD x_h.Guests (Int.toNat s6.2.2) default).Pages (Int.toNat s12.2.2) default).Frame) (List.getD (List.getD x_h.Guests (Int.toNat s6.2.2) default).Pages (Int.toNat s12.2.2) default).Write),List.set s12.1 (Int.toNat (List.getD (List.getD x_h.Guests (Int.toNat s6.2.2) default).Pages (Int.toNat s12.2.2) default).Frame) (w64 ((List.getD s12.1 (Int.toNat (List.getD (List.getD x_h.Guests (Int.toNat s6.2.2) default).Pages (Int.toNat s12.2.2) default).Frame) default)+(1:Int)))))))))))
  (some (.go (s12.2.1,s12.1)))
noncomputable def iJ (x_h:DHost)(s6:(List Int)×(List Bool)×Int)(s12:(List Int)×(List Bool)×Int):Option (LO ((List Int)×(List Bool)×Int) (JO ((List Int)×(List Bool)) (LO ((List Int)×(List Bool)×Int) (JO ((List Int)×(List Bool)) Bool)))):=
 cond (decide (s12.2.2<((List.length (List.getD x_h.Guests (Int.toNat s6.2.2) default).Pages:Nat):Int)))
  (Option.bind (grd ((0:Int)<=s12.2.2/\s12.2.2<((List.length (List.getD x_h.Guests (Int.toNat s6.2.2) default).Pages:Nat):Int)) (Option.bind (Option.bind (bX (List.getD (List.getD x_h.Guests (Int.toNat s6.2.2) default).Pages (Int.toNat s12.2.2) default).Frame (-1:Int) (19:Int)) λv15=>
   cond (!v15)
    (some (.out (.out (.ret (.out (.ret (.out false)))))))
    (cond (decide ((List.getD (List.getD x_h.Guests (Int.toNat s6.2.2) default).Pages (Int.toNat s12.2.2) default).Frame=(-1:Int)))
     (cond (List.getD (List.getD x_h.Guests (Int.toNat s6.2.2) default).Pages (Int.toNat s12.2.2) default).Write
      (some (.out (.out (.ret (.out (.ret (.out false)))))))
      (cond (List.getD (List.getD x_h.Guests (Int.toNat s6.2.2) default).Pages (Int.toNat s12.2.2) default).Dirty
       (some (.out (.out (.ret (.out (.ret (.out false)))))))
       (some (.go ()))))
     (some (.go ())))) λj14=>
   JO.run j14 (oY x_h s6 s12))) λj13=>
   JO.run j13 (oT s12))
  (some (.ret (.go (s12.1,s12.2.1))))
noncomputable def jG (x_h:DHost)(s6:(List Int)×(List Bool)×Int):Option (LO ((List Int)×(List Bool)×Int) (JO ((List Int)×(List Bool)) Bool)):=
 cond (decide (s6.2.2<((List.length x_h.Guests:Nat):Int)))
  (Option.bind (grd ((0:Int)<=s6.2.2/\s6.2.2<((List.length x_h.Guests:Nat):Int)) (cond (!(List.getD x_h.Guests (Int.toNat s6.2.2) default).Live)
   (Option.bind (lU (DGuest.mk (List.getD x_h.Guests (Int.toNat s6.2.2) default).Live (DCore.mk ((List.getD x_h.Guests (Int.toNat s6.2.2) default).C).Regs ((List.getD x_h.Guests (Int.toNat s6.2.2) default).C).Pc ((List.getD x_h.Guests (Int.toNat s6.2.2) default).C).Root ((List.getD x_h.Guests (Int.toNat s6.2.2) default).C).Vector ((List.getD x_h.Guests (Int.toNat s6.2.2) default).C).Saved ((List.getD x_h.Guests (Int.toNat s6.2.2) default).C).SavedUser ((List.getD x_h.Guests (Int.toNat s6.2.2) default).C).Cause ((List.getD x_h.Guests (Int.toNat s6.2.2) default).C).Bad ((List.getD x_h.Guests (Int.toNat s6.2.2) default).C).Timer ((List.getD x_h.Guests (Int.toNat s6.2.2) default).C).Waits ((List.getD x_h.Guests (Int.toNat s6.2.2) default).C).User ((List.getD x_h.Guests (Int.toNat s6.2.2) default).C).On ((List.getD x_h.Guests (Int.toNat s6.2.2) default).C).Stopped) (List.getD x_h.Guests (Int.toNat s6.2.2) default).Pages (List.getD x_h.Guests (Int.toNat s6.2.2) default).In (List.getD x_h.Guests (Int.toNat s6.2.2) default).Out)) λv8=>
   cond (!v8)
    (some (.out (.ret (.out false))))
    (some (.go (s6.1,s6.2.1))))
   (Option.bind (jP (DCore.mk ((List.getD x_h.Guests (Int.toNat s6.2.2) default).C).Regs ((List.getD x_h.Guests (Int.toNat s6.2.2) default).C).Pc ((List.getD x_h.Guests (Int.toNat s6.2.2) default).C).Root ((List.getD x_h.Guests (Int.toNat s6.2.2) default).C).Vector ((List.getD x_h.Guests (Int.toNat s6.2.2) default).C).Saved ((List.getD x_h.Guests (Int.toNat s6.2.2) default).C).SavedUser ((List.getD x_h.Guests (Int.toNat s6.2.2) default).C).Cause ((List.getD x_h.Guests (Int.toNat s6.2.2) default).C).Bad ((List.getD x_h.Guests (Int.toNat s6.2.2) default).C).Timer ((List.getD x_h.Guests (Int.toNat s6.2.2) default).C).Waits ((List.getD x_h.Guests (Int.toNat s6.2.2) default).C).User ((List.getD x_h.Guests (Int.toNat s6.2.2) default).C).On ((List.getD x_h.Guests (Int.toNat s6.2.2) default).C).Stopped)) λv9=>
   cond (!v9)
    (some (.out (.ret (.out false))))
    (cond (!decide (((List.length (List.getD x_h.Guests (Int.toNat s6.2.2) default).Pages:Nat):Int)=(8:Int)))
     (some (.out (.ret (.out false))))
     (Option.bind (dC (List.getD x_h.Guests (Int.toNat s6.2.2) default).In (30:Int)) λv10=>
     cond (!v10)
      (some (.out (.ret (.out false))))
      (Option.bind (dC (List.getD x_h.Guests (Int.toNat s6.2.2) default).Out (30:Int)) λv11=>
      cond (!v11)
       (some (.out (.ret (.out false))))
       (Option.bind (iter (iJ x_h s6) (s6.1,s6.2.1,(0:Int))) LO.val))))))) λj7=>
   JO.run j7 (pY s6))
  (some (.ret (.go (s6.1,s6.2.1))))
noncomputable def hY (x_h:DHost):Option Bool:=
 Option.bind (dC x_h.Words (160:Int)) λv1=>
 cond (!v1)
  (some false)
  (cond (!decide (((List.length x_h.Words:Nat):Int)=(160:Int)))
   (some false)
   (cond (!decide (((List.length x_h.Guests:Nat):Int)=(3:Int)))
    (some false)
    (Option.bind (Option.bind (iter (jG x_h) ((List.replicate (Int.toNat (20:Int)) (0:Int)),List.replicate (Int.toNat (20:Int)) false,(0:Int))) LO.val) λj2=>
     JO.run j2 wI)))
noncomputable def g90:Sg tG:=⟨[.st 26],.one .b,hY⟩
theorem s90:Sok 90 g90:=sgx [(106,.r bDf),(116,.r bIj),(104,.r bDg),(73,.r g73)] ⟨bHq,bLj,bJk,s73,trivial⟩ (.s .o (.s .o (.s .o (.s .o (.j ⟨[],[],[(.s 3,.ro 3),(.s 4,.ro 4)]⟩ (.s .o (.k (.l ⟨[1],[],[(.s 3,.ro 3),(.s 4,.ro 4),(.s 5,.i .i64)]⟩ (.s .o (.j ⟨[1,5],[],[(.s 3,.ro 3),(.s 4,.ro 4)]⟩ (.k (.s .o (.s .o (.s .o (.s .o (.k (.l ⟨[1,5,6],[],[(.s 3,.ro 3),(.s 4,.ro 4),(.s 7,.i .i64)]⟩ (.s .o (.j ⟨[1,5,6,7],[],[(.s 4,.ro 4),(.s 3,.ro 3)]⟩ (.k (.s .o (.j ⟨[1,3,4,5,6,7,8],[],[]⟩ .o .o))) .o))))))))) .o))))) (.j ⟨[],[],[]⟩ (.s .o (.k (.l ⟨[3,4],[],[(.s 9,.i .i64)]⟩ (.s .o (.j ⟨[3,4,9],[],[]⟩ .o .o))))) .o)))))) kr kr kr
noncomputable def cL (x_list:List Int):Option (List Int):=grd ((0:Int)<=((List.length x_list:Nat):Int)/\((List.length x_list:Nat):Int)*8<=2^47/\((List.length x_list:Nat):Int)<=2^47) (some (over (List.replicate (Int.toNat ((List.length x_list:Nat):Int)) (0:Int)) 0 (List.length (List.replicate (Int.toNat ((List.length x_list:Nat):Int)) (0:Int))) x_list))
noncomputable def g87:Sg tG:=⟨[.row 3],.one (.row 3),cL⟩
theorem s87:Sok 87 g87:=sgx [] trivial .o kr kr kr
theorem aLq{x_list:List Int}{R_:(List Int)}(hh:cL x_list=some R_):Fn Try.prog 87 [bo (eI .i64) x_list] (.own 3 1 (List.length R_) (fl (eI .i64) R_)):=kc (s87 x_list R_ hh)
noncomputable def fD (x_c:DCore):Option DCore:=grd ((List.length ([]:List Int)+List.length x_c.Regs)*8<=2^47/\List.length ([]:List Int)+List.length x_c.Regs<=2^47) (some (DCore.mk (([]:List Int)++x_c.Regs) x_c.Pc x_c.Root x_c.Vector x_c.Saved x_c.SavedUser x_c.Cause x_c.Bad x_c.Timer x_c.Waits x_c.User x_c.On x_c.Stopped))
noncomputable def g71:Sg tG:=⟨[.st 34],.one (.st 34),fD⟩
theorem s71:Sok 71 g71:=sgx [] trivial .o kr kr kr
noncomputable def oD (x_guests:List DGuest)(x_g:Int):Option Bool:=
 cond (decide ((0:Int)<=x_g))
  (cond (decide (x_g<(3:Int)))
   (grd ((0:Int)<=x_g/\x_g<((List.length x_guests:Nat):Int)) (some (List.getD x_guests (Int.toNat x_g) default).Live))
   (some false))
  (some false)
noncomputable def g86:Sg tG:=⟨[.row 80,.i .i64],.one .b,oD⟩
theorem s86:Sok 86 g86:=sgx [] trivial .o kr kr kr
noncomputable def eA (x_h:DHost)(x_g:Int):Option Bool:=
 Option.bind (fB x_h) λv1=>
 cond v1
  (Option.bind (oD x_h.Guests x_g) λv2=>
  some v2)
  (some false)
noncomputable def g42:Sg tG:=⟨[.st 26,.i .i64],.one .b,eA⟩
theorem s42:Sok 42 g42:=sgx [(15,.r g15),(86,.r g86)] ⟨s15,s86,trivial⟩ .o kr kr kr
theorem aHu{x_h:DHost}{x_g:Int}{R_:Bool}(hh:eA x_h x_g=some R_):Fn Try.prog 42 [.agg (rB x_h),.int .i64 x_g] (.bool R_):=kc (s42 x_h x_g R_ hh)
noncomputable def fE (x_h:DHost)(x_g:Int):Option Bool:=
 Option.bind (hY x_h) λv1=>
 cond v1
  (Option.bind (bX x_g (0:Int) (2:Int)) λv2=>
  cond v2
   (grd ((0:Int)<=x_g/\x_g<((List.length x_h.Guests:Nat):Int)) (some (List.getD x_h.Guests (Int.toNat x_g) default).Live))
   (some false))
  (some false)
noncomputable def g48:Sg tG:=⟨[.st 26,.i .i64],.one .b,fE⟩
theorem s48:Sok 48 g48:=sgx [(90,.r g90),(73,.r g73)] ⟨s90,s73,trivial⟩ .o kr kr kr
noncomputable def iF (x_b:DBare):Option DBare:=
 Option.bind (cL x_b.C.Regs) λv1=>
 Option.bind (cL x_b.Mem) λv2=>
 Option.bind (cL x_b.In) λv3=>
 Option.bind (cL x_b.Out) λv4=>
 some (DBare.mk (DCore.mk v1 x_b.C.Pc x_b.C.Root x_b.C.Vector x_b.C.Saved x_b.C.SavedUser x_b.C.Cause x_b.C.Bad x_b.C.Timer x_b.C.Waits x_b.C.User x_b.C.On x_b.C.Stopped) v2 v3 v4)
noncomputable def g53:Sg tG:=⟨[.st 36],.one (.st 36),iF⟩
theorem s53:Sok 53 g53:=sgx [(87,.r g87)] ⟨s87,trivial⟩ .o kr kr kr
theorem aJf:LW 117 ⟨12,[.tmp 4],.seq (.reg false (rg 117 0)) (.seq (.reg false (rg 117 1)) .ret)⟩:=kr
noncomputable def hT (x_words:List Int)(x_page:Int):Option (List Int):=grd ((0:Int)<=(w64 (x_page*(8:Int)))/\(w64 (x_page*(8:Int)))<=(w64 ((w64 (x_page+(1:Int)))*(8:Int)))/\(w64 ((w64 (x_page+(1:Int)))*(8:Int)))<=((List.length x_words:Nat):Int)) (some (List.take (Int.toNat (w64 ((w64 (x_page+(1:Int)))*(8:Int)))-Int.toNat (w64 (x_page*(8:Int)))) (List.drop (Int.toNat (w64 (x_page*(8:Int)))) x_words)))
noncomputable def bJn:Sg tG:=⟨[.row 3,.i .i64],.one (.rb 3),hT⟩
theorem bJi:Sok 117 bJn:=sgx [] trivial .o kr kr kr
theorem yN{x_words:List Int}{x_page:Int}{R_:(List Int)}(hh:hT x_words x_page=some R_):Fn Try.prog 117 [bo (eI .i64) x_words,.int .i64 x_page] (bo (eI .i64) R_):=kc (bJi x_words x_page R_ hh)
noncomputable def gV (x_words:List Int)(x_page:Int):Option ((List Int)×(Nat×Nat)):=grd ((0:Int)<=(w64 (x_page*(8:Int)))/\(w64 (x_page*(8:Int)))<=(w64 ((w64 (x_page+(1:Int)))*(8:Int)))/\(w64 ((w64 (x_page+(1:Int)))*(8:Int)))<=((List.length x_words:Nat):Int)) (some (x_words,((Int.toNat (w64 (x_page*(8:Int)))),(Int.toNat (w64 ((w64 (x_page+(1:Int)))*(8:Int)))-Int.toNat (w64 (x_page*(8:Int)))))))
theorem wG{x_words:List Int}{x_page:Int}{R_:(List Int)×(Nat×Nat)}(hh:gV x_words x_page=some R_):Inl Try.prog 117 [.sref 0 [] 0 (List.length x_words) 1,.int .i64 x_page] [(0,some (rI_3 x_words))] 1 (.sref 0 [] (0+R_.2.1*1) R_.2.2 1) [(0,some (rI_3 R_.1))] 1:=by unfold gV at hh;let q1:Root:=(rI_3 x_words);refine Inl.start aJf [0,1] [0] (E:=sp 12 [(0,sw 0 x_words),(1,ii x_page)]) (H1:=[(0,some q1)]) kr kr (sy [0,1] [0] (sp 12 [(0,sw 0 x_words),(1,ii x_page)]) [(0,some q1)] 1 (Aw.sreg [4] [0] (yu 6 [(5,sw 0 x_words),(6,ii x_page),(7,ii (w64 (x_page*(8:Int)))),(8,ii x_page),(9,ii (w64 (x_page+(1:Int)))),(10,ii (w64 ((w64 (x_page+(1:Int)))*(8:Int))))] [(0,some q1)] 1 ?_)));obtain⟨hg2,hh⟩:=bJ hh;refine ys (.slc 1 (.t 5) (some (.t 7)) (some (.t 10))) (some 11) (aRz (r:=0) (π:=[]) (o:=0) (k:=(List.length x_words)) (sz:=1) (l:=(w64 (x_page*(8:Int)))) (h:=(w64 ((w64 (x_page+(1:Int)))*(8:Int)))) kr kr kr hg2 ?_);refine yt (sp 12 [(4,.sref 0 [] (0+Int.toNat (w64 (x_page*(8:Int)))*1) (Int.toNat (w64 ((w64 (x_page+(1:Int)))*(8:Int)))-Int.toNat (w64 (x_page*(8:Int)))) 1)]) [(0,some q1)] 1 (Aw.ret ?_);rw[cA hh];exact sK (r':= .sref 0 [] (0+Int.toNat (w64 (x_page*(8:Int)))*1) (Int.toNat (w64 ((w64 (x_page+(1:Int)))*(8:Int)))-Int.toNat (w64 (x_page*(8:Int)))) 1) kr (el [some 0] (nT tA) (hn bE cP))
theorem aGw:LW 91 ⟨29,[.tmp 4],.seq (.reg false (rg 91 0)) (.seq (.reg false (rg 91 1)) (.seq (.seq (.reg false (rg 91 2)) (.block 0 (.loop (.seq (.reg false (rg 91 3)) (.seq (.cond (.t 12) .skip (.exit 0)) (.seq (.block 1 (.seq (.reg false (rg 91 4)) (.seq (.reg false (rg 91 5)) (.cond (.t 18) (.regd (rg 91 6) (rg 91 7)) .skip)))) (.reg false (rg 91 8)))))))) (.seq (.reg false (rg 91 10)) .ret)))⟩:=kr
noncomputable def kO  (s1:List Int):Option (List Int):=some s1
noncomputable def iD (s2:(List Int)×Int)(s3:List Int):Option (LO ((List Int)×Int) (JO (List Int) (List Int))):=some (.next (s3,w64 (s2.2+(1:Int))))
noncomputable def iI (x_words:List Int)(x_pages:List DSlot)(s2:(List Int)×Int):Option (LO ((List Int)×Int) (JO (List Int) (List Int))):=
 cond (decide (s2.2<((List.length x_pages:Nat):Int)))
  (Option.bind (grd ((0:Int)<=s2.2/\s2.2<((List.length x_pages:Nat):Int)) (cond (!decide ((List.getD x_pages (Int.toNat s2.2) default).Frame=(-1:Int)))
   (Option.bind (gV s2.1 s2.2) λv4=>
   grd (List.length v4.1=(List.length s2.1)) (grd (v4.2.1+v4.2.2<=List.length v4.1) (Option.bind (hT x_words (List.getD x_pages (Int.toNat s2.2) default).Frame) λv5=>
    some (.go (over v4.1 v4.2.1 v4.2.2 v5)))))
   (some (.go s2.1)))) λj3=>
   JO.run j3 (iD s2))
  (some (.ret (.go s2.1)))
noncomputable def jB (x_words:List Int)(x_pages:List DSlot):Option (List Int):=
 Option.bind (Option.bind (iter (iI x_words x_pages) ((List.replicate (Int.toNat (64:Int)) (0:Int)),(0:Int))) LO.val) λj1=>
  JO.run j1 kO
theorem aKl{x_words:List Int}{x_pages:List DSlot}{R_:(List Int)}(hh:jB x_words x_pages=some R_):Fn Try.prog 91 [bo (eI .i64) x_words,bo eN x_pages] (.own 3 1 (List.length R_) (fl (eI .i64) R_)):=by let z2:=(0,bo (eI .i64) x_words);let z3:=(1,bo eN x_pages);let z4:=(10,ii ((List.length x_pages:Nat):Int));let z5:EV:=(5,.sref 0 [] 0 (List.length (List.replicate (Int.toNat (64:Int)) (0:Int))) 1);let z6:=(9,bo eN x_pages);unfold jB at hh;refine Fn.start aGw [0,1] (E:=sp 29 [z2,z3]) kr (v:=sw 0 R_) (Hr:=[(0,some (rI_3 R_))]) (k:=1) kr (sy [0,1] [] (sp 29 [z2,z3]) [] 0 (Aw.sreg [0,1,5] [0] (ys (.mk 3 1 8 [ii 0] (.c (ii 64))) (some 8) (aNh (c:=(eI .i64)) (d:=(0:Int)) (k:=(64:Int)) kr dd kr ?_))));let q1:Root:=(rI_3 (List.replicate (Int.toNat (64:Int)) (0:Int)));refine yt (sp 29 [z2,z3,z5]) [(0,some q1)] 1 ?_;obtain⟨j1,hh,hk1⟩:=bind_some hh;refine Aw.join (S:=(List Int)) (λs1=>sp 29 [(5,sw 0 s1)]) (λs1=>[(0,some (rI_3 s1))]) 1 (λs1=>kO s1=some R_) ?_ ?_;{intro s1 hh;unfold kO at hh;refine sy [4] [0] (sp 29 [(4,sw 0 s1)]) [(0,some (rI_3 s1))] 1 (Aw.ret ?_);rw[cA hh];exact sK (r':=sw 0 s1) kr (Ent.list [some 0] rfl rfl (Nat.zero_le _) (nT tA) (hn bE cP))};intro Q1 hN1 hR1 hE1;refine sy [0,5,9,10,11] [0] (sp 29 [z2,z5,z6,z4,(11,ii 0)]) [(0,some q1)] 1 (Aw.block ?_);obtain⟨o2,hi2,hk2⟩:=bind_some hh;refine Aw.iter (λ(s2:(List Int)×Int)=>sp 29 [(0,bo (eI .i64) x_words),(5,sw 0 s2.1),(9,bo eN x_pages),(10,ii ((List.length x_pages:Nat):Int)),(11,ii s2.2)]) (λ(s2:(List Int)×Int)=>[(0,some (rI_3 s2.1))]) 1 hi2 (el [some 0] (jQ kr (ro bE (rs (.sref 0 [] 0 (List.length (List.replicate (Int.toNat (64:Int)) (0:Int))) 1) (ro hM (ri (ri uF)))))) (hn bE cP)) ?_;intro s2 u2 Q2 hh hN2 hX2 hR2;let z7:EH:=(0,some (rI_3 s2.1));let z8:=(11,ii s2.2);let z9:=(12,bb (decide (s2.2<((List.length x_pages:Nat):Int))));let z10:=(5,sw 0 s2.1);let z11:=(6,ii s2.2);let z1:=List.getD x_pages (Int.toNat s2.2) default;let z12:=(18,bb (!decide (z1.Frame=(-1:Int))));unfold iI at hh;refine sy [0,5,9,10,11,12] [0] (sp 29 [z2,z10,z6,z4,z8,z9]) [z7] 1 (Aw.seq ?_);rcases yL hh with⟨hb,hh⟩|⟨hb,hh⟩;{refine cF hb (Aw.exit (aZf (hX2 _ _ _ _ _ (cA hh) ?_)));intro hout;rw[hout]at hk2;refine aYh ?_;obtain rfl:=cA hk2;exact hN1 s2.1 _ _ _ hk1 (el [some 0] (jQ kr (rs (sw 0 s2.1) uF)) (hn bE cP))};refine cT hb (Aw.xskip (λ_ _ _ hq=>aIn hq) ?_);obtain⟨j3,hh,hk3⟩:=bind_some hh;refine Aw.join (S:=(List Int)) (λs3=>sp 29 [(0,bo (eI .i64) x_words),(5,sw 0 s3),(9,bo eN x_pages),(10,ii ((List.length x_pages:Nat):Int)),(11,ii s2.2)]) (λs3=>[(0,some (rI_3 s3))]) 1 (λs3=>iD s2 s3=some u2) ?_ ?_;{intro s3 hh;unfold iD at hh;exact Aw.oreg (ye (sp 29 [z2,(5,sw 0 s3),z6,z4,(11,ii (w64 (s2.2+(1:Int)))),(27,ii (w64 (s2.2+(1:Int))))]) [(0,some (rI_3 s3))] 1 (hN2 (s3,w64 (s2.2+(1:Int))) _ _ _ (cA hh) (el [some 0] (jQ kr (ro bE (rs (sw 0 s3) (ro hM (ri (ri uF)))))) (hn bE cP))))};intro Q3 hN3 hR3 hE3;refine Aw.block (Aw.sreg [0,5,6,7,9,10,11] [0,1] (yj 1  (sp 29 [z2,z10,z6,z4,z8,z9,(13,ii s2.2)]) [z7] 1 ?_));obtain⟨hg104,hh⟩:=bJ hh;refine ys (.iadr 3 (.t 9) (.t 11)) (some 14) (aUq (kd:= .i64) (c:=eN) (xs:=x_pages) pP dd kr kr hg104 ?_);refine ys (.load true 3 (.t 14)) (some 15) (aMd (c:=eN) (xs:=x_pages) (o:=Int.toNat s2.2*3) (i:=(Int.toNat s2.2)) (off:=0) (v:= .agg [ii z1.Frame,bb z1.Write,bb z1.Dirty]) pP kr ltn ltn dd kr ?_);let q2:Root:=⟨83,[ii z1.Frame,bb z1.Write,bb z1.Dirty]⟩;let z13:=(1,some q2);refine yt (sp 29 [z2,z10,z11,(7,pp 1),z6,z4,z8]) [z7,z13] 2 (sy [0,5,6,7,9,10,11,18] [0,1] (sp 29 [z2,z10,z11,(7,pp 1),z6,z4,z8,z12]) [z7,z13] 2 ?_);rcases yL hh with⟨hb,hh⟩|⟨hb,hh⟩;{refine cF hb (Aw.skip (aJu ?_));obtain rfl:=cA hh;exact hN3 s2.1 _ _ _ hk3 (el [some 0] (jQ kr (ro bE (rs (sw 0 s2.1) (ro hM (ri (ri uF)))))) (hn bE cP))};refine cT hb (Aw.oregd [0] kr (dj 2 (sp 29 [z2,z10,z11,(7,pp 1),z6,z4,z8,z12,(19,sw 0 s2.1),(20,ii s2.2)]) [z7,z13] 2 ?_));obtain⟨v4,hv4,hh⟩:=bind_some hh;let z14:EH:=(0,some (rI_3 v4.1));let z15:EV:=(21,.sref 0 [] (0+v4.2.1*1) v4.2.2 1);obtain⟨hg107,hh⟩:=bJ hh;obtain⟨hg108,hh⟩:=bJ hh;refine ds (.call 117 [.t 19,.t 20]) (some 21) (aWh rfl (cf (.sref 0 [] (0+v4.2.1*1) v4.2.2 1) [z14] 2 [0] (wG hv4) [sw 0 s2.1,ii s2.2] rz (hn bE cP) tA (hn bE cP) ⟨⟨⟨by decide,bBn rfl rfl⟩,Hld.un ?_⟩⟩));refine dt (sp 29 [z2,z10,z11,(7,pp 1),z6,z4,z8,z12,(19,sw 0 s2.1),(20,ii s2.2),z15,(22,bo (eI .i64) x_words),(23,pp 1),(24,ii z1.Frame)]) [z14,(0,none),z7,z13] 2 ?_;obtain⟨v5,hv5,hh⟩:=bind_some hh;refine ys (.call 117 [.t 22,.t 24]) (some 25) (aHm (r:=bo (eI .i64) v5) (v:=bo (eI .i64) v5) (Hr:=[]) (n':=2) (yN hv5) (xD (vs:=[bo (eI .i64) x_words,ii z1.Frame]) kr (kA (aC (tV (bN cE))) (cz1 pM))) nrr kr ?_);let q3:Root:=(rI_3 (over v4.1 v4.2.1 v4.2.2 v5));refine ys (.cpy 1 (.t 21) (.t 25)) (some 26) (aJm (c:=(eI .i64)) (xs:=v4.1) (ys:=v5) (e:=3) (r:=0) (π:=[]) (o:=0+v4.2.1*1) (k:=v4.2.2) (i:=v4.2.1) (H':=[(0,some q3),z14,(0,none),z7,z13]) bK (rpv kr (aRm (c:=(eI .i64)) (xs:=v5) bK)) kr kr ltn ltn kr ?_);refine ye (sp 29 [z2,z10,z11,(7,pp 1),z6,z4,z8,z12,(19,sw 0 s2.1),(20,ii s2.2),z15,(22,bo (eI .i64) x_words),(23,pp 1),(24,ii z1.Frame),(25,bo (eI .i64) v5),(26,ii ((min v4.2.2 (List.length v5):Nat):Int))]) [(0,some q3),z14,(0,none),z7,z13] 2 (aJu ?_);obtain rfl:=cA hh;exact hN3 (over v4.1 v4.2.1 v4.2.2 v5) _ _ _ hk3 (el [some 0] (jQ kr (ro bE (rs (sw 0 s2.1) (ro hM (ri (ri uF)))))) (hn bE cP))
noncomputable def g91:Sg tG:=⟨[.row 3,.row 83],.one (.row 3),jB⟩
theorem s91:Sok 91 g91:=λx_words x_pages R_ hh=>kc (aKl (x_words:=x_words) (x_pages:=x_pages) hh)
noncomputable def pL (x_h:DHost)(x_g:Int):Option DBare:=
 grd ((0:Int)<=x_g/\x_g<((List.length x_h.Guests:Nat):Int)) (Option.bind (jB x_h.Words (List.getD x_h.Guests (Int.toNat x_g) default).Pages) λv1=>
  some (DBare.mk (DCore.mk ((List.getD x_h.Guests (Int.toNat x_g) default).C).Regs ((List.getD x_h.Guests (Int.toNat x_g) default).C).Pc ((List.getD x_h.Guests (Int.toNat x_g) default).C).Root ((List.getD x_h.Guests (Int.toNat x_g) default).C).Vector ((List.getD x_h.Guests (Int.toNat x_g) default).C).Saved ((List.getD x_h.Guests (Int.toNat x_g) default).C).SavedUser ((List.getD x_h.Guests (Int.toNat x_g) default).C).Cause ((List.getD x_h.Guests (Int.toNat x_g) default).C).Bad ((List.getD x_h.Guests (Int.toNat x_g) default).C).Timer ((List.getD x_h.Guests (Int.toNat x_g) default).C).Waits ((List.getD x_h.Guests (Int.toNat x_g) default).C).User ((List.getD x_h.Guests (Int.toNat x_g) default).C).On ((List.getD x_h.Guests (Int.toNat x_g) default).C).Stopped) v1 (List.getD x_h.Guests (Int.toNat x_g) default).In (List.getD x_h.Guests (Int.toNat x_g) default).Out))
noncomputable def g54:Sg tG:=⟨[.st 26,.i .i64],.one (.sb 36),pL⟩
theorem s54:Sok 54 g54:=sgx [(91,.r g91)] ⟨s91,trivial⟩ .o kr kr kr
noncomputable def cS (x_h:DHost)(x_g:Int):Option (DBare×Bool):=
 Option.bind (eA x_h x_g) λv1=>
 cond (!v1)
  (some ((DBare.mk (DCore.mk ([]:List Int) (0:Int) (0:Int) (0:Int) (0:Int) false (0:Int) (0:Int) (0:Int) false false false false) ([]:List Int) ([]:List Int) ([]:List Int)),false))
  (Option.bind (pL x_h x_g) λv2=>
  Option.bind (iF v2) λv3=>
  some (v3,true))
noncomputable def g14:Sg tG:=⟨[.st 26,.i .i64],.two (.st 36) .b,cS⟩
theorem s14:Sok 14 g14:=sgx [(42,.r g42),(54,.r g54),(53,.r g53)] ⟨s42,s54,s53,trivial⟩ .o kr kr kr
noncomputable def uB (x_h:DHost)(x_g:Int)(v2:DCore)(s3:List Int):Option (DBare×Bool):=some ((DBare.mk v2 s3 (List.getD x_h.Guests (Int.toNat x_g) default).In (List.getD x_h.Guests (Int.toNat x_g) default).Out),true)
noncomputable def nE (s4:(List Int)×Int)(s5:List Int):Option (LO ((List Int)×Int) (JO (List Int) (DBare×Bool))):=some (.next (s5,w64 (s4.2+(1:Int))))
noncomputable def jU (x_h:DHost)(x_g:Int)(s4:(List Int)×Int):Option (LO ((List Int)×Int) (JO (List Int) (DBare×Bool))):=
 cond (decide (s4.2<(64:Int)))
  (Option.bind (grd ((0:Int)<=(w64 (Int.tdiv s4.2 (8:Int)))/\(w64 (Int.tdiv s4.2 (8:Int)))<((List.length (List.getD x_h.Guests (Int.toNat x_g) default).Pages:Nat):Int)) (cond (decide ((List.getD (List.getD x_h.Guests (Int.toNat x_g) default).Pages (Int.toNat (w64 (Int.tdiv s4.2 (8:Int)))) default).Frame<(0:Int)))
   (grd ((List.length s4.1+List.length ([(0:Int)]:List Int))*8<=2^47/\List.length s4.1+List.length ([(0:Int)]:List Int)<=2^47) (some (.go (s4.1++([(0:Int)]:List Int)))))
   (grd ((0:Int)<=(w64 ((w64 ((List.getD (List.getD x_h.Guests (Int.toNat x_g) default).Pages (Int.toNat (w64 (Int.tdiv s4.2 (8:Int)))) default).Frame*(8:Int)))+(Int.tmod s4.2 (8:Int))))/\(w64 ((w64 ((List.getD (List.getD x_h.Guests (Int.toNat x_g) default).Pages (Int.toNat (w64 (Int.tdiv s4.2 (8:Int)))) default).Frame*(8:Int)))+(Int.tmod s4.2 (8:Int))))<((List.length x_h.Words:Nat):Int)) (grd ((List.length s4.1+List.length ([List.getD x_h.Words (Int.toNat (w64 ((w64 ((List.getD (List.getD x_h.Guests (Int.toNat x_g) default).Pages (Int.toNat (w64 (Int.tdiv s4.2 (8:Int)))) default).Frame*(8:Int)))+(Int.tmod s4.2 (8:Int))))) default]:List Int))*8<=2^47/\List.length s4.1+List.length ([List.getD x_h.Words (Int.toNat (w64 ((w64 ((List.getD (List.getD x_h.Guests (Int.toNat x_g) default).Pages (Int.toNat (w64 (Int.tdiv s4.2 (8:Int)))) default).Frame*(8:Int)))+(Int.tmod s4.2 (8:Int))))) default]:List Int)<=2^47) (some (.go (s4.1++([List.getD x_h.Words (Int.toNat (w64 ((w64 ((List.getD (List.getD x_h.Guests (Int.toNat x_g) default).Pages (Int.toNat (w64 (Int.tdiv s4.2 (8:Int)))) default).Frame*(8:Int)))+(Int.tmod s4.2 (8:Int))))) default]:List Int)))))))) λj5=>
   JO.run j5 (nE s4))
  (some (.ret (.go s4.1)))
noncomputable def mU (x_h:DHost)(x_g:Int):Option (DBare×Bool):=
 Option.bind (fE x_h x_g) λv1=>
 cond (!v1)
  (some ((DBare.mk (DCore.mk ([]:List Int) (0:Int) (0:Int) (0:Int) (0:Int) false (0:Int) (0:Int) (0:Int) false false false false) ([]:List Int) ([]:List Int) ([]:List Int)),false))
  (grd ((0:Int)<=x_g/\x_g<((List.length x_h.Guests:Nat):Int)) (Option.bind (fD (DCore.mk ((List.getD x_h.Guests (Int.toNat x_g) default).C).Regs ((List.getD x_h.Guests (Int.toNat x_g) default).C).Pc ((List.getD x_h.Guests (Int.toNat x_g) default).C).Root ((List.getD x_h.Guests (Int.toNat x_g) default).C).Vector ((List.getD x_h.Guests (Int.toNat x_g) default).C).Saved ((List.getD x_h.Guests (Int.toNat x_g) default).C).SavedUser ((List.getD x_h.Guests (Int.toNat x_g) default).C).Cause ((List.getD x_h.Guests (Int.toNat x_g) default).C).Bad ((List.getD x_h.Guests (Int.toNat x_g) default).C).Timer ((List.getD x_h.Guests (Int.toNat x_g) default).C).Waits ((List.getD x_h.Guests (Int.toNat x_g) default).C).User ((List.getD x_h.Guests (Int.toNat x_g) default).C).On ((List.getD x_h.Guests (Int.toNat x_g) default).C).Stopped)) λv2=>
   grd (List.length (List.getD x_h.Guests (Int.toNat x_g) default).In*8<=2^47/\List.length (List.getD x_h.Guests (Int.toNat x_g) default).In<=2^47) (grd (List.length (List.getD x_h.Guests (Int.toNat x_g) default).Out*8<=2^47/\List.length (List.getD x_h.Guests (Int.toNat x_g) default).Out<=2^47) (Option.bind (Option.bind (iter (jU x_h x_g) (([]:List Int),(0:Int))) LO.val) λj3=>
    JO.run j3 (uB x_h x_g v2)))))
noncomputable def g61:Sg tG:=⟨[.st 26,.i .i64],.two (.st 36) .b,mU⟩
theorem s61:Sok 61 g61:=sgx [(48,.r g48),(71,.r g71)] ⟨s48,s71,trivial⟩ (.s .o (.s .o (.s .o (.s .o (.j ⟨[4,7],[],[(.c 7 13,.ro 3)]⟩ (.s .o (.k (.l ⟨[2,4,6,7],[],[(.c 7 13,.ro 3),(.s 8,.i .i64)]⟩ (.s .o (.j ⟨[2,4,6,7,8],[],[(.c 7 13,.ro 3)]⟩ .o .o))))) .o))))) kr kr kr
noncomputable def aBg  (s1:List Int):Option (List Int):=some s1
noncomputable def rO (s3:(List Int)×Int)(s4:List Int):Option (LO ((List Int)×Int) (JO (List Int) (List Int))):=some (.next (s4,w64 (s3.2+(1:Int))))
noncomputable def iW (v2:List Int)(s3:(List Int)×Int):Option (LO ((List Int)×Int) (JO (List Int) (List Int))):=
 cond (decide (s3.2<((List.length v2:Nat):Int)))
  (Option.bind (grd ((0:Int)<=s3.2/\s3.2<((List.length v2:Nat):Int)) (cond (decide ((List.getD v2 (Int.toNat s3.2) default)=(0:Int)))
   (grd ((List.length s3.1+List.length ([s3.2]:List Int))*8<=2^47/\List.length s3.1+List.length ([s3.2]:List Int)<=2^47) (some (.go (s3.1++([s3.2]:List Int)))))
   (some (.go s3.1)))) λj4=>
   JO.run j4 (rO s3))
  (some (.ret (.go s3.1)))
noncomputable def iP (x_guests:List DGuest):Option (List Int):=
 Option.bind (Option.bind (gF x_guests) λv2=>
  Option.bind (iter (iW v2) (([]:List Int),(0:Int))) LO.val) λj1=>
  JO.run j1 aBg
noncomputable def g59:Sg tG:=⟨[.row 80],.one (.row 3),iP⟩
theorem s59:Sok 59 g59:=sgx [(93,.r g93)] ⟨s93,trivial⟩ (.s .o (.s .o (.j ⟨[],[],[(.s 3,.ro 3)]⟩ (.s .o (.k (.l ⟨[8,9],[],[(.s 3,.ro 3),(.s 10,.i .i64)]⟩ (.s .o (.s .o (.j ⟨[8,9,10],[],[(.s 3,.ro 3)]⟩ .o .o)))))) .o))) kr kr kr
noncomputable def eT (x_h:DHost):Option (List Int):=
 Option.bind (fB x_h) λv1=>
 cond (!v1)
  (some ([]:List Int))
  (Option.bind (iP x_h.Guests) λv2=>
  some v2)
noncomputable def g19:Sg tG:=⟨[.st 26],.one (.row 3),eT⟩
theorem s19:Sok 19 g19:=sgx [(15,.r g15),(59,.r g59)] ⟨s15,s59,trivial⟩ .o kr kr kr
noncomputable def wP  (s1:List Int):Option (List Int):=some s1
noncomputable def wB (s2:(List Int)×Int)(s3:List Int):Option (LO ((List Int)×Int) (JO (List Int) (List Int))):=some (.next (s3,w64 (s2.2+(1:Int))))
noncomputable def qA (s4:(List Int)×Int)(s5:List Int):Option (LO ((List Int)×Int) (JO (List Int) (LO ((List Int)×Int) (JO (List Int) (List Int))))):=some (.next (s5,w64 (s4.2+(1:Int))))
noncomputable def jF (x_h:DHost)(s2:(List Int)×Int)(s4:(List Int)×Int):Option (LO ((List Int)×Int) (JO (List Int) (LO ((List Int)×Int) (JO (List Int) (List Int))))):=
 grd ((0:Int)<=s2.2/\s2.2<((List.length x_h.Guests:Nat):Int)) (cond (decide (s4.2<((List.length (List.getD x_h.Guests (Int.toNat s2.2) default).Pages:Nat):Int)))
  (Option.bind (grd ((0:Int)<=s2.2/\s2.2<((List.length x_h.Guests:Nat):Int)) (grd ((0:Int)<=s4.2/\s4.2<((List.length (List.getD x_h.Guests (Int.toNat s2.2) default).Pages:Nat):Int)) (cond (decide ((0:Int)<=(List.getD (List.getD x_h.Guests (Int.toNat s2.2) default).Pages (Int.toNat s4.2) default).Frame))
   (grd ((0:Int)<=(List.getD (List.getD x_h.Guests (Int.toNat s2.2) default).Pages (Int.toNat s4.2) default).Frame/\(List.getD (List.getD x_h.Guests (Int.toNat s2.2) default).Pages (Int.toNat s4.2) default).Frame<((List.length s4.1:Nat):Int)) (grd ((0:Int)<=(List.getD (List.getD x_h.Guests (Int.toNat s2.2) default).Pages (Int.toNat s4.2) default).Frame/\(List.getD (List.getD x_h.Guests (Int.toNat s2.2) default).Pages (Int.toNat s4.2) default).Frame<((List.length s4.1:Nat):Int)) (some (.go (List.set s4.1 (Int.toNat (List.getD (List.getD x_h.Guests (Int.toNat s2.2) default).Pages (Int.toNat s4.2) default).Frame) (w64 ((List.getD s4.1 (Int.toNat (List.getD (List.getD x_h.Guests (Int.toNat s2.2) default).Pages (Int.toNat s4.2) default).Frame) default)+(1:Int))))))))
   (some (.go s4.1))))) λj5=>
   JO.run j5 (qA s4))
  (some (.ret (.go s4.1))))
noncomputable def lO (x_h:DHost)(s2:(List Int)×Int):Option (LO ((List Int)×Int) (JO (List Int) (List Int))):=
 cond (decide (s2.2<((List.length x_h.Guests:Nat):Int)))
  (Option.bind (Option.bind (iter (jF x_h s2) (s2.1,(0:Int))) LO.val) λj3=>
   JO.run j3 (wB s2))
  (some (.ret (.go s2.1)))
noncomputable def mB (x_h:DHost):Option (List Int):=
 Option.bind (Option.bind (iter (lO x_h) ((List.replicate (Int.toNat (20:Int)) (0:Int)),(0:Int))) LO.val) λj1=>
  JO.run j1 wP
noncomputable def bJh:Sg tG:=⟨[.st 26],.one (.row 3),mB⟩
theorem bKv:Sok 107 bJh:=sgx [] trivial (.s .o (.s .o (.j ⟨[],[],[(.s 3,.ro 3)]⟩ (.s .o (.k (.l ⟨[1],[],[(.s 3,.ro 3),(.s 4,.i .i64)]⟩ (.s .o (.j ⟨[1,4],[],[(.s 3,.ro 3)]⟩ (.k (.s .o (.k (.l ⟨[1,4],[],[(.s 3,.ro 3),(.s 5,.i .i64)]⟩ (.s .o (.j ⟨[1,4,5],[],[(.s 3,.ro 3)]⟩ .o .o)))))) .o))))) .o))) kr kr kr
noncomputable def aEb  (s3:List Int):Option (List Int):=some s3
noncomputable def sP (s4:(List Int)×Int)(s5:List Int):Option (LO ((List Int)×Int) (JO (List Int) (List Int))):=some (.next (s5,w64 (s4.2+(1:Int))))
noncomputable def jW (v2:List Int)(s4:(List Int)×Int):Option (LO ((List Int)×Int) (JO (List Int) (List Int))):=
 cond (decide (s4.2<(20:Int)))
  (Option.bind (grd ((0:Int)<=s4.2/\s4.2<((List.length v2:Nat):Int)) (cond (decide ((List.getD v2 (Int.toNat s4.2) default)=(0:Int)))
   (grd ((List.length s4.1+List.length ([s4.2]:List Int))*8<=2^47/\List.length s4.1+List.length ([s4.2]:List Int)<=2^47) (some (.go (s4.1++([s4.2]:List Int)))))
   (some (.go s4.1)))) λj5=>
   JO.run j5 (sP s4))
  (some (.ret (.go s4.1)))
noncomputable def gX (x_h:DHost):Option (List Int):=
 Option.bind (hY x_h) λv1=>
 cond (!v1)
  (some ([]:List Int))
  (Option.bind (mB x_h) λv2=>
  Option.bind (Option.bind (iter (jW v2) (([]:List Int),(0:Int))) LO.val) λj3=>
   JO.run j3 aEb)
noncomputable def g70:Sg tG:=⟨[.st 26],.one (.row 3),gX⟩
theorem s70:Sok 70 g70:=sgx [(90,.r g90),(107,.r bJh)] ⟨s90,bKv,trivial⟩ (.s .o (.s .o (.s .o (.s .o (.j ⟨[],[],[(.s 3,.ro 3)]⟩ (.s .o (.k (.l ⟨[4],[],[(.s 3,.ro 3),(.s 5,.i .i64)]⟩ (.s .o (.j ⟨[4,5],[],[(.s 3,.ro 3)]⟩ .o .o))))) .o))))) kr kr kr
noncomputable def dM (x_pages:List DSlot):Option (List DSlot):=grd ((0:Int)<=((List.length x_pages:Nat):Int)/\((List.length x_pages:Nat):Int)*16<=2^47/\((List.length x_pages:Nat):Int)<=2^47) (some (over (List.replicate (Int.toNat ((List.length x_pages:Nat):Int)) (DSlot.mk (0:Int) false false)) 0 (List.length (List.replicate (Int.toNat ((List.length x_pages:Nat):Int)) (DSlot.mk (0:Int) false false))) x_pages))
noncomputable def g89:Sg tG:=⟨[.row 83],.one (.row 83),dM⟩
theorem s89:Sok 89 g89:=sgx [] trivial .o kr kr kr
noncomputable def dP (x_guest:DGuest):Option DGuest:=
 cond (!x_guest.Live)
  (some (DGuest.mk false (DCore.mk ([]:List Int) (0:Int) (0:Int) (0:Int) (0:Int) false (0:Int) (0:Int) (0:Int) false false false false) ([]:List DSlot) ([]:List Int) ([]:List Int)))
  (Option.bind (cL x_guest.C.Regs) λv1=>
  Option.bind (dM x_guest.Pages) λv2=>
  Option.bind (cL x_guest.In) λv3=>
  Option.bind (cL x_guest.Out) λv4=>
  some (DGuest.mk x_guest.Live (DCore.mk v1 x_guest.C.Pc x_guest.C.Root x_guest.C.Vector x_guest.C.Saved x_guest.C.SavedUser x_guest.C.Cause x_guest.C.Bad x_guest.C.Timer x_guest.C.Waits x_guest.C.User x_guest.C.On x_guest.C.Stopped) v2 v3 v4))
noncomputable def g46:Sg tG:=⟨[.st 80],.one (.st 80),dP⟩
theorem s46:Sok 46 g46:=sgx [(87,.r g87),(89,.r g89)] ⟨s87,s89,trivial⟩ .o kr kr kr
noncomputable def yJ  (s1:List DGuest):Option (List DGuest):=some s1
noncomputable def eH (x_guests:List DGuest)(s2:(List DGuest)×Int):Option (LO ((List DGuest)×Int) (JO (List DGuest) (List DGuest))):=
 cond (decide (s2.2<((List.length x_guests:Nat):Int)))
  (grd ((0:Int)<=s2.2/\s2.2<((List.length x_guests:Nat):Int)) (Option.bind (dP (DGuest.mk (List.getD x_guests (Int.toNat s2.2) default).Live (DCore.mk ((List.getD x_guests (Int.toNat s2.2) default).C).Regs ((List.getD x_guests (Int.toNat s2.2) default).C).Pc ((List.getD x_guests (Int.toNat s2.2) default).C).Root ((List.getD x_guests (Int.toNat s2.2) default).C).Vector ((List.getD x_guests (Int.toNat s2.2) default).C).Saved ((List.getD x_guests (Int.toNat s2.2) default).C).SavedUser ((List.getD x_guests (Int.toNat s2.2) default).C).Cause ((List.getD x_guests (Int.toNat s2.2) default).C).Bad ((List.getD x_guests (Int.toNat s2.2) default).C).Timer ((List.getD x_guests (Int.toNat s2.2) default).C).Waits ((List.getD x_guests (Int.toNat s2.2) default).C).User ((List.getD x_guests (Int.toNat s2.2) default).C).On ((List.getD x_guests (Int.toNat s2.2) default).C).Stopped) (List.getD x_guests (Int.toNat s2.2) default).Pages (List.getD x_guests (Int.toNat s2.2) default).In (List.getD x_guests (Int.toNat s2.2) default).Out)) λv3=>
   grd ((0:Int)<=s2.2/\s2.2<((List.length s2.1:Nat):Int)) (some (.next ((List.set s2.1 (Int.toNat s2.2) v3),w64 (s2.2+(1:Int)))))))
  (some (.ret (.go s2.1)))
noncomputable def fL (x_guests:List DGuest):Option (List DGuest):=
 grd ((0:Int)<=((List.length x_guests:Nat):Int)/\((List.length x_guests:Nat):Int)*176<=2^47/\((List.length x_guests:Nat):Int)<=2^47) (Option.bind (Option.bind (iter (eH x_guests) ((List.replicate (Int.toNat ((List.length x_guests:Nat):Int)) (DGuest.mk false (DCore.mk ([]:List Int) (0:Int) (0:Int) (0:Int) (0:Int) false (0:Int) (0:Int) (0:Int) false false false false) ([]:List DSlot) ([]:List Int) ([]:List Int))),(0:Int))) LO.val) λj1=>
  JO.run j1 yJ)
noncomputable def g88:Sg tG:=⟨[.row 80],.one (.row 1080),fL⟩
theorem s88:Sok 88 g88:=sgx [(46,.r g46)] ⟨s46,trivial⟩ (.s .o (.s (.g [] [] [.fo (.s 3) 0]) (.j ⟨[],[],[(.s 3,.ro 1080)]⟩ (.s .o (.k (.l ⟨[9,10],[],[(.s 3,.ro 1080),(.s 11,.i .i64)]⟩ (.s .o (.s .o (.s (.k (.s .o (.g [] [] [.fo (.s 3) 0]))) .o)))))) .o))) kr kr kr
noncomputable def eK (x_guests:List DGuest)(x_g:Int)(x_guest:DGuest):Option (List DGuest):=
 Option.bind (fL x_guests) λv1=>
 grd ((0:Int)<=x_g/\x_g<((List.length v1:Nat):Int)) (some (List.set v1 (Int.toNat x_g) x_guest))
noncomputable def g65:Sw tG:=⟨[.v (.row 80),.v (.i .i64),.os 80],.one (.row 1080),eK⟩
theorem s65:Sjk 65 g65:=sgy [(88,.r g88)] ⟨s88,trivial⟩ (.s .o (.s .o (.s (.g [] [] [.fo (.s 7) 0]) .o))) kr kr kr
theorem aFp{x_guests:List DGuest}{x_g:Int}{x_guest:DGuest}{R_:(List DGuest)}(hh:eK x_guests x_g x_guest=some R_):Inl Try.prog 65 [bo lN x_guests,.int .i64 x_g,.agg [.bool x_guest.Live,.sref 0 [] 0 (List.length x_guest.C.Regs) 1,.int .i64 x_guest.C.Pc,.int .i64 x_guest.C.Root,.int .i64 x_guest.C.Vector,.int .i64 x_guest.C.Saved,.bool x_guest.C.SavedUser,.int .i64 x_guest.C.Cause,.int .i64 x_guest.C.Bad,.int .i64 x_guest.C.Timer,.bool x_guest.C.Waits,.bool x_guest.C.User,.bool x_guest.C.On,.bool x_guest.C.Stopped,.sref 1 [] 0 (List.length x_guest.Pages) 3,.sref 2 [] 0 (List.length x_guest.In) 1,.sref 3 [] 0 (List.length x_guest.Out) 1]] [(3,some (rI_3 x_guest.Out)),(2,some (rI_3 x_guest.In)),(1,some (rC83 x_guest.Pages)),(0,some (rI_3 x_guest.C.Regs))] 4 (.sref 4 [] 0 (List.length R_) 17) [(4,some (rO80 R_))] 5:=kc (s65 x_guests x_g x_guest R_ hh)
noncomputable def fS (x_g:DGuest):Option DGuest:=
 cond (!x_g.Live)
  (some (DGuest.mk false (DCore.mk ([]:List Int) (0:Int) (0:Int) (0:Int) (0:Int) false (0:Int) (0:Int) (0:Int) false false false false) ([]:List DSlot) ([]:List Int) ([]:List Int)))
  (Option.bind (fD x_g.C) λv1=>
  grd (List.length x_g.Pages*16<=2^47/\List.length x_g.Pages<=2^47) (grd (List.length x_g.In*8<=2^47/\List.length x_g.In<=2^47) (grd (List.length x_g.Out*8<=2^47/\List.length x_g.Out<=2^47) (some (DGuest.mk true v1 x_g.Pages x_g.In x_g.Out)))))
noncomputable def g50:Sg tG:=⟨[.st 80],.one (.st 80),fS⟩
theorem s50:Sok 50 g50:=sgx [(71,.r g71)] ⟨s71,trivial⟩ .o kr kr kr
noncomputable def aHo (x_h:DHost)(s1:List DGuest):Option DHost:=some (DHost.mk (([]:List Int)++x_h.Words) s1)
noncomputable def lE (x_h:DHost)(s2:(List DGuest)×Int):Option (LO ((List DGuest)×Int) (JO (List DGuest) DHost)):=
 cond (decide (s2.2<((List.length x_h.Guests:Nat):Int)))
  (grd ((0:Int)<=s2.2/\s2.2<((List.length x_h.Guests:Nat):Int)) (Option.bind (fS (DGuest.mk (List.getD x_h.Guests (Int.toNat s2.2) default).Live (DCore.mk ((List.getD x_h.Guests (Int.toNat s2.2) default).C).Regs ((List.getD x_h.Guests (Int.toNat s2.2) default).C).Pc ((List.getD x_h.Guests (Int.toNat s2.2) default).C).Root ((List.getD x_h.Guests (Int.toNat s2.2) default).C).Vector ((List.getD x_h.Guests (Int.toNat s2.2) default).C).Saved ((List.getD x_h.Guests (Int.toNat s2.2) default).C).SavedUser ((List.getD x_h.Guests (Int.toNat s2.2) default).C).Cause ((List.getD x_h.Guests (Int.toNat s2.2) default).C).Bad ((List.getD x_h.Guests (Int.toNat s2.2) default).C).Timer ((List.getD x_h.Guests (Int.toNat s2.2) default).C).Waits ((List.getD x_h.Guests (Int.toNat s2.2) default).C).User ((List.getD x_h.Guests (Int.toNat s2.2) default).C).On ((List.getD x_h.Guests (Int.toNat s2.2) default).C).Stopped) (List.getD x_h.Guests (Int.toNat s2.2) default).Pages (List.getD x_h.Guests (Int.toNat s2.2) default).In (List.getD x_h.Guests (Int.toNat s2.2) default).Out)) λv3=>
   grd ((List.length s2.1+1)*176<=2^47/\List.length s2.1+1<=2^47) (some (.next ((s2.1++([v3]:List DGuest)),w64 (s2.2+(1:Int)))))))
  (some (.ret (.go s2.1)))
noncomputable def iA (x_h:DHost):Option DHost:=
 grd ((List.length ([]:List Int)+List.length x_h.Words)*8<=2^47/\List.length ([]:List Int)+List.length x_h.Words<=2^47) (Option.bind (Option.bind (iter (lE x_h) (([]:List DGuest),(0:Int))) LO.val) λj1=>
  JO.run j1 (aHo x_h))
noncomputable def g49:Sg tG:=⟨[.st 26],.one (.st 2026),iA⟩
theorem s49:Sok 49 g49:=sgx [(50,.r g50)] ⟨s50,trivial⟩ (.s .o (.s .o (.j ⟨[2,3],[],[(.c 3 1,.ro 1080)]⟩ (.s .o (.k (.l ⟨[1,2,3],[],[(.c 3 1,.ro 1080),(.s 4,.i .i64)]⟩ (.s .o (.s (.k (.g [] [] [.fo (.c 3 1) 0])) .o))))) .o))) kr kr kr
noncomputable def mL (x_h:DHost)(x_g:Int):Option (DHost×Bool):=
 Option.bind (fE x_h x_g) λv1=>
 cond (!v1)
  (some ((DHost.mk ([]:List Int) ([]:List DGuest)),false))
  (Option.bind (iA x_h) λv2=>
  grd ((0:Int)<=x_g/\x_g<((List.length v2.Guests:Nat):Int)) (some ((DHost.mk v2.Words (List.set v2.Guests (Int.toNat x_g) (DGuest.mk false (DCore.mk ([]:List Int) (0:Int) (0:Int) (0:Int) (0:Int) false (0:Int) (0:Int) (0:Int) false false false false) ([]:List DSlot) ([]:List Int) ([]:List Int)))),true)))
noncomputable def g69:Sg tG:=⟨[.st 26,.i .i64],.two (.st 2026) .b,mL⟩
theorem s69:Sok 69 g69:=sgx [(48,.r g48),(49,.r g49)] ⟨s48,s49,trivial⟩ (.s .o (.s .o (.s .o (.s (.g [] [] [.fo (.c 6 1) 0]) .o)))) kr kr kr
noncomputable def uC (x_b:DBare)(v3:DHost)(s4:Int)(v6:DCore)(s7:(List Int)×(List DSlot)):Option (DHost×Int×Bool):=
 cond (decide (s4<(0:Int)))
  (some ((DHost.mk ([]:List Int) ([]:List DGuest)),(-1:Int),false))
  (grd ((0:Int)<=s4/\s4<((List.length v3.Guests:Nat):Int)) (some ((DHost.mk s7.1 (List.set v3.Guests (Int.toNat s4) (DGuest.mk true v6 s7.2 x_b.In x_b.Out))),s4,true)))
noncomputable def nK (s8:(List Int)×(List Int)×(List DSlot)×Int)(s9:(List Int)×(List Int)×(List DSlot)):Option (LO ((List Int)×(List Int)×(List DSlot)×Int) (JO ((List Int)×(List DSlot)) (DHost×Int×Bool))):=some (.next (s9.1,s9.2.1,s9.2.2,w64 (s8.2.2.2+(1:Int))))
noncomputable def rS (x_b:DBare)(s8:(List Int)×(List Int)×(List DSlot)×Int)(s10:Bool):Option (JO ((List Int)×(List Int)×(List DSlot)) (LO ((List Int)×(List Int)×(List DSlot)×Int) (JO ((List Int)×(List DSlot)) (DHost×Int×Bool)))):=
 cond s10
  (grd ((List.length s8.2.2.1+List.length ([DSlot.mk (-1:Int) false false]:List DSlot))*16<=2^47/\List.length s8.2.2.1+List.length ([DSlot.mk (-1:Int) false false]:List DSlot)<=2^47) (some (.go (s8.1,s8.2.1,s8.2.2.1++([DSlot.mk (-1:Int) false false]:List DSlot)))))
  (cond (decide (((List.length s8.2.1:Nat):Int)=(0:Int)))
   (some (.out (.ret (.out ((DHost.mk ([]:List Int) ([]:List DGuest)),(-1:Int),false)))))
   (grd ((0:Int)<=(0:Int)/\(0:Int)<((List.length s8.2.1:Nat):Int)) (grd ((0:Int)<=(w64 ((List.getD s8.2.1 (Int.toNat (0:Int)) default)*(8:Int)))/\(w64 ((List.getD s8.2.1 (Int.toNat (0:Int)) default)*(8:Int)))<=((List.length s8.1:Nat):Int)/\((List.length s8.1:Nat):Int)<=((List.length s8.1:Nat):Int)) (grd ((0:Int)<=(0:Int)/\(0:Int)<((List.length s8.2.1:Nat):Int)) (grd ((List.length s8.2.2.1+List.length ([DSlot.mk (List.getD s8.2.1 (Int.toNat (0:Int)) default) true false]:List DSlot))*16<=2^47/\List.length s8.2.2.1+List.length ([DSlot.mk (List.getD s8.2.1 (Int.toNat (0:Int)) default) true false]:List DSlot)<=2^47) (grd ((0:Int)<=(1:Int)/\(1:Int)<=((List.length s8.2.1:Nat):Int)/\((List.length s8.2.1:Nat):Int)<=((List.length s8.2.1:Nat):Int)) (some (.go ((over s8.1 (Int.toNat (w64 ((List.getD s8.2.1 (Int.toNat (0:Int)) default)*(8:Int)))) (Int.toNat ((List.length s8.1:Nat):Int)-Int.toNat (w64 ((List.getD s8.2.1 (Int.toNat (0:Int)) default)*(8:Int)))) (List.take (Int.toNat (w64 ((w64 (s8.2.2.2+(1:Int)))*(8:Int)))-Int.toNat (w64 (s8.2.2.2*(8:Int)))) (List.drop (Int.toNat (w64 (s8.2.2.2*(8:Int)))) x_b.Mem))),List.take (Int.toNat ((List.length s8.2.1:Nat):Int)-Int.toNat (1:Int)) (List.drop (Int.toNat (1:Int)) s8.2.1),s8.2.2.1++([DSlot.mk (List.getD s8.2.1 (Int.toNat (0:Int)) default) true false]:List DSlot))))))))))
noncomputable def mH (s11:Bool×Int)(s12:Bool):Option (LO (Bool×Int) (JO Bool (JO ((List Int)×(List Int)×(List DSlot)) (LO ((List Int)×(List Int)×(List DSlot)×Int) (JO ((List Int)×(List DSlot)) (DHost×Int×Bool)))))):=some (.next (s12,w64 (s11.2+(1:Int))))
noncomputable def fH (x_b:DBare)(s8:(List Int)×(List Int)×(List DSlot)×Int)(s11:Bool×Int):Option (LO (Bool×Int) (JO Bool (JO ((List Int)×(List Int)×(List DSlot)) (LO ((List Int)×(List Int)×(List DSlot)×Int) (JO ((List Int)×(List DSlot)) (DHost×Int×Bool)))))):=
 cond (decide (s11.2<(8:Int)))
  (Option.bind (cond s11.1
   (grd ((0:Int)<=s11.2/\s11.2<((List.length (List.take (Int.toNat (w64 ((w64 (s8.2.2.2+(1:Int)))*(8:Int)))-Int.toNat (w64 (s8.2.2.2*(8:Int)))) (List.drop (Int.toNat (w64 (s8.2.2.2*(8:Int)))) x_b.Mem)):Nat):Int)) (some (.go (decide ((List.getD (List.take (Int.toNat (w64 ((w64 (s8.2.2.2+(1:Int)))*(8:Int)))-Int.toNat (w64 (s8.2.2.2*(8:Int)))) (List.drop (Int.toNat (w64 (s8.2.2.2*(8:Int)))) x_b.Mem)) (Int.toNat s11.2) default)=(0:Int))))))
   (some (.go false))) λj12=>
   JO.run j12 (mH s11))
  (some (.ret (.go s11.1)))
noncomputable def eO (x_b:DBare)(s4:Int)(s8:(List Int)×(List Int)×(List DSlot)×Int):Option (LO ((List Int)×(List Int)×(List DSlot)×Int) (JO ((List Int)×(List DSlot)) (DHost×Int×Bool))):=
 cond (decide (s8.2.2.2<(8:Int)))
  (cond (decide ((0:Int)<=s4))
   (Option.bind (grd ((0:Int)<=(w64 (s8.2.2.2*(8:Int)))/\(w64 (s8.2.2.2*(8:Int)))<=(w64 ((w64 (s8.2.2.2+(1:Int)))*(8:Int)))/\(w64 ((w64 (s8.2.2.2+(1:Int)))*(8:Int)))<=((List.length x_b.Mem:Nat):Int)) (Option.bind (Option.bind (iter (fH x_b s8) (true,(0:Int))) LO.val) λj10=>
    JO.run j10 (rS x_b s8))) λj9=>
    JO.run j9 (nK s8))
   (some (.ret (.go (s8.1,s8.2.2.1)))))
  (some (.ret (.go (s8.1,s8.2.2.1))))
noncomputable def tW (x_h:DHost)(x_b:DBare)(v3:DHost)(s4:Int):Option (DHost×Int×Bool):=
 Option.bind (gX x_h) λv5=>
 Option.bind (fD x_b.C) λv6=>
 grd (List.length x_b.In*8<=2^47/\List.length x_b.In<=2^47) (grd (List.length x_b.Out*8<=2^47/\List.length x_b.Out<=2^47) (Option.bind (Option.bind (iter (eO x_b s4) (v3.Words,v5,([]:List DSlot),(0:Int))) LO.val) λj7=>
  JO.run j7 (uC x_b v3 s4 v6)))
noncomputable def rQ (s13:Int×Int)(s14:Int):Option (LO (Int×Int) (JO Int (DHost×Int×Bool))):=some (.next (s14,w64 (s13.2-(1:Int))))
noncomputable def eG (x_h:DHost)(s13:Int×Int):Option (LO (Int×Int) (JO Int (DHost×Int×Bool))):=
 cond (decide ((0:Int)<=s13.2))
  (Option.bind (grd ((0:Int)<=s13.2/\s13.2<((List.length x_h.Guests:Nat):Int)) (cond (!(List.getD x_h.Guests (Int.toNat s13.2) default).Live)
   (some (.go s13.2))
   (some (.go s13.1)))) λj14=>
   JO.run j14 (rQ s13))
  (some (.ret (.go s13.1)))
noncomputable def mX (x_h:DHost)(x_b:DBare):Option (DHost×Int×Bool):=
 Option.bind (hY x_h) λv1=>
 cond (!v1)
  (some ((DHost.mk ([]:List Int) ([]:List DGuest)),(-1:Int),false))
  (Option.bind (lQ x_b) λv2=>
  cond (!v2)
   (some ((DHost.mk ([]:List Int) ([]:List DGuest)),(-1:Int),false))
   (Option.bind (iA x_h) λv3=>
   Option.bind (Option.bind (iter (eG x_h) ((-1:Int),(2:Int))) LO.val) λj4=>
    JO.run j4 (tW x_h x_b v3)))
noncomputable def bJo:Sg tG:=⟨[.st 26,.st 36],.three (.st 2026) (.i .i64) .b,mX⟩
theorem bLe:Sok 115 bJo:=sgx [(90,.r g90),(68,.r g68),(49,.r g49),(70,.r g70),(71,.r g71)] ⟨s90,s68,s49,s70,s71,trivial⟩ (.s .o (.s .o (.s .o (.s .o (.j ⟨[2,3,4,7],[],[(.s 8,.i .i64)]⟩ (.s .o (.k (.l ⟨[2,3,4,7],[],[(.s 8,.i .i64),(.s 9,.i .i64)]⟩ (.s .o (.j ⟨[2,3,4,7,9],[],[(.s 8,.i .i64)]⟩ .o .o))))) (.s .o (.s (.g [.fr (.s 10) 0] [] []) (.j ⟨[4,7,8,11],[],[(.c 7 0,.ro 3),(.c 11 14,.ro 83)]⟩ (.s .o (.k (.l ⟨[3,4,7,8,11],[],[(.c 7 0,.ro 3),(.s 10,.rb 3),(.c 11 14,.ro 83),(.s 12,.i .i64)]⟩ (.s .o (.j ⟨[3,4,7,8,11,12],[],[(.c 7 0,.ro 3),(.s 10,.rb 3),(.c 11 14,.ro 83)]⟩ (.k (.s .o (.s .o (.j ⟨[3,4,7,8,10,11,12,13],[],[(.s 14,.b)]⟩ (.s .o (.k (.l ⟨[3,4,7,8,10,11,12,13],[],[(.s 14,.b),(.s 15,.i .i64)]⟩ (.s .o (.j ⟨[3,4,7,8,10,11,12,13,15],[],[(.s 14,.b)]⟩ .o .o))))) .o)))) .o))))) (.s .o (.s (.g [] [] [.fo (.c 7 1) 0]) .o)))))))))) kr kr kr
noncomputable def aCt  (s1:Unit):Option Bool:=some true
noncomputable def gO (x_words:List Int)(s2:Int):Option (LO Int (JO Unit Bool)):=
 cond (decide (s2<((List.length x_words:Nat):Int)))
  (grd ((0:Int)<=s2/\s2<((List.length x_words:Nat):Int)) (cond (!decide ((List.getD x_words (Int.toNat s2) default)=(0:Int)))
   (some (.ret (.out false)))
   (some (.next (w64 (s2+(1:Int)))))))
  (some (.ret (.go ())))
noncomputable def mS (x_words:List Int):Option Bool:=
 Option.bind (Option.bind (iter (gO x_words) (0:Int)) LO.val) λj1=>
  JO.run j1 aCt
noncomputable def bHv:Sg tG:=⟨[.row 3],.one .b,mS⟩
theorem bLi:Sok 125 bHv:=sgx [] trivial (.s .o (.j ⟨[],[],[]⟩ (.s .o (.k (.l ⟨[5,6],[],[(.s 7,.i .i64)]⟩ .o))) .o)) kr kr kr
noncomputable def aDr  (s1:List DSlot):Option ((List DSlot)×Bool):=some (s1,true)
noncomputable def nW (s2:(List DSlot)×Int×Int)(s3:(List DSlot)×Int):Option (LO ((List DSlot)×Int×Int) (JO (List DSlot) ((List DSlot)×Bool))):=some (.next (s3.1,s3.2,w64 (s2.2.2+(1:Int))))
noncomputable def kF (x_mem:List Int)(x_free:List Int)(s2:(List DSlot)×Int×Int):Option (LO ((List DSlot)×Int×Int) (JO (List DSlot) ((List DSlot)×Bool))):=
 cond (decide (s2.2.2<((List.length (List.replicate (Int.toNat (8:Int)) (DSlot.mk (0:Int) false false)):Nat):Int)))
  (Option.bind (Option.bind (hT x_mem s2.2.2) λv4=>
   Option.bind (mS v4) λv5=>
   cond v5
    (grd ((0:Int)<=s2.2.2/\s2.2.2<((List.length s2.1:Nat):Int)) (some (.go ((List.set s2.1 (Int.toNat s2.2.2) (DSlot.mk (-1:Int) false false)),s2.2.1))))
    (cond (decide (s2.2.1=((List.length x_free:Nat):Int)))
     (some (.out (.ret (.out (([]:List DSlot),false)))))
     (grd ((0:Int)<=s2.2.1/\s2.2.1<((List.length x_free:Nat):Int)) (grd ((0:Int)<=s2.2.2/\s2.2.2<((List.length s2.1:Nat):Int)) (some (.go ((List.set s2.1 (Int.toNat s2.2.2) (DSlot.mk (List.getD x_free (Int.toNat s2.2.1) default) true false)),w64 (s2.2.1+(1:Int))))))))) λj3=>
   JO.run j3 (nW s2))
  (some (.ret (.go s2.1)))
noncomputable def mQ (x_mem:List Int)(x_free:List Int):Option ((List DSlot)×Bool):=
 Option.bind (Option.bind (iter (kF x_mem x_free) ((List.replicate (Int.toNat (8:Int)) (DSlot.mk (0:Int) false false)),(0:Int),(0:Int))) LO.val) λj1=>
  JO.run j1 aDr
noncomputable def bIi:Sg tG:=⟨[.row 3,.row 3],.two (.row 83) .b,mQ⟩
theorem bKz:Sok 102 bIi:=sgx [(117,.r bJn),(125,.r bHv)] ⟨bJi,bLi,trivial⟩ (.s .o (.s .o (.s .o (.j ⟨[],[],[(.s 6,.ro 83)]⟩ (.s .o (.k (.l ⟨[0,1,11],[],[(.s 6,.ro 83),(.s 7,.i .i64),(.s 12,.i .i64)]⟩ (.s .o (.s .o (.j ⟨[0,1,11,12],[],[(.s 6,.ro 83),(.s 7,.i .i64)]⟩ .o .o)))))) .o)))) kr kr kr
theorem aCo:LW 103 ⟨32,[.tmp 6],.seq (.reg false (rg 103 0)) (.seq (.reg false (rg 103 1)) (.seq (.seq (.reg false (rg 103 2)) (.block 0 (.loop (.seq (.reg false (rg 103 3)) (.seq (.cond (.t 15) .skip (.exit 0)) (.seq (.block 1 (.seq (.reg false (rg 103 4)) (.seq (.reg false (rg 103 5)) (.cond (.t 21) (.reg false (rg 103 6)) .skip)))) (.reg false (rg 103 7)))))))) (.seq (.reg false (rg 103 9)) .ret)))⟩:=kr
noncomputable def jK  (s2:List Int):Option (List Int):=some s2
noncomputable def fJ (s3:(List Int)×Int)(s4:List Int):Option (LO ((List Int)×Int) (JO (List Int) (List Int))):=some (.next (s4,w64 (s3.2+(1:Int))))
noncomputable def fF (x_pages:List DSlot)(x_mem:List Int)(s3:(List Int)×Int):Option (LO ((List Int)×Int) (JO (List Int) (List Int))):=
 cond (decide (s3.2<((List.length x_pages:Nat):Int)))
  (Option.bind (grd ((0:Int)<=s3.2/\s3.2<((List.length x_pages:Nat):Int)) (cond (!decide ((List.getD x_pages (Int.toNat s3.2) default).Frame=(-1:Int)))
   (Option.bind (gV s3.1 (List.getD x_pages (Int.toNat s3.2) default).Frame) λv5=>
   grd (List.length v5.1=(List.length s3.1)) (grd (v5.2.1+v5.2.2<=List.length v5.1) (Option.bind (hT x_mem s3.2) λv6=>
    some (.go (over v5.1 v5.2.1 v5.2.2 v6)))))
   (some (.go s3.1)))) λj4=>
   JO.run j4 (fJ s3))
  (some (.ret (.go s3.1)))
noncomputable def fT (x_words:List Int)(x_pages:List DSlot)(x_mem:List Int):Option (List Int):=
 Option.bind (cL x_words) λv1=>
 Option.bind (Option.bind (iter (fF x_pages x_mem) (v1,(0:Int))) LO.val) λj2=>
  JO.run j2 jK
theorem aFl{x_words:List Int}{x_pages:List DSlot}{x_mem:List Int}{R_:(List Int)}(hh:fT x_words x_pages x_mem=some R_):Fn Try.prog 103 [bo (eI .i64) x_words,bo eN x_pages,bo (eI .i64) x_mem] (.own 3 1 (List.length R_) (fl (eI .i64) R_)):=by let z2:=(1,bo eN x_pages);let z3:=(12,bo eN x_pages);let z4:=(13,ii ((List.length x_pages:Nat):Int));let z5:=(2,bo (eI .i64) x_mem);unfold fT at hh;refine Fn.start aCo [0,1,2] (E:=sp 32 [(0,bo (eI .i64) x_words),z2,z5]) kr (v:=sw 0 R_) (Hr:=[(0,some (rI_3 R_))]) (k:=1) kr (sy [0,1,2] [] (sp 32 [(0,bo (eI .i64) x_words),z2,z5]) [] 0 (Aw.sreg [1,2,7] [0] (yu 1 [(10,bo (eI .i64) x_words)] [] 0 ?_)));obtain⟨v1,hv1,hh⟩:=bind_some hh;let z6:EH:=(0,some (rI_3 v1));refine ys (.call 87 [.t 10]) (some 11) (sJ (r:= .own 3 1 (List.length v1) (fl (eI .i64) v1)) (v:=sw 0 v1) (Hr:=[z6]) (n':=1) (aLq hv1) (xD (vs:=[bo (eI .i64) x_words]) kr (kA (aC (tV (bN cE))) pM)) nrr nrr kr ?_);refine yt (sp 32 [z2,z5,(7,sw 0 v1)]) [z6] 1 ?_;obtain⟨j2,hh,hk2⟩:=bind_some hh;refine Aw.join (S:=(List Int)) (λs2=>sp 32 [(7,sw 0 s2)]) (λs2=>[(0,some (rI_3 s2))]) 1 (λs2=>jK s2=some R_) ?_ ?_;{intro s2 hh;unfold jK at hh;refine sy [6] [0] (sp 32 [(6,sw 0 s2)]) [(0,some (rI_3 s2))] 1 (Aw.ret ?_);rw[cA hh];exact sK (r':=sw 0 s2) kr (Ent.list [some 0] rfl rfl (Nat.zero_le _) (nT tA) (hn bE cP))};intro Q2 hN2 hR2 hE2;refine sy [2,7,12,13,14] [0] (sp 32 [z5,(7,sw 0 v1),z3,z4,(14,ii 0)]) [z6] 1 (Aw.block ?_);obtain⟨o3,hi3,hk3⟩:=bind_some hh;refine Aw.iter (λ(s3:(List Int)×Int)=>sp 32 [(2,bo (eI .i64) x_mem),(7,sw 0 s3.1),(12,bo eN x_pages),(13,ii ((List.length x_pages:Nat):Int)),(14,ii s3.2)]) (λ(s3:(List Int)×Int)=>[(0,some (rI_3 s3.1))]) 1 hi3 (el [some 0] (jQ kr (ro bE (rs (sw 0 v1) (ro hM (ri (ri uF)))))) (hn bE cP)) ?_;intro s3 u3 Q3 hh hN3 hX3 hR3;let z7:EH:=(0,some (rI_3 s3.1));let z8:=(14,ii s3.2);let z9:=(15,bb (decide (s3.2<((List.length x_pages:Nat):Int))));let z10:=(7,sw 0 s3.1);let z1:=List.getD x_pages (Int.toNat s3.2) default;let z11:=(21,bb (!decide (z1.Frame=(-1:Int))));unfold fF at hh;refine sy [2,7,12,13,14,15] [0] (sp 32 [z5,z10,z3,z4,z8,z9]) [z7] 1 (Aw.seq ?_);rcases yL hh with⟨hb,hh⟩|⟨hb,hh⟩;{refine cF hb (Aw.exit (aZf (hX3 _ _ _ _ _ (cA hh) ?_)));intro hout;rw[hout]at hk3;refine aYh ?_;obtain rfl:=cA hk3;exact hN2 s3.1 _ _ _ hk2 (el [some 0] (jQ kr (rs (sw 0 s3.1) uF)) (hn bE cP))};refine cT hb (Aw.xskip (λ_ _ _ hq=>aIn hq) ?_);obtain⟨j4,hh,hk4⟩:=bind_some hh;refine Aw.join (S:=(List Int)) (λs4=>sp 32 [(2,bo (eI .i64) x_mem),(7,sw 0 s4),(12,bo eN x_pages),(13,ii ((List.length x_pages:Nat):Int)),(14,ii s3.2)]) (λs4=>[(0,some (rI_3 s4))]) 1 (λs4=>fJ s3 s4=some u3) ?_ ?_;{intro s4 hh;unfold fJ at hh;exact Aw.oreg (ye (sp 32 [z5,(7,sw 0 s4),z3,z4,(14,ii (w64 (s3.2+(1:Int)))),(30,ii (w64 (s3.2+(1:Int))))]) [(0,some (rI_3 s4))] 1 (hN3 (s4,w64 (s3.2+(1:Int))) _ _ _ (cA hh) (el [some 0] (jQ kr (ro bE (rs (sw 0 s4) (ro hM (ri (ri uF)))))) (hn bE cP))))};intro Q4 hN4 hR4 hE4;refine Aw.block (Aw.sreg [2,7,8,9,12,13,14] [0,1] (yj 1  (sp 32 [z5,z10,z3,z4,z8,z9,(16,ii s3.2)]) [z7] 1 ?_));obtain⟨hg104,hh⟩:=bJ hh;refine ys (.iadr 3 (.t 12) (.t 14)) (some 17) (aUq (kd:= .i64) (c:=eN) (xs:=x_pages) pP dd kr kr hg104 ?_);refine ys (.load true 3 (.t 17)) (some 18) (aMd (c:=eN) (xs:=x_pages) (o:=Int.toNat s3.2*3) (i:=(Int.toNat s3.2)) (off:=0) (v:= .agg [ii z1.Frame,bb z1.Write,bb z1.Dirty]) pP kr ltn ltn dd kr ?_);let q1:Root:=⟨83,[ii z1.Frame,bb z1.Write,bb z1.Dirty]⟩;let z12:=(1,some q1);refine yt (sp 32 [z5,z10,(8,ii s3.2),(9,pp 1),z3,z4,z8]) [z7,z12] 2 (sy [2,7,8,9,12,13,14,21] [0,1] (sp 32 [z5,z10,(8,ii s3.2),(9,pp 1),z3,z4,z8,z11]) [z7,z12] 2 ?_);rcases yL hh with⟨hb,hh⟩|⟨hb,hh⟩;{refine cF hb (Aw.skip (aJu ?_));obtain rfl:=cA hh;exact hN4 s3.1 _ _ _ hk4 (el [some 0] (jQ kr (ro bE (rs (sw 0 s3.1) (ro hM (ri (ri uF)))))) (hn bE cP))};refine cT hb (Aw.oreg (yu 3 [(22,sw 0 s3.1),(23,pp 1),(24,ii z1.Frame)] [z7,z12] 2 ?_));obtain⟨v5,hv5,hh⟩:=bind_some hh;let z13:EH:=(0,some (rI_3 v5.1));let z14:EV:=(25,.sref 0 [] (0+v5.2.1*1) v5.2.2 1);obtain⟨hg107,hh⟩:=bJ hh;obtain⟨hg108,hh⟩:=bJ hh;refine ys (.call 117 [.t 22,.t 24]) (some 25) (cf (.sref 0 [] (0+v5.2.1*1) v5.2.2 1) [z13] 2 [0] (wG hv5) [sw 0 s3.1,ii z1.Frame] rz (hn bE cP) tA (hn bE cP) ?_);refine yu 2 [z14,(26,bo (eI .i64) x_mem),(27,ii s3.2)] [z13,(0,none),z7,z12] 2 ?_;obtain⟨v6,hv6,hh⟩:=bind_some hh;refine ys (.call 117 [.t 26,.t 27]) (some 28) (aHm (r:=bo (eI .i64) v6) (v:=bo (eI .i64) v6) (Hr:=[]) (n':=2) (yN hv6) (xD (vs:=[bo (eI .i64) x_mem,ii s3.2]) kr (kA (aC (tV (bN cE))) (cz1 pM))) nrr kr ?_);let q2:Root:=(rI_3 (over v5.1 v5.2.1 v5.2.2 v6));refine ys (.cpy 1 (.t 25) (.t 28)) (some 29) (aJm (c:=(eI .i64)) (xs:=v5.1) (ys:=v6) (e:=3) (r:=0) (π:=[]) (o:=0+v5.2.1*1) (k:=v5.2.2) (i:=v5.2.1) (H':=[(0,some q2),z13,(0,none),z7,z12]) bK (rpv kr (aRm (c:=(eI .i64)) (xs:=v6) bK)) kr kr ltn ltn kr ?_);refine ye (sp 32 [z5,z10,(8,ii s3.2),(9,pp 1),z3,z4,z8,z11,(22,sw 0 s3.1),(23,pp 1),(24,ii z1.Frame),z14,(26,bo (eI .i64) x_mem),(27,ii s3.2),(28,bo (eI .i64) v6),(29,ii ((min v5.2.2 (List.length v6):Nat):Int))]) [(0,some q2),z13,(0,none),z7,z12] 2 (aJu ?_);obtain rfl:=cA hh;exact hN4 (over v5.1 v5.2.1 v5.2.2 v6) _ _ _ hk4 (el [some 0] (jQ kr (ro bE (rs (sw 0 s3.1) (ro hM (ri (ri uF)))))) (hn bE cP))
noncomputable def bHz:Sg tG:=⟨[.row 3,.row 83,.row 3],.one (.row 3),fT⟩
theorem bLr:Sok 103 bHz:=λx_words x_pages x_mem R_ hh=>kc (aFl (x_words:=x_words) (x_pages:=x_pages) (x_mem:=x_mem) hh)
noncomputable def aCe  (s1:Unit):Option Int:=some (-1:Int)
noncomputable def fN (x_guests:List DGuest)(s2:Int):Option (LO Int (JO Unit Int)):=
 cond (decide (s2<((List.length x_guests:Nat):Int)))
  (grd ((0:Int)<=s2/\s2<((List.length x_guests:Nat):Int)) (cond (!(List.getD x_guests (Int.toNat s2) default).Live)
   (some (.ret (.out s2)))
   (some (.next (w64 (s2+(1:Int)))))))
  (some (.ret (.go ())))
noncomputable def lG (x_guests:List DGuest):Option Int:=
 Option.bind (Option.bind (iter (fN x_guests) (0:Int)) LO.val) λj1=>
  JO.run j1 aCe
noncomputable def g43:Sg tG:=⟨[.row 80],.one (.i .i64),lG⟩
theorem s43:Sok 43 g43:=sgx [] trivial (.s .o (.j ⟨[],[],[]⟩ (.s .o (.k (.l ⟨[5,6],[],[(.s 7,.i .i64)]⟩ .o))) .o)) kr kr kr
noncomputable def eE (x_h:DHost)(x_g:Int)(x_b:DBare):Option (DHost×Bool):=
 Option.bind (iP x_h.Guests) λv1=>
 Option.bind (mQ x_b.Mem v1) λv2=>
 cond (!v2.2)
  (some ((DHost.mk ([]:List Int) ([]:List DGuest)),false))
  (Option.bind (iF x_b) λv3=>
  Option.bind (fT x_h.Words v2.1 x_b.Mem) λv4=>
  Option.bind (eK x_h.Guests x_g (DGuest.mk true v3.C v2.1 v3.In v3.Out)) λv5=>
  some ((DHost.mk v4 v5),true))
noncomputable def g66:Sg tG:=⟨[.st 26,.i .i64,.st 36],.two (.st 2026) .b,eE⟩
theorem s66:Sok 66 g66:=sgx [(59,.r g59),(102,.r bIi),(53,.r g53),(103,.r bHz),(65,.w g65)] ⟨s59,bKz,s53,bLr,s65,trivial⟩ .o kr kr kr
theorem aBn{x_h:DHost}{x_g:Int}{x_b:DBare}{R_:DHost×Bool}(hh:eE x_h x_g x_b=some R_):Fn Try.prog 66 [.agg (rB x_h),.int .i64 x_g,.agg (nI x_b)] (.tup [.agg [.own 3 1 (List.length R_.1.Words) (fl (eI .i64) R_.1.Words),.own 80 17 (List.length R_.1.Guests) (fl kI R_.1.Guests)],.bool R_.2]):=kc (s66 x_h x_g x_b R_ hh)
noncomputable def iC (x_h:DHost):Option DHost:=
 Option.bind (cL x_h.Words) λv1=>
 Option.bind (fL x_h.Guests) λv2=>
 some (DHost.mk v1 v2)
noncomputable def g44:Sg tG:=⟨[.st 26],.one (.st 2026),iC⟩
theorem s44:Sok 44 g44:=sgx [(87,.r g87),(88,.r g88)] ⟨s87,s88,trivial⟩ .o kr kr kr
noncomputable def aAb  (s2:List DSlot):Option (List DSlot):=some s2
noncomputable def eX (v1:List DSlot)(s3:(List DSlot)×Int):Option (LO ((List DSlot)×Int) (JO (List DSlot) (List DSlot))):=
 cond (decide (s3.2<((List.length v1:Nat):Int)))
  (grd ((0:Int)<=s3.2/\s3.2<((List.length s3.1:Nat):Int)) (some (.next ((List.set s3.1 (Int.toNat s3.2) (DSlot.mk (List.getD s3.1 (Int.toNat s3.2) default).Frame false (List.getD s3.1 (Int.toNat s3.2) default).Dirty)),w64 (s3.2+(1:Int))))))
  (some (.ret (.go s3.1)))
noncomputable def iG (x_pages:List DSlot):Option (List DSlot):=
 Option.bind (dM x_pages) λv1=>
 Option.bind (Option.bind (iter (eX v1) (v1,(0:Int))) LO.val) λj2=>
  JO.run j2 aAb
noncomputable def g45:Sg tG:=⟨[.row 83],.one (.row 83),iG⟩
theorem s45:Sok 45 g45:=sgx [(89,.r g89)] ⟨s89,trivial⟩ (.s .o (.s .o (.j ⟨[],[],[(.s 3,.ro 83)]⟩ (.s .o (.k (.l ⟨[8],[],[(.s 3,.ro 83),(.s 9,.i .i64)]⟩ .o))) .o))) kr kr kr
noncomputable def aEd  (s2:List DSlot):Option (List DSlot):=some s2
noncomputable def gN (v1:List DSlot)(s3:(List DSlot)×Int):Option (LO ((List DSlot)×Int) (JO (List DSlot) (List DSlot))):=
 cond (decide (s3.2<((List.length v1:Nat):Int)))
  (grd ((0:Int)<=s3.2/\s3.2<((List.length s3.1:Nat):Int)) (some (.next ((List.set s3.1 (Int.toNat s3.2) (DSlot.mk (List.getD s3.1 (Int.toNat s3.2) default).Frame (List.getD s3.1 (Int.toNat s3.2) default).Write false)),w64 (s3.2+(1:Int))))))
  (some (.ret (.go s3.1)))
noncomputable def mM (x_pages:List DSlot):Option (List DSlot):=
 Option.bind (dM x_pages) λv1=>
 Option.bind (Option.bind (iter (gN v1) (v1,(0:Int))) LO.val) λj2=>
  JO.run j2 aEd
noncomputable def g47:Sg tG:=⟨[.row 83],.one (.row 83),mM⟩
theorem s47:Sok 47 g47:=sgx [(89,.r g89)] ⟨s89,trivial⟩ (.s .o (.s .o (.j ⟨[],[],[(.s 3,.ro 83)]⟩ (.s .o (.k (.l ⟨[8],[],[(.s 3,.ro 83),(.s 9,.i .i64)]⟩ .o))) .o))) kr kr kr
noncomputable def lP (x_h:DHost)(x_g:Int):Option (DHost×Int×Bool):=
 Option.bind (eA x_h x_g) λv1=>
 cond (!v1)
  (some ((DHost.mk ([]:List Int) ([]:List DGuest)),(-1:Int),false))
  (Option.bind (lG x_h.Guests) λv2=>
  cond (decide (v2=(-1:Int)))
   (some ((DHost.mk ([]:List Int) ([]:List DGuest)),(-1:Int),false))
   (Option.bind (iC x_h) λv3=>
   grd ((0:Int)<=x_g/\x_g<((List.length x_h.Guests:Nat):Int)) (Option.bind (iG (List.getD x_h.Guests (Int.toNat x_g) default).Pages) λv4=>
    grd ((0:Int)<=x_g/\x_g<((List.length v3.Guests:Nat):Int)) (grd ((0:Int)<=x_g/\x_g<((List.length x_h.Guests:Nat):Int)) (Option.bind (dP (DGuest.mk (List.getD x_h.Guests (Int.toNat x_g) default).Live (DCore.mk ((List.getD x_h.Guests (Int.toNat x_g) default).C).Regs ((List.getD x_h.Guests (Int.toNat x_g) default).C).Pc ((List.getD x_h.Guests (Int.toNat x_g) default).C).Root ((List.getD x_h.Guests (Int.toNat x_g) default).C).Vector ((List.getD x_h.Guests (Int.toNat x_g) default).C).Saved ((List.getD x_h.Guests (Int.toNat x_g) default).C).SavedUser ((List.getD x_h.Guests (Int.toNat x_g) default).C).Cause ((List.getD x_h.Guests (Int.toNat x_g) default).C).Bad ((List.getD x_h.Guests (Int.toNat x_g) default).C).Timer ((List.getD x_h.Guests (Int.toNat x_g) default).C).Waits ((List.getD x_h.Guests (Int.toNat x_g) default).C).User ((List.getD x_h.Guests (Int.toNat x_g) default).C).On ((List.getD x_h.Guests (Int.toNat x_g) default).C).Stopped) (List.getD x_h.Guests (Int.toNat x_g) default).Pages (List.getD x_h.Guests (Int.toNat x_g) default).In (List.getD x_h.Guests (Int.toNat x_g) default).Out)) λv5=>
     grd ((0:Int)<=v2/\v2<((List.length v3.Guests:Nat):Int)) (grd ((0:Int)<=x_g/\x_g<((List.length x_h.Guests:Nat):Int)) (Option.bind (iG (List.getD x_h.Guests (Int.toNat x_g) default).Pages) λv6=>
      Option.bind (mM v6) λv7=>
      grd ((0:Int)<=v2/\v2<((List.length v3.Guests:Nat):Int)) (some ((DHost.mk v3.Words (let z0:=List.set v3.Guests (Int.toNat x_g) (DGuest.mk (List.getD v3.Guests (Int.toNat x_g) default).Live (DCore.mk ((List.getD v3.Guests (Int.toNat x_g) default).C).Regs ((List.getD v3.Guests (Int.toNat x_g) default).C).Pc ((List.getD v3.Guests (Int.toNat x_g) default).C).Root ((List.getD v3.Guests (Int.toNat x_g) default).C).Vector ((List.getD v3.Guests (Int.toNat x_g) default).C).Saved ((List.getD v3.Guests (Int.toNat x_g) default).C).SavedUser ((List.getD v3.Guests (Int.toNat x_g) default).C).Cause ((List.getD v3.Guests (Int.toNat x_g) default).C).Bad ((List.getD v3.Guests (Int.toNat x_g) default).C).Timer ((List.getD v3.Guests (Int.toNat x_g) default).C).Waits ((List.getD v3.Guests (Int.toNat x_g) default).C).User ((List.getD v3.Guests (Int.toNat x_g) default).C).On ((List.getD v3.Guests (Int.toNat x_g) default).C).Stopped) v4 (List.getD v3.Guests (Int.toNat x_g) default).In (List.getD v3.Guests (Int.toNat x_g) default).Out);List.set (List.set z0 (Int.toNat v2) v5) (Int.toNat v2) (DGuest.mk (List.getD (List.set z0 (Int.toNat v2) v5) (Int.toNat v2) default).Live (DCore.mk ((List.getD (List.set z0 (Int.toNat v2) v5) (Int.toNat v2) default).C).Regs ((List.getD (List.set z0 (Int.toNat v2) v5) (Int.toNat v2) default).C).Pc ((List.getD (List.set z0 (Int.toNat v2) v5) (Int.toNat v2) default).C).Root ((List.getD (List.set z0 (Int.toNat v2) v5) (Int.toNat v2) default).C).Vector ((List.getD (List.set z0 (Int.toNat v2) v5) (Int.toNat v2) default).C).Saved ((List.getD (List.set z0 (Int.toNat v2) v5) (Int.toNat v2) default).C).SavedUser ((List.getD (List.set z0 (Int.toNat v2) v5) (Int.toNat v2) default).C).Cause ((List.getD (List.set z0 (Int.toNat v2) v5) (Int.toNat v2) default).C).Bad ((List.getD (List.set z0 (Int.toNat v2) v5) (Int.toNat v2) default).C).Timer ((List.getD (List.set z0 (Int.toNat v2) v5) (Int.toNat v2) default).C).Waits ((List.getD (List.set z0 (Int.toNat v2) v5) (Int.toNat v2) default).C).User ((List.getD (List.set z0 (Int.toNat v2) v5) (Int.toNat v2) default).C).On ((List.getD (List.set z0 (Int.toNat v2) v5) (Int.toNat v2) default).C).Stopped) v7 (List.getD (List.set z0 (Int.toNat v2) v5) (Int.toNat v2) default).In (List.getD (List.set z0 (Int.toNat v2) v5) (Int.toNat v2) default).Out))),v2,true)))))))))
noncomputable def g10:Sg tG:=⟨[.st 26,.i .i64],.three (.st 2026) (.i .i64) .b,lP⟩
theorem s10:Sok 10 g10:=sgx [(42,.r g42),(43,.r g43),(44,.r g44),(45,.r g45),(46,.r g46),(47,.r g47)] ⟨s42,s43,s44,s45,s46,s47,trivial⟩ (.s .o (.s .o (.s .o (.s .o (.s .o (.s (.g [] [] [.fo (.c 8 1) 0]) (.s (.g [] [] [.fo (.c 8 1) 0]) (.s (.g [] [] [.fo (.c 8 1) 0]) .o)))))))) kr kr kr
noncomputable def rR (s2:Int)(v3:DHost)(s4:List DGuest)(v5:DGuest)(s6:List DSlot):Option (DHost×Int×Bool):=grd ((0:Int)<=s2/\s2<((List.length s4:Nat):Int)) (some ((DHost.mk v3.Words (List.set s4 (Int.toNat s2) (DGuest.mk v5.Live v5.C s6 v5.In v5.Out))),s2,true))
noncomputable def eC  (s7:(List DSlot)×Int):Option (LO ((List DSlot)×Int) (JO (List DSlot) (DHost×Int×Bool))):=
 cond (decide (s7.2<(8:Int)))
  (grd ((0:Int)<=s7.2/\s7.2<((List.length s7.1:Nat):Int)) (some (.next ((List.set s7.1 (Int.toNat s7.2) (DSlot.mk (List.getD s7.1 (Int.toNat s7.2) default).Frame (List.getD s7.1 (Int.toNat s7.2) default).Write false)),w64 (s7.2+(1:Int))))))
  (some (.ret (.go s7.1)))
noncomputable def rP (x_g:Int)(s2:Int)(v3:DHost)(s4:List DGuest):Option (DHost×Int×Bool):=
 grd ((0:Int)<=x_g/\x_g<((List.length s4:Nat):Int)) (Option.bind (fS (DGuest.mk (List.getD s4 (Int.toNat x_g) default).Live (DCore.mk ((List.getD s4 (Int.toNat x_g) default).C).Regs ((List.getD s4 (Int.toNat x_g) default).C).Pc ((List.getD s4 (Int.toNat x_g) default).C).Root ((List.getD s4 (Int.toNat x_g) default).C).Vector ((List.getD s4 (Int.toNat x_g) default).C).Saved ((List.getD s4 (Int.toNat x_g) default).C).SavedUser ((List.getD s4 (Int.toNat x_g) default).C).Cause ((List.getD s4 (Int.toNat x_g) default).C).Bad ((List.getD s4 (Int.toNat x_g) default).C).Timer ((List.getD s4 (Int.toNat x_g) default).C).Waits ((List.getD s4 (Int.toNat x_g) default).C).User ((List.getD s4 (Int.toNat x_g) default).C).On ((List.getD s4 (Int.toNat x_g) default).C).Stopped) (List.getD s4 (Int.toNat x_g) default).Pages (List.getD s4 (Int.toNat x_g) default).In (List.getD s4 (Int.toNat x_g) default).Out)) λv5=>
  Option.bind (Option.bind (iter eC (v5.Pages,(0:Int))) LO.val) λj6=>
   JO.run j6 (rR s2 v3 s4 v5))
noncomputable def fI (x_g:Int)(s8:(List DGuest)×Int):Option (LO ((List DGuest)×Int) (JO (List DGuest) (DHost×Int×Bool))):=
 cond (decide (s8.2<(8:Int)))
  (grd ((0:Int)<=x_g/\x_g<((List.length s8.1:Nat):Int)) (grd ((0:Int)<=s8.2/\s8.2<((List.length (List.getD s8.1 (Int.toNat x_g) default).Pages:Nat):Int)) (some (.next ((List.set s8.1 (Int.toNat x_g) (DGuest.mk (List.getD s8.1 (Int.toNat x_g) default).Live (DCore.mk ((List.getD s8.1 (Int.toNat x_g) default).C).Regs ((List.getD s8.1 (Int.toNat x_g) default).C).Pc ((List.getD s8.1 (Int.toNat x_g) default).C).Root ((List.getD s8.1 (Int.toNat x_g) default).C).Vector ((List.getD s8.1 (Int.toNat x_g) default).C).Saved ((List.getD s8.1 (Int.toNat x_g) default).C).SavedUser ((List.getD s8.1 (Int.toNat x_g) default).C).Cause ((List.getD s8.1 (Int.toNat x_g) default).C).Bad ((List.getD s8.1 (Int.toNat x_g) default).C).Timer ((List.getD s8.1 (Int.toNat x_g) default).C).Waits ((List.getD s8.1 (Int.toNat x_g) default).C).User ((List.getD s8.1 (Int.toNat x_g) default).C).On ((List.getD s8.1 (Int.toNat x_g) default).C).Stopped) (List.set (List.getD s8.1 (Int.toNat x_g) default).Pages (Int.toNat s8.2) (DSlot.mk (List.getD (List.getD s8.1 (Int.toNat x_g) default).Pages (Int.toNat s8.2) default).Frame false (List.getD (List.getD s8.1 (Int.toNat x_g) default).Pages (Int.toNat s8.2) default).Dirty)) (List.getD s8.1 (Int.toNat x_g) default).In (List.getD s8.1 (Int.toNat x_g) default).Out)),w64 (s8.2+(1:Int)))))))
  (some (.ret (.go s8.1)))
noncomputable def rT (x_h:DHost)(x_g:Int)(s2:Int):Option (DHost×Int×Bool):=
 cond (decide (s2<(0:Int)))
  (some ((DHost.mk ([]:List Int) ([]:List DGuest)),(-1:Int),false))
  (Option.bind (iA x_h) λv3=>
  Option.bind (Option.bind (iter (fI x_g) (v3.Guests,(0:Int))) LO.val) λj4=>
   JO.run j4 (rP x_g s2 v3))
noncomputable def rN (s9:Int×Int)(s10:Int):Option (LO (Int×Int) (JO Int (DHost×Int×Bool))):=some (.next (s10,w64 (s9.2-(1:Int))))
noncomputable def eD (x_h:DHost)(s9:Int×Int):Option (LO (Int×Int) (JO Int (DHost×Int×Bool))):=
 cond (decide ((0:Int)<=s9.2))
  (Option.bind (grd ((0:Int)<=s9.2/\s9.2<((List.length x_h.Guests:Nat):Int)) (cond (!(List.getD x_h.Guests (Int.toNat s9.2) default).Live)
   (some (.go s9.2))
   (some (.go s9.1)))) λj10=>
   JO.run j10 (rN s9))
  (some (.ret (.go s9.1)))
noncomputable def lH (x_h:DHost)(x_g:Int):Option (DHost×Int×Bool):=
 Option.bind (fE x_h x_g) λv1=>
 cond (!v1)
  (some ((DHost.mk ([]:List Int) ([]:List DGuest)),(-1:Int),false))
  (Option.bind (Option.bind (iter (eD x_h) ((-1:Int),(2:Int))) LO.val) λj2=>
   JO.run j2 (rT x_h x_g))
noncomputable def g11:Sg tG:=⟨[.st 26,.i .i64],.three (.st 2026) (.i .i64) .b,lH⟩
theorem s11:Sok 11 g11:=sgx [(48,.r g48),(49,.r g49),(50,.r g50)] ⟨s48,s49,s50,trivial⟩ (.s .o (.s .o (.s .o (.j ⟨[1,2,4],[],[(.s 7,.i .i64)]⟩ (.s .o (.k (.l ⟨[1,2,4],[],[(.s 7,.i .i64),(.s 8,.i .i64)]⟩ (.s .o (.j ⟨[1,2,4,8],[],[(.s 7,.i .i64)]⟩ .o .o))))) (.s .o (.s .o (.j ⟨[1,4,7,9],[],[(.c 9 1,.ro 1080)]⟩ (.s .o (.k (.l ⟨[1,4,7,9],[],[(.c 9 1,.ro 1080),(.s 10,.i .i64)]⟩ .o))) (.s .o (.j ⟨[4,7,9,11],[],[(.c 11 14,.ro 83)]⟩ (.s .o (.k (.l ⟨[4,7,9,11],[],[(.c 11 14,.ro 83),(.s 12,.i .i64)]⟩ .o))) (.s (.g [] [] [.fo (.c 9 1) 0]) .o)))))))))) kr kr kr
theorem aHj:LW 39 ⟨11,[.tmp 2],.seq (.reg false (rg 39 0)) (.seq (.seq (.reg false (rg 39 1)) (.cond (.t 5) (.reg false (rg 39 2)) .skip)) (.seq (.reg false (rg 39 3)) .ret))⟩:=kr
noncomputable def oX  (s1:List Int):Option Dl20Rd:=some (Dl20Rd.mk s1 (0:Int))
noncomputable def eQ (x_code:List Int):Option Dl20Rd:=
 Option.bind (cond (decide ((2000:Int)<((List.length x_code:Nat):Int)))
  (grd ((0:Int)<=(0:Int)/\(0:Int)<=(2000:Int)/\(2000:Int)<=((List.length x_code:Nat):Int)) (some (.go (List.take (Int.toNat (2000:Int)-Int.toNat (0:Int)) (List.drop (Int.toNat (0:Int)) x_code)))))
  (some (.go x_code))) λj1=>
  JO.run j1 oX
theorem aJk{x_code:List Int}{R_:Dl20Rd}(hh:eQ x_code=some R_):Inl Try.prog 39 [bo (eI .u8) x_code] [] 0 (pp 0) [(0,some ⟨107,[bo (eI .u8) R_.b,.int .i64 R_.p]⟩)] 1:=by let z3:=(0,bo (eI .u8) x_code);let z4:=(5,bb (decide ((2000:Int)<((List.length x_code:Nat):Int))));let z1:=List.drop (Int.toNat (0:Int)) x_code;let z2:=List.take (Int.toNat (2000:Int)-Int.toNat (0:Int)) z1;unfold eQ at hh;refine Inl.start aHj [0] [] (E:=sp 11 [z3]) (H1:=[]) kr kr (sy [0] [] (sp 11 [z3]) [] 0 ?_);obtain⟨j1,hh,hk1⟩:=bind_some hh;refine Aw.join (S:=(List Int)) (λs1=>sp 11 [(0,bo (eI .u8) s1)]) (λs1=>[]) 0 (λs1=>oX s1=some R_) ?_ ?_;{intro s1 hh;unfold oX at hh;refine Aw.sreg [2] [0] ?_;let q1:Root:=⟨107,[bo (eI .u8) s1,ii 0]⟩;refine yt (sp 11 [(2,pp 0)]) [(0,some q1)] 1 (Aw.ret ?_);rw[cA hh];exact sK (r':=pp 0) kr (el [some 0] (nT (aFa dd rfl)) (hq q1 rz cP))};intro Q1 hN1 hR1 hE1;refine sy [0,5] [] (sp 11 [z3,z4]) [] 0 ?_;rcases yL hh with⟨hb,hh⟩|⟨hb,hh⟩;{refine cF hb (Aw.skip ?_);obtain rfl:=cA hh;exact hN1 x_code _ _ _ hk1 (el [] (jQ kr (ro bE uF)) cP)};refine cT hb (Aw.oreg (yu 1 [(6,bo (eI .u8) x_code)] [] 0 ?_));obtain⟨hg6,hh⟩:=bJ hh;refine ys (.slc 1 (.t 6) none (some (.c (ii 2000)))) (some 7) (bAq (c:=(eI .u8)) (xs:=x_code) (l:=(0:Int)) (h:=(2000:Int)) bK kr kr kr hg6 ?_);refine ye (sp 11 [(0,bo (eI .u8) z2),z4,(6,bo (eI .u8) x_code),(7,bo (eI .u8) z2)]) [] 0 ?_;obtain rfl:=cA hh;exact hN1 z2 _ _ _ hk1 (el [] (jQ kr (ro bE uF)) cP)
noncomputable def g39:So tG:=⟨[.row 5],107,eQ⟩
theorem s39:Sop 39 g39:=λx_code R_ hh=>kc (aJk (x_code:=x_code) hh)
noncomputable def aA (x_r:Dl20Rd)(x_n:Int):Option (Dl20Rd×Int):=
 cond (decide (x_n<(1:Int)))
  (some ((Dl20Rd.mk x_r.b (w64 (x_r.p+(1:Int)))),(0:Int)))
  (cond (decide (((List.length x_r.b:Nat):Int)=(0:Int)))
   (some ((Dl20Rd.mk x_r.b (w64 (x_r.p+(1:Int)))),(0:Int)))
   (cond (decide ((w64 ((w64 (x_r.p+(1:Int)))-(1:Int)))<((List.length x_r.b:Nat):Int)))
    (grd ((0:Int)<=(w64 ((w64 (x_r.p+(1:Int)))-(1:Int)))/\(w64 ((w64 (x_r.p+(1:Int)))-(1:Int)))<((List.length x_r.b:Nat):Int)) (grd (x_n≠0) (some ((Dl20Rd.mk x_r.b (w64 (x_r.p+(1:Int)))),Int.tmod (IntKind.wrap .i64 (List.getD x_r.b (Int.toNat (w64 ((w64 (x_r.p+(1:Int)))-(1:Int)))) default)) x_n))))
    (grd (((List.length x_r.b:Nat):Int)≠0) (grd ((0:Int)<=(Int.tmod (w64 ((w64 (x_r.p+(1:Int)))-(1:Int))) ((List.length x_r.b:Nat):Int))/\(Int.tmod (w64 ((w64 (x_r.p+(1:Int)))-(1:Int))) ((List.length x_r.b:Nat):Int))<((List.length x_r.b:Nat):Int)) (grd (((List.length x_r.b:Nat):Int)≠0) (grd ((0:Int)<=(Int.tmod (w64 ((w64 ((w64 ((w64 (x_r.p+(1:Int)))-(1:Int)))*(7:Int)))+(3:Int))) ((List.length x_r.b:Nat):Int))/\(Int.tmod (w64 ((w64 ((w64 ((w64 (x_r.p+(1:Int)))-(1:Int)))*(7:Int)))+(3:Int))) ((List.length x_r.b:Nat):Int))<((List.length x_r.b:Nat):Int)) (grd (((List.length x_r.b:Nat):Int)≠0) (grd (x_n≠0) (some ((Dl20Rd.mk x_r.b (w64 (x_r.p+(1:Int)))),Int.tmod (bits .xor .i64 (w64 ((w64 ((w64 ((w64 ((IntKind.wrap .i64 (List.getD x_r.b (Int.toNat (Int.tmod (w64 ((w64 (x_r.p+(1:Int)))-(1:Int))) ((List.length x_r.b:Nat):Int))) default))*(131:Int)))+(w64 ((IntKind.wrap .i64 (List.getD x_r.b (Int.toNat (Int.tmod (w64 ((w64 ((w64 ((w64 (x_r.p+(1:Int)))-(1:Int)))*(7:Int)))+(3:Int))) ((List.length x_r.b:Nat):Int))) default))*(1117:Int)))))+(w64 ((w64 ((w64 (x_r.p+(1:Int)))-(1:Int)))*(29:Int)))))+(w64 ((w64 (Int.tdiv (w64 ((w64 (x_r.p+(1:Int)))-(1:Int))) ((List.length x_r.b:Nat):Int)))*(53:Int))))) (w64 (Int.tdiv (w64 ((w64 ((w64 ((w64 ((IntKind.wrap .i64 (List.getD x_r.b (Int.toNat (Int.tmod (w64 ((w64 (x_r.p+(1:Int)))-(1:Int))) ((List.length x_r.b:Nat):Int))) default))*(131:Int)))+(w64 ((IntKind.wrap .i64 (List.getD x_r.b (Int.toNat (Int.tmod (w64 ((w64 ((w64 ((w64 (x_r.p+(1:Int)))-(1:Int)))*(7:Int)))+(3:Int))) ((List.length x_r.b:Nat):Int))) default))*(1117:Int)))))+(w64 ((w64 ((w64 (x_r.p+(1:Int)))-(1:Int)))*(29:Int)))))+(w64 ((w64 (Int.tdiv (w64 ((w64 (x_r.p+(1:Int)))-(1:Int))) ((List.length x_r.b:Nat):Int)))*(53:Int))))) (64:Int)))) x_n))))))))))
noncomputable def g62:Sw tG:=⟨[.pt 107,.v (.i .i64)],.one (.i .i64),aA⟩
theorem s62:Sjk 62 g62:=sgy [] trivial .o kr kr kr
noncomputable def cO (x_r:Dl20Rd):Option (Dl20Rd×Int):=
 Option.bind (aA x_r (16:Int)) λv1=>
 Option.bind (aA v1.1 (256:Int)) λv2=>
 some (v2.1,w64 ((w64 (v1.2*(256:Int)))+v2.2))
noncomputable def g96:Sw tG:=⟨[.pt 107],.one (.i .i64),cO⟩
theorem s96:Sjk 96 g96:=sgy [(62,.w g62)] ⟨s62,trivial⟩ .o kr kr kr
noncomputable def bY (x_r:Dl20Rd)(x_n:Int):Option (Dl20Rd×Bool):=
 cond (decide ((0:Int)<x_n))
  (Option.bind (aA x_r x_n) λv1=>
  some (v1.1,decide (v1.2=(w64 (x_n-(1:Int))))))
  (some (x_r,false))
noncomputable def g97:Sw tG:=⟨[.pt 107,.v (.i .i64)],.one .b,bY⟩
theorem s97:Sjk 97 g97:=sgy [(62,.w g62)] ⟨s62,trivial⟩ .o kr kr kr
noncomputable def aCf  (s4:Int):Option Int:=some s4
noncomputable def aBy (x_e:DEntry)(s3:Int):Option Int:=
 Option.bind (cond x_e.User
  (some (.go (w64 (s3+(4:Int)))))
  (some (.go s3))) λj4=>
  JO.run j4 aCf
noncomputable def aCb (x_e:DEntry)(s2:Int):Option Int:=
 Option.bind (cond x_e.Write
  (some (.go (w64 (s2+(2:Int)))))
  (some (.go s2))) λj3=>
  JO.run j3 (aBy x_e)
noncomputable def cZ (x_e:DEntry):Option Int:=
 Option.bind (bX x_e.Page (0:Int) (7:Int)) λv1=>
 cond (!v1)
  (some (-1:Int))
  (Option.bind (cond x_e.There
   (some (.go (w64 ((w64 (x_e.Page*(8:Int)))+(1:Int)))))
   (some (.go (w64 (x_e.Page*(8:Int)))))) λj2=>
   JO.run j2 (aCb x_e))
noncomputable def bDy:Sg tG:=⟨[.st 134],.one (.i .i64),cZ⟩
theorem bHr:Sok 120 bDy:=sgx [(73,.r g73)] ⟨s73,trivial⟩ (.s .o (.s .o (.s .o (.j ⟨[1],[],[(.s 3,.i .i64)]⟩ .o (.j ⟨[1],[],[(.s 3,.i .i64)]⟩ .o (.j ⟨[],[],[(.s 3,.i .i64)]⟩ .o .o)))))) kr kr kr
noncomputable def aHk  (s2:(List Int)×Int×(List Int)):Option (Dl20Rd×(List Int)):=some ((Dl20Rd.mk s2.1 s2.2.1),s2.2.2)
noncomputable def wF (x_n:Int)(s1:(List Int)×Int×(List Int)):Option (Dl20Rd×(List Int)):=
 Option.bind (Option.bind (bY (Dl20Rd.mk s1.1 s1.2.1) x_n) λv3=>
  cond v3.2
   (Option.bind (aA v3.1 (2:Int)) λv4=>
   cond (decide (v4.2=(0:Int)))
    (grd ((0:Int)<=(0:Int)/\(0:Int)<=(63:Int)/\(63:Int)<=((List.length s1.2.2:Nat):Int)) (some (.go (v4.1.b,v4.1.p,List.take (Int.toNat (63:Int)-Int.toNat (0:Int)) s1.2.2))))
    (Option.bind (aA v4.1 (64:Int)) λv5=>
    Option.bind (aA v5.1 (2:Int)) λv6=>
    grd ((0:Int)<=v5.2/\v5.2<((List.length s1.2.2:Nat):Int)) (some (.go (v6.1.b,v6.1.p,List.set s1.2.2 (Int.toNat v5.2) (w64 ((4096:Int)-(w64 (v6.2*(4097:Int))))))))))
   (some (.go (v3.1.b,v3.1.p,s1.2.2)))) λj2=>
  JO.run j2 aHk
noncomputable def wK (s7:(List Int)×Int×(List Int)×Int)(s9:(List Int)×Int×Int):Option (LO ((List Int)×Int×(List Int)×Int) (JO ((List Int)×Int×(List Int)) (Dl20Rd×(List Int)))):=grd ((List.length s7.2.2.1+List.length ([s9.2.2]:List Int))*8<=2^47/\List.length s7.2.2.1+List.length ([s9.2.2]:List Int)<=2^47) (some (.next (s9.1,s9.2.1,s7.2.2.1++([s9.2.2]:List Int),w64 (s7.2.2.2+(1:Int)))))
noncomputable def wT (s7:(List Int)×Int×(List Int)×Int)(s8:(List Int)×Int×Int):Option (LO ((List Int)×Int×(List Int)×Int) (JO ((List Int)×Int×(List Int)) (Dl20Rd×(List Int)))):=
 Option.bind (cond (decide ((w64 (Int.tdiv s7.2.2.2 (8:Int)))=(1:Int)))
  (Option.bind (aA (Dl20Rd.mk s8.1 s8.2.1) (5:Int)) λv10=>
  Option.bind (aA v10.1 (4:Int)) λv11=>
  Option.bind (aA v11.1 (3:Int)) λv12=>
  Option.bind (aA v12.1 (8:Int)) λv13=>
  Option.bind (cZ (DEntry.mk (decide ((0:Int)<v10.2)) (decide ((0:Int)<v11.2)) (decide ((0:Int)<v12.2)) v13.2)) λv14=>
  some (.go (v13.1.b,v13.1.p,v14)))
  (cond (decide ((w64 (Int.tdiv s7.2.2.2 (8:Int)))=(2:Int)))
   (Option.bind (aA (Dl20Rd.mk s8.1 s8.2.1) (5:Int)) λv15=>
   Option.bind (aA v15.1 (4:Int)) λv16=>
   Option.bind (aA v16.1 (3:Int)) λv17=>
   Option.bind (aA v17.1 (8:Int)) λv18=>
   Option.bind (cZ (DEntry.mk (decide ((0:Int)<v15.2)) (decide ((0:Int)<v16.2)) (decide ((0:Int)<v17.2)) v18.2)) λv19=>
   some (.go (v18.1.b,v18.1.p,v19)))
   (some (.go (s8.1,s8.2.1,s8.2.2))))) λj9=>
  JO.run j9 (wK s7)
noncomputable def pR  (s7:(List Int)×Int×(List Int)×Int):Option (LO ((List Int)×Int×(List Int)×Int) (JO ((List Int)×Int×(List Int)) (Dl20Rd×(List Int)))):=
 cond (decide (s7.2.2.2<(64:Int)))
  (Option.bind (Option.bind (aA (Dl20Rd.mk s7.1 s7.2.1) (2:Int)) λv20=>
   cond (decide (v20.2=(0:Int)))
    (Option.bind (cO v20.1) λv21=>
    some (.go (v21.1.b,v21.1.p,v21.2)))
    (some (.go (v20.1.b,v20.1.p,(0:Int))))) λj8=>
   JO.run j8 (wT s7))
  (some (.ret (.go (s7.1,s7.2.1,s7.2.2.1))))
noncomputable def mA (x_r:Dl20Rd)(x_n:Int):Option (Dl20Rd×(List Int)):=
 Option.bind (Option.bind (iter pR (x_r.b,x_r.p,([]:List Int),(0:Int))) LO.val) λj1=>
  JO.run j1 (wF x_n)
noncomputable def g98:Sw tG:=⟨[.pt 107,.v (.i .i64)],.one (.row 3),mA⟩
theorem s98:Sjk 98 g98:=sgy [(62,.w g62),(96,.w g96),(120,.r bDy),(97,.w g97)] ⟨s62,s96,bHr,s97,trivial⟩ (.s .o (.s .o (.j ⟨[0,1],[],[(.c 0 0,.rb 5),(.c 0 1,.i .i64),(.s 5,.ro 3)]⟩ (.s .o (.k (.l ⟨[0,1],[],[(.c 0 0,.rb 5),(.c 0 1,.i .i64),(.s 5,.ro 3),(.s 6,.i .i64)]⟩ (.s .o (.s (.k (.s .o (.j ⟨[0,1,5,6],[],[(.c 0 0,.rb 5),(.c 0 1,.i .i64),(.s 7,.i .i64)]⟩ .o (.j ⟨[0,1,5,6],[],[(.c 0 0,.rb 5),(.c 0 1,.i .i64),(.s 7,.i .i64)]⟩ .o .o)))) .o))))) (.j ⟨[],[0],[(.d 0 0,.rb 5),(.d 0 1,.i .i64),(.s 5,.ro 3)]⟩ .o .o)))) kr kr kr
noncomputable def eV:Option Bool:=
 Option.bind (hU (5:Int)) λv1=>
 cond v1
  (Option.bind (hU (-1:Int)) λv2=>
  some (!v2))
  (some false)
noncomputable def g13:Sg tG:=⟨[],.one .b,eV⟩
theorem s13:Sok 13 g13:=sgx [(52,.r g52)] ⟨s52,trivial⟩ .o kr kr kr
noncomputable def qU (x_i:DIns):Option Bool:=
 Option.bind (bX x_i.Op (0:Int) (15:Int)) λv1=>
 cond v1
  (Option.bind (bX x_i.A (0:Int) (3:Int)) λv2=>
  cond v2
   (Option.bind (bX x_i.N (0:Int) (63:Int)) λv3=>
   some v3)
   (some false))
  (some false)
noncomputable def bIh:Sg tG:=⟨[.st 136],.one .b,qU⟩
theorem bLo:Sok 132 bIh:=sgx [(73,.r g73)] ⟨s73,trivial⟩ .o kr kr kr
noncomputable def aCv (v3:Dl20Rd×Int)(v4:Dl20Rd×Int)(v5:Dl20Rd×Int)(v6:Dl20Rd×Int)(v7:Dl20Rd×Int)(v8:Dl20Rd×Int)(v9:Dl20Rd×Int)(v10:Dl20Rd×Int)(v11:Dl20Rd×Int)(v12:Dl20Rd×Int)(v13:Dl20Rd×Int)(s15:(List Int)×Int×(List Int)×Int×Int):Option (Dl20Rd×DCore):=some ((Dl20Rd.mk s15.1 s15.2.1),DCore.mk s15.2.2.1 s15.2.2.2.1 s15.2.2.2.2 (w64 ((24:Int)+v3.2)) v4.2 (decide (v9.2=(0:Int))) v5.2 v6.2 (w64 (v7.2*v8.2)) (decide (v10.2=(0:Int))) (decide (v11.2=(0:Int))) (decide (v12.2=(0:Int))) (decide (v13.2=(0:Int))))
noncomputable def uD (x_n:Int)(v1:Dl20Rd×Int)(v2:Dl20Rd×Int)(v3:Dl20Rd×Int)(v4:Dl20Rd×Int)(v5:Dl20Rd×Int)(v6:Dl20Rd×Int)(v7:Dl20Rd×Int)(v8:Dl20Rd×Int)(v9:Dl20Rd×Int)(v10:Dl20Rd×Int)(v11:Dl20Rd×Int)(v12:Dl20Rd×Int)(v13:Dl20Rd×Int)(s14:(List Int)×Int×(List Int)):Option (Dl20Rd×DCore):=
 Option.bind (Option.bind (bY (Dl20Rd.mk s14.1 s14.2.1) x_n) λv16=>
  cond v16.2
   (Option.bind (aA v16.1 (4:Int)) λv17=>
   cond (decide (v17.2=(0:Int)))
    (grd ((0:Int)<=(0:Int)/\(0:Int)<=(3:Int)/\(3:Int)<=((List.length s14.2.2:Nat):Int)) (some (.go (v17.1.b,v17.1.p,List.take (Int.toNat (3:Int)-Int.toNat (0:Int)) s14.2.2,v1.2,List.getD ([(-1:Int),(1:Int),(2:Int)]:List Int) (Int.toNat v2.2) default))))
    (cond (decide (v17.2=(1:Int)))
     (Option.bind (aA v17.1 (2:Int)) λv18=>
     some (.go (v18.1.b,v18.1.p,s14.2.2,w64 ((64:Int)-(w64 (v18.2*(65:Int)))),List.getD ([(-1:Int),(1:Int),(2:Int)]:List Int) (Int.toNat v2.2) default)))
     (cond (decide (v17.2=(2:Int)))
      (Option.bind (aA v17.1 (2:Int)) λv19=>
      some (.go (v19.1.b,v19.1.p,s14.2.2,v1.2,w64 ((8:Int)-(w64 (v19.2*(10:Int)))))))
      (Option.bind (aA v17.1 (4:Int)) λv20=>
      grd ((0:Int)<=v20.2/\v20.2<((List.length s14.2.2:Nat):Int)) (some (.go (v20.1.b,v20.1.p,List.set s14.2.2 (Int.toNat v20.2) (-1:Int),v1.2,List.getD ([(-1:Int),(1:Int),(2:Int)]:List Int) (Int.toNat v2.2) default)))))))
   (some (.go (v16.1.b,v16.1.p,s14.2.2,v1.2,List.getD ([(-1:Int),(1:Int),(2:Int)]:List Int) (Int.toNat v2.2) default)))) λj15=>
  JO.run j15 (aCv v3 v4 v5 v6 v7 v8 v9 v10 v11 v12 v13)
noncomputable def nO  (s21:(List Int)×Int×(List Int)×Int):Option (LO ((List Int)×Int×(List Int)×Int) (JO ((List Int)×Int×(List Int)) (Dl20Rd×DCore))):=
 cond (decide (s21.2.2.2<(4:Int)))
  (Option.bind (aA (Dl20Rd.mk s21.1 s21.2.1) (64:Int)) λv22=>
  Option.bind (aA v22.1 (16:Int)) λv23=>
  Option.bind (cO v23.1) λv24=>
  Option.bind (aA v24.1 (3:Int)) λv25=>
  grd ((0:Int)<=v25.2/\v25.2<((List.length ([v22.2,v23.2,v24.2]:List Int):Nat):Int)) (grd ((List.length s21.2.2.1+List.length ([List.getD ([v22.2,v23.2,v24.2]:List Int) (Int.toNat v25.2) default]:List Int))*8<=2^47/\List.length s21.2.2.1+List.length ([List.getD ([v22.2,v23.2,v24.2]:List Int) (Int.toNat v25.2) default]:List Int)<=2^47) (some (.next (v25.1.b,v25.1.p,s21.2.2.1++([List.getD ([v22.2,v23.2,v24.2]:List Int) (Int.toNat v25.2) default]:List Int),w64 (s21.2.2.2+(1:Int)))))))
  (some (.ret (.go (s21.1,s21.2.1,s21.2.2.1))))
noncomputable def kT (x_r:Dl20Rd)(x_n:Int):Option (Dl20Rd×DCore):=
 Option.bind (aA x_r (64:Int)) λv1=>
 Option.bind (aA v1.1 (3:Int)) λv2=>
 grd ((0:Int)<=v2.2/\v2.2<((List.length ([(-1:Int),(1:Int),(2:Int)]:List Int):Nat):Int)) (Option.bind (aA v2.1 (4:Int)) λv3=>
  Option.bind (aA v3.1 (64:Int)) λv4=>
  Option.bind (aA v4.1 (5:Int)) λv5=>
  Option.bind (aA v5.1 (64:Int)) λv6=>
  Option.bind (aA v6.1 (4:Int)) λv7=>
  Option.bind (aA v7.1 (6:Int)) λv8=>
  Option.bind (aA v8.1 (2:Int)) λv9=>
  Option.bind (aA v9.1 (6:Int)) λv10=>
  Option.bind (aA v10.1 (3:Int)) λv11=>
  Option.bind (aA v11.1 (2:Int)) λv12=>
  Option.bind (aA v12.1 (25:Int)) λv13=>
  Option.bind (Option.bind (iter nO (v13.1.b,v13.1.p,([]:List Int),(0:Int))) LO.val) λj14=>
   JO.run j14 (uD x_n v1 v2 v3 v4 v5 v6 v7 v8 v9 v10 v11 v12 v13))
noncomputable def g94:Sw tG:=⟨[.pt 107,.v (.i .i64)],.one (.st 34),kT⟩
theorem s94:Sjk 94 g94:=sgy [(62,.w g62),(96,.w g96),(97,.w g97)] ⟨s62,s96,s97,trivial⟩ (.s .o (.s (.m [0]) (.s .o (.s .o (.s .o (.s .o (.s .o (.j ⟨[0,1,4,5],[],[(.c 0 0,.rb 5),(.c 0 1,.i .i64),(.c 5 0,.ro 3)]⟩ (.s .o (.k (.l ⟨[0,1,4,5],[],[(.c 0 0,.rb 5),(.c 0 1,.i .i64),(.c 5 0,.ro 3),(.s 6,.i .i64)]⟩ (.s .o (.s (.k (.m [0])) .o))))) (.j ⟨[4,5],[0],[(.d 0 0,.rb 5),(.d 0 1,.i .i64),(.c 5 0,.ro 3),(.c 5 1,.i .i64),(.c 5 2,.i .i64)]⟩ (.s .o (.c (.s .o (.k (.s .o (.c .o (.s .o (.c .o (.s .o (.c .o (.m [0]))))))))) .o)) .o))))))))) kr kr kr
noncomputable def aHc  (s4:Int×(List Int)×Int×Int×Int):Option (Dl20Rd×DIns):=some ((Dl20Rd.mk s4.2.1 s4.2.2.1),DIns.mk s4.1 s4.2.2.2.1 s4.2.2.2.2)
noncomputable def pI (x_r:Dl20Rd)(x_n:Int):Option (Dl20Rd×DIns):=
 Option.bind (aA x_r (16:Int)) λv1=>
 Option.bind (aA v1.1 (4:Int)) λv2=>
 Option.bind (aA v2.1 (64:Int)) λv3=>
 Option.bind (Option.bind (bY v3.1 x_n) λv5=>
  cond v5.2
   (Option.bind (aA v5.1 (3:Int)) λv6=>
   cond (decide (v6.2=(0:Int)))
    (Option.bind (aA v6.1 (2:Int)) λv7=>
    some (.go ((w64 ((16:Int)-(w64 (v7.2*(17:Int))))),v7.1.b,v7.1.p,v2.2,v3.2)))
    (cond (decide (v6.2=(1:Int)))
     (some (.go (v1.2,v6.1.b,v6.1.p,(4:Int),v3.2)))
     (Option.bind (aA v6.1 (2:Int)) λv8=>
     some (.go (v1.2,v8.1.b,v8.1.p,v2.2,w64 ((64:Int)-(w64 (v8.2*(65:Int)))))))))
   (some (.go (v1.2,v5.1.b,v5.1.p,v2.2,v3.2)))) λj4=>
  JO.run j4 aHc
noncomputable def bIe:Sw tG:=⟨[.pt 107,.v (.i .i64)],.one (.st 136),pI⟩
theorem bKx:Sjk 121 bIe:=sgy [(62,.w g62),(97,.w g97)] ⟨s62,s97,trivial⟩ (.s .o (.s .o (.j ⟨[4,5],[0],[(.c 5 0,.i .i64),(.d 0 0,.rb 5),(.d 0 1,.i .i64),(.c 5 1,.i .i64),(.c 5 2,.i .i64)]⟩ .o .o))) kr kr kr
noncomputable def nX (x_i:DIns):Option Int:=
 Option.bind (qU x_i) λv1=>
 cond (!v1)
  (some (-1:Int))
  (some (w64 ((w64 ((w64 (x_i.Op*(256:Int)))+(w64 (x_i.A*(64:Int)))))+x_i.N)))
noncomputable def bJg:Sg tG:=⟨[.st 136],.one (.i .i64),nX⟩
theorem bLg:Sok 122 bJg:=sgx [(132,.r bIh)] ⟨bLo,trivial⟩ .o kr kr kr
noncomputable def uS  (s2:(List Int)×(List Int)×Int):Option (Dl20Rd×(List Int)):=some ((Dl20Rd.mk s2.2.1 s2.2.2),s2.1)
noncomputable def uP (s3:(List Int)×Int×(List Int)×Int)(s4:(List Int)×Int×(List Int)):Option (LO ((List Int)×Int×(List Int)×Int) (JO ((List Int)×(List Int)×Int) (Dl20Rd×(List Int)))):=some (.next (s4.1,s4.2.1,s4.2.2,w64 (s3.2.2.2+(1:Int))))
noncomputable def tT (s3:(List Int)×Int×(List Int)×Int)(v11:Dl20Rd×DIns)(s13:(List Int)×Int×Int):Option (JO ((List Int)×Int×(List Int)) (LO ((List Int)×Int×(List Int)×Int) (JO ((List Int)×(List Int)×Int) (Dl20Rd×(List Int))))):=
 Option.bind (nX (DIns.mk s13.2.2 v11.2.A v11.2.N)) λv14=>
 grd ((0:Int)<=s3.2.2.2/\s3.2.2.2<((List.length s3.2.2.1:Nat):Int)) (some (.go (s13.1,s13.2.1,List.set s3.2.2.1 (Int.toNat s3.2.2.2) v14)))
noncomputable def tE (s3:(List Int)×Int×(List Int)×Int)(v11:Dl20Rd×DIns)(s12:(List Int)×Int×Int):Option (JO ((List Int)×Int×(List Int)) (LO ((List Int)×Int×(List Int)×Int) (JO ((List Int)×(List Int)×Int) (Dl20Rd×(List Int))))):=
 Option.bind (cond (decide (s12.2.2=(0:Int)))
  (Option.bind (aA (Dl20Rd.mk s12.1 s12.2.1) (4:Int)) λv15=>
  cond (decide ((0:Int)<v15.2))
   (some (.go (v15.1.b,v15.1.p,(1:Int))))
   (some (.go (v15.1.b,v15.1.p,s12.2.2))))
  (some (.go (s12.1,s12.2.1,s12.2.2)))) λj13=>
  JO.run j13 (tT s3 v11)
noncomputable def uX (s3:(List Int)×Int×(List Int)×Int)(s5:Bool):Option (JO ((List Int)×Int×(List Int)) (LO ((List Int)×Int×(List Int)×Int) (JO ((List Int)×(List Int)×Int) (Dl20Rd×(List Int))))):=
 cond s5
  (Option.bind (aA (Dl20Rd.mk s3.1 s3.2.1) (3:Int)) λv6=>
  cond (decide ((0:Int)<v6.2))
   (Option.bind (aA v6.1 (8:Int)) λv7=>
   Option.bind (aA v7.1 (4:Int)) λv8=>
   Option.bind (aA v8.1 (3:Int)) λv9=>
   Option.bind (cZ (DEntry.mk (decide ((0:Int)<v7.2)) (decide ((0:Int)<v8.2)) (decide ((0:Int)<v9.2)) (Int.tmod s3.2.2.2 (8:Int)))) λv10=>
   grd ((0:Int)<=s3.2.2.2/\s3.2.2.2<((List.length s3.2.2.1:Nat):Int)) (some (.go (v9.1.b,v9.1.p,List.set s3.2.2.1 (Int.toNat s3.2.2.2) v10))))
   (some (.go (v6.1.b,v6.1.p,s3.2.2.1))))
  (Option.bind (pI (Dl20Rd.mk s3.1 s3.2.1) (0:Int)) λv11=>
  Option.bind (Option.bind (aA v11.1 (2:Int)) λv16=>
   cond (decide (v16.2=(0:Int)))
    (Option.bind (aA v16.1 (10:Int)) λv17=>
    grd ((0:Int)<=v17.2/\v17.2<((10:Nat):Int)) (some (.go (v17.1.b,v17.1.p,List.getD ([(1:Int),(2:Int),(3:Int),(4:Int),(3:Int),(4:Int),(6:Int),(7:Int),(11:Int),(15:Int)]:List Int) (Int.toNat v17.2) default))))
    (some (.go (v16.1.b,v16.1.p,v11.2.Op)))) λj12=>
   JO.run j12 (tE s3 v11))
noncomputable def oV  (s3:(List Int)×Int×(List Int)×Int):Option (LO ((List Int)×Int×(List Int)×Int) (JO ((List Int)×(List Int)×Int) (Dl20Rd×(List Int)))):=
 cond (decide (s3.2.2.2<((List.length s3.2.2.1:Nat):Int)))
  (Option.bind (Option.bind (cond (decide ((w64 (Int.tdiv s3.2.2.2 (8:Int)))=(1:Int)))
   (some (.go (decide ((w64 (Int.tdiv s3.2.2.2 (8:Int)))=(1:Int)))))
   (some (.go (decide ((w64 (Int.tdiv s3.2.2.2 (8:Int)))=(2:Int)))))) λj5=>
   JO.run j5 (uX s3)) λj4=>
   JO.run j4 (uP s3))
  (some (.ret (.go (s3.2.2.1,s3.1,s3.2.1))))
noncomputable def oN (x_r:Dl20Rd):Option (Dl20Rd×(List Int)):=
 Option.bind (mA x_r (0:Int)) λv1=>
 Option.bind (Option.bind (iter oV (v1.1.b,v1.1.p,v1.2,(0:Int))) LO.val) λj2=>
  JO.run j2 uS
noncomputable def g95:Sw tG:=⟨[.pt 107],.one (.row 3),oN⟩
theorem s95:Sjk 95 g95:=sgy [(98,.w g98),(62,.w g62),(120,.r bDy),(121,.w bIe),(122,.r bJg)] ⟨s98,s62,bHr,bKx,bLg,trivial⟩ (.s .o (.s .o (.j ⟨[],[0],[(.s 3,.ro 3),(.d 0 0,.rb 5),(.d 0 1,.i .i64)]⟩ (.s .o (.k (.l ⟨[0],[],[(.c 0 0,.rb 5),(.c 0 1,.i .i64),(.s 3,.ro 3),(.s 4,.i .i64)]⟩ (.s .o (.j ⟨[0,4],[],[(.c 0 0,.rb 5),(.c 0 1,.i .i64),(.s 3,.ro 3)]⟩ (.k (.s .o (.k (.j ⟨[0,3,4],[],[(.s 41,.b)]⟩ .o (.c .o (.s .o (.j ⟨[0,3,4,5],[],[(.c 0 0,.rb 5),(.c 0 1,.i .i64),(.c 5 0,.i .i64)]⟩ .o (.j ⟨[0,3,4,5],[],[(.c 0 0,.rb 5),(.c 0 1,.i .i64),(.c 5 0,.i .i64)]⟩ .o .o)))))))) .o))))) .o))) kr kr kr
noncomputable def aFt (s4:(List Int)×Int×(List Int))(s5:(List Int)×Int×Int×Int×Int×Bool×Int×Int×Int×Bool×Bool×Bool×Bool×(List Int)×Int×(List Int)×(List Int)):Option (Dl20Rd×DBare):=some ((Dl20Rd.mk s5.2.2.2.2.2.2.2.2.2.2.2.2.2.1 s5.2.2.2.2.2.2.2.2.2.2.2.2.2.2.1),DBare.mk (DCore.mk s5.1 s5.2.1 s5.2.2.1 s5.2.2.2.1 s5.2.2.2.2.1 s5.2.2.2.2.2.1 s5.2.2.2.2.2.2.1 s5.2.2.2.2.2.2.2.1 s5.2.2.2.2.2.2.2.2.1 s5.2.2.2.2.2.2.2.2.2.1 s5.2.2.2.2.2.2.2.2.2.2.1 s5.2.2.2.2.2.2.2.2.2.2.2.1 s5.2.2.2.2.2.2.2.2.2.2.2.2.1) s5.2.2.2.2.2.2.2.2.2.2.2.2.2.2.2.1 s5.2.2.2.2.2.2.2.2.2.2.2.2.2.2.2.2 s4.2.2)
noncomputable def uT (x_n:Int)(v1:Dl20Rd×DCore)(v2:Dl20Rd×(List Int))(s3:(List Int)×Int×(List Int))(s4:(List Int)×Int×(List Int)):Option (Dl20Rd×DBare):=
 Option.bind (Option.bind (bY (Dl20Rd.mk s4.1 s4.2.1) x_n) λv6=>
  cond v6.2
   (Option.bind (aA v6.1 (3:Int)) λv7=>
   cond (decide (v7.2=(0:Int)))
    (Option.bind (kT v7.1 (1:Int)) λv8=>
    some (.go (v8.2.Regs,v8.2.Pc,v8.2.Root,v8.2.Vector,v8.2.Saved,v8.2.SavedUser,v8.2.Cause,v8.2.Bad,v8.2.Timer,v8.2.Waits,v8.2.User,v8.2.On,v8.2.Stopped,v8.1.b,v8.1.p,v2.2,s3.2.2)))
    (cond (decide (v7.2=(1:Int)))
     (Option.bind (mA v7.1 (1:Int)) λv9=>
     some (.go (v1.2.Regs,v1.2.Pc,v1.2.Root,v1.2.Vector,v1.2.Saved,v1.2.SavedUser,v1.2.Cause,v1.2.Bad,v1.2.Timer,v1.2.Waits,v1.2.User,v1.2.On,v1.2.Stopped,v9.1.b,v9.1.p,v9.2,s3.2.2)))
     (some (.go (v1.2.Regs,v1.2.Pc,v1.2.Root,v1.2.Vector,v1.2.Saved,v1.2.SavedUser,v1.2.Cause,v1.2.Bad,v1.2.Timer,v1.2.Waits,v1.2.User,v1.2.On,v1.2.Stopped,v7.1.b,v7.1.p,v2.2,List.replicate (Int.toNat (31:Int)) (0:Int))))))
   (some (.go (v1.2.Regs,v1.2.Pc,v1.2.Root,v1.2.Vector,v1.2.Saved,v1.2.SavedUser,v1.2.Cause,v1.2.Bad,v1.2.Timer,v1.2.Waits,v1.2.User,v1.2.On,v1.2.Stopped,v6.1.b,v6.1.p,v2.2,s3.2.2)))) λj5=>
  JO.run j5 (aFt s4)
noncomputable def tO  (s11:(List Int)×Int×(List Int)×Int):Option (LO ((List Int)×Int×(List Int)×Int) (JO ((List Int)×Int×(List Int)) (Dl20Rd×DBare))):=
 cond (decide ((0:Int)<s11.2.2.2))
  (Option.bind (cO (Dl20Rd.mk s11.1 s11.2.1)) λv12=>
  grd ((List.length s11.2.2.1+List.length ([v12.2]:List Int))*8<=2^47/\List.length s11.2.2.1+List.length ([v12.2]:List Int)<=2^47) (some (.next (v12.1.b,v12.1.p,s11.2.2.1++([v12.2]:List Int),w64 (s11.2.2.2-(1:Int))))))
  (some (.ret (.go (s11.1,s11.2.1,s11.2.2.1))))
noncomputable def uQ (x_n:Int)(v1:Dl20Rd×DCore)(v2:Dl20Rd×(List Int))(s3:(List Int)×Int×(List Int)):Option (Dl20Rd×DBare):=
 Option.bind (Option.bind (aA (Dl20Rd.mk s3.1 s3.2.1) (3:Int)) λv10=>
  Option.bind (iter tO (v10.1.b,v10.1.p,([]:List Int),v10.2)) LO.val) λj4=>
  JO.run j4 (uT x_n v1 v2 s3)
noncomputable def kC  (s14:(List Int)×Int×(List Int)×Int):Option (LO ((List Int)×Int×(List Int)×Int) (JO ((List Int)×Int×(List Int)) (Dl20Rd×DBare))):=
 cond (decide ((0:Int)<s14.2.2.2))
  (Option.bind (cO (Dl20Rd.mk s14.1 s14.2.1)) λv15=>
  grd ((List.length s14.2.2.1+List.length ([v15.2]:List Int))*8<=2^47/\List.length s14.2.2.1+List.length ([v15.2]:List Int)<=2^47) (some (.next (v15.1.b,v15.1.p,s14.2.2.1++([v15.2]:List Int),w64 (s14.2.2.2-(1:Int))))))
  (some (.ret (.go (s14.1,s14.2.1,s14.2.2.1))))
noncomputable def jA (x_r:Dl20Rd)(x_n:Int):Option (Dl20Rd×DBare):=
 Option.bind (kT x_r (0:Int)) λv1=>
 Option.bind (oN v1.1) λv2=>
 Option.bind (Option.bind (aA v2.1 (4:Int)) λv13=>
  Option.bind (iter kC (v13.1.b,v13.1.p,([]:List Int),v13.2)) LO.val) λj3=>
  JO.run j3 (uQ x_n v1 v2)
noncomputable def g63:Sw tG:=⟨[.pt 107,.v (.i .i64)],.one (.st 36),jA⟩
theorem s63:Sjk 63 g63:=sgy [(94,.w g94),(95,.w g95),(62,.w g62),(96,.w g96),(97,.w g97),(98,.w g98)] ⟨s94,s95,s62,s96,s97,s98,trivial⟩ (.s .o (.s .o (.j ⟨[0,1,4,5],[],[(.c 0 0,.rb 5),(.c 0 1,.i .i64),(.c 5 14,.ro 3)]⟩ (.s .o (.k (.l ⟨[0,1,4,5],[],[(.c 0 0,.rb 5),(.c 0 1,.i .i64),(.c 5 14,.ro 3),(.s 6,.i .i64)]⟩ (.s .o (.s (.k (.m [0])) .o))))) (.j ⟨[0,1,4,5],[],[(.c 0 0,.rb 5),(.c 0 1,.i .i64),(.c 5 15,.ro 3)]⟩ (.s .o (.k (.l ⟨[0,1,4,5],[],[(.c 0 0,.rb 5),(.c 0 1,.i .i64),(.c 5 15,.ro 3),(.s 7,.i .i64)]⟩ (.s .o (.s (.k (.m [0])) .o))))) (.j ⟨[4,5],[0],[(.c 5 0,.ro 3),(.c 5 1,.i .i64),(.c 5 2,.i .i64),(.c 5 3,.i .i64),(.c 5 4,.i .i64),(.c 5 5,.b),(.c 5 6,.i .i64),(.c 5 7,.i .i64),(.c 5 8,.i .i64),(.c 5 9,.b),(.c 5 10,.b),(.c 5 11,.b),(.c 5 12,.b),(.d 0 0,.rb 5),(.d 0 1,.i .i64),(.c 5 13,.ro 3),(.c 5 14,.ro 3)]⟩ .o .o))))) kr kr kr
theorem aHv:LW 114 ⟨6,[.cell 2 true 2],.seq (.reg false (rg 114 0)) (.seq (.rega [rg 114 1,rg 114 2]) .ret)⟩:=kr
noncomputable def nZ (x_none:Int):Option DHost:=some (DHost.mk (List.replicate (Int.toNat (160:Int)) (0:Int)) (List.replicate (Int.toNat (3:Int)) (DGuest.mk false (DCore.mk ([]:List Int) (0:Int) (0:Int) (0:Int) (0:Int) false (0:Int) (0:Int) (0:Int) false false false false) ([]:List DSlot) ([]:List Int) ([]:List Int))))
theorem aKe{x_none:Int}{R_:DHost}(hh:nZ x_none=some R_):Fn Try.prog 114 [.int .i64 x_none] (.agg [.own 3 1 (List.length R_.Words) (fl (eI .i64) R_.Words),.own 80 17 (List.length R_.Guests) (fl kI R_.Guests)]):=by let z1:=DCore.mk ([]:List Int) (0:Int) (0:Int) (0:Int) (0:Int) false (0:Int) (0:Int) (0:Int) false false false false;let z2:=DGuest.mk false z1 ([]:List DSlot) ([]:List Int) ([]:List Int);unfold nZ at hh;refine Fn.start aHv [] (E:=sp 6 []) kr (v:= .agg [sw 0 R_.Words,.sref 1 [] 0 (List.length R_.Guests) 17]) (Hr:=[(1,some (rO80 R_.Guests)),(0,some (rI_3 R_.Words))]) (k:=2) kr (sy [2] [0] (sp 6 [(2,pp 0)]) [(0,some ⟨26,[.nil,.nil]⟩)] 1 (Aw.srega [2] [0,1,2] (bAk ?_ (bAk ?_ bJl))));{refine ys (.mk 3 1 8 [ii 0] (.c (ii 160))) (some 3) (aNh (c:=(eI .i64)) (d:=(0:Int)) (k:=(160:Int)) kr dd kr ?_);refine ys (.mk 80 17 176 zc0 (.c (ii 3))) (some 4) (aRq (z:=(bb false:: .nil::mT [.nil,.nil,.nil])) (k:=(3:Int)) kr dd ?_);let q1:Root:=⟨26,[.sref 1 [] 0 (List.length (List.replicate (Int.toNat (160:Int)) (0:Int))) 1,.sref 2 [] 0 (Int.toNat (3:Int)) 17]⟩;let q2:Root:=(rI_3 (List.replicate (Int.toNat (160:Int)) (0:Int)));let q3:Root:=⟨80,aP (bb false:: .nil::mT [.nil,.nil,.nil]) (Int.toNat (3:Int))⟩;refine yt (sp 6 [(2,pp 0)]) [(0,some q1),(1,some q2),(2,some q3)] 3 (Aw.ent (Ent.foldM (c:=kI) (k:=Int.toNat (3:Int)) (d:=z2) (R:=2) (e:=80) (us2:=sp 6 [(2,pp 0)]) (H2:=[(0,some ⟨26,[.sref 1 [] 0 (List.length (List.replicate (Int.toNat (160:Int)) (0:Int))) 1,.sref 3 [] 0 (List.length (List.replicate (Int.toNat (3:Int)) z2)) 17]⟩),(1,some q2)]) (L:=[none,some none,none,none,none,none,none,none,none,none,none,none,none,none,some none,some none,some none]) (ws:=(bb false:: .own 3 1 0 []::mT [.own 83 3 0 [],.own 3 1 0 [],.own 3 1 0 []])) dd kr kr (dZ (xN (dZ (dZ (dZ (dZ (dZ (dZ (dZ (dZ (dZ (dZ (dZ (dZ (xN (xN (xN aXt))))))))))))))))) rfl (aQx kr (aNj (u:=pp 0) kr (.same _) aWo)) (aGs (t:=q1) rfl kr rfl (aFg (.same _) (aFg (.sref _ _ _ _ eqn) aXc)) (aGs (t:=q2) rfl kr rfl aBl bEr))) (Aw.ret ?_));rw[cA hh];let q4:Root:=(rO80 (List.replicate (Int.toNat (3:Int)) z2));exact sK (r':= .agg [.sref 1 [] 0 (List.length (List.replicate (Int.toNat (160:Int)) (0:Int))) 1,.sref 3 [] 0 (List.length (List.replicate (Int.toNat (3:Int)) z2)) 17]) kr (Ent.list [some 1,some 3] rfl rfl (Nat.zero_le _) (nT (mF rz)) (hn nY (hn bE cP)))};refine ys (.mk 80 17 176 zc0 (.c (ii 3))) (some 4) (aRq (z:=(bb false:: .nil::mT [.nil,.nil,.nil])) (k:=(3:Int)) kr dd ?_);refine ys (.mk 3 1 8 [ii 0] (.c (ii 160))) (some 3) (aNh (c:=(eI .i64)) (d:=(0:Int)) (k:=(160:Int)) kr dd kr ?_);let q5:Root:=⟨26,[.sref 2 [] 0 (List.length (List.replicate (Int.toNat (160:Int)) (0:Int))) 1,.sref 1 [] 0 (Int.toNat (3:Int)) 17]⟩;let q6:Root:=⟨80,aP (bb false:: .nil::mT [.nil,.nil,.nil]) (Int.toNat (3:Int))⟩;let q7:Root:=(rI_3 (List.replicate (Int.toNat (160:Int)) (0:Int)));refine yt (sp 6 [(2,pp 0)]) [(0,some q5),(1,some q6),(2,some q7)] 3 (Aw.ent (Ent.foldM (c:=kI) (k:=Int.toNat (3:Int)) (d:=z2) (R:=1) (e:=80) (us2:=sp 6 [(2,pp 0)]) (H2:=[(0,some ⟨26,[.sref 2 [] 0 (List.length (List.replicate (Int.toNat (160:Int)) (0:Int))) 1,.sref 3 [] 0 (List.length (List.replicate (Int.toNat (3:Int)) z2)) 17]⟩),(2,some q7)]) (L:=[none,some none,none,none,none,none,none,none,none,none,none,none,none,none,some none,some none,some none]) (ws:=(bb false:: .own 3 1 0 []::mT [.own 83 3 0 [],.own 3 1 0 [],.own 3 1 0 []])) dd kr kr (dZ (xN (dZ (dZ (dZ (dZ (dZ (dZ (dZ (dZ (dZ (dZ (dZ (dZ (xN (xN (xN aXt))))))))))))))))) rfl (aQx kr (aNj (u:=pp 0) kr (.same _) aWo)) (aGs (t:=q5) rfl kr rfl (aFg (.same _) (aFg (.sref _ _ _ _ eqn) aXc)) (aGs (t:=q7) rfl kr rfl aBl bEr))) (Aw.ret ?_));rw[cA hh];let q8:Root:=(rO80 (List.replicate (Int.toNat (3:Int)) z2));exact sK (r':= .agg [.sref 2 [] 0 (List.length (List.replicate (Int.toNat (160:Int)) (0:Int))) 1,.sref 3 [] 0 (List.length (List.replicate (Int.toNat (3:Int)) z2)) 17]) kr (Ent.list [some 2,some 3] rfl rfl (Nat.zero_le _) (nT (mF rz)) (hn nY (hn bE cP)))
noncomputable def bIv:Sg tG:=⟨[.i .i64],.one (.st 2026),nZ⟩
theorem bLp:Sok 114 bIv:=λx_none R_ hh=>kc (aKe (x_none:=x_none) hh)
noncomputable def aFo  (s5:(List Int)×(List Int)×Int×(List DGuest)):Option (Dl20Rd×DHost):=some ((Dl20Rd.mk s5.2.1 s5.2.2.1),DHost.mk s5.1 s5.2.2.2)
noncomputable def vA (x_n:Int)(s3:(List Int)×Int×(List Int)×(List DGuest))(s4:(List Int)×Int×(List DGuest)):Option (Dl20Rd×DHost):=
 Option.bind (Option.bind (bY (Dl20Rd.mk s4.1 s4.2.1) x_n) λv6=>
  cond v6.2
   (Option.bind (aA v6.1 (4:Int)) λv7=>
   cond (decide (v7.2=(0:Int)))
    (Option.bind (aA v7.1 (9:Int)) λv8=>
    grd ((0:Int)<=v8.2/\v8.2<((List.length s3.2.2.1:Nat):Int)) (some (.go ((List.set s3.2.2.1 (Int.toNat v8.2) (4096:Int)),v8.1.b,v8.1.p,s4.2.2))))
    (cond (decide (v7.2=(1:Int)))
     (grd ((0:Int)<=(0:Int)/\(0:Int)<=(2:Int)/\(2:Int)<=((List.length s4.2.2:Nat):Int)) (some (.go (s3.2.2.1,v7.1.b,v7.1.p,List.take (Int.toNat (2:Int)-Int.toNat (0:Int)) s4.2.2))))
     (cond (decide (v7.2=(2:Int)))
      (grd ((0:Int)<=(2:Int)/\(2:Int)<((List.length s4.2.2:Nat):Int)) (some (.go (s3.2.2.1,v7.1.b,v7.1.p,List.set s4.2.2 2 (DGuest.mk false (DCore.mk ([]:List Int) (0:Int) (0:Int) (0:Int) (0:Int) false (0:Int) (0:Int) (0:Int) false false false false) ([]:List DSlot) ([(1:Int)]:List Int) ([]:List Int))))))
      (grd ((0:Int)<=(0:Int)/\(0:Int)<((List.length s4.2.2:Nat):Int)) (some (.go (s3.2.2.1,v7.1.b,v7.1.p,List.set s4.2.2 0 (DGuest.mk (List.getD s4.2.2 0 default).Live (List.getD s4.2.2 0 default).C ([DSlot.mk (3:Int) true false,DSlot.mk (3:Int) false false]:List DSlot) (List.getD s4.2.2 0 default).In (List.getD s4.2.2 0 default).Out))))))))
   (some (.go (s3.2.2.1,v6.1.b,v6.1.p,s4.2.2)))) λj5=>
  JO.run j5 aFo
noncomputable def uA (s10:(List Int)×Int×(List DGuest)×Int)(s11:(List Int)×Int×(List DGuest)):Option (LO ((List Int)×Int×(List DGuest)×Int) (JO ((List Int)×Int×(List DGuest)) (Dl20Rd×DHost))):=some (.next (s11.1,s11.2.1,s11.2.2,w64 (s10.2.2.2-(1:Int))))
noncomputable def nG  (s10:(List Int)×Int×(List DGuest)×Int):Option (LO ((List Int)×Int×(List DGuest)×Int) (JO ((List Int)×Int×(List DGuest)) (Dl20Rd×DHost))):=
 cond (decide ((0:Int)<s10.2.2.2))
  (Option.bind (Option.bind (aA (Dl20Rd.mk s10.1 s10.2.1) (3:Int)) λv12=>
   Option.bind (aA v12.1 (3:Int)) λv13=>
   Option.bind (aA v13.1 (8:Int)) λv14=>
   grd ((0:Int)<=v12.2/\v12.2<((List.length s10.2.2.1:Nat):Int)) (cond (List.getD s10.2.2.1 (Int.toNat v12.2) default).Live
    (grd ((0:Int)<=v13.2/\v13.2<((List.length s10.2.2.1:Nat):Int)) (cond (List.getD s10.2.2.1 (Int.toNat v13.2) default).Live
     (grd ((0:Int)<=v12.2/\v12.2<((List.length s10.2.2.1:Nat):Int)) (grd ((0:Int)<=v14.2/\v14.2<((List.length (List.getD s10.2.2.1 (Int.toNat v12.2) default).Pages:Nat):Int)) (cond (decide ((0:Int)<=(List.getD (List.getD s10.2.2.1 (Int.toNat v12.2) default).Pages (Int.toNat v14.2) default).Frame))
      (grd ((0:Int)<=v12.2/\v12.2<((List.length s10.2.2.1:Nat):Int)) (grd ((0:Int)<=v14.2/\v14.2<((List.length (List.getD s10.2.2.1 (Int.toNat v12.2) default).Pages:Nat):Int)) (grd ((0:Int)<=v13.2/\v13.2<((List.length s10.2.2.1:Nat):Int)) (Option.bind (aA v14.1 (8:Int)) λv15=>
       grd ((0:Int)<=v12.2/\v12.2<((List.length s10.2.2.1:Nat):Int)) (grd ((0:Int)<=v14.2/\v14.2<((List.length (List.getD (List.set s10.2.2.1 (Int.toNat v12.2) (DGuest.mk (List.getD s10.2.2.1 (Int.toNat v12.2) default).Live (List.getD s10.2.2.1 (Int.toNat v12.2) default).C (List.set (List.getD s10.2.2.1 (Int.toNat v12.2) default).Pages (Int.toNat v14.2) (DSlot.mk (List.getD (List.getD s10.2.2.1 (Int.toNat v12.2) default).Pages (Int.toNat v14.2) default).Frame false (List.getD (List.getD s10.2.2.1 (Int.toNat v12.2) default).Pages (Int.toNat v14.2) default).Dirty)) (List.getD s10.2.2.1 (Int.toNat v12.2) default).In (List.getD s10.2.2.1 (Int.toNat v12.2) default).Out)) (Int.toNat v12.2) default).Pages:Nat):Int)) (Option.bind (aA v15.1 (2:Int)) λv16=>
        grd ((0:Int)<=v15.2/\v15.2<((List.length (List.getD (List.set s10.2.2.1 (Int.toNat v12.2) (DGuest.mk (List.getD s10.2.2.1 (Int.toNat v12.2) default).Live (List.getD s10.2.2.1 (Int.toNat v12.2) default).C (List.set (List.getD s10.2.2.1 (Int.toNat v12.2) default).Pages (Int.toNat v14.2) (DSlot.mk (List.getD (List.getD s10.2.2.1 (Int.toNat v12.2) default).Pages (Int.toNat v14.2) default).Frame false (List.getD (List.getD s10.2.2.1 (Int.toNat v12.2) default).Pages (Int.toNat v14.2) default).Dirty)) (List.getD s10.2.2.1 (Int.toNat v12.2) default).In (List.getD s10.2.2.1 (Int.toNat v12.2) default).Out)) (Int.toNat v13.2) default).Pages:Nat):Int)) (some (.go (v16.1.b,v16.1.p,List.set (List.set s10.2.2.1 (Int.toNat v12.2) (DGuest.mk (List.getD s10.2.2.1 (Int.toNat v12.2) default).Live (List.getD s10.2.2.1 (Int.toNat v12.2) default).C (List.set (List.getD s10.2.2.1 (Int.toNat v12.2) default).Pages (Int.toNat v14.2) (DSlot.mk (List.getD (List.getD s10.2.2.1 (Int.toNat v12.2) default).Pages (Int.toNat v14.2) default).Frame false (List.getD (List.getD s10.2.2.1 (Int.toNat v12.2) default).Pages (Int.toNat v14.2) default).Dirty)) (List.getD s10.2.2.1 (Int.toNat v12.2) default).In (List.getD s10.2.2.1 (Int.toNat v12.2) default).Out)) (Int.toNat v13.2) (DGuest.mk (List.getD (List.set s10.2.2.1 (Int.toNat v12.2) (DGuest.mk (List.getD s10.2.2.1 (Int.toNat v12.2) default).Live (List.getD s10.2.2.1 (Int.toNat v12.2) default).C (List.set (List.getD s10.2.2.1 (Int.toNat v12.2) default).Pages (Int.toNat v14.2) (DSlot.mk (List.getD (List.getD s10.2.2.1 (Int.toNat v12.2) default).Pages (Int.toNat v14.2) default).Frame false (List.getD (List.getD s10.2.2.1 (Int.toNat v12.2) default).Pages (Int.toNat v14.2) default).Dirty)) (List.getD s10.2.2.1 (Int.toNat v12.2) default).In (List.getD s10.2.2.1 (Int.toNat v12.2) default).Out)) (Int.toNat v13.2) default).Live (List.getD (List.set s10.2.2.1 (Int.toNat v12.2) (DGuest.mk (List.getD s10.2.2.1 (Int.toNat v12.2) default).Live (List.getD s10.2.2.1 (Int.toNat v12.2) default).C (List.set (List.getD s10.2.2.1 (Int.toNat v12.2) default).Pages (Int.toNat v14.2) (DSlot.mk (List.getD (List.getD s10.2.2.1 (Int.toNat v12.2) default).Pages (Int.toNat v14.2) default).Frame false (List.getD (List.getD s10.2.2.1 (Int.toNat v12.2) default).Pages (Int.toNat v14.2) default).Dirty)) (List.getD s10.2.2.1 (Int.toNat v12.2) default).In (List.getD s10.2.2.1 (Int.toNat v12.2) default).Out)) (Int.toNat v13.2) default).C (List.set (List.getD (List.set s10.2.2.1 (Int.toNat v12.2) (DGuest.mk (List.getD s10.2.2.1 (Int.toNat v12.2) default).Live (List.getD s10.2.2.1 (Int.toNat v12.2) default).C (List.set (List.getD s10.2.2.1 (Int.toNat v12.2) default).Pages (Int.toNat v14.2) (DSlot.mk (List.getD (List.getD s10.2.2.1 (Int.toNat v12.2) default).Pages (Int.toNat v14.2) default).Frame false (List.getD (List.getD s10.2.2.1 (Int.toNat v12.2) default).Pages (Int.toNat v14.2) default).Dirty)) (List.getD s10.2.2.1 (Int.toNat v12.2) default).In (List.getD s10.2.2.1 (Int.toNat v12.2) default).Out)) (Int.toNat v13.2) default).Pages (Int.toNat v15.2) (DSlot.mk (List.getD (List.getD (List.set s10.2.2.1 (Int.toNat v12.2) (DGuest.mk (List.getD s10.2.2.1 (Int.toNat v12.2) default).Live (List.getD s10.2.2.1 (Int.toNat v12.2) default).C (List.set (List.getD s10.2.2.1 (Int.toNat v12.2) default).Pages (Int.toNat v14.2) (DSlot.mk (List.getD (List.getD s10.2.2.1 (Int.toNat v12.2) default).Pages (Int.toNat v14.2) default).Frame false (List.getD (List.getD s10.2.2.1 (Int.toNat v12.2) default).Pages (Int.toNat v14.2) default).Dirty)) (List.getD s10.2.2.1 (Int.toNat v12.2) default).In (List.getD s10.2.2.1 (Int.toNat v12.2) default).Out)) (Int.toNat v12.2) default).Pages (Int.toNat v14.2) default).Frame false (decide (v16.2=(0:Int))))) (List.getD (List.set s10.2.2.1 (Int.toNat v12.2) (DGuest.mk (List.getD s10.2.2.1 (Int.toNat v12.2) default).Live (List.getD s10.2.2.1 (Int.toNat v12.2) default).C (List.set (List.getD s10.2.2.1 (Int.toNat v12.2) default).Pages (Int.toNat v14.2) (DSlot.mk (List.getD (List.getD s10.2.2.1 (Int.toNat v12.2) default).Pages (Int.toNat v14.2) default).Frame false (List.getD (List.getD s10.2.2.1 (Int.toNat v12.2) default).Pages (Int.toNat v14.2) default).Dirty)) (List.getD s10.2.2.1 (Int.toNat v12.2) default).In (List.getD s10.2.2.1 (Int.toNat v12.2) default).Out)) (Int.toNat v13.2) default).In (List.getD (List.set s10.2.2.1 (Int.toNat v12.2) (DGuest.mk (List.getD s10.2.2.1 (Int.toNat v12.2) default).Live (List.getD s10.2.2.1 (Int.toNat v12.2) default).C (List.set (List.getD s10.2.2.1 (Int.toNat v12.2) default).Pages (Int.toNat v14.2) (DSlot.mk (List.getD (List.getD s10.2.2.1 (Int.toNat v12.2) default).Pages (Int.toNat v14.2) default).Frame false (List.getD (List.getD s10.2.2.1 (Int.toNat v12.2) default).Pages (Int.toNat v14.2) default).Dirty)) (List.getD s10.2.2.1 (Int.toNat v12.2) default).In (List.getD s10.2.2.1 (Int.toNat v12.2) default).Out)) (Int.toNat v13.2) default).Out))))))))))
      (some (.go (v14.1.b,v14.1.p,s10.2.2.1))))))
     (some (.go (v14.1.b,v14.1.p,s10.2.2.1)))))
    (some (.go (v14.1.b,v14.1.p,s10.2.2.1))))) λj11=>
   JO.run j11 (uA s10))
  (some (.ret (.go (s10.1,s10.2.1,s10.2.2.1))))
noncomputable def uY (x_n:Int)(s3:(List Int)×Int×(List Int)×(List DGuest)):Option (Dl20Rd×DHost):=
 Option.bind (Option.bind (aA (Dl20Rd.mk s3.1 s3.2.1) (4:Int)) λv9=>
  Option.bind (iter nG (v9.1.b,v9.1.p,s3.2.2.2,v9.2)) LO.val) λj4=>
  JO.run j4 (vA x_n s3)
noncomputable def tK (s18:(List Int)×Int×(List Int)×(List DGuest)×(List Int)×Int×Int×Int×Int×Bool×Int×Int×Int×Bool×Bool×Bool×Bool×(List Int)×(List Int)×(List Int)×Int)(s19:(List Int)×Int×(List Int)×(List DGuest)×(List Int)×Int×Int×Int×Int×Bool×Int×Int×Int×Bool×Bool×Bool×Bool×(List Int)×(List Int)×(List Int)):Option (LO ((List Int)×Int×(List Int)×(List DGuest)×(List Int)×Int×Int×Int×Int×Bool×Int×Int×Int×Bool×Bool×Bool×Bool×(List Int)×(List Int)×(List Int)×Int) (JO ((List Int)×Int×(List Int)×(List DGuest)) (Dl20Rd×DHost))):=some (.next (s19.1,s19.2.1,s19.2.2.1,s19.2.2.2.1,s19.2.2.2.2.1,s19.2.2.2.2.2.1,s19.2.2.2.2.2.2.1,s19.2.2.2.2.2.2.2.1,s19.2.2.2.2.2.2.2.2.1,s19.2.2.2.2.2.2.2.2.2.1,s19.2.2.2.2.2.2.2.2.2.2.1,s19.2.2.2.2.2.2.2.2.2.2.2.1,s19.2.2.2.2.2.2.2.2.2.2.2.2.1,s19.2.2.2.2.2.2.2.2.2.2.2.2.2.1,s19.2.2.2.2.2.2.2.2.2.2.2.2.2.2.1,s19.2.2.2.2.2.2.2.2.2.2.2.2.2.2.2.1,s19.2.2.2.2.2.2.2.2.2.2.2.2.2.2.2.2.1,s19.2.2.2.2.2.2.2.2.2.2.2.2.2.2.2.2.2.1,s19.2.2.2.2.2.2.2.2.2.2.2.2.2.2.2.2.2.2.1,s19.2.2.2.2.2.2.2.2.2.2.2.2.2.2.2.2.2.2.2,w64 (s18.2.2.2.2.2.2.2.2.2.2.2.2.2.2.2.2.2.2.2.2-(1:Int))))
noncomputable def tP (s18:(List Int)×Int×(List Int)×(List DGuest)×(List Int)×Int×Int×Int×Int×Bool×Int×Int×Int×Bool×Bool×Bool×Bool×(List Int)×(List Int)×(List Int)×Int)(v20:Dl20Rd×DBare)(s21:(List Int)×Int×(List Int)):Option (JO ((List Int)×Int×(List Int)×(List DGuest)×(List Int)×Int×Int×Int×Int×Bool×Int×Int×Int×Bool×Bool×Bool×Bool×(List Int)×(List Int)×(List Int)) (LO ((List Int)×Int×(List Int)×(List DGuest)×(List Int)×Int×Int×Int×Int×Bool×Int×Int×Int×Bool×Bool×Bool×Bool×(List Int)×(List Int)×(List Int)×Int) (JO ((List Int)×Int×(List Int)×(List DGuest)) (Dl20Rd×DHost)))):=
 Option.bind (mX (DHost.mk s18.2.2.1 s18.2.2.2.1) (DBare.mk v20.2.C s21.2.2 v20.2.In v20.2.Out)) λv22=>
 cond v22.2.2
  (some (.go (s21.1,s21.2.1,v22.1.Words,v22.1.Guests,v20.2.C.Regs,v20.2.C.Pc,v20.2.C.Root,v20.2.C.Vector,v20.2.C.Saved,v20.2.C.SavedUser,v20.2.C.Cause,v20.2.C.Bad,v20.2.C.Timer,v20.2.C.Waits,v20.2.C.User,v20.2.C.On,v20.2.C.Stopped,s21.2.2,v20.2.In,v20.2.Out)))
  (some (.go (s21.1,s21.2.1,s18.2.2.1,s18.2.2.2.1,v20.2.C.Regs,v20.2.C.Pc,v20.2.C.Root,v20.2.C.Vector,v20.2.C.Saved,v20.2.C.SavedUser,v20.2.C.Cause,v20.2.C.Bad,v20.2.C.Timer,v20.2.C.Waits,v20.2.C.User,v20.2.C.On,v20.2.C.Stopped,s21.2.2,v20.2.In,v20.2.Out)))
noncomputable def sT (s23:(List Int)×Int×(List Int)×Int)(s24:(List Int)×Int×(List Int)):Option (LO ((List Int)×Int×(List Int)×Int) (JO ((List Int)×Int×(List Int)) (JO ((List Int)×Int×(List Int)×(List DGuest)×(List Int)×Int×Int×Int×Int×Bool×Int×Int×Int×Bool×Bool×Bool×Bool×(List Int)×(List Int)×(List Int)) (LO ((List Int)×Int×(List Int)×(List DGuest)×(List Int)×Int×Int×Int×Int×Bool×Int×Int×Int×Bool×Bool×Bool×Bool×(List Int)×(List Int)×(List Int)×Int) (JO ((List Int)×Int×(List Int)×(List DGuest)) (Dl20Rd×DHost)))))):=some (.next (s24.1,s24.2.1,s24.2.2,w64 (s23.2.2.2+(1:Int))))
noncomputable def tB (s18:(List Int)×Int×(List Int)×(List DGuest)×(List Int)×Int×Int×Int×Int×Bool×Int×Int×Int×Bool×Bool×Bool×Bool×(List Int)×(List Int)×(List Int)×Int)(s23:(List Int)×Int×(List Int)×Int)(s25:(List Int)×Int×(List Int)):Option (JO ((List Int)×Int×(List Int)) (LO ((List Int)×Int×(List Int)×Int) (JO ((List Int)×Int×(List Int)) (JO ((List Int)×Int×(List Int)×(List DGuest)×(List Int)×Int×Int×Int×Int×Bool×Int×Int×Int×Bool×Bool×Bool×Bool×(List Int)×(List Int)×(List Int)) (LO ((List Int)×Int×(List Int)×(List DGuest)×(List Int)×Int×Int×Int×Int×Bool×Int×Int×Int×Bool×Bool×Bool×Bool×(List Int)×(List Int)×(List Int)×Int) (JO ((List Int)×Int×(List Int)×(List DGuest)) (Dl20Rd×DHost))))))):=
 cond (decide ((0:Int)<((List.length s18.2.2.2.2.2.2.2.2.2.2.2.2.2.2.2.2.2.1:Nat):Int)))
  (Option.bind (aA (Dl20Rd.mk s25.1 s25.2.1) (3:Int)) λv26=>
  cond (decide (v26.2=(0:Int)))
   (grd ((0:Int)<=(w64 (s23.2.2.2*(8:Int)))/\(w64 (s23.2.2.2*(8:Int)))<=(w64 ((w64 (s23.2.2.2+(1:Int)))*(8:Int)))/\(w64 ((w64 (s23.2.2.2+(1:Int)))*(8:Int)))<=((List.length s25.2.2:Nat):Int)) (grd ((0:Int)<=(w64 (s23.2.2.2*(8:Int)))/\(w64 (s23.2.2.2*(8:Int)))<=((List.length s18.2.2.2.2.2.2.2.2.2.2.2.2.2.2.2.2.2.1:Nat):Int)/\((List.length s18.2.2.2.2.2.2.2.2.2.2.2.2.2.2.2.2.2.1:Nat):Int)<=((List.length s18.2.2.2.2.2.2.2.2.2.2.2.2.2.2.2.2.2.1:Nat):Int)) (some (.go (v26.1.b,v26.1.p,over s25.2.2 (Int.toNat (w64 (s23.2.2.2*(8:Int)))) (Int.toNat (w64 ((w64 (s23.2.2.2+(1:Int)))*(8:Int)))-Int.toNat (w64 (s23.2.2.2*(8:Int)))) (List.take (Int.toNat ((List.length s18.2.2.2.2.2.2.2.2.2.2.2.2.2.2.2.2.2.1:Nat):Int)-Int.toNat (w64 (s23.2.2.2*(8:Int)))) (List.drop (Int.toNat (w64 (s23.2.2.2*(8:Int)))) s18.2.2.2.2.2.2.2.2.2.2.2.2.2.2.2.2.2.1)))))))
   (some (.go (v26.1.b,v26.1.p,s25.2.2))))
  (some (.go (s25.1,s25.2.1,s25.2.2)))
noncomputable def mY (s18:(List Int)×Int×(List Int)×(List DGuest)×(List Int)×Int×Int×Int×Int×Bool×Int×Int×Int×Bool×Bool×Bool×Bool×(List Int)×(List Int)×(List Int)×Int)(s23:(List Int)×Int×(List Int)×Int):Option (LO ((List Int)×Int×(List Int)×Int) (JO ((List Int)×Int×(List Int)) (JO ((List Int)×Int×(List Int)×(List DGuest)×(List Int)×Int×Int×Int×Int×Bool×Int×Int×Int×Bool×Bool×Bool×Bool×(List Int)×(List Int)×(List Int)) (LO ((List Int)×Int×(List Int)×(List DGuest)×(List Int)×Int×Int×Int×Int×Bool×Int×Int×Int×Bool×Bool×Bool×Bool×(List Int)×(List Int)×(List Int)×Int) (JO ((List Int)×Int×(List Int)×(List DGuest)) (Dl20Rd×DHost)))))):=
 cond (decide (s23.2.2.2<(8:Int)))
  (Option.bind (Option.bind (cond (decide ((3:Int)<s23.2.2.2))
   (Option.bind (aA (Dl20Rd.mk s23.1 s23.2.1) (2:Int)) λv27=>
   cond (decide (v27.2=(0:Int)))
    (grd ((0:Int)<=(w64 (s23.2.2.2*(8:Int)))/\(w64 (s23.2.2.2*(8:Int)))<=((List.length s23.2.2.1:Nat):Int)/\((List.length s23.2.2.1:Nat):Int)<=((List.length s23.2.2.1:Nat):Int)) (some (.go (v27.1.b,v27.1.p,over s23.2.2.1 (Int.toNat (w64 (s23.2.2.2*(8:Int)))) (Int.toNat ((List.length s23.2.2.1:Nat):Int)-Int.toNat (w64 (s23.2.2.2*(8:Int)))) (List.replicate (Int.toNat (8:Int)) (0:Int))))))
    (some (.go (v27.1.b,v27.1.p,s23.2.2.1))))
   (some (.go (s23.1,s23.2.1,s23.2.2.1)))) λj25=>
   JO.run j25 (tB s18 s23)) λj24=>
   JO.run j24 (sT s23))
  (some (.ret (.go (s23.1,s23.2.1,s23.2.2.1))))
noncomputable def nJ  (s18:(List Int)×Int×(List Int)×(List DGuest)×(List Int)×Int×Int×Int×Int×Bool×Int×Int×Int×Bool×Bool×Bool×Bool×(List Int)×(List Int)×(List Int)×Int):Option (LO ((List Int)×Int×(List Int)×(List DGuest)×(List Int)×Int×Int×Int×Int×Bool×Int×Int×Int×Bool×Bool×Bool×Bool×(List Int)×(List Int)×(List Int)×Int) (JO ((List Int)×Int×(List Int)×(List DGuest)) (Dl20Rd×DHost))):=
 cond (decide ((0:Int)<s18.2.2.2.2.2.2.2.2.2.2.2.2.2.2.2.2.2.2.2.2))
  (Option.bind (Option.bind (jA (Dl20Rd.mk s18.1 s18.2.1) (0:Int)) λv20=>
   Option.bind (Option.bind (iter (mY s18) (v20.1.b,v20.1.p,v20.2.Mem,(0:Int))) LO.val) λj21=>
    JO.run j21 (tP s18 v20)) λj19=>
   JO.run j19 (tK s18))
  (some (.ret (.go (s18.1,s18.2.1,s18.2.2.1,s18.2.2.2.1))))
noncomputable def uO (x_n:Int)(v1:DHost)(s2:(List Int)×Int×(List Int)):Option (Dl20Rd×DHost):=
 Option.bind (Option.bind (aA (Dl20Rd.mk s2.1 s2.2.1) (3:Int)) λv17=>
  Option.bind (iter nJ (v17.1.b,v17.1.p,s2.2.2,v1.Guests,([]:List Int),(0:Int),(0:Int),(0:Int),(0:Int),false,(0:Int),(0:Int),(0:Int),false,false,false,false,([]:List Int),([]:List Int),([]:List Int),w64 ((1:Int)+v17.2))) LO.val) λj3=>
  JO.run j3 (uY x_n)
noncomputable def tH (s28:(List Int)×Int×(List Int)×Int)(s29:(List Int)×Int×(List Int)):Option (LO ((List Int)×Int×(List Int)×Int) (JO ((List Int)×Int×(List Int)) (Dl20Rd×DHost))):=some (.next (s29.1,s29.2.1,s29.2.2,w64 (s28.2.2.2+(1:Int))))
noncomputable def nL  (s28:(List Int)×Int×(List Int)×Int):Option (LO ((List Int)×Int×(List Int)×Int) (JO ((List Int)×Int×(List Int)) (Dl20Rd×DHost))):=
 cond (decide (s28.2.2.2<((List.length s28.2.2.1:Nat):Int)))
  (Option.bind (Option.bind (aA (Dl20Rd.mk s28.1 s28.2.1) (4:Int)) λv30=>
   cond (decide (v30.2=(0:Int)))
    (Option.bind (cO v30.1) λv31=>
    grd ((0:Int)<=s28.2.2.2/\s28.2.2.2<((List.length s28.2.2.1:Nat):Int)) (some (.go (v31.1.b,v31.1.p,List.set s28.2.2.1 (Int.toNat s28.2.2.2) v31.2))))
    (some (.go (v30.1.b,v30.1.p,s28.2.2.1)))) λj29=>
   JO.run j29 (tH s28))
  (some (.ret (.go (s28.1,s28.2.1,s28.2.2.1))))
noncomputable def kX (x_r:Dl20Rd)(x_n:Int):Option (Dl20Rd×DHost):=
 Option.bind (nZ (0:Int)) λv1=>
 Option.bind (Option.bind (iter nL (x_r.b,x_r.p,v1.Words,(0:Int))) LO.val) λj2=>
  JO.run j2 (uO x_n v1)
noncomputable def g85:Sw tG:=⟨[.pt 107,.v (.i .i64)],.one (.st 2026),kX⟩
theorem s85:Sjk 85 g85:=sgy [(114,.r bIv),(62,.w g62),(96,.w g96),(63,.w g63),(115,.r bJo),(97,.w g97)] ⟨bLp,s62,s96,s63,bLe,s97,trivial⟩ (.s .o (.s .o (.j ⟨[0,1,4,5],[],[(.c 0 0,.rb 5),(.c 0 1,.i .i64),(.c 5 0,.ro 3)]⟩ (.s .o (.k (.l ⟨[0,1,4,5],[],[(.c 0 0,.rb 5),(.c 0 1,.i .i64),(.c 5 0,.ro 3),(.s 6,.i .i64)]⟩ (.s .o (.j ⟨[0,1,4,5,6],[],[(.c 0 0,.rb 5),(.c 0 1,.i .i64),(.c 5 0,.ro 3)]⟩ (.k (.s .o (.c (.m [0]) .o))) .o))))) (.s .o (.j ⟨[0,1,4,5],[],[(.c 0 0,.rb 5),(.c 0 1,.i .i64),(.c 5 0,.ro 3),(.c 5 1,.ro 1080)]⟩ (.s .o (.k (.l ⟨[0,1,4,5,7],[],[(.c 0 0,.rb 5),(.c 0 1,.i .i64),(.c 5 0,.ro 3),(.c 5 1,.ro 1080),(.c 7 0,.ro 3),(.c 7 1,.i .i64),(.c 7 2,.i .i64),(.c 7 3,.i .i64),(.c 7 4,.i .i64),(.c 7 5,.b),(.c 7 6,.i .i64),(.c 7 7,.i .i64),(.c 7 8,.i .i64),(.c 7 9,.b),(.c 7 10,.b),(.c 7 11,.b),(.c 7 12,.b),(.c 7 13,.ro 3),(.c 7 14,.ro 3),(.c 7 15,.ro 3),(.s 8,.i .i64)]⟩ (.s .o (.j ⟨[0,1,4,5,7,8],[],[(.c 0 0,.rb 5),(.c 0 1,.i .i64),(.c 5 0,.ro 3),(.c 5 1,.ro 1080),(.c 7 0,.ro 3),(.c 7 1,.i .i64),(.c 7 2,.i .i64),(.c 7 3,.i .i64),(.c 7 4,.i .i64),(.c 7 5,.b),(.c 7 6,.i .i64),(.c 7 7,.i .i64),(.c 7 8,.i .i64),(.c 7 9,.b),(.c 7 10,.b),(.c 7 11,.b),(.c 7 12,.b),(.c 7 13,.ro 3),(.c 7 14,.ro 3),(.c 7 15,.ro 3)]⟩ (.k (.s .o (.j ⟨[0,1,4,5,7,8,9],[],[(.c 0 0,.rb 5),(.c 0 1,.i .i64),(.c 9 13,.ro 3)]⟩ (.s .o (.k (.l ⟨[0,1,4,5,7,8,9],[],[(.c 0 0,.rb 5),(.c 0 1,.i .i64),(.c 9 13,.ro 3),(.s 10,.i .i64)]⟩ (.s .o (.j ⟨[0,1,4,5,7,8,9,10],[],[(.c 0 0,.rb 5),(.c 0 1,.i .i64),(.c 9 13,.ro 3)]⟩ (.k (.j ⟨[0,1,4,5,7,8,9,10],[],[(.c 0 0,.rb 5),(.c 0 1,.i .i64),(.c 9 13,.ro 3)]⟩ .o .o)) .o))))) .o))) .o))))) (.j ⟨[0,1,4,5],[],[(.c 0 0,.rb 5),(.c 0 1,.i .i64),(.c 5 1,.ro 1080)]⟩ (.s .o (.k (.l ⟨[0,1,4,5],[],[(.c 0 0,.rb 5),(.c 0 1,.i .i64),(.c 5 1,.ro 1080),(.s 14,.i .i64)]⟩ (.s .o (.j ⟨[0,1,4,5,14],[],[(.c 0 0,.rb 5),(.c 0 1,.i .i64),(.c 5 1,.ro 1080)]⟩ (.k (.s .o (.s .o (.s .o (.s .o (.c (.s .o (.m [0])) .o)))))) .o))))) (.j ⟨[4,5],[0],[(.c 5 0,.ro 3),(.d 0 0,.rb 5),(.d 0 1,.i .i64),(.c 5 1,.ro 1080)]⟩ (.s .o (.c (.s .o (.k (.s .o (.c (.m [0]) (.s .o (.c .o (.s .o (.c (.g [] [] [.fo (.c 5 1) 0]) (.g [] [] [.fo (.c 5 1) 0]))))))))) .o)) .o))))))) kr kr kr
noncomputable def sY  (s1:Unit):Option Bool:=some true
noncomputable def eP (x_a:List Int)(x_b:List Int)(s2:Int):Option (LO Int (JO Unit Bool)):=
 cond (decide (s2<((List.length x_a:Nat):Int)))
  (grd ((0:Int)<=s2/\s2<((List.length x_a:Nat):Int)) (grd ((0:Int)<=s2/\s2<((List.length x_b:Nat):Int)) (cond (!decide ((List.getD x_a (Int.toNat s2) default)=(List.getD x_b (Int.toNat s2) default)))
   (some (.ret (.out false)))
   (some (.next (w64 (s2+(1:Int))))))))
  (some (.ret (.go ())))
noncomputable def cM (x_a:List Int)(x_b:List Int):Option Bool:=
 cond (!decide (((List.length x_a:Nat):Int)=((List.length x_b:Nat):Int)))
  (some false)
  (Option.bind (Option.bind (iter (eP x_a x_b) (0:Int)) LO.val) λj1=>
   JO.run j1 sY)
noncomputable def g18:Sg tG:=⟨[.row 3,.row 3],.one .b,cM⟩
theorem s18:Sok 18 g18:=sgx [] trivial (.s .o (.s .o (.j ⟨[],[],[]⟩ (.s .o (.k (.l ⟨[0,1],[],[(.s 5,.i .i64)]⟩ .o))) .o))) kr kr kr
noncomputable def jT (x_a:DCore)(x_b:DCore):Option Bool:=
 Option.bind (cM x_a.Regs x_b.Regs) λv1=>
 cond (!v1)
  (some false)
  (cond (!decide (x_a.Pc=x_b.Pc))
   (some false)
   (cond (!decide (x_a.Root=x_b.Root))
    (some false)
    (cond (!decide (x_a.Vector=x_b.Vector))
     (some false)
     (cond (!decide (x_a.Saved=x_b.Saved))
      (some false)
      (cond (!(x_a.SavedUser==x_b.SavedUser))
       (some false)
       (cond (decide (x_a.Cause=x_b.Cause))
        (cond (decide (x_a.Bad=x_b.Bad))
         (cond (decide (x_a.Timer=x_b.Timer))
          (cond (x_a.Waits==x_b.Waits)
           (cond (x_a.User==x_b.User)
            (cond (x_a.On==x_b.On)
             (some (x_a.Stopped==x_b.Stopped))
             (some false))
            (some false))
           (some false))
          (some false))
         (some false))
        (some false)))))))
noncomputable def g58:Sg tG:=⟨[.st 34,.st 34],.one .b,jT⟩
theorem s58:Sok 58 g58:=sgx [(18,.r g18)] ⟨s18,trivial⟩ .o kr kr kr
noncomputable def hG (x_a:DBare)(x_b:DBare):Option Bool:=
 Option.bind (jT x_a.C x_b.C) λv1=>
 cond v1
  (Option.bind (cM x_a.Mem x_b.Mem) λv2=>
  cond v2
   (Option.bind (cM x_a.In x_b.In) λv3=>
   cond v3
    (Option.bind (cM x_a.Out x_b.Out) λv4=>
    some v4)
    (some false))
   (some false))
  (some false)
noncomputable def g16:Sg tG:=⟨[.st 36,.st 36],.one .b,hG⟩
theorem s16:Sok 16 g16:=sgx [(58,.r g58),(18,.r g18)] ⟨s58,s18,trivial⟩ .o kr kr kr
noncomputable def aCc  (s4:Unit):Option Bool:=some true
noncomputable def jM (x_a:DGuest)(x_b:DGuest)(s5:Int):Option (LO Int (JO Unit Bool)):=
 cond (decide (s5<((List.length x_a.Pages:Nat):Int)))
  (grd ((0:Int)<=s5/\s5<((List.length x_a.Pages:Nat):Int)) (grd ((0:Int)<=s5/\s5<((List.length x_b.Pages:Nat):Int)) (cond (!(decide ((List.getD x_a.Pages (Int.toNat s5) default).Frame=(List.getD x_b.Pages (Int.toNat s5) default).Frame)&&(((List.getD x_a.Pages (Int.toNat s5) default).Write==(List.getD x_b.Pages (Int.toNat s5) default).Write)&&(((List.getD x_a.Pages (Int.toNat s5) default).Dirty==(List.getD x_b.Pages (Int.toNat s5) default).Dirty)&&true))))
   (some (.ret (.out false)))
   (some (.next (w64 (s5+(1:Int))))))))
  (some (.ret (.go ())))
noncomputable def jD (x_a:DGuest)(x_b:DGuest):Option Bool:=
 cond (!(x_a.Live==x_b.Live))
  (some false)
  (Option.bind (jT x_a.C x_b.C) λv1=>
  cond (!v1)
   (some false)
   (Option.bind (cM x_a.In x_b.In) λv2=>
   cond (!v2)
    (some false)
    (Option.bind (cM x_a.Out x_b.Out) λv3=>
    cond (!v3)
     (some false)
     (cond (!decide (((List.length x_a.Pages:Nat):Int)=((List.length x_b.Pages:Nat):Int)))
      (some false)
      (Option.bind (Option.bind (iter (jM x_a x_b) (0:Int)) LO.val) λj4=>
       JO.run j4 aCc)))))
noncomputable def g51:Sg tG:=⟨[.st 80,.st 80],.one .b,jD⟩
theorem s51:Sok 51 g51:=sgx [(58,.r g58),(18,.r g18)] ⟨s58,s18,trivial⟩ (.s .o (.s .o (.j ⟨[],[],[]⟩ (.s .o (.k (.l ⟨[2,3],[],[(.s 5,.i .i64)]⟩ .o))) .o))) kr kr kr
noncomputable def aCp  (s2:Unit):Option Bool:=some true
noncomputable def jV (x_a:DHost)(x_b:DHost)(s3:Int):Option (LO Int (JO Unit Bool)):=
 cond (decide (s3<((List.length x_a.Guests:Nat):Int)))
  (grd ((0:Int)<=s3/\s3<((List.length x_a.Guests:Nat):Int)) (grd ((0:Int)<=s3/\s3<((List.length x_b.Guests:Nat):Int)) (Option.bind (jD (DGuest.mk (List.getD x_a.Guests (Int.toNat s3) default).Live (DCore.mk ((List.getD x_a.Guests (Int.toNat s3) default).C).Regs ((List.getD x_a.Guests (Int.toNat s3) default).C).Pc ((List.getD x_a.Guests (Int.toNat s3) default).C).Root ((List.getD x_a.Guests (Int.toNat s3) default).C).Vector ((List.getD x_a.Guests (Int.toNat s3) default).C).Saved ((List.getD x_a.Guests (Int.toNat s3) default).C).SavedUser ((List.getD x_a.Guests (Int.toNat s3) default).C).Cause ((List.getD x_a.Guests (Int.toNat s3) default).C).Bad ((List.getD x_a.Guests (Int.toNat s3) default).C).Timer ((List.getD x_a.Guests (Int.toNat s3) default).C).Waits ((List.getD x_a.Guests (Int.toNat s3) default).C).User ((List.getD x_a.Guests (Int.toNat s3) default).C).On ((List.getD x_a.Guests (Int.toNat s3) default).C).Stopped) (List.getD x_a.Guests (Int.toNat s3) default).Pages (List.getD x_a.Guests (Int.toNat s3) default).In (List.getD x_a.Guests (Int.toNat s3) default).Out) (DGuest.mk (List.getD x_b.Guests (Int.toNat s3) default).Live (DCore.mk ((List.getD x_b.Guests (Int.toNat s3) default).C).Regs ((List.getD x_b.Guests (Int.toNat s3) default).C).Pc ((List.getD x_b.Guests (Int.toNat s3) default).C).Root ((List.getD x_b.Guests (Int.toNat s3) default).C).Vector ((List.getD x_b.Guests (Int.toNat s3) default).C).Saved ((List.getD x_b.Guests (Int.toNat s3) default).C).SavedUser ((List.getD x_b.Guests (Int.toNat s3) default).C).Cause ((List.getD x_b.Guests (Int.toNat s3) default).C).Bad ((List.getD x_b.Guests (Int.toNat s3) default).C).Timer ((List.getD x_b.Guests (Int.toNat s3) default).C).Waits ((List.getD x_b.Guests (Int.toNat s3) default).C).User ((List.getD x_b.Guests (Int.toNat s3) default).C).On ((List.getD x_b.Guests (Int.toNat s3) default).C).Stopped) (List.getD x_b.Guests (Int.toNat s3) default).Pages (List.getD x_b.Guests (Int.toNat s3) default).In (List.getD x_b.Guests (Int.toNat s3) default).Out)) λv4=>
   cond (!v4)
    (some (.ret (.out false)))
    (some (.next (w64 (s3+(1:Int))))))))
  (some (.ret (.go ())))
noncomputable def gZ (x_a:DHost)(x_b:DHost):Option Bool:=
 Option.bind (cM x_a.Words x_b.Words) λv1=>
 cond (!v1)
  (some false)
  (cond (!decide (((List.length x_a.Guests:Nat):Int)=((List.length x_b.Guests:Nat):Int)))
   (some false)
   (Option.bind (Option.bind (iter (jV x_a x_b) (0:Int)) LO.val) λj2=>
    JO.run j2 aCp))
noncomputable def g12:Sg tG:=⟨[.st 26,.st 26],.one .b,gZ⟩
theorem s12:Sok 12 g12:=sgx [(18,.r g18),(51,.r g51)] ⟨s18,s51,trivial⟩ (.s .o (.s .o (.j ⟨[],[],[]⟩ (.s .o (.k (.l ⟨[2,3],[],[(.s 5,.i .i64)]⟩ .o))) .o))) kr kr kr
noncomputable def aCa  (s1:Unit):Option Bool:=some true
noncomputable def mI (s2:Int)(s3:Unit):Option (LO Int (JO Unit Bool)):=some (.next (w64 (s2+(1:Int))))
noncomputable def jL (x_a:DHost)(x_b:DHost)(x_but:Int)(s2:Int):Option (LO Int (JO Unit Bool)):=
 cond (decide (s2<(3:Int)))
  (Option.bind (Option.bind (cS x_a s2) λv4=>
   Option.bind (cS x_b s2) λv5=>
   cond (!decide (s2=x_but))
    (cond (!(v4.2==v5.2))
     (some (.out (.ret (.out false))))
     (Option.bind (hG v4.1 v5.1) λv6=>
     cond (!v6)
      (some (.out (.ret (.out false))))
      (some (.go ()))))
    (some (.go ()))) λj3=>
   JO.run j3 (mI s2))
  (some (.ret (.go ())))
noncomputable def fR (x_a:DHost)(x_b:DHost)(x_but:Int):Option Bool:=
 Option.bind (Option.bind (iter (jL x_a x_b x_but) (0:Int)) LO.val) λj1=>
  JO.run j1 aCa
noncomputable def g17:Sg tG:=⟨[.st 26,.st 26,.i .i64],.one .b,fR⟩
theorem s17:Sok 17 g17:=sgx [(14,.r g14),(16,.r g16)] ⟨s14,s16,trivial⟩ (.s .o (.j ⟨[],[],[]⟩ (.s .o (.k (.l ⟨[2,3,4],[],[(.s 7,.i .i64)]⟩ (.s .o (.j ⟨[2,3,4,7],[],[]⟩ .o .o))))) .o)) kr kr kr
noncomputable def aGv (v1:Dl20Rd×DHost)(s2:(List Int)×Int×(List DGuest)):Option (Dl20Rd×DHost):=some ((Dl20Rd.mk s2.1 s2.2.1),DHost.mk v1.2.Words s2.2.2)
noncomputable def pG (x_r:Dl20Rd):Option (Dl20Rd×DHost):=
 Option.bind (kX x_r (25:Int)) λv1=>
 Option.bind (cond (decide (((List.length v1.2.Guests:Nat):Int)=(3:Int)))
  (grd ((0:Int)<=(2:Int)/\(2:Int)<((List.length v1.2.Guests:Nat):Int)) (cond (List.getD v1.2.Guests 2 default).Live
   (Option.bind (aA v1.1 (5:Int)) λv3=>
   cond (decide ((0:Int)<v3.2))
    (grd ((0:Int)<=(2:Int)/\(2:Int)<((List.length v1.2.Guests:Nat):Int)) (some (.go (v3.1.b,v3.1.p,List.set v1.2.Guests 2 (DGuest.mk false (DCore.mk ([]:List Int) (0:Int) (0:Int) (0:Int) (0:Int) false (0:Int) (0:Int) (0:Int) false false false false) ([]:List DSlot) ([]:List Int) ([]:List Int))))))
    (some (.go (v3.1.b,v3.1.p,v1.2.Guests))))
   (some (.go (v1.1.b,v1.1.p,v1.2.Guests)))))
  (some (.go (v1.1.b,v1.1.p,v1.2.Guests)))) λj2=>
  JO.run j2 (aGv v1)
noncomputable def g40:Sw tG:=⟨[.pt 107],.one (.st 2026),pG⟩
theorem s40:Sjk 40 g40:=sgy [(85,.w g85),(62,.w g62)] ⟨s85,s62,trivial⟩ (.s .o (.s .o (.j ⟨[2,3],[0],[(.d 0 0,.rb 5),(.d 0 1,.i .i64),(.c 3 1,.ro 1080)]⟩ (.s .o (.c (.g [] [] [.fo (.c 3 1) 0]) .o)) .o))) kr kr kr
noncomputable def aFq (v1:Dl20Rd×DHost)(s2:(List DGuest)×(List Int)×Int):Option (Dl20Rd×DHost):=some ((Dl20Rd.mk s2.2.1 s2.2.2),DHost.mk v1.2.Words s2.1)
noncomputable def uR (s5:(List Int)×Int×(List DGuest)×Int)(s6:(List Int)×Int×(List DGuest)):Option (LO ((List Int)×Int×(List DGuest)×Int) (JO ((List DGuest)×(List Int)×Int) (Dl20Rd×DHost))):=some (.next (s6.1,s6.2.1,s6.2.2,w64 (s5.2.2.2+(1:Int))))
noncomputable def uV (s7:(List Int)×Int×(List DGuest)×Int)(s8:(List Int)×Int×(List DGuest)):Option (LO ((List Int)×Int×(List DGuest)×Int) (JO ((List Int)×Int×(List DGuest)) (LO ((List Int)×Int×(List DGuest)×Int) (JO ((List DGuest)×(List Int)×Int) (Dl20Rd×DHost))))):=some (.next (s8.1,s8.2.1,s8.2.2,w64 (s7.2.2.2+(1:Int))))
noncomputable def oW (v1:Dl20Rd×DHost)(s5:(List Int)×Int×(List DGuest)×Int)(s7:(List Int)×Int×(List DGuest)×Int):Option (LO ((List Int)×Int×(List DGuest)×Int) (JO ((List Int)×Int×(List DGuest)) (LO ((List Int)×Int×(List DGuest)×Int) (JO ((List DGuest)×(List Int)×Int) (Dl20Rd×DHost))))):=
 grd ((0:Int)<=s5.2.2.2/\s5.2.2.2<((List.length s7.2.2.1:Nat):Int)) (cond (decide (s7.2.2.2<((List.length (List.getD s7.2.2.1 (Int.toNat s5.2.2.2) default).Pages:Nat):Int)))
  (Option.bind (Option.bind (gX (DHost.mk v1.2.Words s7.2.2.1)) λv9=>
   grd ((0:Int)<=s5.2.2.2/\s5.2.2.2<((List.length s7.2.2.1:Nat):Int)) (grd ((0:Int)<=s7.2.2.2/\s7.2.2.2<((List.length (List.getD s7.2.2.1 (Int.toNat s5.2.2.2) default).Pages:Nat):Int)) (cond (decide ((List.getD (List.getD s7.2.2.1 (Int.toNat s5.2.2.2) default).Pages (Int.toNat s7.2.2.2) default).Frame<(0:Int)))
    (cond (decide ((0:Int)<((List.length v9:Nat):Int)))
     (Option.bind (aA (Dl20Rd.mk s7.1 s7.2.1) (6:Int)) λv10=>
     cond (decide ((0:Int)<v10.2))
      (grd ((0:Int)<=s5.2.2.2/\s5.2.2.2<((List.length s7.2.2.1:Nat):Int)) (grd ((0:Int)<=(0:Int)/\(0:Int)<((List.length v9:Nat):Int)) (grd ((0:Int)<=s7.2.2.2/\s7.2.2.2<((List.length (List.getD s7.2.2.1 (Int.toNat s5.2.2.2) default).Pages:Nat):Int)) (some (.go (v10.1.b,v10.1.p,List.set s7.2.2.1 (Int.toNat s5.2.2.2) (DGuest.mk (List.getD s7.2.2.1 (Int.toNat s5.2.2.2) default).Live (DCore.mk ((List.getD s7.2.2.1 (Int.toNat s5.2.2.2) default).C).Regs ((List.getD s7.2.2.1 (Int.toNat s5.2.2.2) default).C).Pc ((List.getD s7.2.2.1 (Int.toNat s5.2.2.2) default).C).Root ((List.getD s7.2.2.1 (Int.toNat s5.2.2.2) default).C).Vector ((List.getD s7.2.2.1 (Int.toNat s5.2.2.2) default).C).Saved ((List.getD s7.2.2.1 (Int.toNat s5.2.2.2) default).C).SavedUser ((List.getD s7.2.2.1 (Int.toNat s5.2.2.2) default).C).Cause ((List.getD s7.2.2.1 (Int.toNat s5.2.2.2) default).C).Bad ((List.getD s7.2.2.1 (Int.toNat s5.2.2.2) default).C).Timer ((List.getD s7.2.2.1 (Int.toNat s5.2.2.2) default).C).Waits ((List.getD s7.2.2.1 (Int.toNat s5.2.2.2) default).C).User ((List.getD s7.2.2.1 (Int.toNat s5.2.2.2) default).C).On ((List.getD s7.2.2.1 (Int.toNat s5.2.2.2) default).C).Stopped) (List.set (List.getD s7.2.2.1 (Int.toNat s5.2.2.2) default).Pages (Int.toNat s7.2.2.2) (DSlot.mk (List.getD v9 0 default) true false)) (List.getD s7.2.2.1 (Int.toNat s5.2.2.2) default).In (List.getD s7.2.2.1 (Int.toNat s5.2.2.2) default).Out)))))))
      (some (.go (v10.1.b,v10.1.p,s7.2.2.1))))
     (some (.go (s7.1,s7.2.1,s7.2.2.1))))
    (some (.go (s7.1,s7.2.1,s7.2.2.1)))))) λj8=>
   JO.run j8 (uV s7))
  (some (.ret (.go (s7.1,s7.2.1,s7.2.2.1)))))
noncomputable def uZ (v1:Dl20Rd×DHost)(s5:(List Int)×Int×(List DGuest)×Int):Option (LO ((List Int)×Int×(List DGuest)×Int) (JO ((List DGuest)×(List Int)×Int) (Dl20Rd×DHost))):=
 cond (decide (s5.2.2.2<(3:Int)))
  (Option.bind (Option.bind (iter (oW v1 s5) (s5.1,s5.2.1,s5.2.2.1,(0:Int))) LO.val) λj6=>
   JO.run j6 (uR s5))
  (some (.ret (.go (s5.2.2.1,s5.1,s5.2.1))))
noncomputable def kP (x_r:Dl20Rd):Option (Dl20Rd×DHost):=
 Option.bind (kX x_r (25:Int)) λv1=>
 Option.bind (Option.bind (aA v1.1 (4:Int)) λv3=>
  cond (decide (v3.2=(0:Int)))
   (Option.bind (hY v1.2) λv4=>
   cond v4
    (Option.bind (iter (uZ v1) (v3.1.b,v3.1.p,v1.2.Guests,(0:Int))) LO.val)
    (some (.go (v1.2.Guests,v3.1.b,v3.1.p))))
   (some (.go (v1.2.Guests,v3.1.b,v3.1.p)))) λj2=>
  JO.run j2 (aFq v1)
noncomputable def g60:Sw tG:=⟨[.pt 107],.one (.st 2026),kP⟩
theorem s60:Sjk 60 g60:=sgy [(85,.w g85),(62,.w g62),(90,.r g90),(70,.r g70)] ⟨s85,s62,s90,s70,trivial⟩ (.s .o (.s .o (.j ⟨[2,3],[0],[(.c 3 1,.ro 1080),(.d 0 0,.rb 5),(.d 0 1,.i .i64)]⟩ (.s .o (.c (.s .o (.k (.l ⟨[0,2,3],[],[(.c 0 0,.rb 5),(.c 0 1,.i .i64),(.c 3 1,.ro 1080),(.s 4,.i .i64)]⟩ (.s .o (.j ⟨[0,2,3,4],[],[(.c 0 0,.rb 5),(.c 0 1,.i .i64),(.c 3 1,.ro 1080)]⟩ (.k (.s .o (.k (.l ⟨[0,2,3,4],[],[(.c 0 0,.rb 5),(.c 0 1,.i .i64),(.c 3 1,.ro 1080),(.s 5,.i .i64)]⟩ (.s .o (.j ⟨[0,2,3,4,5],[],[(.c 0 0,.rb 5),(.c 0 1,.i .i64),(.c 3 1,.ro 1080)]⟩ .o .o)))))) .o))))) .o)) .o))) kr kr kr
noncomputable def xT  (s2:(List Int)×Int×Int):Option (Dl20Rd×Int):=
 Option.bind (aA (Dl20Rd.mk s2.1 s2.2.1) (25:Int)) λv3=>
 some (v3.1,w64 (s2.2.2-(w64 (Int.tdiv v3.2 (24:Int)))))
noncomputable def kW (x_r:Dl20Rd)(x_h:DHost):Option (Dl20Rd×Int):=
 Option.bind (aA x_r (3:Int)) λv1=>
 Option.bind (cond (decide (((List.length x_h.Guests:Nat):Int)=(3:Int)))
  (grd ((0:Int)<=v1.2/\v1.2<((List.length x_h.Guests:Nat):Int)) (cond (!(List.getD x_h.Guests (Int.toNat v1.2) default).Live)
   (Option.bind (aA v1.1 (6:Int)) λv4=>
   cond (decide ((0:Int)<v4.2))
    (some (.go (v4.1.b,v4.1.p,(0:Int))))
    (some (.go (v4.1.b,v4.1.p,v1.2))))
   (some (.go (v1.1.b,v1.1.p,v1.2)))))
  (some (.go (v1.1.b,v1.1.p,v1.2)))) λj2=>
  JO.run j2 xT
noncomputable def g41:Sw tG:=⟨[.pt 107,.v (.st 26)],.one (.i .i64),kW⟩
theorem s41:Sjk 41 g41:=sgy [(62,.w g62)] ⟨s62,trivial⟩ (.s .o (.s .o (.j ⟨[0],[],[(.c 0 0,.rb 5),(.c 0 1,.i .i64),(.s 5,.i .i64)]⟩ .o .o))) kr kr kr
noncomputable def iR (x_code:List Int):Option (DHost×Int):=
 Option.bind (eQ x_code) λv1=>
 Option.bind (pG v1) λv2=>
 Option.bind (kW v2.1 v2.2) λv3=>
 some (v2.2,v3.2)
noncomputable def g9:Sg tG:=⟨[.row 5],.two (.sb 26) (.i .i64),iR⟩
theorem s9:Sok 9 g9:=sgx [(39,.o g39),(40,.w g40),(41,.w g41)] ⟨s39,s40,s41,trivial⟩ (.s .o (.s .o (.s .o (.s (.g [.fr (.c 5 0) 0,.fr (.c 5 1) 0] [1] []) .o)))) kr kr kr
noncomputable def gS (x_code:List Int):Option Bool:=
 cond (decide ((1048576:Int)<((List.length x_code:Nat):Int)))
  (some true)
  (Option.bind (iR x_code) λv1=>
  Option.bind (lP v1.1 v1.2) λv2=>
  Option.bind (lH v1.1 v1.2) λv3=>
  cond (!(v2.2.2==v3.2.2))
   (some false)
   (cond (!decide (v2.2.1=v3.2.1))
    (some false)
    (Option.bind (gZ v2.1 v3.1) λv4=>
    cond (!v4)
     (some false)
     (cond (!v2.2.2)
      (cond (decide (v2.2.1=(-1:Int)))
       (Option.bind eV  λv5=>
       some v5)
       (some false))
      (Option.bind (cS v2.1 v1.2) λv6=>
      Option.bind (cS v2.1 v2.2.1) λv7=>
      Option.bind (fB v2.1) λv8=>
      cond v8
       (Option.bind (hG v6.1 v7.1) λv9=>
       cond v9
        (Option.bind (fR v1.1 v2.1 v2.2.1) λv10=>
        cond v10
         (Option.bind (eT v2.1) λv11=>
         Option.bind (eT v1.1) λv12=>
         Option.bind (cM v11 v12) λv13=>
         some v13)
         (some false))
        (some false))
       (some false))))))
noncomputable def g3:Sg tG:=⟨[.row 5],.one .b,gS⟩
theorem s3:Sok 3 g3:=sgx [(9,.r g9),(10,.r g10),(11,.r g11),(12,.r g12),(13,.r g13),(14,.r g14),(15,.r g15),(16,.r g16),(17,.r g17),(19,.r g19),(18,.r g18)] ⟨s9,s10,s11,s12,s13,s14,s15,s16,s17,s19,s18,trivial⟩ .o kr kr kr
theorem aCd{x_code:List Int}{R_:Bool}(hh:gS x_code=some R_):Fn Try.prog 3 [bo (eI .u8) x_code] (.bool R_):=kc (s3 x_code R_ hh)
noncomputable def aDd  (s2:List DSlot):Option (List DSlot):=some s2
noncomputable def gT (x_pages:List DSlot)(s3:(List DSlot)×Int):Option (LO ((List DSlot)×Int) (JO (List DSlot) (List DSlot))):=
 cond (decide (s3.2<((List.length x_pages:Nat):Int)))
  (grd ((0:Int)<=s3.2/\s3.2<((List.length x_pages:Nat):Int)) (grd ((0:Int)<=s3.2/\s3.2<((List.length s3.1:Nat):Int)) (some (.next ((List.set s3.1 (Int.toNat s3.2) (DSlot.mk (List.getD s3.1 (Int.toNat s3.2) default).Frame (List.getD s3.1 (Int.toNat s3.2) default).Write (!decide ((List.getD x_pages (Int.toNat s3.2) default).Frame=(-1:Int))))),w64 (s3.2+(1:Int)))))))
  (some (.ret (.go s3.1)))
noncomputable def jZ (x_pages:List DSlot):Option (List DSlot):=
 Option.bind (dM x_pages) λv1=>
 Option.bind (Option.bind (iter (gT x_pages) (v1,(0:Int))) LO.val) λj2=>
  JO.run j2 aDd
noncomputable def g67:Sg tG:=⟨[.row 83],.one (.row 83),jZ⟩
theorem s67:Sok 67 g67:=sgx [(89,.r g89)] ⟨s89,trivial⟩ (.s .o (.s .o (.j ⟨[],[],[(.s 3,.ro 83)]⟩ (.s .o (.k (.l ⟨[8,9],[],[(.s 3,.ro 83),(.s 10,.i .i64)]⟩ .o))) .o))) kr kr kr
theorem aHb{x_pages:List DSlot}{R_:(List DSlot)}(hh:jZ x_pages=some R_):Fn Try.prog 67 [bo eN x_pages] (.own 83 3 (List.length R_) (fl eN R_)):=kc (s67 x_pages R_ hh)
theorem aFr:LW 21 ⟨52,[.cell 6 true 2,.tmp 7],.seq (.reg false (rg 21 0)) (.seq (.seq (.reg false (rg 21 1)) (.cond (.t 19) (.seq (.reg false (rg 21 2)) .ret) .skip)) (.seq (.regd (rg 21 3) (rg 21 4)) (.seq (.reg false (rg 21 5)) (.seq (.seq (.reg false (rg 21 6)) (.cond (.t 37) (.seq (.reg false (rg 21 7)) .ret) .skip)) (.seq (.regd (rg 21 8) (rg 21 9)) (.seq (.reg false (rg 21 10)) .ret))))))⟩:=kr
noncomputable def hO (x_h:DHost)(x_g:Int)(x_b:DBare):Option (DHost×Bool):=
 Option.bind (eA x_h x_g) λv1=>
 cond (!v1)
  (some ((DHost.mk ([]:List Int) ([]:List DGuest)),false))
  (Option.bind (lV x_b) λv2=>
  cond (!v2)
   (some ((DHost.mk ([]:List Int) ([]:List DGuest)),false))
   (Option.bind (eK x_h.Guests x_g (DGuest.mk false (DCore.mk ([]:List Int) (0:Int) (0:Int) (0:Int) (0:Int) false (0:Int) (0:Int) (0:Int) false false false false) ([]:List DSlot) ([]:List Int) ([]:List Int))) λv3=>
   Option.bind (eE (DHost.mk x_h.Words v3) x_g x_b) λv4=>
   cond (!v4.2)
    (some ((DHost.mk ([]:List Int) ([]:List DGuest)),false))
    (grd ((0:Int)<=x_g/\x_g<((List.length v4.1.Guests:Nat):Int)) (Option.bind (jZ (List.getD v4.1.Guests (Int.toNat x_g) default).Pages) λv5=>
     grd ((0:Int)<=x_g/\x_g<((List.length v4.1.Guests:Nat):Int)) (some ((DHost.mk v4.1.Words (List.set v4.1.Guests (Int.toNat x_g) (DGuest.mk (List.getD v4.1.Guests (Int.toNat x_g) default).Live (DCore.mk ((List.getD v4.1.Guests (Int.toNat x_g) default).C).Regs ((List.getD v4.1.Guests (Int.toNat x_g) default).C).Pc ((List.getD v4.1.Guests (Int.toNat x_g) default).C).Root ((List.getD v4.1.Guests (Int.toNat x_g) default).C).Vector ((List.getD v4.1.Guests (Int.toNat x_g) default).C).Saved ((List.getD v4.1.Guests (Int.toNat x_g) default).C).SavedUser ((List.getD v4.1.Guests (Int.toNat x_g) default).C).Cause ((List.getD v4.1.Guests (Int.toNat x_g) default).C).Bad ((List.getD v4.1.Guests (Int.toNat x_g) default).C).Timer ((List.getD v4.1.Guests (Int.toNat x_g) default).C).Waits ((List.getD v4.1.Guests (Int.toNat x_g) default).C).User ((List.getD v4.1.Guests (Int.toNat x_g) default).C).On ((List.getD v4.1.Guests (Int.toNat x_g) default).C).Stopped) v5 (List.getD v4.1.Guests (Int.toNat x_g) default).In (List.getD v4.1.Guests (Int.toNat x_g) default).Out))),true))))))
theorem aGm{x_h:DHost}{x_g:Int}{x_b:DBare}{R_:DHost×Bool}(hh:hO x_h x_g x_b=some R_):Fn Try.prog 21 [.agg (rB x_h),.int .i64 x_g,.agg (nI x_b)] (.tup [.agg [.own 3 1 (List.length R_.1.Words) (fl (eI .i64) R_.1.Words),.own 80 17 (List.length R_.1.Guests) (fl kI R_.1.Guests)],.bool R_.2]):=by let z3:EH:=(0,some (rB26 x_h));let z4:=(1,ii x_g);let z5:EH:=(1,some (rB36 x_b));let z6:EH:=(2,some ⟨26,[.nil,.nil]⟩);let z7:=(22,bo (eI .i64) x_h.Words);let z8:EV:=(26,.agg (bb false:: .nil::mT [.nil,.nil,.nil]));let z9:=(3,pp 0);let z10:EV:=(45,.ptr 10 [] (0+(Int.toNat x_g)*17));let z11:EV:=(46,.ptr 10 [] (0+(Int.toNat x_g)*17+14));let z12:=(5,pp 1);let z13:=(6,pp 2);let z14:=(9,pp 11);unfold hO at hh;refine Fn.start aFr [0,1,2] (E:=sp 52 [(0,.agg (rB x_h)),z4,(2,.agg (nI x_b))]) kr (v:= .tup [.agg [sw 0 R_.1.Words,.sref 1 [] 0 (List.length R_.1.Guests) 17],bb R_.2]) (Hr:=[(1,some (rO80 R_.1.Guests)),(0,some (rI_3 R_.1.Words))]) (k:=2) kr (sy [1,3,5,6] [0,1,2] (sp 52 [z4,z9,z12,z13]) [z3,z5,z6] 3 (Aw.seq (Aw.sreg [1,3,5,6,19] [0,1,2] (yj 2  (sp 52 [z4,z9,z12,z13,(11,.agg (rB x_h)),(12,ii x_g)]) [z3,z5,z6] 3 ?_))));obtain⟨v1,hv1,hh⟩:=bind_some hh;refine ys (.call 42 [.t 11,.t 12]) (some 13) (sJ (r:=bb v1) (v:=bb v1) (Hr:=[]) (n':=3) (aHu hv1) (xD (vs:=[.agg (rB x_h),ii x_g]) kr (kA (aC (aDm (aLj _))) (cz1 pM))) rfl rfl kr ?_);refine yu 2 [(13,bb v1),(14,bb (!v1)),(15,bb (!v1))] [z3,z5,z6] 3 ?_;rcases xQ hh with⟨hb,hh⟩|⟨hb,hh⟩;{refine yb 14 hb (yb 15 hb (yt (sp 52 [z4,z9,z12,z13,(19,bb true)]) [z3,z5,z6] 3 (cT rfl (sy [6,7] [2] (sp 52 [z13,(7,bb false)]) [z6] 3 (Aw.ret (aQp ?_))))));rw[cA hh];exact sK (r':= .tup [.agg [.nil,.nil],bb false]) kr (Ent.list [none,none] rfl rfl (Nat.zero_le _) (nT (kV rz)) (aFc dd rfl rfl (aFc dd rfl rfl cP)))};refine yb 14 hb (yb 15 hb (yu 1 [(14,bb false),(15,bb false),(16,.agg (nI x_b))] [z3,z5,z6] 3 ?_));obtain⟨v2,hv2,hh⟩:=bind_some hh;refine yg (.call 64 [.t 16]) (some 17) 15 false (sJ (r:=bb v2) (v:=bb v2) (Hr:=[]) (n':=3) (aKm hv2) (xD (vs:=[.agg (nI x_b)]) kr (kA (aC (aDm (aEp _))) pM)) rfl rfl kr ?_);refine yt (sp 52 [z4,z9,z12,z13,(19,bb (!v2))]) [z3,z5,z6] 3 ?_;rcases xQ hh with⟨hb,hh⟩|⟨hb,hh⟩;{refine cT hb (sy [6,7] [2] (sp 52 [z13,(7,bb false)]) [z6] 3 (Aw.ret (aQp ?_)));rw[cA hh];exact sK (r':= .tup [.agg [.nil,.nil],bb false]) kr (Ent.list [none,none] rfl rfl (Nat.zero_le _) (nT (kV rz)) (aFc dd rfl rfl (aFc dd rfl rfl cP)))};refine cF hb (Aw.xskip (λ_ _ _ hq=>aIn hq) (Aw.sregd [1,5,6,8] [1,2,7,8] [3,4,5,6] kr (dj 6 (sp 52 [z4,z9,z12,z13,(19,bb (!v2)),(21,pp 0),z7,(23,.ptr 0 [] 1),(24,bo lN x_h.Guests),(25,ii x_g),z8]) [z3,z5,z6] 3 ?_)));obtain⟨v3,hv3,hh⟩:=bind_some hh;let z15:EH:=(7,some (rO80 v3));refine ds (.call 65 [.t 24,.t 25,.t 26]) (some 27) (aWh rfl (bCk (args:=[bo lN x_h.Guests,ii x_g,.agg (bb false:: .nil::mT [.nil,.nil,.nil])]) (args2:=[bo lN x_h.Guests,ii x_g,.agg (bb false:: .sref 3 [] 0 0 1::mT [.sref 4 [] 0 0 3,.sref 5 [] 0 0 1,.sref 6 [] 0 0 1])]) kr (Ent.trans (Ent.nils (n:=6) (e:=3) (xs2:=[bo lN x_h.Guests,ii x_g,.agg (bb false:: .sref 3 [] 0 0 1::mT [.sref 4 [] 0 0 3,.sref 5 [] 0 0 1,.sref 6 [] 0 0 1])]) (aV (.same _) (aV (.same _) (aV (.agg _ _ (aV (.same _) (aV (.same _) (aV (.same _) (aV (.same _) (aV (.same _) (aV (.same _) (aV (.same _) (aV (.same _) (aV (.same _) (aV (.same _) (aV (.same _) (aV (.same _) (aV (.same _) (aV (.same _) (aV (.same _) (aV (.same _) (aV (.nil _) aCi)))))))))))))))))) aCi)))) (Ent.trans (Ent.nils (n:=5) (e:=3) (xs2:=[bo lN x_h.Guests,ii x_g,.agg (bb false:: .sref 3 [] 0 0 1::mT [.sref 4 [] 0 0 3,.sref 5 [] 0 0 1,.nil])]) (aV (.same _) (aV (.same _) (aV (.agg _ _ (aV (.same _) (aV (.same _) (aV (.same _) (aV (.same _) (aV (.same _) (aV (.same _) (aV (.same _) (aV (.same _) (aV (.same _) (aV (.same _) (aV (.same _) (aV (.same _) (aV (.same _) (aV (.same _) (aV (.same _) (aV (.nil _) (aV (.same _) aCi)))))))))))))))))) aCi)))) (Ent.trans (Ent.nils (n:=4) (e:=83) (xs2:=[bo lN x_h.Guests,ii x_g,.agg (bb false:: .sref 3 [] 0 0 1::mT [.sref 4 [] 0 0 3,.nil,.nil])]) (aV (.same _) (aV (.same _) (aV (.agg _ _ (aV (.same _) (aV (.same _) (aV (.same _) (aV (.same _) (aV (.same _) (aV (.same _) (aV (.same _) (aV (.same _) (aV (.same _) (aV (.same _) (aV (.same _) (aV (.same _) (aV (.same _) (aV (.same _) (aV (.nil _) (aV (.same _) (aV (.same _) aCi)))))))))))))))))) aCi)))) (Ent.nils (n:=3) (e:=3) (xs2:=[bo lN x_h.Guests,ii x_g,.agg (bb false:: .sref 3 [] 0 0 1::mT [.nil,.nil,.nil])]) (aV (.same _) (aV (.same _) (aV (.agg _ _ (aV (.same _) (aV (.nil _) (aV (.same _) (aV (.same _) (aV (.same _) (aV (.same _) (aV (.same _) (aV (.same _) (aV (.same _) (aV (.same _) (aV (.same _) (aV (.same _) (aV (.same _) (aV (.same _) (aV (.same _) (aV (.same _) (aV (.same _) aCi)))))))))))))))))) aCi))))))) (Inl.frameB (v':= .sref 7 [] 0 (List.length v3) 17) (Hp':=[z15]) (n':=8) [3,4,5,6] (aFp hv3) rfl rfl rfl rz rfl (hq ⟨3,[]⟩ (aN rfl) (hq ⟨3,[]⟩ (aN rfl) (hq ⟨83,[]⟩ (aN rfl) (hq ⟨3,[]⟩ (aN rfl) cP)))) tA rfl (hn nY cP) rfl) ⟨⟨⟨by decide,bFm (A:=[z15,(3,none),(4,none),(5,none),(6,none),(6,some ⟨3,[]⟩),(5,some ⟨3,[]⟩),(4,some ⟨83,[]⟩),(3,some ⟨3,[]⟩)]) kr kr⟩,Hld.un ?_⟩⟩));refine dt (sp 52 [z4,z9,z12,z13,(8,pp 8),(19,bb (!v2)),(21,pp 0),z7,(23,.ptr 0 [] 1),(24,bo lN x_h.Guests),(25,ii x_g),z8,(27,.sref 7 [] 0 (List.length v3) 17),(28,.agg [bo (eI .i64) x_h.Words,.sref 7 [] 0 (List.length v3) 17])]) [(8,some ⟨26,[.nil,.nil]⟩),z15,(3,none),(4,none),(5,none),(6,none),(6,some ⟨3,[]⟩),(5,some ⟨3,[]⟩),(4,some ⟨83,[]⟩),(3,some ⟨3,[]⟩),z3,z5,z6] 9 ?_;let q1:Root:=⟨26,[bo (eI .i64) x_h.Words,.sref 7 [] 0 (List.length v3) 17]⟩;refine yt (sp 52 [z4,z12,z13,(8,pp 8)]) [z5,z6,z15,(8,some q1)] 9 (Aw.sreg [1,6,9,10] [2,9,10,11] (yu 3 [(30,.agg [bo (eI .i64) x_h.Words,.sref 7 [] 0 (List.length v3) 17]),(31,ii x_g),(32,.agg (nI x_b))] [z5,z6,z15,(8,some q1)] 9 ?_));obtain⟨v4,hv4,hh⟩:=bind_some hh;let z16:=(37,bb (!v4.2));let z17:EV:=(40,.sref 10 [] 0 (List.length v4.1.Guests) 17);let z18:EV:=(43,.sref 10 [] 0 (List.length v4.1.Guests) 17);let z1:=List.getD v4.1.Guests (Int.toNat x_g) default;let z19:EV:=(47,.sref 10 [0+(Int.toNat x_g)*17+14+0] 0 (List.length z1.Pages) 3);let q2:Root:=(rO80 v4.1.Guests);let z20:=(10,some q2);let q3:Root:=(rI_3 v4.1.Words);let z21:=(9,some q3);refine ys (.call 66 [.t 30,.t 31,.t 32]) (some 33) (sJ (r:= .tup [.agg [.own 3 1 (List.length v4.1.Words) (fl (eI .i64) v4.1.Words),.own 80 17 (List.length v4.1.Guests) (fl kI v4.1.Guests)],bb v4.2]) (v:= .tup [.agg [sw 9 v4.1.Words,.sref 10 [] 0 (List.length v4.1.Guests) 17],bb v4.2]) (Hr:=[z20,z21]) (n':=11) (aBn hv4) (xD (vs:=[.agg [bo (eI .i64) x_h.Words,.sref 7 [] 0 (List.length v3) 17],ii x_g,.agg (nI x_b)]) kr (kA (bGn (aG (aC (tV (bN cE))) (aG (aUk (B:=lN) (xs:=v3) (e:=80) aVh wR eqn kr) sR))) (cz1 (kA (aC (aDm (aEp _))) pM)))) nrr nrr kr ?_);let q4:Root:=⟨26,[sw 9 v4.1.Words,.sref 10 [] 0 (List.length v4.1.Guests) 17]⟩;let z22:=(11,some q4);refine yt (sp 52 [z4,z13,z14,(10,bb v4.2)]) [z6,z21,z20,z22] 12 (Aw.seq (sy [1,6,9,37] [2,9,10,11] (sp 52 [z4,z13,z14,z16]) [z6,z21,z20,z22] 12 ?_));rcases xQ hh with⟨hb,hh⟩|⟨hb,hh⟩;{refine cT hb (sy [6,7] [2] (sp 52 [z13,(7,bb false)]) [z6] 12 (Aw.ret (aQp ?_)));rw[cA hh];exact sK (r':= .tup [.agg [.nil,.nil],bb false]) kr (Ent.list [none,none] rfl rfl (Nat.zero_le _) (nT (kV rz)) (aFc dd rfl rfl (aFc dd rfl rfl cP)))};refine cF hb (Aw.xskip (λ_ _ _ hq=>aIn hq) (Aw.sregd [6,9] [2,9,10,11,12] [] kr ?_));obtain⟨hg4,hh⟩:=bJ hh;refine dc (cs:=[(0:Int)<=x_g/\x_g<((List.length v4.1.Guests:Nat):Int)]) (E':=(sp 52 [z4,z13,z14,z16,(39,.ptr 11 [] 1),z17,(41,ii x_g),(42,.ptr 11 [] 1),z18,(44,ii x_g),z10,z11])) (H':=[z6,z21,z20,z22]) (n':=12) (fs':=none) (pre:=(List.take 8 (rg 21 8))) (L':=(List.drop 8 (rg 21 8))) kr (λK=>by kernel_rfl) (.cons hg4 .nil) (ds (.load false 1 (.t 46)) (some 47) (bKm rfl kr (bGe (c:=kI) (xs:=v4.1.Guests) (e:=80) (r:=10) (π:=[]) (o:=0+(Int.toNat x_g)*17+14) (i:=(Int.toNat x_g)) (off:=14) (v:= .sref 10 [0+(Int.toNat x_g)*17+14+0] 0 (List.length z1.Pages) 3) wR kr kr ltn ltn dd kr ?_)));obtain⟨v5,hv5,hh⟩:=bind_some hh;let z23:EH:=(12,some (rC83 v5));let z24:EV:=(48,.sref 12 [] 0 (List.length v5) 3);let z2:=DGuest.mk z1.Live z1.C v5 z1.In z1.Out;refine ds (.call 67 [.t 47]) (some 48) (aWh rfl (sJ (r:= .own 83 3 (List.length v5) (fl eN v5)) (v:= .sref 12 [] 0 (List.length v5) 3) (Hr:=[z23]) (n':=13) (aHb hv5) (xD (vs:=[.sref 10 [0+(Int.toNat x_g)*17+14+0] 0 (List.length z1.Pages) 3]) kr (kA (cV (c:=eN) (xs:=z1.Pages) (e:=83) eqn pP yZ yK (aEf (e:=80) (e':=83) (sz':=3) (m':=(List.length z1.Pages)) (cs':=(fl eN z1.Pages)) (c:=kI) (xs:=v4.1.Guests) (i:=(Int.toNat x_g)) (off:=14) wR kr ltn ltn dd rfl kr)) pM)) nrr nrr kr ⟨⟨⟨by decide,aRt (n:=12) (n0:=12) (r:= .own 83 3 (List.length v5) (fl eN v5)) (v:= .sref 12 [] 0 (List.length v5) 3) (Hr:=[z23]) (n':=13) kr dd⟩,Hld.un ?_⟩⟩));refine dt (sp 52 [z4,z13,z14,z16,(39,.ptr 11 [] 1),z17,(41,ii x_g),(42,.ptr 11 [] 1),z18,(44,ii x_g),z10,z11,z19,z24]) [z23,z6,z21,z20,z22] 13 ?_;obtain⟨hg3,hh⟩:=bJ hh;refine yjc 2 [(0:Int)<=x_g/\x_g<((List.length v4.1.Guests:Nat):Int)] (sp 52 [z4,z13,z14,z16,(39,.ptr 11 [] 1),z17,(41,ii x_g),(42,.ptr 11 [] 1),z18,(44,ii x_g),z10,z11,z19,z24,(49,.ptr 10 [] (0+(Int.toNat x_g)*17)),(50,.ptr 10 [] (0+(Int.toNat x_g)*17+14))]) [z23,z6,z21,z20,z22] 13 (.cons hg3 .nil) (ys (.store 1 (.t 50) (.t 48)) none (bAf (c:=kI) (xs:=v4.1.Guests) (e:=80) (r:=10) (o:=0+(Int.toNat x_g)*17+14) (i:=(Int.toNat x_g)) (off:=14) (vs:=[.sref 12 [] 0 (List.length v5) 3]) wR kr kr kr kr ltn ltn dd ?_));refine yt (sp 52 [z13,z14]) [z6,z21,(10,some ⟨80,aR (fl kI v4.1.Guests) (0+(Int.toNat x_g)*17+14) [.sref 12 [] 0 (List.length v5) 3]⟩),z22,z23] 13 ?_;let q5:Root:=⟨26,[sw 9 v4.1.Words,.sref 13 [] 0 (List.length v4.1.Guests) 17]⟩;refine Aw.ent (Ent.foldP (c:=kI) (xs:=v4.1.Guests) (i:=(Int.toNat x_g)) (off:=14) (o:=0+(Int.toNat x_g)*17+14) (y:=z2) (R:=10) (e:=80) (us2:=sp 52 [z13,z14]) (H2:=[z6,z21,(11,some q5)]) (L:=[some (some 12)]) (ws:=[.own 83 3 (List.length v5) (fl eN v5)]) wR kr ltn ltn (Nat.le_of_ble_eq_true rfl) kr (bJz kr eqn aXt) (by rfl) (by rfl) (aQx kr (aNj (u:=pp 2) kr (.same _) (aNj (u:=pp 11) kr (.same _) aWo))) (aGs (t:=⟨26,[.nil,.nil]⟩) rfl kr rfl aBl (aGs (t:=q3) rfl kr rfl aBl (aGs (t:=q4) rfl kr rfl (aFg (.same _) (aFg (.sref _ _ _ _ eqn) aXc)) bEr)))) (Aw.sreg [6,7] [2,9,13] ?_);let q6:Root:=(rO80 (List.set v4.1.Guests (Int.toNat x_g) z2));refine yt (sp 52 [z13,(7,bb true)]) [(2,some q5),z21,(13,some q6)] 14 (Aw.ret ?_);rw[cA hh];exact sK (r':= .tup [.agg [sw 9 v4.1.Words,.sref 13 [] 0 (List.length v4.1.Guests) 17],bb true]) kr (Ent.list [some 9,some 13] rfl rfl (Nat.zero_le _) (nT (kV rz)) (hn nY (hn bE cP)))
noncomputable def g21:Sg tG:=⟨[.st 26,.i .i64,.st 36],.two (.st 2026) .b,hO⟩
theorem s21:Sok 21 g21:=λx_h x_g x_b R_ hh=>kc (aGm (x_h:=x_h) (x_g:=x_g) (x_b:=x_b) hh)
noncomputable def tD (x_g:Int)(x_b:DBare)(v3:DHost×Bool)(v5:DCore)(s6:(List Int)×(List DSlot)):Option (DHost×Bool):=grd ((0:Int)<=x_g/\x_g<((List.length v3.1.Guests:Nat):Int)) (some ((DHost.mk s6.1 (List.set v3.1.Guests (Int.toNat x_g) (DGuest.mk true v5 s6.2 x_b.In x_b.Out))),true))
noncomputable def nR (s7:(List Int)×(List Int)×(List DSlot)×Int)(s8:(List Int)×(List Int)×(List DSlot)):Option (LO ((List Int)×(List Int)×(List DSlot)×Int) (JO ((List Int)×(List DSlot)) (DHost×Bool))):=some (.next (s8.1,s8.2.1,s8.2.2,w64 (s7.2.2.2+(1:Int))))
noncomputable def tX (x_b:DBare)(s7:(List Int)×(List Int)×(List DSlot)×Int)(s9:Bool):Option (JO ((List Int)×(List Int)×(List DSlot)) (LO ((List Int)×(List Int)×(List DSlot)×Int) (JO ((List Int)×(List DSlot)) (DHost×Bool)))):=
 cond s9
  (grd ((List.length s7.2.2.1+List.length ([DSlot.mk (-1:Int) false false]:List DSlot))*16<=2^47/\List.length s7.2.2.1+List.length ([DSlot.mk (-1:Int) false false]:List DSlot)<=2^47) (some (.go (s7.1,s7.2.1,s7.2.2.1++([DSlot.mk (-1:Int) false false]:List DSlot)))))
  (cond (decide (((List.length s7.2.1:Nat):Int)=(0:Int)))
   (some (.out (.ret (.out ((DHost.mk ([]:List Int) ([]:List DGuest)),false)))))
   (grd ((0:Int)<=(0:Int)/\(0:Int)<((List.length s7.2.1:Nat):Int)) (grd ((0:Int)<=(w64 ((List.getD s7.2.1 (Int.toNat (0:Int)) default)*(8:Int)))/\(w64 ((List.getD s7.2.1 (Int.toNat (0:Int)) default)*(8:Int)))<=((List.length s7.1:Nat):Int)/\((List.length s7.1:Nat):Int)<=((List.length s7.1:Nat):Int)) (grd ((0:Int)<=(0:Int)/\(0:Int)<((List.length s7.2.1:Nat):Int)) (grd ((List.length s7.2.2.1+List.length ([DSlot.mk (List.getD s7.2.1 (Int.toNat (0:Int)) default) true true]:List DSlot))*16<=2^47/\List.length s7.2.2.1+List.length ([DSlot.mk (List.getD s7.2.1 (Int.toNat (0:Int)) default) true true]:List DSlot)<=2^47) (grd ((0:Int)<=(1:Int)/\(1:Int)<=((List.length s7.2.1:Nat):Int)/\((List.length s7.2.1:Nat):Int)<=((List.length s7.2.1:Nat):Int)) (some (.go ((over s7.1 (Int.toNat (w64 ((List.getD s7.2.1 (Int.toNat (0:Int)) default)*(8:Int)))) (Int.toNat ((List.length s7.1:Nat):Int)-Int.toNat (w64 ((List.getD s7.2.1 (Int.toNat (0:Int)) default)*(8:Int)))) (List.take (Int.toNat (w64 ((w64 (s7.2.2.2+(1:Int)))*(8:Int)))-Int.toNat (w64 (s7.2.2.2*(8:Int)))) (List.drop (Int.toNat (w64 (s7.2.2.2*(8:Int)))) x_b.Mem))),List.take (Int.toNat ((List.length s7.2.1:Nat):Int)-Int.toNat (1:Int)) (List.drop (Int.toNat (1:Int)) s7.2.1),s7.2.2.1++([DSlot.mk (List.getD s7.2.1 (Int.toNat (0:Int)) default) true true]:List DSlot))))))))))
noncomputable def mJ (s10:Bool×Int)(s11:Bool):Option (LO (Bool×Int) (JO Bool (JO ((List Int)×(List Int)×(List DSlot)) (LO ((List Int)×(List Int)×(List DSlot)×Int) (JO ((List Int)×(List DSlot)) (DHost×Bool)))))):=some (.next (s11,w64 (s10.2+(1:Int))))
noncomputable def fM (x_b:DBare)(s7:(List Int)×(List Int)×(List DSlot)×Int)(s10:Bool×Int):Option (LO (Bool×Int) (JO Bool (JO ((List Int)×(List Int)×(List DSlot)) (LO ((List Int)×(List Int)×(List DSlot)×Int) (JO ((List Int)×(List DSlot)) (DHost×Bool)))))):=
 cond (decide (s10.2<(8:Int)))
  (Option.bind (cond s10.1
   (grd ((0:Int)<=s10.2/\s10.2<((List.length (List.take (Int.toNat (w64 ((w64 (s7.2.2.2+(1:Int)))*(8:Int)))-Int.toNat (w64 (s7.2.2.2*(8:Int)))) (List.drop (Int.toNat (w64 (s7.2.2.2*(8:Int)))) x_b.Mem)):Nat):Int)) (some (.go (decide ((List.getD (List.take (Int.toNat (w64 ((w64 (s7.2.2.2+(1:Int)))*(8:Int)))-Int.toNat (w64 (s7.2.2.2*(8:Int)))) (List.drop (Int.toNat (w64 (s7.2.2.2*(8:Int)))) x_b.Mem)) (Int.toNat s10.2) default)=(0:Int))))))
   (some (.go false))) λj11=>
   JO.run j11 (mJ s10))
  (some (.ret (.go s10.1)))
noncomputable def gL (x_b:DBare)(s7:(List Int)×(List Int)×(List DSlot)×Int):Option (LO ((List Int)×(List Int)×(List DSlot)×Int) (JO ((List Int)×(List DSlot)) (DHost×Bool))):=
 cond (decide (s7.2.2.2<(8:Int)))
  (Option.bind (grd ((0:Int)<=(w64 (s7.2.2.2*(8:Int)))/\(w64 (s7.2.2.2*(8:Int)))<=(w64 ((w64 (s7.2.2.2+(1:Int)))*(8:Int)))/\(w64 ((w64 (s7.2.2.2+(1:Int)))*(8:Int)))<=((List.length x_b.Mem:Nat):Int)) (Option.bind (Option.bind (iter (fM x_b s7) (true,(0:Int))) LO.val) λj9=>
   JO.run j9 (tX x_b s7))) λj8=>
   JO.run j8 (nR s7))
  (some (.ret (.go (s7.1,s7.2.2.1))))
noncomputable def mP (x_h:DHost)(x_g:Int)(x_b:DBare):Option (DHost×Bool):=
 Option.bind (fE x_h x_g) λv1=>
 cond (!v1)
  (some ((DHost.mk ([]:List Int) ([]:List DGuest)),false))
  (Option.bind (lQ x_b) λv2=>
  cond (!v2)
   (some ((DHost.mk ([]:List Int) ([]:List DGuest)),false))
   (Option.bind (mL x_h x_g) λv3=>
   cond (!v3.2)
    (some ((DHost.mk ([]:List Int) ([]:List DGuest)),false))
    (Option.bind (gX v3.1) λv4=>
    Option.bind (fD x_b.C) λv5=>
    grd (List.length x_b.In*8<=2^47/\List.length x_b.In<=2^47) (grd (List.length x_b.Out*8<=2^47/\List.length x_b.Out<=2^47) (Option.bind (Option.bind (iter (gL x_b) (v3.1.Words,v4,([]:List DSlot),(0:Int))) LO.val) λj6=>
     JO.run j6 (tD x_g x_b v3 v5))))))
noncomputable def g22:Sg tG:=⟨[.st 26,.i .i64,.st 36],.two (.st 2026) .b,mP⟩
theorem s22:Sok 22 g22:=sgx [(48,.r g48),(68,.r g68),(69,.r g69),(70,.r g70),(71,.r g71)] ⟨s48,s68,s69,s70,s71,trivial⟩ (.s .o (.s .o (.s .o (.s .o (.s .o (.s (.g [.fr (.s 10) 0] [] []) (.j ⟨[1,6,8,11],[],[(.c 8 0,.ro 3),(.c 11 14,.ro 83)]⟩ (.s .o (.k (.l ⟨[1,5,6,8,11],[],[(.c 8 0,.ro 3),(.s 10,.rb 3),(.c 11 14,.ro 83),(.s 12,.i .i64)]⟩ (.s .o (.j ⟨[1,5,6,8,11,12],[],[(.c 8 0,.ro 3),(.s 10,.rb 3),(.c 11 14,.ro 83)]⟩ (.k (.s .o (.s .o (.j ⟨[1,5,6,8,10,11,12,13],[],[(.s 14,.b)]⟩ (.s .o (.k (.l ⟨[1,5,6,8,10,11,12,13],[],[(.s 14,.b),(.s 15,.i .i64)]⟩ (.s .o (.j ⟨[1,5,6,8,10,11,12,13,15],[],[(.s 14,.b)]⟩ .o .o))))) .o)))) .o))))) (.s (.g [] [] [.fo (.c 8 1) 0]) .o)))))))) kr kr kr
noncomputable def yG (v2:Dl20Rd×DHost)(v3:Dl20Rd×Int)(s5:(List Int)×Int×Int×Int×Int×Bool×Int×Int×Int×Bool×Bool×Bool×Bool×(List Int)×(List Int)×(List Int)):Option (DHost×Int×DBare):=some (v2.2,v3.2,DBare.mk (DCore.mk s5.1 s5.2.1 s5.2.2.1 s5.2.2.2.1 s5.2.2.2.2.1 s5.2.2.2.2.2.1 s5.2.2.2.2.2.2.1 s5.2.2.2.2.2.2.2.1 s5.2.2.2.2.2.2.2.2.1 s5.2.2.2.2.2.2.2.2.2.1 s5.2.2.2.2.2.2.2.2.2.2.1 s5.2.2.2.2.2.2.2.2.2.2.2.1 s5.2.2.2.2.2.2.2.2.2.2.2.2.1) s5.2.2.2.2.2.2.2.2.2.2.2.2.2.1 s5.2.2.2.2.2.2.2.2.2.2.2.2.2.2.1 s5.2.2.2.2.2.2.2.2.2.2.2.2.2.2.2)
noncomputable def jN (x_code:List Int):Option (DHost×Int×DBare):=
 Option.bind (eQ x_code) λv1=>
 Option.bind (kP v1) λv2=>
 Option.bind (kW v2.1 v2.2) λv3=>
 Option.bind (mU v2.2 v3.2) λv4=>
 Option.bind (cond (!v4.2)
  (Option.bind (jA v3.1 (9:Int)) λv6=>
  some (.go (v6.2.C.Regs,v6.2.C.Pc,v6.2.C.Root,v6.2.C.Vector,v6.2.C.Saved,v6.2.C.SavedUser,v6.2.C.Cause,v6.2.C.Bad,v6.2.C.Timer,v6.2.C.Waits,v6.2.C.User,v6.2.C.On,v6.2.C.Stopped,v6.2.Mem,v6.2.In,v6.2.Out)))
  (Option.bind (aA v3.1 (3:Int)) λv7=>
  cond (decide (v7.2=(0:Int)))
   (Option.bind (jA v7.1 (9:Int)) λv8=>
   some (.go (v8.2.C.Regs,v8.2.C.Pc,v8.2.C.Root,v8.2.C.Vector,v8.2.C.Saved,v8.2.C.SavedUser,v8.2.C.Cause,v8.2.C.Bad,v8.2.C.Timer,v8.2.C.Waits,v8.2.C.User,v8.2.C.On,v8.2.C.Stopped,v8.2.Mem,v8.2.In,v8.2.Out)))
   (some (.go (v4.1.C.Regs,v4.1.C.Pc,v4.1.C.Root,v4.1.C.Vector,v4.1.C.Saved,v4.1.C.SavedUser,v4.1.C.Cause,v4.1.C.Bad,v4.1.C.Timer,v4.1.C.Waits,v4.1.C.User,v4.1.C.On,v4.1.C.Stopped,v4.1.Mem,v4.1.In,v4.1.Out))))) λj5=>
  JO.run j5 (yG v2 v3)
noncomputable def g20:Sg tG:=⟨[.row 5],.three (.sb 26) (.i .i64) (.sb 36),jN⟩
theorem s20:Sok 20 g20:=sgx [(39,.o g39),(60,.w g60),(41,.w g41),(61,.r g61),(62,.w g62),(63,.w g63)] ⟨s39,s60,s41,s61,s62,s63,trivial⟩ (.s .o (.s .o (.s .o (.s (.g [.fr (.c 6 0) 0,.fr (.c 6 1) 0] [] []) (.s .o (.j ⟨[2,4,6,7,8],[],[(.c 8 0,.ro 3),(.c 8 1,.i .i64),(.c 8 2,.i .i64),(.c 8 3,.i .i64),(.c 8 4,.i .i64),(.c 8 5,.b),(.c 8 6,.i .i64),(.c 8 7,.i .i64),(.c 8 8,.i .i64),(.c 8 9,.b),(.c 8 10,.b),(.c 8 11,.b),(.c 8 12,.b),(.c 8 13,.ro 3),(.c 8 14,.ro 3),(.c 8 15,.ro 3)]⟩ .o (.s (.m [0]) .o))))))) kr kr kr
noncomputable def iK (x_code:List Int):Option Bool:=
 cond (decide ((1048576:Int)<((List.length x_code:Nat):Int)))
  (some true)
  (Option.bind (jN x_code) λv1=>
  Option.bind (hO v1.1 v1.2.1 v1.2.2) λv2=>
  Option.bind (mP v1.1 v1.2.1 v1.2.2) λv3=>
  cond (!(v2.2==v3.2))
   (some false)
   (Option.bind (gZ v2.1 v3.1) λv4=>
   cond (!v4)
    (some false)
    (cond (!v2.2)
     (Option.bind eV  λv5=>
     some v5)
     (Option.bind (cS v2.1 v1.2.1) λv6=>
     Option.bind (fB v2.1) λv7=>
     cond v7
      (cond v6.2
       (Option.bind (hG v6.1 v1.2.2) λv8=>
       cond v8
        (Option.bind (fR v1.1 v2.1 v1.2.1) λv9=>
        some v9)
        (some false))
       (some false))
      (some false)))))
noncomputable def g4:Sg tG:=⟨[.row 5],.one .b,iK⟩
theorem s4:Sok 4 g4:=sgx [(20,.r g20),(21,.r g21),(22,.r g22),(12,.r g12),(13,.r g13),(14,.r g14),(15,.r g15),(16,.r g16),(17,.r g17)] ⟨s20,s21,s22,s12,s13,s14,s15,s16,s17,trivial⟩ .o kr kr kr
theorem aDf{x_code:List Int}{R_:Bool}(hh:iK x_code=some R_):Fn Try.prog 4 [bo (eI .u8) x_code] (.bool R_):=kc (s4 x_code R_ hh)
noncomputable def aFn  (s1:Unit):Option Bool:=some true
noncomputable def iL (x_pages:List Int)(s2:Int):Option (LO Int (JO Unit Bool)):=
 cond (decide (s2<((List.length x_pages:Nat):Int)))
  (grd ((0:Int)<=s2/\s2<((List.length x_pages:Nat):Int)) (Option.bind (lZ (List.getD x_pages (Int.toNat s2) default)) λv3=>
   cond (!v3)
    (some (.ret (.out false)))
    (some (.next (w64 (s2+(1:Int)))))))
  (some (.ret (.go ())))
noncomputable def oK (x_pages:List Int):Option Bool:=
 Option.bind (Option.bind (iter (iL x_pages) (0:Int)) LO.val) λj1=>
  JO.run j1 aFn
noncomputable def g72:Sg tG:=⟨[.row 3],.one .b,oK⟩
theorem s72:Sok 72 g72:=sgx [(108,.r bEd)] ⟨bIf,trivial⟩ (.s .o (.j ⟨[],[],[]⟩ (.s .o (.k (.l ⟨[5,6],[],[(.s 7,.i .i64)]⟩ .o))) .o)) kr kr kr
noncomputable def aDa (v3:DHost)(s4:List DGuest):Option (DHost×Bool):=some ((DHost.mk v3.Words s4),true)
noncomputable def gD (x_g:Int)(x_pages:List Int)(s5:(List DGuest)×Int):Option (LO ((List DGuest)×Int) (JO (List DGuest) (DHost×Bool))):=
 cond (decide (s5.2<((List.length x_pages:Nat):Int)))
  (grd ((0:Int)<=s5.2/\s5.2<((List.length x_pages:Nat):Int)) (grd ((0:Int)<=x_g/\x_g<((List.length s5.1:Nat):Int)) (grd ((0:Int)<=(List.getD x_pages (Int.toNat s5.2) default)/\(List.getD x_pages (Int.toNat s5.2) default)<((List.length (List.getD s5.1 (Int.toNat x_g) default).Pages:Nat):Int)) (some (.next ((List.set s5.1 (Int.toNat x_g) (DGuest.mk (List.getD s5.1 (Int.toNat x_g) default).Live (DCore.mk ((List.getD s5.1 (Int.toNat x_g) default).C).Regs ((List.getD s5.1 (Int.toNat x_g) default).C).Pc ((List.getD s5.1 (Int.toNat x_g) default).C).Root ((List.getD s5.1 (Int.toNat x_g) default).C).Vector ((List.getD s5.1 (Int.toNat x_g) default).C).Saved ((List.getD s5.1 (Int.toNat x_g) default).C).SavedUser ((List.getD s5.1 (Int.toNat x_g) default).C).Cause ((List.getD s5.1 (Int.toNat x_g) default).C).Bad ((List.getD s5.1 (Int.toNat x_g) default).C).Timer ((List.getD s5.1 (Int.toNat x_g) default).C).Waits ((List.getD s5.1 (Int.toNat x_g) default).C).User ((List.getD s5.1 (Int.toNat x_g) default).C).On ((List.getD s5.1 (Int.toNat x_g) default).C).Stopped) (List.set (List.getD s5.1 (Int.toNat x_g) default).Pages (Int.toNat (List.getD x_pages (Int.toNat s5.2) default)) (DSlot.mk (-1:Int) false false)) (List.getD s5.1 (Int.toNat x_g) default).In (List.getD s5.1 (Int.toNat x_g) default).Out)),w64 (s5.2+(1:Int))))))))
  (some (.ret (.go s5.1)))
noncomputable def mV (x_h:DHost)(x_g:Int)(x_pages:List Int):Option (DHost×Bool):=
 Option.bind (eA x_h x_g) λv1=>
 cond (!v1)
  (some ((DHost.mk ([]:List Int) ([]:List DGuest)),false))
  (Option.bind (oK x_pages) λv2=>
  cond (!v2)
   (some ((DHost.mk ([]:List Int) ([]:List DGuest)),false))
   (Option.bind (iC x_h) λv3=>
   Option.bind (Option.bind (iter (gD x_g x_pages) (v3.Guests,(0:Int))) LO.val) λj4=>
    JO.run j4 (aDa v3)))
noncomputable def g24:Sg tG:=⟨[.st 26,.i .i64,.row 3],.two (.st 2026) .b,mV⟩
theorem s24:Sok 24 g24:=sgx [(42,.r g42),(72,.r g72),(44,.r g44)] ⟨s42,s72,s44,trivial⟩ (.s .o (.s .o (.s .o (.j ⟨[6,8],[],[(.c 8 1,.ro 1080)]⟩ (.s .o (.k (.l ⟨[1,6,8,23,24],[],[(.c 8 1,.ro 1080),(.s 25,.i .i64)]⟩ .o))) .o)))) kr kr kr
noncomputable def aEe (v2:DHost)(s3:List DGuest):Option (DHost×Bool):=some ((DHost.mk v2.Words s3),true)
noncomputable def gG (x_g:Int)(x_pages:List Int)(s4:(List DGuest)×Int):Option (LO ((List DGuest)×Int) (JO (List DGuest) (DHost×Bool))):=
 cond (decide (s4.2<((List.length x_pages:Nat):Int)))
  (grd ((0:Int)<=s4.2/\s4.2<((List.length x_pages:Nat):Int)) (Option.bind (bX (List.getD x_pages (Int.toNat s4.2) default) (0:Int) (7:Int)) λv5=>
   cond (!v5)
    (some (.ret (.out ((DHost.mk ([]:List Int) ([]:List DGuest)),false))))
    (grd ((0:Int)<=x_g/\x_g<((List.length s4.1:Nat):Int)) (grd ((0:Int)<=s4.2/\s4.2<((List.length x_pages:Nat):Int)) (grd ((0:Int)<=(List.getD x_pages (Int.toNat s4.2) default)/\(List.getD x_pages (Int.toNat s4.2) default)<((List.length (List.getD s4.1 (Int.toNat x_g) default).Pages:Nat):Int)) (some (.next ((List.set s4.1 (Int.toNat x_g) (DGuest.mk (List.getD s4.1 (Int.toNat x_g) default).Live (DCore.mk ((List.getD s4.1 (Int.toNat x_g) default).C).Regs ((List.getD s4.1 (Int.toNat x_g) default).C).Pc ((List.getD s4.1 (Int.toNat x_g) default).C).Root ((List.getD s4.1 (Int.toNat x_g) default).C).Vector ((List.getD s4.1 (Int.toNat x_g) default).C).Saved ((List.getD s4.1 (Int.toNat x_g) default).C).SavedUser ((List.getD s4.1 (Int.toNat x_g) default).C).Cause ((List.getD s4.1 (Int.toNat x_g) default).C).Bad ((List.getD s4.1 (Int.toNat x_g) default).C).Timer ((List.getD s4.1 (Int.toNat x_g) default).C).Waits ((List.getD s4.1 (Int.toNat x_g) default).C).User ((List.getD s4.1 (Int.toNat x_g) default).C).On ((List.getD s4.1 (Int.toNat x_g) default).C).Stopped) (List.set (List.getD s4.1 (Int.toNat x_g) default).Pages (Int.toNat (List.getD x_pages (Int.toNat s4.2) default)) (DSlot.mk (-1:Int) false false)) (List.getD s4.1 (Int.toNat x_g) default).In (List.getD s4.1 (Int.toNat x_g) default).Out)),w64 (s4.2+(1:Int))))))))))
  (some (.ret (.go s4.1)))
noncomputable def mW (x_h:DHost)(x_g:Int)(x_pages:List Int):Option (DHost×Bool):=
 Option.bind (fE x_h x_g) λv1=>
 cond (!v1)
  (some ((DHost.mk ([]:List Int) ([]:List DGuest)),false))
  (Option.bind (iA x_h) λv2=>
  Option.bind (Option.bind (iter (gG x_g x_pages) (v2.Guests,(0:Int))) LO.val) λj3=>
   JO.run j3 (aEe v2))
noncomputable def g25:Sg tG:=⟨[.st 26,.i .i64,.row 3],.two (.st 2026) .b,mW⟩
theorem s25:Sok 25 g25:=sgx [(48,.r g48),(49,.r g49),(73,.r g73)] ⟨s48,s49,s73,trivial⟩ (.s .o (.s .o (.s .o (.j ⟨[6,8],[],[(.c 8 1,.ro 1080)]⟩ (.s .o (.k (.l ⟨[1,2,6,8],[],[(.c 8 1,.ro 1080),(.s 9,.i .i64)]⟩ .o))) .o)))) kr kr kr
noncomputable def aHd  (s1:Unit):Option Bool:=some false
noncomputable def lJ (x_list:List Int)(x_n:Int)(s2:Int):Option (LO Int (JO Unit Bool)):=
 cond (decide (s2<((List.length x_list:Nat):Int)))
  (grd ((0:Int)<=s2/\s2<((List.length x_list:Nat):Int)) (cond (decide ((List.getD x_list (Int.toNat s2) default)=x_n))
   (some (.ret (.out true)))
   (some (.next (w64 (s2+(1:Int)))))))
  (some (.ret (.go ())))
noncomputable def pJ (x_list:List Int)(x_n:Int):Option Bool:=
 Option.bind (Option.bind (iter (lJ x_list x_n) (0:Int)) LO.val) λj1=>
  JO.run j1 aHd
noncomputable def g26:Sg tG:=⟨[.row 3,.i .i64],.one .b,pJ⟩
theorem s26:Sok 26 g26:=sgx [] trivial (.s .o (.j ⟨[],[],[]⟩ (.s .o (.k (.l ⟨[0,1],[],[(.s 5,.i .i64)]⟩ .o))) .o)) kr kr kr
noncomputable def pF (v2:Dl20Rd×DHost)(s3:(List Int)×Int×(List Int)):Option (DHost×Int×(List Int)):=
 Option.bind (kW (Dl20Rd.mk s3.1 s3.2.1) v2.2) λv4=>
 some (v2.2,v4.2,s3.2.2)
noncomputable def kJ  (s6:(List Int)×Int×(List Int)×Int):Option (LO ((List Int)×Int×(List Int)×Int) (JO ((List Int)×Int×(List Int)) (DHost×Int×(List Int)))):=
 cond (decide ((0:Int)<s6.2.2.2))
  (Option.bind (aA (Dl20Rd.mk s6.1 s6.2.1) (8:Int)) λv7=>
  Option.bind (aA v7.1 (20:Int)) λv8=>
  grd ((List.length s6.2.2.1+List.length ([w64 (v7.2+(w64 (Int.tdiv v8.2 (19:Int))))]:List Int))*8<=2^47/\List.length s6.2.2.1+List.length ([w64 (v7.2+(w64 (Int.tdiv v8.2 (19:Int))))]:List Int)<=2^47) (some (.next (v8.1.b,v8.1.p,s6.2.2.1++([w64 (v7.2+(w64 (Int.tdiv v8.2 (19:Int))))]:List Int),w64 (s6.2.2.2-(1:Int))))))
  (some (.ret (.go (s6.1,s6.2.1,s6.2.2.1))))
noncomputable def jJ (x_code:List Int):Option (DHost×Int×(List Int)):=
 Option.bind (eQ x_code) λv1=>
 Option.bind (kP v1) λv2=>
 Option.bind (Option.bind (aA v2.1 (4:Int)) λv5=>
  Option.bind (iter kJ (v5.1.b,v5.1.p,([]:List Int),v5.2)) LO.val) λj3=>
  JO.run j3 (pF v2)
noncomputable def g23:Sg tG:=⟨[.row 5],.three (.sb 26) (.i .i64) (.rb 3),jJ⟩
theorem s23:Sok 23 g23:=sgx [(39,.o g39),(60,.w g60),(62,.w g62),(41,.w g41)] ⟨s39,s60,s62,s41,trivial⟩ (.s .o (.s .o (.s .o (.s .o (.j ⟨[2,5,6],[],[(.c 5 0,.rb 5),(.c 5 1,.i .i64),(.s 7,.ro 3)]⟩ (.s .o (.k (.l ⟨[2,5,6],[],[(.c 5 0,.rb 5),(.c 5 1,.i .i64),(.s 7,.ro 3),(.s 8,.i .i64)]⟩ .o))) (.s (.g [.fr (.c 6 0) 0,.fr (.c 6 1) 0] [0,1] []) .o)))))) kr kr kr
noncomputable def rC (v1:DHost×Int×(List Int))(v2:DHost×Bool)(s8:Unit):Option Bool:=
 Option.bind (fB v2.1) λv9=>
 cond v9
  (Option.bind (fR v1.1 v2.1 v1.2.1) λv10=>
  cond v10
   (Option.bind (eT v2.1) λv11=>
   Option.bind (eT v1.1) λv12=>
   some (decide (((List.length v12:Nat):Int)<=((List.length v11:Nat):Int))))
   (some false))
  (some false)
noncomputable def kQ (s13:Int)(s14:Unit):Option (LO Int (JO Unit Bool)):=some (.next (w64 (s13+(1:Int))))
noncomputable def gW (v1:DHost×Int×(List Int))(v6:DBare×Bool)(v7:DBare×Bool)(s13:Int):Option (LO Int (JO Unit Bool)):=
 cond (decide (s13<((List.length v6.1.Mem:Nat):Int)))
  (Option.bind (Option.bind (pJ v1.2.2 (w64 (Int.tdiv s13 (8:Int)))) λv15=>
   cond v15
    (grd ((0:Int)<=s13/\s13<((List.length v7.1.Mem:Nat):Int)) (cond (!decide ((List.getD v7.1.Mem (Int.toNat s13) default)=(0:Int)))
     (some (.out (.ret (.out false))))
     (some (.go ()))))
    (grd ((0:Int)<=s13/\s13<((List.length v7.1.Mem:Nat):Int)) (grd ((0:Int)<=s13/\s13<((List.length v6.1.Mem:Nat):Int)) (cond (!decide ((List.getD v7.1.Mem (Int.toNat s13) default)=(List.getD v6.1.Mem (Int.toNat s13) default)))
     (some (.out (.ret (.out false))))
     (some (.go ())))))) λj14=>
   JO.run j14 (kQ s13))
  (some (.ret (.go ())))
noncomputable def iE (x_code:List Int):Option Bool:=
 cond (decide ((1048576:Int)<((List.length x_code:Nat):Int)))
  (some true)
  (Option.bind (jJ x_code) λv1=>
  Option.bind (mV v1.1 v1.2.1 v1.2.2) λv2=>
  Option.bind (mW v1.1 v1.2.1 v1.2.2) λv3=>
  cond (!(v2.2==v3.2))
   (some false)
   (Option.bind (gZ v2.1 v3.1) λv4=>
   cond (!v4)
    (some false)
    (cond (!v2.2)
     (Option.bind eV  λv5=>
     some v5)
     (Option.bind (cS v1.1 v1.2.1) λv6=>
     Option.bind (cS v2.1 v1.2.1) λv7=>
     cond (!decide (((List.length v6.1.Mem:Nat):Int)=(64:Int)))
      (some false)
      (cond (!decide (((List.length v7.1.Mem:Nat):Int)=((List.length v6.1.Mem:Nat):Int)))
       (some false)
       (Option.bind (Option.bind (iter (gW v1 v6 v7) (0:Int)) LO.val) λj8=>
        JO.run j8 (rC v1 v2)))))))
noncomputable def g5:Sg tG:=⟨[.row 5],.one .b,iE⟩
theorem s5:Sok 5 g5:=sgx [(23,.r g23),(24,.r g24),(25,.r g25),(12,.r g12),(13,.r g13),(14,.r g14),(26,.r g26),(15,.r g15),(17,.r g17),(19,.r g19)] ⟨s23,s24,s25,s12,s13,s14,s26,s15,s17,s19,trivial⟩ (.s .o (.s .o (.s .o (.s .o (.s .o (.s .o (.s .o (.s .o (.s .o (.s .o (.j ⟨[3,4,6],[],[]⟩ (.s .o (.k (.l ⟨[3,4,5,6,10,12],[],[(.s 14,.i .i64)]⟩ (.s .o (.j ⟨[3,4,5,6,10,12,14],[],[]⟩ .o .o))))) .o))))))))))) kr kr kr
theorem aDb{x_code:List Int}{R_:Bool}(hh:iE x_code=some R_):Fn Try.prog 5 [bo (eI .u8) x_code] (.bool R_):=kc (s5 x_code R_ hh)
end Go.Proofs.Ytobbmlnagjhofaa
