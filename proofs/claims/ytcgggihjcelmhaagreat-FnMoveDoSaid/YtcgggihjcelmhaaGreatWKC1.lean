/- Plain functions of the program, and that it hands back what they say. Made by program. -/
import Derived.Test.YtcgggihjcelmhaaGreatWTD
import Derived.Test.YtcgggihjcelmhaaGreatProg
namespace Go.Proofs.YtcgggihjcelmhaaGreat
open Go.RowKit
set_option maxRecDepth 100000
set_option linter.all false
set_option maxHeartbeats 0
noncomputable def fE (x_n:Int):Option Bool:=
 cond (decide ((0:Int)<=x_n))
  (some (decide (x_n<=(4095:Int))))
  (some false)
noncomputable def g55:Sg tG:=⟨[.i .i64],.one .b,fE⟩
theorem s55:Sok 55 g55:=sgx [] trivial .o kr kr kr
noncomputable def aMf  (s1:Unit):Option Bool:=some true
noncomputable def zA (x_list:List Int)(s2:Int):Option (LO Int (JO Unit Bool)):=
 cond (decide (s2<((x_list.length:Nat):Int)))
  (grd ((0:Int)<=s2/\s2<((x_list.length:Nat):Int)) (Option.bind (fE (x_list.getD s2.toNat default)) λv3=>
   cond (!v3)
    (some (.ret (.out false)))
    (some (.next (w64 (s2+(1:Int)))))))
  (some (.ret (.go ())))
noncomputable def hU (x_list:List Int):Option Bool:=
 Option.bind (Option.bind (iter (zA x_list) (0:Int)) LO.val) λj1=>
  JO.run j1 aMf
noncomputable def g71:Sg tG:=⟨[.row 3],.one .b,hU⟩
theorem s71:Sok 71 g71:=sgx [(55,.r g55)] ⟨s55,trivial⟩ (.s .o (.j ⟨[],[],[]⟩ (.s .o (.k (.l ⟨[5,6],[],[(.s 7,.i .i64)]⟩ .o))) .o)) kr kr kr
noncomputable def cG (x_addr:Int):Option Bool:=
 cond (decide ((0:Int)<=x_addr))
  (some (decide (x_addr<(64:Int))))
  (some false)
noncomputable def bPn:Sg tG:=⟨[.i .i64],.one .b,cG⟩
theorem bXu:Sok 161 bPn:=sgx [] trivial .o kr kr kr
noncomputable def fC (x_page:Int):Option Bool:=
 cond (decide ((0:Int)<=x_page))
  (some (decide (x_page<(8:Int))))
  (some false)
noncomputable def g46:Sg tG:=⟨[.i .i64],.one .b,fC⟩
theorem s46:Sok 46 g46:=sgx [] trivial .o kr kr kr
noncomputable def lP (x_root:Int):Option Bool:=
 cond (decide (x_root=(-1:Int)))
  (some true)
  (Option.bind (fC x_root) λv1=>
  some v1)
noncomputable def bOw:Sg tG:=⟨[.i .i64],.one .b,lP⟩
theorem bYc:Sok 162 bOw:=sgx [(46,.r g46)] ⟨s46,trivial⟩ .o kr kr kr
noncomputable def oT (x_c:DCore):Option Bool:=
 cond (decide (((x_c.Regs.length:Nat):Int)=(4:Int)))
  (Option.bind (hU x_c.Regs) λv1=>
  Option.bind (cG x_c.Pc) λv2=>
  cond v2
   (Option.bind (cG x_c.Vector) λv3=>
   cond v3
    (Option.bind (cG x_c.Saved) λv4=>
    cond v4
     (Option.bind (cG x_c.Bad) λv5=>
     cond (decide ((0:Int)<=x_c.Cause))
      (cond v1
       (cond v5
        (Option.bind (lP x_c.Root) λv6=>
        cond v6
         (cond (decide (x_c.Cause<=(4:Int)))
          (Option.bind (fE x_c.Timer) λv7=>
          some v7)
          (some false))
         (some false))
        (some false))
       (some false))
      (cond v1
       (cond v5
        (Option.bind (lP x_c.Root) λv8=>
        cond v8
         (some false)
         (some false))
        (some false))
       (some false)))
     (cond (decide ((0:Int)<=x_c.Cause))
      (cond v1
       (some false)
       (some false))
      (cond v1
       (some false)
       (some false))))
    (cond (decide ((0:Int)<=x_c.Cause))
     (cond v1
      (some false)
      (some false))
     (cond v1
      (some false)
      (some false))))
   (cond (decide ((0:Int)<=x_c.Cause))
    (cond v1
     (some false)
     (some false))
    (cond v1
     (some false)
     (some false))))
  (Option.bind (cG x_c.Pc) λv9=>
  cond v9
   (Option.bind (cG x_c.Vector) λv10=>
   cond v10
    (Option.bind (cG x_c.Saved) λv11=>
    cond v11
     (Option.bind (cG x_c.Bad) λv12=>
     cond (decide ((0:Int)<=x_c.Cause))
      (some false)
      (some false))
     (cond (decide ((0:Int)<=x_c.Cause))
      (some false)
      (some false)))
    (cond (decide ((0:Int)<=x_c.Cause))
     (some false)
     (some false)))
   (cond (decide ((0:Int)<=x_c.Cause))
    (some false)
    (some false)))
noncomputable def bSo:Sg tG:=⟨[.st 39],.one .b,oT⟩
theorem bXf:Sok 119 bSo:=sgx [(71,.r g71),(161,.r bPn),(162,.r bOw),(55,.r g55)] ⟨s71,bXu,bYc,s55,trivial⟩ .o kr kr kr
noncomputable def pV (x_mem:List Int):Option Bool:=
 cond (decide (((x_mem.length:Nat):Int)=(64:Int)))
  (Option.bind (hU x_mem) λv1=>
  some v1)
  (some false)
noncomputable def bPv:Sg tG:=⟨[.row 3],.one .b,pV⟩
theorem cBe:Sok 120 bPv:=sgx [(71,.r g71)] ⟨s71,trivial⟩ .o kr kr kr
noncomputable def lG (x_words:List Int):Option Bool:=
 cond (decide (((x_words.length:Nat):Int)<=(30:Int)))
  (Option.bind (hU x_words) λv1=>
  some v1)
  (some false)
noncomputable def bQd:Sg tG:=⟨[.row 3],.one .b,lG⟩
theorem bZx:Sok 121 bQd:=sgx [(71,.r g71)] ⟨s71,trivial⟩ .o kr kr kr
noncomputable def sU (x_b:DBare):Option Bool:=
 Option.bind (oT x_b.C) λv1=>
 cond v1
  (Option.bind (pV x_b.Mem) λv2=>
  cond v2
   (Option.bind (lG x_b.In) λv3=>
   cond v3
    (Option.bind (lG x_b.Out) λv4=>
    some v4)
    (some false))
   (some false))
  (some false)
noncomputable def g59:Sg tG:=⟨[.st 41],.one .b,sU⟩
theorem s59:Sok 59 g59:=sgx [(119,.r bSo),(120,.r bPv),(121,.r bQd)] ⟨bXf,cBe,bZx,trivial⟩ .o kr kr kr
noncomputable def bO (x_n:Int)(x_low:Int)(x_high:Int):Option Bool:=
 cond (decide (x_low<=x_n))
  (some (decide (x_n<=x_high)))
  (some false)
noncomputable def g51:Sg tG:=⟨[.i .i64,.i .i64,.i .i64],.one .b,bO⟩
theorem s51:Sok 51 g51:=sgx [] trivial .o kr kr kr
noncomputable def fB (x_n:Int):Option Bool:=
 Option.bind (bO x_n (0:Int) (4095:Int)) λv1=>
 some v1
noncomputable def aUz:Sg tG:=⟨[.i .i64],.one .b,fB⟩
theorem bCj:Sok 158 aUz:=sgx [(51,.r g51)] ⟨s51,trivial⟩ .o kr kr kr
noncomputable def sA (x_list:List Int)(x_most:Int)(s1:Unit):Option Bool:=some (decide (((x_list.length:Nat):Int)<=x_most))
noncomputable def sD (x_list:List Int)(s2:Int):Option (LO Int (JO Unit Bool)):=
 cond (decide (s2<((x_list.length:Nat):Int)))
  (grd ((0:Int)<=s2/\s2<((x_list.length:Nat):Int)) (Option.bind (fB (x_list.getD s2.toNat default)) λv3=>
   cond (!v3)
    (some (.ret (.out false)))
    (some (.next (w64 (s2+(1:Int)))))))
  (some (.ret (.go ())))
noncomputable def dP (x_list:List Int)(x_most:Int):Option Bool:=
 Option.bind (Option.bind (iter (sD x_list) (0:Int)) LO.val) λj1=>
  JO.run j1 (sA x_list x_most)
noncomputable def bRy:Sg tG:=⟨[.row 3,.i .i64],.one .b,dP⟩
theorem bXs:Sok 176 bRy:=sgx [(158,.r aUz)] ⟨bCj,trivial⟩ (.s .o (.j ⟨[0,1],[],[]⟩ (.s .o (.k (.l ⟨[0,1],[],[(.s 5,.i .i64)]⟩ .o))) .o)) kr kr kr
noncomputable def aAz (x_c:DCore)(s1:Unit):Option Bool:=
 cond (decide (((x_c.Regs.length:Nat):Int)=(4:Int)))
  (Option.bind (bO x_c.Pc (0:Int) (63:Int)) λv2=>
  cond v2
   (Option.bind (bO x_c.Vector (0:Int) (63:Int)) λv3=>
   cond v3
    (Option.bind (bO x_c.Saved (0:Int) (63:Int)) λv4=>
    cond v4
     (Option.bind (bO x_c.Bad (0:Int) (63:Int)) λv5=>
     cond v5
      (Option.bind (bO x_c.Root (-1:Int) (7:Int)) λv6=>
      cond v6
       (Option.bind (bO x_c.Cause (0:Int) (4:Int)) λv7=>
       cond v7
        (Option.bind (fB x_c.Timer) λv8=>
        some v8)
        (some false))
       (some false))
      (some false))
     (some false))
    (some false))
   (some false))
  (some false)
noncomputable def aBa (x_c:DCore)(s9:Int):Option (LO Int (JO Unit Bool)):=
 cond (decide (s9<((x_c.Regs.length:Nat):Int)))
  (grd ((0:Int)<=s9/\s9<((x_c.Regs.length:Nat):Int)) (Option.bind (fB (x_c.Regs.getD s9.toNat default)) λv10=>
   cond (!v10)
    (some (.ret (.out false)))
    (some (.next (w64 (s9+(1:Int)))))))
  (some (.ret (.go ())))
noncomputable def lO (x_c:DCore):Option Bool:=
 Option.bind (Option.bind (iter (aBa x_c) (0:Int)) LO.val) λj1=>
  JO.run j1 (aAz x_c)
noncomputable def bTg:Sg tG:=⟨[.st 39],.one .b,lO⟩
theorem bXy:Sok 178 bTg:=sgx [(158,.r aUz),(51,.r g51)] ⟨bCj,s51,trivial⟩ (.s .o (.j ⟨[1],[],[]⟩ (.s .o (.k (.l ⟨[1],[],[(.s 3,.i .i64)]⟩ .o))) .o)) kr kr kr
noncomputable def aCw (x_mem:List Int)(s1:Unit):Option Bool:=some (decide (((x_mem.length:Nat):Int)=(64:Int)))
noncomputable def aCv (x_mem:List Int)(s2:Int):Option (LO Int (JO Unit Bool)):=
 cond (decide (s2<((x_mem.length:Nat):Int)))
  (grd ((0:Int)<=s2/\s2<((x_mem.length:Nat):Int)) (Option.bind (fB (x_mem.getD s2.toNat default)) λv3=>
   cond (!v3)
    (some (.ret (.out false)))
    (some (.next (w64 (s2+(1:Int)))))))
  (some (.ret (.go ())))
noncomputable def vF (x_mem:List Int):Option Bool:=
 Option.bind (Option.bind (iter (aCv x_mem) (0:Int)) LO.val) λj1=>
  JO.run j1 (aCw x_mem)
noncomputable def cAp:Sg tG:=⟨[.row 3],.one .b,vF⟩
theorem cEw:Sok 207 cAp:=sgx [(158,.r aUz)] ⟨bCj,trivial⟩ (.s .o (.j ⟨[0],[],[]⟩ (.s .o (.k (.l ⟨[0],[],[(.s 3,.i .i64)]⟩ .o))) .o)) kr kr kr
noncomputable def tC (x_b:DBare):Option Bool:=
 Option.bind (lO x_b.C) λv1=>
 cond v1
  (Option.bind (vF x_b.Mem) λv2=>
  cond v2
   (Option.bind (dP x_b.In (30:Int)) λv3=>
   cond v3
    (Option.bind (dP x_b.Out (30:Int)) λv4=>
    some v4)
    (some false))
   (some false))
  (some false)
noncomputable def bYm:Sg tG:=⟨[.st 41],.one .b,tC⟩
theorem cDq:Sok 175 bYm:=sgx [(178,.r bTg),(207,.r cAp),(176,.r bRy)] ⟨bXy,cEw,bXs,trivial⟩ .o kr kr kr
noncomputable def pH (x_c:DCore):Option Bool:=
 cond (decide (x_c.Pc=(0:Int)))
  (cond (decide (x_c.Root=(0:Int)))
   (cond (decide (x_c.Vector=(0:Int)))
    (cond (decide (x_c.Saved=(0:Int)))
     (cond x_c.SavedUser
      (cond (decide (((x_c.Regs.length:Nat):Int)=(0:Int)))
       (cond (decide (x_c.Bad=(0:Int)))
        (cond (decide (x_c.Cause=(0:Int)))
         (cond (decide (x_c.Timer=(0:Int)))
          (some false)
          (some false))
         (some false))
        (some false))
       (some false))
      (cond x_c.Waits
       (cond (decide (((x_c.Regs.length:Nat):Int)=(0:Int)))
        (cond (decide (x_c.Bad=(0:Int)))
         (cond (decide (x_c.Cause=(0:Int)))
          (cond (decide (x_c.Timer=(0:Int)))
           (some false)
           (some false))
          (some false))
         (some false))
        (some false))
       (cond x_c.User
        (cond (decide (((x_c.Regs.length:Nat):Int)=(0:Int)))
         (cond (decide (x_c.Bad=(0:Int)))
          (cond (decide (x_c.Cause=(0:Int)))
           (cond (decide (x_c.Timer=(0:Int)))
            (some false)
            (some false))
           (some false))
          (some false))
         (some false))
        (cond x_c.On
         (cond (decide (((x_c.Regs.length:Nat):Int)=(0:Int)))
          (cond (decide (x_c.Bad=(0:Int)))
           (cond (decide (x_c.Cause=(0:Int)))
            (cond (decide (x_c.Timer=(0:Int)))
             (some false)
             (some false))
            (some false))
           (some false))
          (some false))
         (cond (decide (((x_c.Regs.length:Nat):Int)=(0:Int)))
          (cond (decide (x_c.Bad=(0:Int)))
           (cond (decide (x_c.Cause=(0:Int)))
            (cond (decide (x_c.Timer=(0:Int)))
             (some (!x_c.Stopped))
             (some false))
            (some false))
           (some false))
          (some false))))))
     (cond x_c.SavedUser
      (cond (decide (((x_c.Regs.length:Nat):Int)=(0:Int)))
       (some false)
       (some false))
      (cond x_c.Waits
       (cond (decide (((x_c.Regs.length:Nat):Int)=(0:Int)))
        (some false)
        (some false))
       (cond x_c.User
        (cond (decide (((x_c.Regs.length:Nat):Int)=(0:Int)))
         (some false)
         (some false))
        (cond x_c.On
         (cond (decide (((x_c.Regs.length:Nat):Int)=(0:Int)))
          (some false)
          (some false))
         (cond (decide (((x_c.Regs.length:Nat):Int)=(0:Int)))
          (some false)
          (some false)))))))
    (cond x_c.SavedUser
     (cond (decide (((x_c.Regs.length:Nat):Int)=(0:Int)))
      (some false)
      (some false))
     (cond x_c.Waits
      (cond (decide (((x_c.Regs.length:Nat):Int)=(0:Int)))
       (some false)
       (some false))
      (cond x_c.User
       (cond (decide (((x_c.Regs.length:Nat):Int)=(0:Int)))
        (some false)
        (some false))
       (cond x_c.On
        (cond (decide (((x_c.Regs.length:Nat):Int)=(0:Int)))
         (some false)
         (some false))
        (cond (decide (((x_c.Regs.length:Nat):Int)=(0:Int)))
         (some false)
         (some false)))))))
   (cond x_c.SavedUser
    (cond (decide (((x_c.Regs.length:Nat):Int)=(0:Int)))
     (some false)
     (some false))
    (cond x_c.Waits
     (cond (decide (((x_c.Regs.length:Nat):Int)=(0:Int)))
      (some false)
      (some false))
     (cond x_c.User
      (cond (decide (((x_c.Regs.length:Nat):Int)=(0:Int)))
       (some false)
       (some false))
      (cond x_c.On
       (cond (decide (((x_c.Regs.length:Nat):Int)=(0:Int)))
        (some false)
        (some false))
       (cond (decide (((x_c.Regs.length:Nat):Int)=(0:Int)))
        (some false)
        (some false)))))))
  (cond x_c.SavedUser
   (cond (decide (((x_c.Regs.length:Nat):Int)=(0:Int)))
    (some false)
    (some false))
   (cond x_c.Waits
    (cond (decide (((x_c.Regs.length:Nat):Int)=(0:Int)))
     (some false)
     (some false))
    (cond x_c.User
     (cond (decide (((x_c.Regs.length:Nat):Int)=(0:Int)))
      (some false)
      (some false))
     (cond x_c.On
      (cond (decide (((x_c.Regs.length:Nat):Int)=(0:Int)))
       (some false)
       (some false))
      (cond (decide (((x_c.Regs.length:Nat):Int)=(0:Int)))
       (some false)
       (some false))))))
noncomputable def cBh:Sg tG:=⟨[.st 39],.one .b,pH⟩
theorem cEx:Sok 202 cBh:=sgx [] trivial .o kr kr kr
noncomputable def mX (x_guest:DGuest):Option Bool:=
 Option.bind (pH x_guest.C) λv1=>
 cond v1
  (cond (decide (((x_guest.Pages.length:Nat):Int)=(0:Int)))
   (cond (decide (((x_guest.In.length:Nat):Int)=(0:Int)))
    (some (decide (((x_guest.Out.length:Nat):Int)=(0:Int))))
    (some false))
   (some false))
  (some false)
noncomputable def bXp:Sg tG:=⟨[.st 94],.one .b,mX⟩
theorem cCv:Sok 170 bXp:=sgx [(202,.r cBh)] ⟨cEx,trivial⟩ .o kr kr kr
noncomputable def sS (x_s:DSlot):Option Bool:=
 cond (decide (x_s.Frame=(-1:Int)))
  (cond (!x_s.Write)
   (some (!x_s.Dirty))
   (some false))
  (cond (decide ((0:Int)<=x_s.Frame))
   (some (decide (x_s.Frame<(20:Int))))
   (some false))
noncomputable def bYl:Sg tG:=⟨[.st 91],.one .b,sS⟩
theorem cDs:Sok 203 bYl:=sgx [] trivial .o kr kr kr
noncomputable def aMj  (s1:Unit):Option Bool:=some true
noncomputable def zF (x_pages:List DSlot)(s2:Int):Option (LO Int (JO Unit Bool)):=
 cond (decide (s2<((x_pages.length:Nat):Int)))
  (grd ((0:Int)<=s2/\s2<((x_pages.length:Nat):Int)) (Option.bind (sS (DSlot.mk (x_pages.getD s2.toNat default).Frame (x_pages.getD s2.toNat default).Write (x_pages.getD s2.toNat default).Dirty)) λv3=>
   cond (!v3)
    (some (.ret (.out false)))
    (some (.next (w64 (s2+(1:Int)))))))
  (some (.ret (.go ())))
noncomputable def qS (x_pages:List DSlot):Option Bool:=
 cond (!decide (((x_pages.length:Nat):Int)=(8:Int)))
  (some false)
  (Option.bind (Option.bind (iter (zF x_pages) (0:Int)) LO.val) λj1=>
   JO.run j1 aMj)
noncomputable def bXk:Sg tG:=⟨[.row 91],.one .b,qS⟩
theorem cEg:Sok 171 bXk:=sgx [(203,.r bYl)] ⟨cDs,trivial⟩ (.s .o (.s .o (.j ⟨[],[],[]⟩ (.s .o (.k (.l ⟨[8,9],[],[(.s 10,.i .i64)]⟩ .o))) .o))) kr kr kr
noncomputable def nC (x_guest:DGuest):Option Bool:=
 cond (!x_guest.Live)
  (Option.bind (mX x_guest) λv1=>
  some v1)
  (Option.bind (oT x_guest.C) λv2=>
  cond v2
   (Option.bind (qS x_guest.Pages) λv3=>
   cond v3
    (Option.bind (lG x_guest.In) λv4=>
    cond v4
     (Option.bind (lG x_guest.Out) λv5=>
     some v5)
     (some false))
    (some false))
   (some false))
noncomputable def bYz:Sg tG:=⟨[.st 94],.one .b,nC⟩
theorem cEd:Sok 133 bYz:=sgx [(170,.r bXp),(119,.r bSo),(171,.r bXk),(121,.r bQd)] ⟨cCv,bXf,cEg,bZx,trivial⟩ .o kr kr kr
noncomputable def aJu  (s1:Unit):Option Bool:=some true
noncomputable def mA (x_guests:List DGuest)(s2:Int):Option (LO Int (JO Unit Bool)):=
 cond (decide (s2<((x_guests.length:Nat):Int)))
  (grd ((0:Int)<=s2/\s2<((x_guests.length:Nat):Int)) (Option.bind (nC (DGuest.mk (x_guests.getD s2.toNat default).Live (DCore.mk ((x_guests.getD s2.toNat default).C).Regs ((x_guests.getD s2.toNat default).C).Pc ((x_guests.getD s2.toNat default).C).Root ((x_guests.getD s2.toNat default).C).Vector ((x_guests.getD s2.toNat default).C).Saved ((x_guests.getD s2.toNat default).C).SavedUser ((x_guests.getD s2.toNat default).C).Cause ((x_guests.getD s2.toNat default).C).Bad ((x_guests.getD s2.toNat default).C).Timer ((x_guests.getD s2.toNat default).C).Waits ((x_guests.getD s2.toNat default).C).User ((x_guests.getD s2.toNat default).C).On ((x_guests.getD s2.toNat default).C).Stopped) (x_guests.getD s2.toNat default).Pages (x_guests.getD s2.toNat default).In (x_guests.getD s2.toNat default).Out)) λv3=>
   cond (!v3)
    (some (.ret (.out false)))
    (some (.next (w64 (s2+(1:Int)))))))
  (some (.ret (.go ())))
noncomputable def pF (x_guests:List DGuest):Option Bool:=
 cond (!decide (((x_guests.length:Nat):Int)=(3:Int)))
  (some false)
  (Option.bind (Option.bind (iter (mA x_guests) (0:Int)) LO.val) λj1=>
   JO.run j1 aJu)
noncomputable def g72:Sg tG:=⟨[.row 94],.one .b,pF⟩
theorem s72:Sok 72 g72:=sgx [(133,.r bYz)] ⟨cEd,trivial⟩ (.s .o (.s .o (.j ⟨[],[],[]⟩ (.s .o (.k (.l ⟨[8,9],[],[(.s 10,.i .i64)]⟩ .o))) .o))) kr kr kr
noncomputable def uA  (s1:List Int):Option (List Int):=some s1
noncomputable def uT (s2:(List Int)×Int)(s3:List Int):Option (LO ((List Int)×Int) (JO (List Int) (List Int))):=some (.next (s3,w64 (s2.2+(1:Int))))
noncomputable def uR (s4:(List Int)×Int)(s5:List Int):Option (LO ((List Int)×Int) (JO (List Int) (LO ((List Int)×Int) (JO (List Int) (List Int))))):=some (.next (s5,w64 (s4.2+(1:Int))))
noncomputable def fR (x_guests:List DGuest)(s2:(List Int)×Int)(s4:(List Int)×Int):Option (LO ((List Int)×Int) (JO (List Int) (LO ((List Int)×Int) (JO (List Int) (List Int))))):=
 cond (decide (s4.2<((List.length (x_guests.getD s2.2.toNat default).Pages:Nat):Int)))
  (Option.bind (grd ((0:Int)<=s4.2/\s4.2<((List.length (x_guests.getD s2.2.toNat default).Pages:Nat):Int)) (cond (!decide ((List.getD (x_guests.getD s2.2.toNat default).Pages s4.2.toNat default).Frame=(-1:Int)))
   (grd ((0:Int)<=(List.getD (x_guests.getD s2.2.toNat default).Pages s4.2.toNat default).Frame/\(List.getD (x_guests.getD s2.2.toNat default).Pages s4.2.toNat default).Frame<((s4.1.length:Nat):Int)) (grd ((0:Int)<=(List.getD (x_guests.getD s2.2.toNat default).Pages s4.2.toNat default).Frame/\(List.getD (x_guests.getD s2.2.toNat default).Pages s4.2.toNat default).Frame<((s4.1.length:Nat):Int)) (some (.go (s4.1.set (Int.toNat (List.getD (x_guests.getD s2.2.toNat default).Pages s4.2.toNat default).Frame) (w64 ((s4.1.getD (Int.toNat (List.getD (x_guests.getD s2.2.toNat default).Pages s4.2.toNat default).Frame) default)+(1:Int))))))))
   (some (.go s4.1)))) λj5=>
   JO.run j5 (uR s4))
  (some (.ret (.go s4.1)))
noncomputable def jD (x_guests:List DGuest)(s2:(List Int)×Int):Option (LO ((List Int)×Int) (JO (List Int) (List Int))):=
 cond (decide (s2.2<((x_guests.length:Nat):Int)))
  (Option.bind (grd ((0:Int)<=s2.2/\s2.2<((x_guests.length:Nat):Int)) (Option.bind (iter (fR x_guests s2) (s2.1,(0:Int))) LO.val)) λj3=>
   JO.run j3 (uT s2))
  (some (.ret (.go s2.1)))
noncomputable def fP (x_guests:List DGuest):Option (List Int):=
 Option.bind (Option.bind (iter (jD x_guests) ((List.replicate (Int.toNat (20:Int)) (0:Int)),(0:Int))) LO.val) λj1=>
  JO.run j1 uA
noncomputable def bHv:Sg tG:=⟨[.row 94],.one (.row 3),fP⟩
theorem bPc:Sok 134 bHv:=sgx [] trivial (.s .o (.s .o (.j ⟨[],[],[(.s 3,.ro 3)]⟩ (.s .o (.k (.l ⟨[9,10],[],[(.s 3,.ro 3),(.s 11,.i .i64)]⟩ (.s .o (.s .o (.j ⟨[9,10,11],[],[(.s 3,.ro 3)]⟩ (.k (.s .o (.s .o (.k (.l ⟨[9,10,11,16,17],[],[(.s 3,.ro 3),(.s 18,.i .i64)]⟩ (.s .o (.s .o (.j ⟨[9,10,11,16,17,18],[],[(.s 3,.ro 3)]⟩ .o .o)))))))) .o)))))) .o))) kr kr kr
noncomputable def zO  (s2:Unit):Option Bool:=some true
noncomputable def pK (s3:Int)(s4:Unit):Option (LO Int (JO Unit Bool)):=some (.next (w64 (s3+(1:Int))))
noncomputable def kE (s5:Int)(s6:Unit):Option (LO Int (JO Unit (LO Int (JO Unit Bool)))):=some (.next (w64 (s5+(1:Int))))
noncomputable def dX (x_guests:List DGuest)(v1:List Int)(s3:Int)(s5:Int):Option (LO Int (JO Unit (LO Int (JO Unit Bool)))):=
 cond (decide (s5<((List.length (x_guests.getD s3.toNat default).Pages:Nat):Int)))
  (Option.bind (grd ((0:Int)<=s5/\s5<((List.length (x_guests.getD s3.toNat default).Pages:Nat):Int)) (cond (List.getD (x_guests.getD s3.toNat default).Pages s5.toNat default).Write
   (grd ((0:Int)<=(List.getD (x_guests.getD s3.toNat default).Pages s5.toNat default).Frame/\(List.getD (x_guests.getD s3.toNat default).Pages s5.toNat default).Frame<((v1.length:Nat):Int)) (cond (decide ((1:Int)<(v1.getD (Int.toNat (List.getD (x_guests.getD s3.toNat default).Pages s5.toNat default).Frame) default)))
    (some (.out (.ret (.out (.ret (.out false))))))
    (some (.go ()))))
   (some (.go ())))) λj6=>
   JO.run j6 (kE s5))
  (some (.ret (.go ())))
noncomputable def fS (x_guests:List DGuest)(v1:List Int)(s3:Int):Option (LO Int (JO Unit Bool)):=
 cond (decide (s3<((x_guests.length:Nat):Int)))
  (Option.bind (grd ((0:Int)<=s3/\s3<((x_guests.length:Nat):Int)) (Option.bind (iter (dX x_guests v1 s3) (0:Int)) LO.val)) λj4=>
   JO.run j4 (pK s3))
  (some (.ret (.go ())))
noncomputable def iF (x_guests:List DGuest):Option Bool:=
 Option.bind (fP x_guests) λv1=>
 Option.bind (Option.bind (iter (fS x_guests v1) (0:Int)) LO.val) λj2=>
  JO.run j2 zO
noncomputable def g73:Sg tG:=⟨[.row 94],.one .b,iF⟩
theorem s73:Sok 73 g73:=sgx [(134,.r bHv)] ⟨bPc,trivial⟩ (.s .o (.s .o (.j ⟨[],[],[]⟩ (.s .o (.k (.l ⟨[3,10,11],[],[(.s 12,.i .i64)]⟩ (.s .o (.s .o (.j ⟨[3,10,11,12],[],[]⟩ (.k (.s .o (.s .o (.k (.l ⟨[3,10,11,12,17,18],[],[(.s 19,.i .i64)]⟩ (.s .o (.s .o (.j ⟨[3,10,11,12,17,18,19],[],[]⟩ .o .o)))))))) .o)))))) .o))) kr kr kr
noncomputable def sX (x_h:DHost):Option Bool:=
 cond (decide (((x_h.Words.length:Nat):Int)=(160:Int)))
  (Option.bind (hU x_h.Words) λv1=>
  cond v1
   (Option.bind (pF x_h.Guests) λv2=>
   cond v2
    (Option.bind (iF x_h.Guests) λv3=>
    some v3)
    (some false))
   (some false))
  (some false)
noncomputable def g22:Sg tG:=⟨[.st 26],.one .b,sX⟩
theorem s22:Sok 22 g22:=sgx [(71,.r g71),(72,.r g72),(73,.r g73)] ⟨s71,s72,s73,trivial⟩ .o kr kr kr
noncomputable def oO (x_g:DGuest):Option Bool:=
 cond (decide (((x_g.C.Regs.length:Nat):Int)=(0:Int)))
  (cond (decide (x_g.C.Pc=(0:Int)))
   (cond (decide (x_g.C.Root=(0:Int)))
    (cond (decide (x_g.C.Vector=(0:Int)))
     (cond (decide (x_g.C.Saved=(0:Int)))
      (cond (!x_g.C.SavedUser)
       (cond (decide (x_g.C.Cause=(0:Int)))
        (cond (decide (x_g.C.Bad=(0:Int)))
         (cond (decide (x_g.C.Timer=(0:Int)))
          (cond (!x_g.C.Waits)
           (cond (!x_g.C.User)
            (cond (!x_g.C.On)
             (cond (!x_g.C.Stopped)
              (cond (decide (((x_g.Pages.length:Nat):Int)=(0:Int)))
               (cond (decide (((x_g.In.length:Nat):Int)=(0:Int)))
                (some (decide (((x_g.Out.length:Nat):Int)=(0:Int))))
                (some false))
               (some false))
              (some false))
             (some false))
            (some false))
           (some false))
          (some false))
         (some false))
        (some false))
       (some false))
      (some false))
     (some false))
    (some false))
   (some false))
  (some false)
noncomputable def cBd:Sg tG:=⟨[.st 94],.one .b,oO⟩
theorem cFg:Sok 177 cBd:=sgx [] trivial .o kr kr kr
noncomputable def aPk  (s3:Unit):Option Bool:=some true
noncomputable def tZ (s4:Int)(s5:Unit):Option (LO Int (JO Unit Bool)):=some (.next (w64 (s4+(1:Int))))
noncomputable def nR (s2:(List Int)×(List Bool))(s4:Int):Option (LO Int (JO Unit Bool)):=
 cond (decide (s4<(20:Int)))
  (Option.bind (grd ((0:Int)<=s4/\s4<((s2.1.length:Nat):Int)) (cond (decide ((1:Int)<(s2.1.getD s4.toNat default)))
   (grd ((0:Int)<=s4/\s4<((s2.2.length:Nat):Int)) (cond (s2.2.getD s4.toNat default)
    (some (.out (.ret (.out false))))
    (some (.go ()))))
   (some (.go ())))) λj5=>
   JO.run j5 (tZ s4))
  (some (.ret (.go ())))
noncomputable def aBl  (s2:(List Int)×(List Bool)):Option Bool:=
 Option.bind (Option.bind (iter (nR s2) (0:Int)) LO.val) λj3=>
  JO.run j3 aPk
noncomputable def tY (s6:(List Int)×(List Bool)×Int)(s7:(List Int)×(List Bool)):Option (LO ((List Int)×(List Bool)×Int) (JO ((List Int)×(List Bool)) Bool)):=some (.next (s7.1,s7.2,w64 (s6.2.2+(1:Int))))
noncomputable def rX (s12:(List Int)×(List Bool)×Int)(s13:(List Bool)×(List Int)):Option (LO ((List Int)×(List Bool)×Int) (JO ((List Int)×(List Bool)) (LO ((List Int)×(List Bool)×Int) (JO ((List Int)×(List Bool)) Bool)))):=some (.next (s13.2,s13.1,w64 (s12.2.2+(1:Int))))
noncomputable def sC (x_h:DHost)(s6:(List Int)×(List Bool)×Int)(s12:(List Int)×(List Bool)×Int)(s14:Unit):Option (JO ((List Bool)×(List Int)) (LO ((List Int)×(List Bool)×Int) (JO ((List Int)×(List Bool)) (LO ((List Int)×(List Bool)×Int) (JO ((List Int)×(List Bool)) Bool))))):=
 cond (decide ((0:Int)<=(List.getD (x_h.Guests.getD s6.2.2.toNat default).Pages s12.2.2.toNat default).Frame))
  (grd ((0:Int)<=(List.getD (x_h.Guests.getD s6.2.2.toNat default).Pages s12.2.2.toNat default).Frame/\(List.getD (x_h.Guests.getD s6.2.2.toNat default).Pages s12.2.2.toNat default).Frame<((s12.1.length:Nat):Int)) (grd ((0:Int)<=(List.getD (x_h.Guests.getD s6.2.2.toNat default).Pages s12.2.2.toNat default).Frame/\(List.getD (x_h.Guests.getD s6.2.2.toNat default).Pages s12.2.2.toNat default).Frame<((s12.1.length:Nat):Int)) (grd ((0:Int)<=(List.getD (x_h.Guests.getD s6.2.2.toNat default).Pages s12.2.2.toNat default).Frame/\(List.getD (x_h.Guests.getD s6.2.2.toNat default).Pages s12.2.2.toNat default).Frame<((s12.2.1.length:Nat):Int)) (cond (s12.2.1.getD (Int.toNat (List.getD (x_h.Guests.getD s6.2.2.toNat default).Pages s12.2.2.toNat default).Frame) default)
   (grd ((0:Int)<=(List.getD (x_h.Guests.getD s6.2.2.toNat default).Pages s12.2.2.toNat default).Frame/\(List.getD (x_h.Guests.getD s6.2.2.toNat default).Pages s12.2.2.toNat default).Frame<((s12.2.1.length:Nat):Int)) (some (.go ((s12.2.1.set (Int.toNat (List.getD (x_h.Guests.getD s6.2.2.toNat default).Pages s12.2.2.toNat default).Frame) true),s12.1.set (Int.toNat (List.getD (x_h.Guests.getD s6.2.2.toNat default).Pages s12.2.2.toNat default).Frame) (w64 ((s12.1.getD (Int.toNat (List.getD (x_h.Guests.getD s6.2.2.toNat default).Pages s12.2.2.toNat default).Frame) default)+(1:Int)))))))
   (grd ((0:Int)<=(List.getD (x_h.Guests.getD s6.2.2.toNat default).Pages s12.2.2.toNat default).Frame/\(List.getD (x_h.Guests.getD s6.2.2.toNat default).Pages s12.2.2.toNat default).Frame<((s12.2.1.length:Nat):Int)) (some (.go ((s12.2.1.set (Int.toNat (List.getD (x_h.Guests.getD s6.2.2.toNat default).Pages s12.2.2.toNat default).Frame) (List.getD (x_h.Guests.getD s6.2.2.toNat default).Pages s12.2.2.toNat default).Write),s12.1.set (Int.toNat (List.getD (x_h.Guests.getD s6.2.2.toNat default).Pages s12.2.2.toNat default).Frame) (w64 ((s12.1.getD (Int.toNat (List.getD (x_h.Guests.getD s6.2.2.toNat default).Pages s12.2.2.toNat default).Frame) default)+(1:Int)))))))))))
  (some (.go (s12.2.1,s12.1)))
noncomputable def jQ (x_h:DHost)(s6:(List Int)×(List Bool)×Int)(s12:(List Int)×(List Bool)×Int):Option (LO ((List Int)×(List Bool)×Int) (JO ((List Int)×(List Bool)) (LO ((List Int)×(List Bool)×Int) (JO ((List Int)×(List Bool)) Bool)))):=
 cond (decide (s12.2.2<((List.length (x_h.Guests.getD s6.2.2.toNat default).Pages:Nat):Int)))
  (Option.bind (grd ((0:Int)<=s12.2.2/\s12.2.2<((List.length (x_h.Guests.getD s6.2.2.toNat default).Pages:Nat):Int)) (Option.bind (Option.bind (bO (List.getD (x_h.Guests.getD s6.2.2.toNat default).Pages s12.2.2.toNat default).Frame (-1:Int) (19:Int)) λv15=>
   cond (!v15)
    (some (.out (.out (.ret (.out (.ret (.out false)))))))
    (cond (decide ((List.getD (x_h.Guests.getD s6.2.2.toNat default).Pages s12.2.2.toNat default).Frame=(-1:Int)))
     (cond (List.getD (x_h.Guests.getD s6.2.2.toNat default).Pages s12.2.2.toNat default).Write
      (some (.out (.out (.ret (.out (.ret (.out false)))))))
      (cond (List.getD (x_h.Guests.getD s6.2.2.toNat default).Pages s12.2.2.toNat default).Dirty
       (some (.out (.out (.ret (.out (.ret (.out false)))))))
       (some (.go ()))))
     (some (.go ())))) λj14=>
   JO.run j14 (sC x_h s6 s12))) λj13=>
   JO.run j13 (rX s12))
  (some (.ret (.go (s12.1,s12.2.1))))
noncomputable def kZ (x_h:DHost)(s6:(List Int)×(List Bool)×Int):Option (LO ((List Int)×(List Bool)×Int) (JO ((List Int)×(List Bool)) Bool)):=
 cond (decide (s6.2.2<((x_h.Guests.length:Nat):Int)))
  (Option.bind (grd ((0:Int)<=s6.2.2/\s6.2.2<((x_h.Guests.length:Nat):Int)) (cond (!(x_h.Guests.getD s6.2.2.toNat default).Live)
   (Option.bind (oO (DGuest.mk (x_h.Guests.getD s6.2.2.toNat default).Live (DCore.mk ((x_h.Guests.getD s6.2.2.toNat default).C).Regs ((x_h.Guests.getD s6.2.2.toNat default).C).Pc ((x_h.Guests.getD s6.2.2.toNat default).C).Root ((x_h.Guests.getD s6.2.2.toNat default).C).Vector ((x_h.Guests.getD s6.2.2.toNat default).C).Saved ((x_h.Guests.getD s6.2.2.toNat default).C).SavedUser ((x_h.Guests.getD s6.2.2.toNat default).C).Cause ((x_h.Guests.getD s6.2.2.toNat default).C).Bad ((x_h.Guests.getD s6.2.2.toNat default).C).Timer ((x_h.Guests.getD s6.2.2.toNat default).C).Waits ((x_h.Guests.getD s6.2.2.toNat default).C).User ((x_h.Guests.getD s6.2.2.toNat default).C).On ((x_h.Guests.getD s6.2.2.toNat default).C).Stopped) (x_h.Guests.getD s6.2.2.toNat default).Pages (x_h.Guests.getD s6.2.2.toNat default).In (x_h.Guests.getD s6.2.2.toNat default).Out)) λv8=>
   cond (!v8)
    (some (.out (.ret (.out false))))
    (some (.go (s6.1,s6.2.1))))
   (Option.bind (lO (DCore.mk ((x_h.Guests.getD s6.2.2.toNat default).C).Regs ((x_h.Guests.getD s6.2.2.toNat default).C).Pc ((x_h.Guests.getD s6.2.2.toNat default).C).Root ((x_h.Guests.getD s6.2.2.toNat default).C).Vector ((x_h.Guests.getD s6.2.2.toNat default).C).Saved ((x_h.Guests.getD s6.2.2.toNat default).C).SavedUser ((x_h.Guests.getD s6.2.2.toNat default).C).Cause ((x_h.Guests.getD s6.2.2.toNat default).C).Bad ((x_h.Guests.getD s6.2.2.toNat default).C).Timer ((x_h.Guests.getD s6.2.2.toNat default).C).Waits ((x_h.Guests.getD s6.2.2.toNat default).C).User ((x_h.Guests.getD s6.2.2.toNat default).C).On ((x_h.Guests.getD s6.2.2.toNat default).C).Stopped)) λv9=>
   cond (!v9)
    (some (.out (.ret (.out false))))
    (cond (!decide (((List.length (x_h.Guests.getD s6.2.2.toNat default).Pages:Nat):Int)=(8:Int)))
     (some (.out (.ret (.out false))))
     (Option.bind (dP (x_h.Guests.getD s6.2.2.toNat default).In (30:Int)) λv10=>
     cond (!v10)
      (some (.out (.ret (.out false))))
      (Option.bind (dP (x_h.Guests.getD s6.2.2.toNat default).Out (30:Int)) λv11=>
      cond (!v11)
       (some (.out (.ret (.out false))))
       (Option.bind (iter (jQ x_h s6) (s6.1,s6.2.1,(0:Int))) LO.val))))))) λj7=>
   JO.run j7 (tY s6))
  (some (.ret (.go (s6.1,s6.2.1))))
noncomputable def jK (x_h:DHost):Option Bool:=
 Option.bind (dP x_h.Words (160:Int)) λv1=>
 cond (!v1)
  (some false)
  (cond (!decide (((x_h.Words.length:Nat):Int)=(160:Int)))
   (some false)
   (cond (!decide (((x_h.Guests.length:Nat):Int)=(3:Int)))
    (some false)
    (Option.bind (Option.bind (iter (kZ x_h) ((List.replicate (Int.toNat (20:Int)) (0:Int)),List.replicate (Int.toNat (20:Int)) false,(0:Int))) LO.val) λj2=>
     JO.run j2 aBl)))
noncomputable def aXi:Sg tG:=⟨[.st 26],.one .b,jK⟩
theorem bIu:Sok 142 aXi:=sgx [(176,.r bRy),(177,.r cBd),(178,.r bTg),(51,.r g51)] ⟨bXs,cFg,bXy,s51,trivial⟩ (.s .o (.s .o (.s .o (.s .o (.j ⟨[],[],[(.s 3,.ro 3),(.s 4,.ro 4)]⟩ (.s .o (.k (.l ⟨[1],[],[(.s 3,.ro 3),(.s 4,.ro 4),(.s 5,.i .i64)]⟩ (.s .o (.j ⟨[1,5],[],[(.s 3,.ro 3),(.s 4,.ro 4)]⟩ (.k (.s .o (.s .o (.s .o (.s .o (.k (.l ⟨[1,5,6],[],[(.s 3,.ro 3),(.s 4,.ro 4),(.s 7,.i .i64)]⟩ (.s .o (.j ⟨[1,5,6,7],[],[(.s 4,.ro 4),(.s 3,.ro 3)]⟩ (.k (.s .o (.j ⟨[1,3,4,5,6,7,8],[],[]⟩ .o .o))) .o))))))))) .o))))) (.j ⟨[],[],[]⟩ (.s .o (.k (.l ⟨[3,4],[],[(.s 9,.i .i64)]⟩ (.s .o (.j ⟨[3,4,9],[],[]⟩ .o .o))))) .o)))))) kr kr kr
noncomputable def aFm  (s1:List Int):Option (List Int):=some s1
noncomputable def vS (s3:(List Int)×Int)(s4:List Int):Option (LO ((List Int)×Int) (JO (List Int) (List Int))):=some (.next (s4,w64 (s3.2+(1:Int))))
noncomputable def kB (v2:List Int)(s3:(List Int)×Int):Option (LO ((List Int)×Int) (JO (List Int) (List Int))):=
 cond (decide (s3.2<((v2.length:Nat):Int)))
  (Option.bind (grd ((0:Int)<=s3.2/\s3.2<((v2.length:Nat):Int)) (cond (decide ((v2.getD s3.2.toNat default)=(0:Int)))
   (grd ((s3.1.length+List.length ([s3.2]:List Int))*8<=2^47/\s3.1.length+List.length ([s3.2]:List Int)<=2^47) (some (.go (s3.1++([s3.2]:List Int)))))
   (some (.go s3.1)))) λj4=>
   JO.run j4 (vS s3))
  (some (.ret (.go s3.1)))
noncomputable def mW (x_guests:List DGuest):Option (List Int):=
 Option.bind (Option.bind (fP x_guests) λv2=>
  Option.bind (iter (kB v2) (([]:List Int),(0:Int))) LO.val) λj1=>
  JO.run j1 aFm
noncomputable def bYx:Sg tG:=⟨[.row 94],.one (.row 3),mW⟩
theorem cEu:Sok 216 bYx:=sgx [(134,.r bHv)] ⟨bPc,trivial⟩ (.s .o (.s .o (.j ⟨[],[],[(.s 3,.ro 3)]⟩ (.s .o (.k (.l ⟨[8,9],[],[(.s 3,.ro 3),(.s 10,.i .i64)]⟩ (.s .o (.s .o (.j ⟨[8,9,10],[],[(.s 3,.ro 3)]⟩ .o .o)))))) .o))) kr kr kr
noncomputable def aBh  (s1:List Int):Option (List Int):=some s1
noncomputable def aBu (s2:(List Int)×Int)(s3:List Int):Option (LO ((List Int)×Int) (JO (List Int) (List Int))):=some (.next (s3,w64 (s2.2+(1:Int))))
noncomputable def tP (s4:(List Int)×Int)(s5:List Int):Option (LO ((List Int)×Int) (JO (List Int) (LO ((List Int)×Int) (JO (List Int) (List Int))))):=some (.next (s5,w64 (s4.2+(1:Int))))
noncomputable def lF (x_h:DHost)(s2:(List Int)×Int)(s4:(List Int)×Int):Option (LO ((List Int)×Int) (JO (List Int) (LO ((List Int)×Int) (JO (List Int) (List Int))))):=
 grd ((0:Int)<=s2.2/\s2.2<((x_h.Guests.length:Nat):Int)) (cond (decide (s4.2<((List.length (x_h.Guests.getD s2.2.toNat default).Pages:Nat):Int)))
  (Option.bind (grd ((0:Int)<=s2.2/\s2.2<((x_h.Guests.length:Nat):Int)) (grd ((0:Int)<=s4.2/\s4.2<((List.length (x_h.Guests.getD s2.2.toNat default).Pages:Nat):Int)) (cond (decide ((0:Int)<=(List.getD (x_h.Guests.getD s2.2.toNat default).Pages s4.2.toNat default).Frame))
   (grd ((0:Int)<=(List.getD (x_h.Guests.getD s2.2.toNat default).Pages s4.2.toNat default).Frame/\(List.getD (x_h.Guests.getD s2.2.toNat default).Pages s4.2.toNat default).Frame<((s4.1.length:Nat):Int)) (grd ((0:Int)<=(List.getD (x_h.Guests.getD s2.2.toNat default).Pages s4.2.toNat default).Frame/\(List.getD (x_h.Guests.getD s2.2.toNat default).Pages s4.2.toNat default).Frame<((s4.1.length:Nat):Int)) (some (.go (s4.1.set (Int.toNat (List.getD (x_h.Guests.getD s2.2.toNat default).Pages s4.2.toNat default).Frame) (w64 ((s4.1.getD (Int.toNat (List.getD (x_h.Guests.getD s2.2.toNat default).Pages s4.2.toNat default).Frame) default)+(1:Int))))))))
   (some (.go s4.1))))) λj5=>
   JO.run j5 (tP s4))
  (some (.ret (.go s4.1))))
noncomputable def oC (x_h:DHost)(s2:(List Int)×Int):Option (LO ((List Int)×Int) (JO (List Int) (List Int))):=
 cond (decide (s2.2<((x_h.Guests.length:Nat):Int)))
  (Option.bind (Option.bind (iter (lF x_h s2) (s2.1,(0:Int))) LO.val) λj3=>
   JO.run j3 (aBu s2))
  (some (.ret (.go s2.1)))
noncomputable def lQ (x_h:DHost):Option (List Int):=
 Option.bind (Option.bind (iter (oC x_h) ((List.replicate (Int.toNat (20:Int)) (0:Int)),(0:Int))) LO.val) λj1=>
  JO.run j1 aBh
noncomputable def bSs:Sg tG:=⟨[.st 26],.one (.row 3),lQ⟩
theorem cAy:Sok 115 bSs:=sgx [] trivial (.s .o (.s .o (.j ⟨[],[],[(.s 3,.ro 3)]⟩ (.s .o (.k (.l ⟨[1],[],[(.s 3,.ro 3),(.s 4,.i .i64)]⟩ (.s .o (.j ⟨[1,4],[],[(.s 3,.ro 3)]⟩ (.k (.s .o (.k (.l ⟨[1,4],[],[(.s 3,.ro 3),(.s 5,.i .i64)]⟩ (.s .o (.j ⟨[1,4,5],[],[(.s 3,.ro 3)]⟩ .o .o)))))) .o))))) .o))) kr kr kr
noncomputable def aJj  (s3:List Int):Option (List Int):=some s3
noncomputable def xM (s4:(List Int)×Int)(s5:List Int):Option (LO ((List Int)×Int) (JO (List Int) (List Int))):=some (.next (s5,w64 (s4.2+(1:Int))))
noncomputable def mG (v2:List Int)(s4:(List Int)×Int):Option (LO ((List Int)×Int) (JO (List Int) (List Int))):=
 cond (decide (s4.2<(20:Int)))
  (Option.bind (grd ((0:Int)<=s4.2/\s4.2<((v2.length:Nat):Int)) (cond (decide ((v2.getD s4.2.toNat default)=(0:Int)))
   (grd ((s4.1.length+List.length ([s4.2]:List Int))*8<=2^47/\s4.1.length+List.length ([s4.2]:List Int)<=2^47) (some (.go (s4.1++([s4.2]:List Int)))))
   (some (.go s4.1)))) λj5=>
   JO.run j5 (xM s4))
  (some (.ret (.go s4.1)))
noncomputable def jC (x_h:DHost):Option (List Int):=
 Option.bind (jK x_h) λv1=>
 cond (!v1)
  (some ([]:List Int))
  (Option.bind (lQ x_h) λv2=>
  Option.bind (Option.bind (iter (mG v2) (([]:List Int),(0:Int))) LO.val) λj3=>
   JO.run j3 aJj)
noncomputable def bKh:Sg tG:=⟨[.st 26],.one (.row 3),jC⟩
theorem bRp:Sok 114 bKh:=sgx [(142,.r aXi),(115,.r bSs)] ⟨bIu,cAy,trivial⟩ (.s .o (.s .o (.s .o (.s .o (.j ⟨[],[],[(.s 3,.ro 3)]⟩ (.s .o (.k (.l ⟨[4],[],[(.s 3,.ro 3),(.s 5,.i .i64)]⟩ (.s .o (.j ⟨[4,5],[],[(.s 3,.ro 3)]⟩ .o .o))))) .o))))) kr kr kr
noncomputable def cH (x_list:List Int):Option (List Int):=grd ((0:Int)<=((x_list.length:Nat):Int)/\((x_list.length:Nat):Int)*8<=2^47/\((x_list.length:Nat):Int)<=2^47) (some (over (List.replicate (Int.toNat ((x_list.length:Nat):Int)) (0:Int)) 0 (List.length (List.replicate (Int.toNat ((x_list.length:Nat):Int)) (0:Int))) x_list))
noncomputable def aTt:Sg tG:=⟨[.row 3],.one (.row 3),cH⟩
theorem aTu:Sok 117 aTt:=sgx [] trivial .o kr kr kr
theorem aUa{x_list:List Int}{R_:(List Int)}(hh:cH x_list=some R_):Fn Tryz.prog 117 [bo (eI .i64) x_list] (.own 3 1 R_.length (fl (eI .i64) R_)):=kc (aTu x_list R_ hh)
noncomputable def jM (x_c:DCore):Option DCore:=grd ((List.length ([]:List Int)+x_c.Regs.length)*8<=2^47/\List.length ([]:List Int)+x_c.Regs.length<=2^47) (some (DCore.mk (([]:List Int)++x_c.Regs) x_c.Pc x_c.Root x_c.Vector x_c.Saved x_c.SavedUser x_c.Cause x_c.Bad x_c.Timer x_c.Waits x_c.User x_c.On x_c.Stopped))
noncomputable def bJl:Sg tG:=⟨[.st 39],.one (.st 39),jM⟩
theorem bRx:Sok 132 bJl:=sgx [] trivial .o kr kr kr
noncomputable def qW (x_guests:List DGuest)(x_g:Int):Option Bool:=
 cond (decide ((0:Int)<=x_g))
  (cond (decide (x_g<(3:Int)))
   (grd ((0:Int)<=x_g/\x_g<((x_guests.length:Nat):Int)) (some (x_guests.getD x_g.toNat default).Live))
   (some false))
  (some false)
noncomputable def bZo:Sg tG:=⟨[.row 94,.i .i64],.one .b,qW⟩
theorem cEk:Sok 116 bZo:=sgx [] trivial .o kr kr kr
noncomputable def cL (x_h:DHost)(x_g:Int):Option Bool:=
 Option.bind (sX x_h) λv1=>
 cond v1
  (Option.bind (qW x_h.Guests x_g) λv2=>
  some v2)
  (some false)
noncomputable def g56:Sg tG:=⟨[.st 26,.i .i64],.one .b,cL⟩
theorem s56:Sok 56 g56:=sgx [(22,.r g22),(116,.r bZo)] ⟨s22,cEk,trivial⟩ .o kr kr kr
theorem aPj{x_h:DHost}{x_g:Int}{R_:Bool}(hh:cL x_h x_g=some R_):Fn Tryz.prog 56 [.agg (hG x_h),.int .i64 x_g] (.bool R_):=kc (s56 x_h x_g R_ hh)
noncomputable def cY (x_h:DHost)(x_g:Int):Option Bool:=
 Option.bind (jK x_h) λv1=>
 cond v1
  (Option.bind (bO x_g (0:Int) (2:Int)) λv2=>
  cond v2
   (grd ((0:Int)<=x_g/\x_g<((x_h.Guests.length:Nat):Int)) (some (x_h.Guests.getD x_g.toNat default).Live))
   (some false))
  (some false)
noncomputable def aFk:Sg tG:=⟨[.st 26,.i .i64],.one .b,cY⟩
theorem aJm:Sok 102 aFk:=sgx [(142,.r aXi),(51,.r g51)] ⟨bIu,s51,trivial⟩ .o kr kr kr
noncomputable def dR (x_b:DBare):Option DBare:=
 Option.bind (cH x_b.C.Regs) λv1=>
 Option.bind (cH x_b.Mem) λv2=>
 Option.bind (cH x_b.In) λv3=>
 Option.bind (cH x_b.Out) λv4=>
 some (DBare.mk (DCore.mk v1 x_b.C.Pc x_b.C.Root x_b.C.Vector x_b.C.Saved x_b.C.SavedUser x_b.C.Cause x_b.C.Bad x_b.C.Timer x_b.C.Waits x_b.C.User x_b.C.On x_b.C.Stopped) v2 v3 v4)
noncomputable def g57:Sg tG:=⟨[.st 41],.one (.st 41),dR⟩
theorem s57:Sok 57 g57:=sgx [(117,.r aTt)] ⟨aTu,trivial⟩ .o kr kr kr
theorem aSh:LW 151 ⟨12,[.tmp 4],.seq (.reg false (rg 151 0)) (.seq (.reg false (rg 151 1)) .ret)⟩:=kr
noncomputable def lR (x_words:List Int)(x_page:Int):Option (List Int):=grd ((0:Int)<=(w64 (x_page*(8:Int)))/\(w64 (x_page*(8:Int)))<=(w64 ((w64 (x_page+(1:Int)))*(8:Int)))/\(w64 ((w64 (x_page+(1:Int)))*(8:Int)))<=((x_words.length:Nat):Int)) (some (List.take (Int.toNat (w64 ((w64 (x_page+(1:Int)))*(8:Int)))-Int.toNat (w64 (x_page*(8:Int)))) (List.drop (Int.toNat (w64 (x_page*(8:Int)))) x_words)))
noncomputable def cAl:Sg tG:=⟨[.row 3,.i .i64],.one (.rb 3),lR⟩
theorem bZm:Sok 151 cAl:=sgx [] trivial .o kr kr kr
theorem aUx{x_words:List Int}{x_page:Int}{R_:(List Int)}(hh:lR x_words x_page=some R_):Fn Tryz.prog 151 [bo (eI .i64) x_words,.int .i64 x_page] (bo (eI .i64) R_):=kc (bZm x_words x_page R_ hh)
noncomputable def fY (x_words:List Int)(x_page:Int):Option ((List Int)×(Nat×Nat)):=grd ((0:Int)<=(w64 (x_page*(8:Int)))/\(w64 (x_page*(8:Int)))<=(w64 ((w64 (x_page+(1:Int)))*(8:Int)))/\(w64 ((w64 (x_page+(1:Int)))*(8:Int)))<=((x_words.length:Nat):Int)) (some (x_words,((Int.toNat (w64 (x_page*(8:Int)))),(Int.toNat (w64 ((w64 (x_page+(1:Int)))*(8:Int)))-Int.toNat (w64 (x_page*(8:Int)))))))
theorem tI{x_words:List Int}{x_page:Int}{R_:(List Int)×(Nat×Nat)}(hh:fY x_words x_page=some R_):Inl Tryz.prog 151 [.sref 0 [] 0 x_words.length 1,.int .i64 x_page] [(0,some (rI_3 x_words))] 1 (.sref 0 [] (0+R_.2.1*1) R_.2.2 1) [(0,some (rI_3 R_.1))] 1:=by unfold fY at hh;let q1:Root:=(rI_3 x_words);refine Inl.start aSh [0,1] [0] (E:=sp 12 [(0,sw 0 x_words),(1,ii x_page)]) (H1:=[(0,some q1)]) kr kr (sy [0,1] [0] (sp 12 [(0,sw 0 x_words),(1,ii x_page)]) [(0,some q1)] 1 (Aw.sreg [4] [0] (yu 6 [(5,sw 0 x_words),(6,ii x_page),(7,ii (w64 (x_page*(8:Int)))),(8,ii x_page),(9,ii (w64 (x_page+(1:Int)))),(10,ii (w64 ((w64 (x_page+(1:Int)))*(8:Int))))] [(0,some q1)] 1 ?_)));obtain⟨hg2,hh⟩:=bE hh;refine ys (.slc 1 (.t 5) (some (.t 7)) (some (.t 10))) (some 11) (bCs (r:=0) (π:=[]) (o:=0) (k:=x_words.length) (sz:=1) (l:=(w64 (x_page*(8:Int)))) (h:=(w64 ((w64 (x_page+(1:Int)))*(8:Int)))) kr kr kr hg2 ?_);refine yt (sp 12 [(4,.sref 0 [] (0+Int.toNat (w64 (x_page*(8:Int)))*1) (Int.toNat (w64 ((w64 (x_page+(1:Int)))*(8:Int)))-Int.toNat (w64 (x_page*(8:Int)))) 1)]) [(0,some q1)] 1 (Aw.ret ?_);rw[cU hh];exact sR (r':= .sref 0 [] (0+Int.toNat (w64 (x_page*(8:Int)))*1) (Int.toNat (w64 ((w64 (x_page+(1:Int)))*(8:Int)))-Int.toNat (w64 (x_page*(8:Int)))) 1) kr (el [some 0] (nD yN) (hn bK dB))
theorem aNq:LW 118 ⟨29,[.tmp 4],.seq (.reg false (rg 118 0)) (.seq (.reg false (rg 118 1)) (.seq (.seq (.reg false (rg 118 2)) (.block 0 (.loop (.seq (.reg false (rg 118 3)) (.seq (.cond (.t 12) .skip (.exit 0)) (.seq (.block 1 (.seq (.reg false (rg 118 4)) (.seq (.reg false (rg 118 5)) (.cond (.t 18) (.regd (rg 118 6) (rg 118 7)) .skip)))) (.reg false (rg 118 8)))))))) (.seq (.reg false (rg 118 10)) .ret)))⟩:=kr
noncomputable def mY  (s1:List Int):Option (List Int):=some s1
noncomputable def jT (s2:(List Int)×Int)(s3:List Int):Option (LO ((List Int)×Int) (JO (List Int) (List Int))):=some (.next (s3,w64 (s2.2+(1:Int))))
noncomputable def jZ (x_words:List Int)(x_pages:List DSlot)(s2:(List Int)×Int):Option (LO ((List Int)×Int) (JO (List Int) (List Int))):=
 cond (decide (s2.2<((x_pages.length:Nat):Int)))
  (Option.bind (grd ((0:Int)<=s2.2/\s2.2<((x_pages.length:Nat):Int)) (cond (!decide ((x_pages.getD s2.2.toNat default).Frame=(-1:Int)))
   (Option.bind (fY s2.1 s2.2) λv4=>
   grd (v4.1.length=s2.1.length) (grd (v4.2.1+v4.2.2<=v4.1.length) (Option.bind (lR x_words (x_pages.getD s2.2.toNat default).Frame) λv5=>
    some (.go (over v4.1 v4.2.1 v4.2.2 v5)))))
   (some (.go s2.1)))) λj3=>
   JO.run j3 (jT s2))
  (some (.ret (.go s2.1)))
noncomputable def kJ (x_words:List Int)(x_pages:List DSlot):Option (List Int):=
 Option.bind (Option.bind (iter (jZ x_words x_pages) ((List.replicate (Int.toNat (64:Int)) (0:Int)),(0:Int))) LO.val) λj1=>
  JO.run j1 mY
theorem aSw{x_words:List Int}{x_pages:List DSlot}{R_:(List Int)}(hh:kJ x_words x_pages=some R_):Fn Tryz.prog 118 [bo (eI .i64) x_words,bo gL x_pages] (.own 3 1 R_.length (fl (eI .i64) R_)):=by let z2:=(0,bo (eI .i64) x_words);let z3:=(1,bo gL x_pages);let z4:=(10,ii ((x_pages.length:Nat):Int));let z5:EV:=(5,.sref 0 [] 0 (List.length (List.replicate (Int.toNat (64:Int)) (0:Int))) 1);let z6:=(9,bo gL x_pages);unfold kJ at hh;refine Fn.start aNq [0,1] (E:=sp 29 [z2,z3]) kr (v:=sw 0 R_) (Hr:=[(0,some (rI_3 R_))]) (k:=1) kr (sy [0,1] [] (sp 29 [z2,z3]) [] 0 (Aw.sreg [0,1,5] [0] (ys (.mk 3 1 8 [ii 0] (.c (ii 64))) (some 8) (aXf (c:=(eI .i64)) (d:=(0:Int)) (k:=(64:Int)) kr dd kr ?_))));let q1:Root:=(rI_3 (List.replicate (Int.toNat (64:Int)) (0:Int)));refine yt (sp 29 [z2,z3,z5]) [(0,some q1)] 1 ?_;obtain⟨j1,hh,hk1⟩:=bind_some hh;refine Aw.join (S:=(List Int)) (λs1=>sp 29 [(5,sw 0 s1)]) (λs1=>[(0,some (rI_3 s1))]) 1 (λs1=>mY s1=some R_) ?_ ?_;{intro s1 hh;unfold mY at hh;refine sy [4] [0] (sp 29 [(4,sw 0 s1)]) [(0,some (rI_3 s1))] 1 (Aw.ret ?_);rw[cU hh];exact sR (r':=sw 0 s1) kr (Ent.list [some 0] rfl rfl (Nat.zero_le _) (nD yN) (hn bK dB))};intro Q1 hN1 hR1 hE1;refine sy [0,5,9,10,11] [0] (sp 29 [z2,z5,z6,z4,(11,ii 0)]) [(0,some q1)] 1 (Aw.block ?_);obtain⟨o2,hi2,hk2⟩:=bind_some hh;refine Aw.iter (λ(s2:(List Int)×Int)=>sp 29 [(0,bo (eI .i64) x_words),(5,sw 0 s2.1),(9,bo gL x_pages),(10,ii ((x_pages.length:Nat):Int)),(11,ii s2.2)]) (λ(s2:(List Int)×Int)=>[(0,some (rI_3 s2.1))]) 1 hi2 (el [some 0] (wV kr (ro bK (rs (.sref 0 [] 0 (List.length (List.replicate (Int.toNat (64:Int)) (0:Int))) 1) (ro oY (ri (ri aOk)))))) (hn bK dB)) ?_;intro s2 u2 Q2 hh hN2 hX2 hR2;let z7:EH:=(0,some (rI_3 s2.1));let z8:=(11,ii s2.2);let z9:=(12,bb (decide (s2.2<((x_pages.length:Nat):Int))));let z10:=(5,sw 0 s2.1);let z11:=(6,ii s2.2);let z1:=x_pages.getD s2.2.toNat default;let z12:=(18,bb (!decide (z1.Frame=(-1:Int))));unfold jZ at hh;refine sy [0,5,9,10,11,12] [0] (sp 29 [z2,z10,z6,z4,z8,z9]) [z7] 1 (Aw.seq ?_);rcases aTy hh with⟨hb,hh⟩|⟨hb,hh⟩;{refine cF hb (Aw.exit (bZq (hX2 _ _ _ _ _ (cU hh) ?_)));intro hout;rw[hout]at hk2;refine bTx ?_;obtain rfl:=cU hk2;exact hN1 s2.1 _ _ _ hk1 (el [some 0] (wV kr (rs (sw 0 s2.1) aOk)) (hn bK dB))};refine cT hb (Aw.xskip (λ_ _ _ hq=>aKk hq) ?_);obtain⟨j3,hh,hk3⟩:=bind_some hh;refine Aw.join (S:=(List Int)) (λs3=>sp 29 [(0,bo (eI .i64) x_words),(5,sw 0 s3),(9,bo gL x_pages),(10,ii ((x_pages.length:Nat):Int)),(11,ii s2.2)]) (λs3=>[(0,some (rI_3 s3))]) 1 (λs3=>jT s2 s3=some u2) ?_ ?_;{intro s3 hh;unfold jT at hh;exact Aw.oreg (ye (sp 29 [z2,(5,sw 0 s3),z6,z4,(11,ii (w64 (s2.2+(1:Int)))),(27,ii (w64 (s2.2+(1:Int))))]) [(0,some (rI_3 s3))] 1 (hN2 (s3,w64 (s2.2+(1:Int))) _ _ _ (cU hh) (el [some 0] (wV kr (ro bK (rs (sw 0 s3) (ro oY (ri (ri aOk)))))) (hn bK dB))))};intro Q3 hN3 hR3 hE3;refine Aw.block (Aw.sreg [0,5,6,7,9,10,11] [0,1] (yj 1  (sp 29 [z2,z10,z6,z4,z8,z9,(13,ii s2.2)]) [z7] 1 ?_));obtain⟨hg104,hh⟩:=bE hh;refine ys (.iadr 3 (.t 9) (.t 11)) (some 14) (aTr (kd:= .i64) (c:=gL) (xs:=x_pages) qH dd kr kr hg104 ?_);refine ys (.load true 3 (.t 14)) (some 15) (aVy (c:=gL) (xs:=x_pages) (o:=Int.toNat s2.2*3) (i:=s2.2.toNat) (off:=0) (v:= .agg [ii z1.Frame,bb z1.Write,bb z1.Dirty]) qH kr ltn ltn dd kr ?_);let q2:Root:=⟨91,[ii z1.Frame,bb z1.Write,bb z1.Dirty]⟩;let z13:=(1,some q2);refine yt (sp 29 [z2,z10,z11,(7,pp 1),z6,z4,z8]) [z7,z13] 2 (sy [0,5,6,7,9,10,11,18] [0,1] (sp 29 [z2,z10,z11,(7,pp 1),z6,z4,z8,z12]) [z7,z13] 2 ?_);rcases aTy hh with⟨hb,hh⟩|⟨hb,hh⟩;{refine cF hb (Aw.skip (bJu ?_));obtain rfl:=cU hh;exact hN3 s2.1 _ _ _ hk3 (el [some 0] (wV kr (ro bK (rs (sw 0 s2.1) (ro oY (ri (ri aOk)))))) (hn bK dB))};refine cT hb (Aw.oregd [0] kr (dj 2 (sp 29 [z2,z10,z11,(7,pp 1),z6,z4,z8,z12,(19,sw 0 s2.1),(20,ii s2.2)]) [z7,z13] 2 ?_));obtain⟨v4,hv4,hh⟩:=bind_some hh;let z14:EH:=(0,some (rI_3 v4.1));let z15:EV:=(21,.sref 0 [] (0+v4.2.1*1) v4.2.2 1);obtain⟨hg107,hh⟩:=bE hh;obtain⟨hg108,hh⟩:=bE hh;refine ds (.call 151 [.t 19,.t 20]) (some 21) (aWt rfl (cf (.sref 0 [] (0+v4.2.1*1) v4.2.2 1) [z14] 2 [0] (tI hv4) [sw 0 s2.1,ii s2.2] rz (hn bK dB) yN (hn bK dB) ⟨⟨⟨by decide,aIq rfl rfl⟩,Hld.un ?_⟩⟩));refine dt (sp 29 [z2,z10,z11,(7,pp 1),z6,z4,z8,z12,(19,sw 0 s2.1),(20,ii s2.2),z15,(22,bo (eI .i64) x_words),(23,pp 1),(24,ii z1.Frame)]) [z14,(0,none),z7,z13] 2 ?_;obtain⟨v5,hv5,hh⟩:=bind_some hh;refine ys (.call 151 [.t 22,.t 24]) (some 25) (aPo (r:=bo (eI .i64) v5) (v:=bo (eI .i64) v5) (Hr:=[]) (n':=2) (aUx hv5) (zT (vs:=[bo (eI .i64) x_words,ii z1.Frame]) kr (lK (aF (aCc (bN cX))) (cz1 rL))) nrr kr ?_);let q3:Root:=(rI_3 (over v4.1 v4.2.1 v4.2.2 v5));refine ys (.cpy 1 (.t 21) (.t 25)) (some 26) (aJr (c:=(eI .i64)) (xs:=v4.1) (ys:=v5) (e:=3) (r:=0) (π:=[]) (o:=0+v4.2.1*1) (k:=v4.2.2) (i:=v4.2.1) (H':=[(0,some q3),z14,(0,none),z7,z13]) cD (rpv kr (aRe (c:=(eI .i64)) (xs:=v5) cD)) kr kr ltn ltn kr ?_);refine ye (sp 29 [z2,z10,z11,(7,pp 1),z6,z4,z8,z12,(19,sw 0 s2.1),(20,ii s2.2),z15,(22,bo (eI .i64) x_words),(23,pp 1),(24,ii z1.Frame),(25,bo (eI .i64) v5),(26,ii ((min v4.2.2 v5.length:Nat):Int))]) [(0,some q3),z14,(0,none),z7,z13] 2 (bJu ?_);obtain rfl:=cU hh;exact hN3 (over v4.1 v4.2.1 v4.2.2 v5) _ _ _ hk3 (el [some 0] (wV kr (ro bK (rs (sw 0 s2.1) (ro oY (ri (ri aOk)))))) (hn bK dB))
noncomputable def bZt:Sg tG:=⟨[.row 3,.row 91],.one (.row 3),kJ⟩
theorem cDb:Sok 118 bZt:=λx_words x_pages R_ hh=>kc (aSw (x_words:=x_words) (x_pages:=x_pages) hh)
noncomputable def tE (x_h:DHost)(x_g:Int):Option DBare:=
 grd ((0:Int)<=x_g/\x_g<((x_h.Guests.length:Nat):Int)) (Option.bind (kJ x_h.Words (x_h.Guests.getD x_g.toNat default).Pages) λv1=>
  some (DBare.mk (DCore.mk ((x_h.Guests.getD x_g.toNat default).C).Regs ((x_h.Guests.getD x_g.toNat default).C).Pc ((x_h.Guests.getD x_g.toNat default).C).Root ((x_h.Guests.getD x_g.toNat default).C).Vector ((x_h.Guests.getD x_g.toNat default).C).Saved ((x_h.Guests.getD x_g.toNat default).C).SavedUser ((x_h.Guests.getD x_g.toNat default).C).Cause ((x_h.Guests.getD x_g.toNat default).C).Bad ((x_h.Guests.getD x_g.toNat default).C).Timer ((x_h.Guests.getD x_g.toNat default).C).Waits ((x_h.Guests.getD x_g.toNat default).C).User ((x_h.Guests.getD x_g.toNat default).C).On ((x_h.Guests.getD x_g.toNat default).C).Stopped) v1 (x_h.Guests.getD x_g.toNat default).In (x_h.Guests.getD x_g.toNat default).Out))
noncomputable def g58:Sg tG:=⟨[.st 26,.i .i64],.one (.sb 41),tE⟩
theorem s58:Sok 58 g58:=sgx [(118,.r bZt)] ⟨cDb,trivial⟩ .o kr kr kr
noncomputable def fV (x_h:DHost)(x_g:Int):Option (DBare×Bool):=
 Option.bind (cL x_h x_g) λv1=>
 cond (!v1)
  (some ((DBare.mk (DCore.mk ([]:List Int) (0:Int) (0:Int) (0:Int) (0:Int) false (0:Int) (0:Int) (0:Int) false false false false) ([]:List Int) ([]:List Int) ([]:List Int)),false))
  (Option.bind (tE x_h x_g) λv2=>
  Option.bind (dR v2) λv3=>
  some (v3,true))
noncomputable def g13:Sg tG:=⟨[.st 26,.i .i64],.two (.st 41) .b,fV⟩
theorem s13:Sok 13 g13:=sgx [(56,.r g56),(58,.r g58),(57,.r g57)] ⟨s56,s58,s57,trivial⟩ .o kr kr kr
noncomputable def iI (x_pages:List DSlot):Option (List DSlot):=grd ((0:Int)<=((x_pages.length:Nat):Int)/\((x_pages.length:Nat):Int)*16<=2^47/\((x_pages.length:Nat):Int)<=2^47) (some (over (List.replicate (Int.toNat ((x_pages.length:Nat):Int)) (DSlot.mk (0:Int) false false)) 0 (List.length (List.replicate (Int.toNat ((x_pages.length:Nat):Int)) (DSlot.mk (0:Int) false false))) x_pages))
noncomputable def bSk:Sg tG:=⟨[.row 91],.one (.row 91),iI⟩
theorem bZr:Sok 150 bSk:=sgx [] trivial .o kr kr kr
noncomputable def iR (x_guest:DGuest):Option DGuest:=
 cond (!x_guest.Live)
  (some (DGuest.mk false (DCore.mk ([]:List Int) (0:Int) (0:Int) (0:Int) (0:Int) false (0:Int) (0:Int) (0:Int) false false false false) ([]:List DSlot) ([]:List Int) ([]:List Int)))
  (Option.bind (cH x_guest.C.Regs) λv1=>
  Option.bind (iI x_guest.Pages) λv2=>
  Option.bind (cH x_guest.In) λv3=>
  Option.bind (cH x_guest.Out) λv4=>
  some (DGuest.mk x_guest.Live (DCore.mk v1 x_guest.C.Pc x_guest.C.Root x_guest.C.Vector x_guest.C.Saved x_guest.C.SavedUser x_guest.C.Cause x_guest.C.Bad x_guest.C.Timer x_guest.C.Waits x_guest.C.User x_guest.C.On x_guest.C.Stopped) v2 v3 v4))
noncomputable def bXh:Sg tG:=⟨[.st 94],.one (.st 94),iR⟩
theorem cCq:Sok 201 bXh:=sgx [(117,.r aTt),(150,.r bSk)] ⟨aTu,bZr,trivial⟩ .o kr kr kr
noncomputable def aDf  (s1:List DGuest):Option (List DGuest):=some s1
noncomputable def eY (x_guests:List DGuest)(s2:(List DGuest)×Int):Option (LO ((List DGuest)×Int) (JO (List DGuest) (List DGuest))):=
 cond (decide (s2.2<((x_guests.length:Nat):Int)))
  (grd ((0:Int)<=s2.2/\s2.2<((x_guests.length:Nat):Int)) (Option.bind (iR (DGuest.mk (x_guests.getD s2.2.toNat default).Live (DCore.mk ((x_guests.getD s2.2.toNat default).C).Regs ((x_guests.getD s2.2.toNat default).C).Pc ((x_guests.getD s2.2.toNat default).C).Root ((x_guests.getD s2.2.toNat default).C).Vector ((x_guests.getD s2.2.toNat default).C).Saved ((x_guests.getD s2.2.toNat default).C).SavedUser ((x_guests.getD s2.2.toNat default).C).Cause ((x_guests.getD s2.2.toNat default).C).Bad ((x_guests.getD s2.2.toNat default).C).Timer ((x_guests.getD s2.2.toNat default).C).Waits ((x_guests.getD s2.2.toNat default).C).User ((x_guests.getD s2.2.toNat default).C).On ((x_guests.getD s2.2.toNat default).C).Stopped) (x_guests.getD s2.2.toNat default).Pages (x_guests.getD s2.2.toNat default).In (x_guests.getD s2.2.toNat default).Out)) λv3=>
   grd ((0:Int)<=s2.2/\s2.2<((s2.1.length:Nat):Int)) (some (.next ((s2.1.set s2.2.toNat v3),w64 (s2.2+(1:Int)))))))
  (some (.ret (.go s2.1)))
noncomputable def gW (x_guests:List DGuest):Option (List DGuest):=
 grd ((0:Int)<=((x_guests.length:Nat):Int)/\((x_guests.length:Nat):Int)*176<=2^47/\((x_guests.length:Nat):Int)<=2^47) (Option.bind (Option.bind (iter (eY x_guests) ((List.replicate (Int.toNat ((x_guests.length:Nat):Int)) (DGuest.mk false (DCore.mk ([]:List Int) (0:Int) (0:Int) (0:Int) (0:Int) false (0:Int) (0:Int) (0:Int) false false false false) ([]:List DSlot) ([]:List Int) ([]:List Int))),(0:Int))) LO.val) λj1=>
  JO.run j1 aDf)
noncomputable def bPa:Sg tG:=⟨[.row 94],.one (.row 1094),gW⟩
theorem cAq:Sok 169 bPa:=sgx [(201,.r bXh)] ⟨cCq,trivial⟩ (.s .o (.s (.g [] [] [.fo (.s 3) 0]) (.j ⟨[],[],[(.s 3,.ro 1094)]⟩ (.s .o (.k (.l ⟨[9,10],[],[(.s 3,.ro 1094),(.s 11,.i .i64)]⟩ (.s .o (.s .o (.s (.k (.s .o (.g [] [] [.fo (.s 3) 0]))) .o)))))) .o))) kr kr kr
noncomputable def tW (x_guests:List DGuest)(x_g:Int)(x_guest:DGuest):Option (List DGuest):=
 Option.bind (gW x_guests) λv1=>
 grd ((0:Int)<=x_g/\x_g<((v1.length:Nat):Int)) (some (v1.set x_g.toNat x_guest))
noncomputable def cDz:Sw tG:=⟨[.v (.row 94),.v (.i .i64),.os 94],.one (.row 1094),tW⟩
theorem cCt:Sjk 130 cDz:=sgy [(169,.r bPa)] ⟨cAq,trivial⟩ (.s .o (.s .o (.s (.g [] [] [.fo (.s 7) 0]) .o))) kr kr kr
theorem aLz{x_guests:List DGuest}{x_g:Int}{x_guest:DGuest}{R_:(List DGuest)}(hh:tW x_guests x_g x_guest=some R_):Inl Tryz.prog 130 [bo iJ x_guests,.int .i64 x_g,.agg [.bool x_guest.Live,.sref 0 [] 0 x_guest.C.Regs.length 1,.int .i64 x_guest.C.Pc,.int .i64 x_guest.C.Root,.int .i64 x_guest.C.Vector,.int .i64 x_guest.C.Saved,.bool x_guest.C.SavedUser,.int .i64 x_guest.C.Cause,.int .i64 x_guest.C.Bad,.int .i64 x_guest.C.Timer,.bool x_guest.C.Waits,.bool x_guest.C.User,.bool x_guest.C.On,.bool x_guest.C.Stopped,.sref 1 [] 0 x_guest.Pages.length 3,.sref 2 [] 0 x_guest.In.length 1,.sref 3 [] 0 x_guest.Out.length 1]] [(3,some (rI_3 x_guest.Out)),(2,some (rI_3 x_guest.In)),(1,some (rC91 x_guest.Pages)),(0,some (rI_3 x_guest.C.Regs))] 4 (.sref 4 [] 0 R_.length 17) [(4,some (rO94 R_))] 5:=kc (cCt x_guests x_g x_guest R_ hh)
theorem aMc:LW 66 ⟨20,[.cell 4 true 2,.tmp 5],.seq (.reg false (rg 66 0)) (.seq (.seq (.reg false (rg 66 1)) (.cond (.t 9) (.seq (.reg false (rg 66 2)) .ret) .skip)) (.seq (.regd (rg 66 3) (rg 66 4)) .ret))⟩:=kr
noncomputable def pN (x_h:DHost)(x_g:Int):Option (DHost×Bool):=
 Option.bind (cL x_h x_g) λv1=>
 cond (!v1)
  (some ((DHost.mk ([]:List Int) ([]:List DGuest)),false))
  (Option.bind (cH x_h.Words) λv2=>
  Option.bind (tW x_h.Guests x_g (DGuest.mk false (DCore.mk ([]:List Int) (0:Int) (0:Int) (0:Int) (0:Int) false (0:Int) (0:Int) (0:Int) false false false false) ([]:List DSlot) ([]:List Int) ([]:List Int))) λv3=>
  some ((DHost.mk v2 v3),true))
theorem aNv{x_h:DHost}{x_g:Int}{R_:DHost×Bool}(hh:pN x_h x_g=some R_):Fn Tryz.prog 66 [.agg (hG x_h),.int .i64 x_g] (.tup [.agg [.own 3 1 R_.1.Words.length (fl (eI .i64) R_.1.Words),.own 94 17 R_.1.Guests.length (fl fG R_.1.Guests)],.bool R_.2]):=by let z1:EH:=(0,some (rB26 x_h));let z2:=(1,ii x_g);let z3:EH:=(1,some ⟨26,[.nil,.nil]⟩);let z4:=(12,bo (eI .i64) x_h.Words);let z5:=(4,pp 1);unfold pN at hh;refine Fn.start aMc [0,1] (E:=sp 20 [(0,.agg (hG x_h)),z2]) kr (v:= .tup [.agg [sw 0 R_.1.Words,.sref 1 [] 0 R_.1.Guests.length 17],bb R_.2]) (Hr:=[(1,some (rO94 R_.1.Guests)),(0,some (rI_3 R_.1.Words))]) (k:=2) kr (sy [1,2,4] [0,1] (sp 20 [z2,(2,pp 0),z5]) [z1,z3] 2 (Aw.seq (Aw.sreg [1,2,4,9] [0,1] (yj 2  (sp 20 [z2,(2,pp 0),z5,(6,.agg (hG x_h)),(7,ii x_g)]) [z1,z3] 2 ?_))));obtain⟨v1,hv1,hh⟩:=bind_some hh;refine ys (.call 56 [.t 6,.t 7]) (some 8) (uK (r:=bb v1) (v:=bb v1) (Hr:=[]) (n':=2) (aPj hv1) (zT (vs:=[.agg (hG x_h),ii x_g]) kr (lK (aF (aCt (aAi _))) (cz1 rL))) rfl rfl kr ?_);refine yt (sp 20 [z2,(2,pp 0),z5,(9,bb (!v1))]) [z1,z3] 2 ?_;rcases xE hh with⟨hb,hh⟩|⟨hb,hh⟩;{refine cT hb (sy [4,5] [1] (sp 20 [z5,(5,bb false)]) [z3] 2 (Aw.ret (aTb ?_)));rw[cU hh];exact sR (r':= .tup [.agg [.nil,.nil],bb false]) kr (Ent.list [none,none] rfl rfl (Nat.zero_le _) (nD (kN rz)) (aLb dd rfl rfl (aLb dd rfl rfl dB)))};refine cF hb (Aw.xskip (λ_ _ _ hq=>aKk hq) (Aw.sregd [4,5] [1,2,7] [] kr (dj 2 (sp 20 [z2,(2,pp 0),z5,(9,bb (!v1)),(11,pp 0),z4]) [z1,z3] 2 ?_)));obtain⟨v2,hv2,hh⟩:=bind_some hh;let z6:EH:=(2,some (rI_3 v2));refine ds (.call 117 [.t 12]) (some 13) (aWt rfl (uK (r:= .own 3 1 v2.length (fl (eI .i64) v2)) (v:=sw 2 v2) (Hr:=[z6]) (n':=3) (aUa hv2) (zT (vs:=[bo (eI .i64) x_h.Words]) kr (lK (aF (aCc (bN cX))) rL)) nrr nrr kr ⟨⟨⟨by decide,bCn (n:=2) (n0:=2) (r:= .own 3 1 v2.length (fl (eI .i64) v2)) (v:=sw 2 v2) (Hr:=[z6]) (n':=3) kr dd⟩,Hld.un ?_⟩⟩));refine dt (sp 20 [z2,(2,pp 0),z5,(9,bb (!v1)),(11,pp 0),z4,(13,sw 2 v2),(14,.ptr 0 [] 1),(15,bo iJ x_h.Guests),(16,ii x_g),(17,.agg (bb false:: .nil::pP [.nil,.nil,.nil]))]) [z6,z1,z3] 3 ?_;obtain⟨v3,hv3,hh⟩:=bind_some hh;refine ys (.call 130 [.t 15,.t 16,.t 17]) (some 18) (bPr (args:=[bo iJ x_h.Guests,ii x_g,.agg (bb false:: .nil::pP [.nil,.nil,.nil])]) (args2:=[bo iJ x_h.Guests,ii x_g,.agg (bb false:: .sref 3 [] 0 0 1::pP [.sref 4 [] 0 0 3,.sref 5 [] 0 0 1,.sref 6 [] 0 0 1])]) kr (Ent.trans (Ent.nils (n:=6) (e:=3) (xs2:=[bo iJ x_h.Guests,ii x_g,.agg (bb false:: .sref 3 [] 0 0 1::pP [.sref 4 [] 0 0 3,.sref 5 [] 0 0 1,.sref 6 [] 0 0 1])]) (aY (.same _) (aY (.same _) (aY (.agg _ _ (aY (.same _) (aY (.same _) (aY (.same _) (aY (.same _) (aY (.same _) (aY (.same _) (aY (.same _) (aY (.same _) (aY (.same _) (aY (.same _) (aY (.same _) (aY (.same _) (aY (.same _) (aY (.same _) (aY (.same _) (aY (.same _) (aY (.nil _) aIr)))))))))))))))))) aIr)))) (Ent.trans (Ent.nils (n:=5) (e:=3) (xs2:=[bo iJ x_h.Guests,ii x_g,.agg (bb false:: .sref 3 [] 0 0 1::pP [.sref 4 [] 0 0 3,.sref 5 [] 0 0 1,.nil])]) (aY (.same _) (aY (.same _) (aY (.agg _ _ (aY (.same _) (aY (.same _) (aY (.same _) (aY (.same _) (aY (.same _) (aY (.same _) (aY (.same _) (aY (.same _) (aY (.same _) (aY (.same _) (aY (.same _) (aY (.same _) (aY (.same _) (aY (.same _) (aY (.same _) (aY (.nil _) (aY (.same _) aIr)))))))))))))))))) aIr)))) (Ent.trans (Ent.nils (n:=4) (e:=91) (xs2:=[bo iJ x_h.Guests,ii x_g,.agg (bb false:: .sref 3 [] 0 0 1::pP [.sref 4 [] 0 0 3,.nil,.nil])]) (aY (.same _) (aY (.same _) (aY (.agg _ _ (aY (.same _) (aY (.same _) (aY (.same _) (aY (.same _) (aY (.same _) (aY (.same _) (aY (.same _) (aY (.same _) (aY (.same _) (aY (.same _) (aY (.same _) (aY (.same _) (aY (.same _) (aY (.same _) (aY (.nil _) (aY (.same _) (aY (.same _) aIr)))))))))))))))))) aIr)))) (Ent.nils (n:=3) (e:=3) (xs2:=[bo iJ x_h.Guests,ii x_g,.agg (bb false:: .sref 3 [] 0 0 1::pP [.nil,.nil,.nil])]) (aY (.same _) (aY (.same _) (aY (.agg _ _ (aY (.same _) (aY (.nil _) (aY (.same _) (aY (.same _) (aY (.same _) (aY (.same _) (aY (.same _) (aY (.same _) (aY (.same _) (aY (.same _) (aY (.same _) (aY (.same _) (aY (.same _) (aY (.same _) (aY (.same _) (aY (.same _) (aY (.same _) aIr)))))))))))))))))) aIr))))))) (Inl.frameB (v':= .sref 7 [] 0 v3.length 17) (Hp':=[(7,some (rO94 v3))]) (n':=8) [3,4,5,6] (aLz hv3) rfl rfl rfl rz rfl (hq ⟨3,[]⟩ (aK rfl) (hq ⟨3,[]⟩ (aK rfl) (hq ⟨91,[]⟩ (aK rfl) (hq ⟨3,[]⟩ (aK rfl) dB)))) yN rfl (hn kL dB) rfl) ?_);refine yt (sp 20 [z5,(5,bb true)]) [(1,some ⟨26,[sw 2 v2,.sref 7 [] 0 v3.length 17]⟩),z6,(7,some (rO94 v3))] 8 (Aw.ret ?_);rw[cU hh];exact sR (r':= .tup [.agg [sw 2 v2,.sref 7 [] 0 v3.length 17],bb true]) kr (Ent.list [some 2,some 7] rfl rfl (Nat.zero_le _) (nD (kN rz)) (hn kL (hn bK dB)))
noncomputable def g66:Sg tG:=⟨[.st 26,.i .i64],.two (.st 2026) .b,pN⟩
theorem s66:Sok 66 g66:=λx_h x_g R_ hh=>kc (aNv (x_h:=x_h) (x_g:=x_g) hh)
noncomputable def hZ (x_g:DGuest):Option DGuest:=
 cond (!x_g.Live)
  (some (DGuest.mk false (DCore.mk ([]:List Int) (0:Int) (0:Int) (0:Int) (0:Int) false (0:Int) (0:Int) (0:Int) false false false false) ([]:List DSlot) ([]:List Int) ([]:List Int)))
  (Option.bind (jM x_g.C) λv1=>
  grd (x_g.Pages.length*16<=2^47/\x_g.Pages.length<=2^47) (grd (x_g.In.length*8<=2^47/\x_g.In.length<=2^47) (grd (x_g.Out.length*8<=2^47/\x_g.Out.length<=2^47) (some (DGuest.mk true v1 x_g.Pages x_g.In x_g.Out)))))
noncomputable def g69:Sg tG:=⟨[.st 94],.one (.st 94),hZ⟩
theorem s69:Sok 69 g69:=sgx [(132,.r bJl)] ⟨bRx,trivial⟩ .o kr kr kr
noncomputable def aQa (x_h:DHost)(s1:List DGuest):Option DHost:=some (DHost.mk (([]:List Int)++x_h.Words) s1)
noncomputable def oF (x_h:DHost)(s2:(List DGuest)×Int):Option (LO ((List DGuest)×Int) (JO (List DGuest) DHost)):=
 cond (decide (s2.2<((x_h.Guests.length:Nat):Int)))
  (grd ((0:Int)<=s2.2/\s2.2<((x_h.Guests.length:Nat):Int)) (Option.bind (hZ (DGuest.mk (x_h.Guests.getD s2.2.toNat default).Live (DCore.mk ((x_h.Guests.getD s2.2.toNat default).C).Regs ((x_h.Guests.getD s2.2.toNat default).C).Pc ((x_h.Guests.getD s2.2.toNat default).C).Root ((x_h.Guests.getD s2.2.toNat default).C).Vector ((x_h.Guests.getD s2.2.toNat default).C).Saved ((x_h.Guests.getD s2.2.toNat default).C).SavedUser ((x_h.Guests.getD s2.2.toNat default).C).Cause ((x_h.Guests.getD s2.2.toNat default).C).Bad ((x_h.Guests.getD s2.2.toNat default).C).Timer ((x_h.Guests.getD s2.2.toNat default).C).Waits ((x_h.Guests.getD s2.2.toNat default).C).User ((x_h.Guests.getD s2.2.toNat default).C).On ((x_h.Guests.getD s2.2.toNat default).C).Stopped) (x_h.Guests.getD s2.2.toNat default).Pages (x_h.Guests.getD s2.2.toNat default).In (x_h.Guests.getD s2.2.toNat default).Out)) λv3=>
   grd ((s2.1.length+1)*176<=2^47/\s2.1.length+1<=2^47) (some (.next ((s2.1++([v3]:List DGuest)),w64 (s2.2+(1:Int)))))))
  (some (.ret (.go s2.1)))
noncomputable def cR (x_h:DHost):Option DHost:=
 grd ((List.length ([]:List Int)+x_h.Words.length)*8<=2^47/\List.length ([]:List Int)+x_h.Words.length<=2^47) (Option.bind (Option.bind (iter (oF x_h) (([]:List DGuest),(0:Int))) LO.val) λj1=>
  JO.run j1 (aQa x_h))
noncomputable def aKf:Sg tG:=⟨[.st 26],.one (.st 2026),cR⟩
theorem aOb:Sok 103 aKf:=sgx [(69,.r g69)] ⟨s69,trivial⟩ (.s .o (.s .o (.j ⟨[2,3],[],[(.c 3 1,.ro 1094)]⟩ (.s .o (.k (.l ⟨[1,2,3],[],[(.c 3 1,.ro 1094),(.s 4,.i .i64)]⟩ (.s .o (.s (.k (.g [] [] [.fo (.c 3 1) 0])) .o))))) .o))) kr kr kr
noncomputable def yB (x_b:DBare)(v3:DHost)(s4:Int)(v6:DCore)(s7:(List Int)×(List DSlot)):Option (DHost×Int×Bool):=
 cond (decide (s4<(0:Int)))
  (some ((DHost.mk ([]:List Int) ([]:List DGuest)),(-1:Int),false))
  (grd ((0:Int)<=s4/\s4<((v3.Guests.length:Nat):Int)) (some ((DHost.mk s7.1 (v3.Guests.set s4.toNat (DGuest.mk true v6 s7.2 x_b.In x_b.Out))),s4,true)))
noncomputable def qJ (s8:(List Int)×(List Int)×(List DSlot)×Int)(s9:(List Int)×(List Int)×(List DSlot)):Option (LO ((List Int)×(List Int)×(List DSlot)×Int) (JO ((List Int)×(List DSlot)) (DHost×Int×Bool))):=some (.next (s9.1,s9.2.1,s9.2.2,w64 (s8.2.2.2+(1:Int))))
noncomputable def wC (x_b:DBare)(s8:(List Int)×(List Int)×(List DSlot)×Int)(s10:Bool):Option (JO ((List Int)×(List Int)×(List DSlot)) (LO ((List Int)×(List Int)×(List DSlot)×Int) (JO ((List Int)×(List DSlot)) (DHost×Int×Bool)))):=
 cond s10
  (grd ((s8.2.2.1.length+List.length ([DSlot.mk (-1:Int) false false]:List DSlot))*16<=2^47/\s8.2.2.1.length+List.length ([DSlot.mk (-1:Int) false false]:List DSlot)<=2^47) (some (.go (s8.1,s8.2.1,s8.2.2.1++([DSlot.mk (-1:Int) false false]:List DSlot)))))
  (cond (decide (((s8.2.1.length:Nat):Int)=(0:Int)))
   (some (.out (.ret (.out ((DHost.mk ([]:List Int) ([]:List DGuest)),(-1:Int),false)))))
   (grd ((0:Int)<=(0:Int)/\(0:Int)<((s8.2.1.length:Nat):Int)) (grd ((0:Int)<=(w64 ((s8.2.1.getD (Int.toNat (0:Int)) default)*(8:Int)))/\(w64 ((s8.2.1.getD (Int.toNat (0:Int)) default)*(8:Int)))<=((s8.1.length:Nat):Int)/\((s8.1.length:Nat):Int)<=((s8.1.length:Nat):Int)) (grd ((0:Int)<=(0:Int)/\(0:Int)<((s8.2.1.length:Nat):Int)) (grd ((s8.2.2.1.length+List.length ([DSlot.mk (s8.2.1.getD (Int.toNat (0:Int)) default) true false]:List DSlot))*16<=2^47/\s8.2.2.1.length+List.length ([DSlot.mk (s8.2.1.getD (Int.toNat (0:Int)) default) true false]:List DSlot)<=2^47) (grd ((0:Int)<=(1:Int)/\(1:Int)<=((s8.2.1.length:Nat):Int)/\((s8.2.1.length:Nat):Int)<=((s8.2.1.length:Nat):Int)) (some (.go ((over s8.1 (Int.toNat (w64 ((s8.2.1.getD (Int.toNat (0:Int)) default)*(8:Int)))) (Int.toNat ((s8.1.length:Nat):Int)-Int.toNat (w64 ((s8.2.1.getD (Int.toNat (0:Int)) default)*(8:Int)))) (List.take (Int.toNat (w64 ((w64 (s8.2.2.2+(1:Int)))*(8:Int)))-Int.toNat (w64 (s8.2.2.2*(8:Int)))) (List.drop (Int.toNat (w64 (s8.2.2.2*(8:Int)))) x_b.Mem))),List.take (Int.toNat ((s8.2.1.length:Nat):Int)-Int.toNat (1:Int)) (List.drop (Int.toNat (1:Int)) s8.2.1),s8.2.2.1++([DSlot.mk (s8.2.1.getD (Int.toNat (0:Int)) default) true false]:List DSlot))))))))))
noncomputable def oZ (s11:Bool×Int)(s12:Bool):Option (LO (Bool×Int) (JO Bool (JO ((List Int)×(List Int)×(List DSlot)) (LO ((List Int)×(List Int)×(List DSlot)×Int) (JO ((List Int)×(List DSlot)) (DHost×Int×Bool)))))):=some (.next (s12,w64 (s11.2+(1:Int))))
noncomputable def gT (x_b:DBare)(s8:(List Int)×(List Int)×(List DSlot)×Int)(s11:Bool×Int):Option (LO (Bool×Int) (JO Bool (JO ((List Int)×(List Int)×(List DSlot)) (LO ((List Int)×(List Int)×(List DSlot)×Int) (JO ((List Int)×(List DSlot)) (DHost×Int×Bool)))))):=
 cond (decide (s11.2<(8:Int)))
  (Option.bind (cond s11.1
   (grd ((0:Int)<=s11.2/\s11.2<((List.length (List.take (Int.toNat (w64 ((w64 (s8.2.2.2+(1:Int)))*(8:Int)))-Int.toNat (w64 (s8.2.2.2*(8:Int)))) (List.drop (Int.toNat (w64 (s8.2.2.2*(8:Int)))) x_b.Mem)):Nat):Int)) (some (.go (decide ((List.getD (List.take (Int.toNat (w64 ((w64 (s8.2.2.2+(1:Int)))*(8:Int)))-Int.toNat (w64 (s8.2.2.2*(8:Int)))) (List.drop (Int.toNat (w64 (s8.2.2.2*(8:Int)))) x_b.Mem)) s11.2.toNat default)=(0:Int))))))
   (some (.go false))) λj12=>
   JO.run j12 (oZ s11))
  (some (.ret (.go s11.1)))
noncomputable def fQ (x_b:DBare)(s4:Int)(s8:(List Int)×(List Int)×(List DSlot)×Int):Option (LO ((List Int)×(List Int)×(List DSlot)×Int) (JO ((List Int)×(List DSlot)) (DHost×Int×Bool))):=
 cond (decide (s8.2.2.2<(8:Int)))
  (cond (decide ((0:Int)<=s4))
   (Option.bind (grd ((0:Int)<=(w64 (s8.2.2.2*(8:Int)))/\(w64 (s8.2.2.2*(8:Int)))<=(w64 ((w64 (s8.2.2.2+(1:Int)))*(8:Int)))/\(w64 ((w64 (s8.2.2.2+(1:Int)))*(8:Int)))<=((x_b.Mem.length:Nat):Int)) (Option.bind (Option.bind (iter (gT x_b s8) (true,(0:Int))) LO.val) λj10=>
    JO.run j10 (wC x_b s8))) λj9=>
    JO.run j9 (qJ s8))
   (some (.ret (.go (s8.1,s8.2.2.1)))))
  (some (.ret (.go (s8.1,s8.2.2.1))))
noncomputable def xS (x_h:DHost)(x_b:DBare)(v3:DHost)(s4:Int):Option (DHost×Int×Bool):=
 Option.bind (jC x_h) λv5=>
 Option.bind (jM x_b.C) λv6=>
 grd (x_b.In.length*8<=2^47/\x_b.In.length<=2^47) (grd (x_b.Out.length*8<=2^47/\x_b.Out.length<=2^47) (Option.bind (Option.bind (iter (fQ x_b s4) (v3.Words,v5,([]:List DSlot),(0:Int))) LO.val) λj7=>
  JO.run j7 (yB x_b v3 s4 v6)))
noncomputable def wD (s13:Int×Int)(s14:Int):Option (LO (Int×Int) (JO Int (DHost×Int×Bool))):=some (.next (s14,w64 (s13.2-(1:Int))))
noncomputable def eW (x_h:DHost)(s13:Int×Int):Option (LO (Int×Int) (JO Int (DHost×Int×Bool))):=
 cond (decide ((0:Int)<=s13.2))
  (Option.bind (grd ((0:Int)<=s13.2/\s13.2<((x_h.Guests.length:Nat):Int)) (cond (!(x_h.Guests.getD s13.2.toNat default).Live)
   (some (.go s13.2))
   (some (.go s13.1)))) λj14=>
   JO.run j14 (wD s13))
  (some (.ret (.go s13.1)))
noncomputable def pT (x_h:DHost)(x_b:DBare):Option (DHost×Int×Bool):=
 Option.bind (jK x_h) λv1=>
 cond (!v1)
  (some ((DHost.mk ([]:List Int) ([]:List DGuest)),(-1:Int),false))
  (Option.bind (tC x_b) λv2=>
  cond (!v2)
   (some ((DHost.mk ([]:List Int) ([]:List DGuest)),(-1:Int),false))
   (Option.bind (cR x_h) λv3=>
   Option.bind (Option.bind (iter (eW x_h) ((-1:Int),(2:Int))) LO.val) λj4=>
    JO.run j4 (xS x_h x_b v3)))
noncomputable def bWw:Sg tG:=⟨[.st 26,.st 41],.three (.st 2026) (.i .i64) .b,pT⟩
theorem cEm:Sok 138 bWw:=sgx [(142,.r aXi),(175,.r bYm),(103,.r aKf),(114,.r bKh),(132,.r bJl)] ⟨bIu,cDq,aOb,bRp,bRx,trivial⟩ (.s .o (.s .o (.s .o (.s .o (.j ⟨[2,3,4,7],[],[(.s 8,.i .i64)]⟩ (.s .o (.k (.l ⟨[2,3,4,7],[],[(.s 8,.i .i64),(.s 9,.i .i64)]⟩ (.s .o (.j ⟨[2,3,4,7,9],[],[(.s 8,.i .i64)]⟩ .o .o))))) (.s .o (.s (.g [.fr (.s 10) 0] [] []) (.j ⟨[4,7,8,11],[],[(.c 7 0,.ro 3),(.c 11 14,.ro 91)]⟩ (.s .o (.k (.l ⟨[3,4,7,8,11],[],[(.c 7 0,.ro 3),(.s 10,.rb 3),(.c 11 14,.ro 91),(.s 12,.i .i64)]⟩ (.s .o (.j ⟨[3,4,7,8,11,12],[],[(.c 7 0,.ro 3),(.s 10,.rb 3),(.c 11 14,.ro 91)]⟩ (.k (.s .o (.s .o (.j ⟨[3,4,7,8,10,11,12,13],[],[(.s 14,.b)]⟩ (.s .o (.k (.l ⟨[3,4,7,8,10,11,12,13],[],[(.s 14,.b),(.s 15,.i .i64)]⟩ (.s .o (.j ⟨[3,4,7,8,10,11,12,13,15],[],[(.s 14,.b)]⟩ .o .o))))) .o)))) .o))))) (.s .o (.s (.g [] [] [.fo (.c 7 1) 0]) .o)))))))))) kr kr kr
noncomputable def aKc  (s1:Unit):Option Bool:=some true
noncomputable def iN (x_words:List Int)(s2:Int):Option (LO Int (JO Unit Bool)):=
 cond (decide (s2<((x_words.length:Nat):Int)))
  (grd ((0:Int)<=s2/\s2<((x_words.length:Nat):Int)) (cond (!decide ((x_words.getD s2.toNat default)=(0:Int)))
   (some (.ret (.out false)))
   (some (.next (w64 (s2+(1:Int)))))))
  (some (.ret (.go ())))
noncomputable def mF (x_words:List Int):Option Bool:=
 Option.bind (Option.bind (iter (iN x_words) (0:Int)) LO.val) λj1=>
  JO.run j1 aKc
noncomputable def cDv:Sg tG:=⟨[.row 3],.one .b,mF⟩
theorem cDd:Sok 152 cDv:=sgx [] trivial (.s .o (.j ⟨[],[],[]⟩ (.s .o (.k (.l ⟨[5,6],[],[(.s 7,.i .i64)]⟩ .o))) .o)) kr kr kr
theorem aOg{x_words:List Int}{R_:Bool}(hh:mF x_words=some R_):Fn Tryz.prog 152 [bo (eI .i64) x_words] (.bool R_):=kc (cDd x_words R_ hh)
theorem aOl:LW 42 ⟨11,[.tmp 2],.seq (.reg false (rg 42 0)) (.seq (.seq (.reg false (rg 42 1)) (.cond (.t 5) (.reg false (rg 42 2)) .skip)) (.seq (.reg false (rg 42 3)) .ret))⟩:=kr
noncomputable def sF  (s1:List Int):Option Dl20Rd:=some (Dl20Rd.mk s1 (0:Int))
noncomputable def kO (x_code:List Int):Option Dl20Rd:=
 Option.bind (cond (decide ((2000:Int)<((x_code.length:Nat):Int)))
  (grd ((0:Int)<=(0:Int)/\(0:Int)<=(2000:Int)/\(2000:Int)<=((x_code.length:Nat):Int)) (some (.go (List.take (Int.toNat (2000:Int)-Int.toNat (0:Int)) (List.drop (Int.toNat (0:Int)) x_code)))))
  (some (.go x_code))) λj1=>
  JO.run j1 sF
theorem aSb{x_code:List Int}{R_:Dl20Rd}(hh:kO x_code=some R_):Inl Tryz.prog 42 [bo (eI .u8) x_code] [] 0 (pp 0) [(0,some ⟨128,[bo (eI .u8) R_.b,.int .i64 R_.p]⟩)] 1:=by let z3:=(0,bo (eI .u8) x_code);let z4:=(5,bb (decide ((2000:Int)<((x_code.length:Nat):Int))));let z1:=List.drop (Int.toNat (0:Int)) x_code;let z2:=List.take (Int.toNat (2000:Int)-Int.toNat (0:Int)) z1;unfold kO at hh;refine Inl.start aOl [0] [] (E:=sp 11 [z3]) (H1:=[]) kr kr (sy [0] [] (sp 11 [z3]) [] 0 ?_);obtain⟨j1,hh,hk1⟩:=bind_some hh;refine Aw.join (S:=(List Int)) (λs1=>sp 11 [(0,bo (eI .u8) s1)]) (λs1=>[]) 0 (λs1=>sF s1=some R_) ?_ ?_;{intro s1 hh;unfold sF at hh;refine Aw.sreg [2] [0] ?_;let q1:Root:=⟨128,[bo (eI .u8) s1,ii 0]⟩;refine yt (sp 11 [(2,pp 0)]) [(0,some q1)] 1 (Aw.ret ?_);rw[cU hh];exact sR (r':=pp 0) kr (el [some 0] (nD (aKo dd rfl)) (hq q1 rz dB))};intro Q1 hN1 hR1 hE1;refine sy [0,5] [] (sp 11 [z3,z4]) [] 0 ?_;rcases aTy hh with⟨hb,hh⟩|⟨hb,hh⟩;{refine cF hb (Aw.skip ?_);obtain rfl:=cU hh;exact hN1 x_code _ _ _ hk1 (el [] (wV kr (ro bK aOk)) dB)};refine cT hb (Aw.oreg (yu 1 [(6,bo (eI .u8) x_code)] [] 0 ?_));obtain⟨hg6,hh⟩:=bE hh;refine ys (.slc 1 (.t 6) none (some (.c (ii 2000)))) (some 7) (bNj (c:=(eI .u8)) (xs:=x_code) (l:=(0:Int)) (h:=(2000:Int)) cD kr kr kr hg6 ?_);refine ye (sp 11 [(0,bo (eI .u8) z2),z4,(6,bo (eI .u8) x_code),(7,bo (eI .u8) z2)]) [] 0 ?_;obtain rfl:=cU hh;exact hN1 z2 _ _ _ hk1 (el [] (wV kr (ro bK aOk)) dB)
noncomputable def g42:So tG:=⟨[.row 5],128,kO⟩
theorem s42:Sop 42 g42:=λx_code R_ hh=>kc (aSb (x_code:=x_code) hh)
noncomputable def aA (x_r:Dl20Rd)(x_n:Int):Option (Dl20Rd×Int):=
 cond (decide (x_n<(1:Int)))
  (some ((Dl20Rd.mk x_r.b (w64 (x_r.p+(1:Int)))),(0:Int)))
  (cond (decide (((x_r.b.length:Nat):Int)=(0:Int)))
   (some ((Dl20Rd.mk x_r.b (w64 (x_r.p+(1:Int)))),(0:Int)))
   (cond (decide ((w64 ((w64 (x_r.p+(1:Int)))-(1:Int)))<((x_r.b.length:Nat):Int)))
    (grd ((0:Int)<=(w64 ((w64 (x_r.p+(1:Int)))-(1:Int)))/\(w64 ((w64 (x_r.p+(1:Int)))-(1:Int)))<((x_r.b.length:Nat):Int)) (grd (x_n≠0) (some ((Dl20Rd.mk x_r.b (w64 (x_r.p+(1:Int)))),Int.tmod (IntKind.wrap .i64 (x_r.b.getD (Int.toNat (w64 ((w64 (x_r.p+(1:Int)))-(1:Int)))) default)) x_n))))
    (grd (((x_r.b.length:Nat):Int)≠0) (grd ((0:Int)<=(Int.tmod (w64 ((w64 (x_r.p+(1:Int)))-(1:Int))) ((x_r.b.length:Nat):Int))/\(Int.tmod (w64 ((w64 (x_r.p+(1:Int)))-(1:Int))) ((x_r.b.length:Nat):Int))<((x_r.b.length:Nat):Int)) (grd (((x_r.b.length:Nat):Int)≠0) (grd ((0:Int)<=(Int.tmod (w64 ((w64 ((w64 ((w64 (x_r.p+(1:Int)))-(1:Int)))*(7:Int)))+(3:Int))) ((x_r.b.length:Nat):Int))/\(Int.tmod (w64 ((w64 ((w64 ((w64 (x_r.p+(1:Int)))-(1:Int)))*(7:Int)))+(3:Int))) ((x_r.b.length:Nat):Int))<((x_r.b.length:Nat):Int)) (grd (((x_r.b.length:Nat):Int)≠0) (grd (x_n≠0) (some ((Dl20Rd.mk x_r.b (w64 (x_r.p+(1:Int)))),Int.tmod (bits .xor .i64 (w64 ((w64 ((w64 ((w64 ((IntKind.wrap .i64 (x_r.b.getD (Int.toNat (Int.tmod (w64 ((w64 (x_r.p+(1:Int)))-(1:Int))) ((x_r.b.length:Nat):Int))) default))*(131:Int)))+(w64 ((IntKind.wrap .i64 (x_r.b.getD (Int.toNat (Int.tmod (w64 ((w64 ((w64 ((w64 (x_r.p+(1:Int)))-(1:Int)))*(7:Int)))+(3:Int))) ((x_r.b.length:Nat):Int))) default))*(1117:Int)))))+(w64 ((w64 ((w64 (x_r.p+(1:Int)))-(1:Int)))*(29:Int)))))+(w64 ((w64 (Int.tdiv (w64 ((w64 (x_r.p+(1:Int)))-(1:Int))) ((x_r.b.length:Nat):Int)))*(53:Int))))) (w64 (Int.tdiv (w64 ((w64 ((w64 ((w64 ((IntKind.wrap .i64 (x_r.b.getD (Int.toNat (Int.tmod (w64 ((w64 (x_r.p+(1:Int)))-(1:Int))) ((x_r.b.length:Nat):Int))) default))*(131:Int)))+(w64 ((IntKind.wrap .i64 (x_r.b.getD (Int.toNat (Int.tmod (w64 ((w64 ((w64 ((w64 (x_r.p+(1:Int)))-(1:Int)))*(7:Int)))+(3:Int))) ((x_r.b.length:Nat):Int))) default))*(1117:Int)))))+(w64 ((w64 ((w64 (x_r.p+(1:Int)))-(1:Int)))*(29:Int)))))+(w64 ((w64 (Int.tdiv (w64 ((w64 (x_r.p+(1:Int)))-(1:Int))) ((x_r.b.length:Nat):Int)))*(53:Int))))) (64:Int)))) x_n))))))))))
noncomputable def g64:Sw tG:=⟨[.pt 128,.v (.i .i64)],.one (.i .i64),aA⟩
theorem s64:Sjk 64 g64:=sgy [] trivial .o kr kr kr
noncomputable def bL (x_r:Dl20Rd)(x_n:Int):Option (Dl20Rd×Bool):=
 cond (decide ((0:Int)<x_n))
  (Option.bind (aA x_r x_n) λv1=>
  some (v1.1,decide (v1.2=(w64 (x_n-(1:Int))))))
  (some (x_r,false))
noncomputable def g96:Sw tG:=⟨[.pt 128,.v (.i .i64)],.one .b,bL⟩
theorem s96:Sjk 96 g96:=sgy [(64,.w g64)] ⟨s64,trivial⟩ .o kr kr kr
noncomputable def cV (x_r:Dl20Rd):Option (Dl20Rd×Int):=
 Option.bind (aA x_r (16:Int)) λv1=>
 Option.bind (aA v1.1 (256:Int)) λv2=>
 some (v2.1,w64 ((w64 (v1.2*(256:Int)))+v2.2))
noncomputable def bAp:Sw tG:=⟨[.pt 128],.one (.i .i64),cV⟩
theorem bKi:Sjk 136 bAp:=sgy [(64,.w g64)] ⟨s64,trivial⟩ .o kr kr kr
noncomputable def aHq  (s4:Int):Option Int:=some s4
noncomputable def aHw (x_e:DEntry)(s3:Int):Option Int:=
 Option.bind (cond x_e.User
  (some (.go (w64 (s3+(4:Int)))))
  (some (.go s3))) λj4=>
  JO.run j4 aHq
noncomputable def aHr (x_e:DEntry)(s2:Int):Option Int:=
 Option.bind (cond x_e.Write
  (some (.go (w64 (s2+(2:Int)))))
  (some (.go s2))) λj3=>
  JO.run j3 (aHw x_e)
noncomputable def dK (x_e:DEntry):Option Int:=
 Option.bind (bO x_e.Page (0:Int) (7:Int)) λv1=>
 cond (!v1)
  (some (-1:Int))
  (Option.bind (cond x_e.There
   (some (.go (w64 ((w64 (x_e.Page*(8:Int)))+(1:Int)))))
   (some (.go (w64 (x_e.Page*(8:Int)))))) λj2=>
   JO.run j2 (aHr x_e))
noncomputable def bQy:Sg tG:=⟨[.st 181],.one (.i .i64),dK⟩
theorem cAk:Sok 204 bQy:=sgx [(51,.r g51)] ⟨s51,trivial⟩ (.s .o (.s .o (.s .o (.j ⟨[1],[],[(.s 3,.i .i64)]⟩ .o (.j ⟨[1],[],[(.s 3,.i .i64)]⟩ .o (.j ⟨[],[],[(.s 3,.i .i64)]⟩ .o .o)))))) kr kr kr
noncomputable def aOo  (s2:(List Int)×Int×(List Int)):Option (Dl20Rd×(List Int)):=some ((Dl20Rd.mk s2.1 s2.2.1),s2.2.2)
noncomputable def aBw (x_n:Int)(s1:(List Int)×Int×(List Int)):Option (Dl20Rd×(List Int)):=
 Option.bind (Option.bind (bL (Dl20Rd.mk s1.1 s1.2.1) x_n) λv3=>
  cond v3.2
   (Option.bind (aA v3.1 (2:Int)) λv4=>
   cond (decide (v4.2=(0:Int)))
    (grd ((0:Int)<=(0:Int)/\(0:Int)<=(63:Int)/\(63:Int)<=((s1.2.2.length:Nat):Int)) (some (.go (v4.1.b,v4.1.p,List.take (Int.toNat (63:Int)-Int.toNat (0:Int)) s1.2.2))))
    (Option.bind (aA v4.1 (64:Int)) λv5=>
    Option.bind (aA v5.1 (2:Int)) λv6=>
    grd ((0:Int)<=v5.2/\v5.2<((s1.2.2.length:Nat):Int)) (some (.go (v6.1.b,v6.1.p,s1.2.2.set v5.2.toNat (w64 ((4096:Int)-(w64 (v6.2*(4097:Int))))))))))
   (some (.go (v3.1.b,v3.1.p,s1.2.2)))) λj2=>
  JO.run j2 aOo
noncomputable def aBb (s7:(List Int)×Int×(List Int)×Int)(s9:(List Int)×Int×Int):Option (LO ((List Int)×Int×(List Int)×Int) (JO ((List Int)×Int×(List Int)) (Dl20Rd×(List Int)))):=grd ((s7.2.2.1.length+List.length ([s9.2.2]:List Int))*8<=2^47/\s7.2.2.1.length+List.length ([s9.2.2]:List Int)<=2^47) (some (.next (s9.1,s9.2.1,s7.2.2.1++([s9.2.2]:List Int),w64 (s7.2.2.2+(1:Int)))))
noncomputable def aAt (s7:(List Int)×Int×(List Int)×Int)(s8:(List Int)×Int×Int):Option (LO ((List Int)×Int×(List Int)×Int) (JO ((List Int)×Int×(List Int)) (Dl20Rd×(List Int)))):=
 Option.bind (cond (decide ((w64 (Int.tdiv s7.2.2.2 (8:Int)))=(1:Int)))
  (Option.bind (aA (Dl20Rd.mk s8.1 s8.2.1) (5:Int)) λv10=>
  Option.bind (aA v10.1 (4:Int)) λv11=>
  Option.bind (aA v11.1 (3:Int)) λv12=>
  Option.bind (aA v12.1 (8:Int)) λv13=>
  Option.bind (dK (DEntry.mk (decide ((0:Int)<v10.2)) (decide ((0:Int)<v11.2)) (decide ((0:Int)<v12.2)) v13.2)) λv14=>
  some (.go (v13.1.b,v13.1.p,v14)))
  (cond (decide ((w64 (Int.tdiv s7.2.2.2 (8:Int)))=(2:Int)))
   (Option.bind (aA (Dl20Rd.mk s8.1 s8.2.1) (5:Int)) λv15=>
   Option.bind (aA v15.1 (4:Int)) λv16=>
   Option.bind (aA v16.1 (3:Int)) λv17=>
   Option.bind (aA v17.1 (8:Int)) λv18=>
   Option.bind (dK (DEntry.mk (decide ((0:Int)<v15.2)) (decide ((0:Int)<v16.2)) (decide ((0:Int)<v17.2)) v18.2)) λv19=>
   some (.go (v18.1.b,v18.1.p,v19)))
   (some (.go (s8.1,s8.2.1,s8.2.2))))) λj9=>
  JO.run j9 (aBb s7)
noncomputable def tJ  (s7:(List Int)×Int×(List Int)×Int):Option (LO ((List Int)×Int×(List Int)×Int) (JO ((List Int)×Int×(List Int)) (Dl20Rd×(List Int)))):=
 cond (decide (s7.2.2.2<(64:Int)))
  (Option.bind (Option.bind (aA (Dl20Rd.mk s7.1 s7.2.1) (2:Int)) λv20=>
   cond (decide (v20.2=(0:Int)))
    (Option.bind (cV v20.1) λv21=>
    some (.go (v21.1.b,v21.1.p,v21.2)))
    (some (.go (v20.1.b,v20.1.p,(0:Int))))) λj8=>
   JO.run j8 (aAt s7))
  (some (.ret (.go (s7.1,s7.2.1,s7.2.2.1))))
noncomputable def oR (x_r:Dl20Rd)(x_n:Int):Option (Dl20Rd×(List Int)):=
 Option.bind (Option.bind (iter tJ (x_r.b,x_r.p,([]:List Int),(0:Int))) LO.val) λj1=>
  JO.run j1 (aBw x_n)
noncomputable def bPo:Sw tG:=⟨[.pt 128,.v (.i .i64)],.one (.row 3),oR⟩
theorem bYy:Sjk 174 bPo:=sgy [(64,.w g64),(136,.w bAp),(204,.r bQy),(96,.w g96)] ⟨s64,bKi,cAk,s96,trivial⟩ (.s .o (.s .o (.j ⟨[0,1],[],[(.c 0 0,.rb 5),(.c 0 1,.i .i64),(.s 5,.ro 3)]⟩ (.s .o (.k (.l ⟨[0,1],[],[(.c 0 0,.rb 5),(.c 0 1,.i .i64),(.s 5,.ro 3),(.s 6,.i .i64)]⟩ (.s .o (.s (.k (.s .o (.j ⟨[0,1,5,6],[],[(.c 0 0,.rb 5),(.c 0 1,.i .i64),(.s 7,.i .i64)]⟩ .o (.j ⟨[0,1,5,6],[],[(.c 0 0,.rb 5),(.c 0 1,.i .i64),(.s 7,.i .i64)]⟩ .o .o)))) .o))))) (.j ⟨[],[0],[(.d 0 0,.rb 5),(.d 0 1,.i .i64),(.s 5,.ro 3)]⟩ .o .o)))) kr kr kr
noncomputable def qC:Option Bool:=
 Option.bind (fE (5:Int)) λv1=>
 cond v1
  (Option.bind (fE (-1:Int)) λv2=>
  some (!v2))
  (some false)
noncomputable def g12:Sg tG:=⟨[],.one .b,qC⟩
theorem s12:Sok 12 g12:=sgx [(55,.r g55)] ⟨s55,trivial⟩ .o kr kr kr
noncomputable def qQ (x_i:DIns):Option Bool:=
 Option.bind (bO x_i.Op (0:Int) (15:Int)) λv1=>
 cond v1
  (Option.bind (bO x_i.A (0:Int) (3:Int)) λv2=>
  cond v2
   (Option.bind (bO x_i.N (0:Int) (63:Int)) λv3=>
   some v3)
   (some false))
  (some false)
noncomputable def bPd:Sg tG:=⟨[.st 141],.one .b,qQ⟩
theorem cBa:Sok 159 bPd:=sgx [(51,.r g51)] ⟨s51,trivial⟩ .o kr kr kr
noncomputable def aHz (v3:Dl20Rd×Int)(v4:Dl20Rd×Int)(v5:Dl20Rd×Int)(v6:Dl20Rd×Int)(v7:Dl20Rd×Int)(v8:Dl20Rd×Int)(v9:Dl20Rd×Int)(v10:Dl20Rd×Int)(v11:Dl20Rd×Int)(v12:Dl20Rd×Int)(v13:Dl20Rd×Int)(s15:(List Int)×Int×(List Int)×Int×Int):Option (Dl20Rd×DCore):=some ((Dl20Rd.mk s15.1 s15.2.1),DCore.mk s15.2.2.1 s15.2.2.2.1 s15.2.2.2.2 (w64 ((24:Int)+v3.2)) v4.2 (decide (v9.2=(0:Int))) v5.2 v6.2 (w64 (v7.2*v8.2)) (decide (v10.2=(0:Int))) (decide (v11.2=(0:Int))) (decide (v12.2=(0:Int))) (decide (v13.2=(0:Int))))
noncomputable def xP (x_n:Int)(v1:Dl20Rd×Int)(v2:Dl20Rd×Int)(v3:Dl20Rd×Int)(v4:Dl20Rd×Int)(v5:Dl20Rd×Int)(v6:Dl20Rd×Int)(v7:Dl20Rd×Int)(v8:Dl20Rd×Int)(v9:Dl20Rd×Int)(v10:Dl20Rd×Int)(v11:Dl20Rd×Int)(v12:Dl20Rd×Int)(v13:Dl20Rd×Int)(s14:(List Int)×Int×(List Int)):Option (Dl20Rd×DCore):=
 Option.bind (Option.bind (bL (Dl20Rd.mk s14.1 s14.2.1) x_n) λv16=>
  cond v16.2
   (Option.bind (aA v16.1 (4:Int)) λv17=>
   cond (decide (v17.2=(0:Int)))
    (grd ((0:Int)<=(0:Int)/\(0:Int)<=(3:Int)/\(3:Int)<=((s14.2.2.length:Nat):Int)) (some (.go (v17.1.b,v17.1.p,List.take (Int.toNat (3:Int)-Int.toNat (0:Int)) s14.2.2,v1.2,List.getD ([(-1:Int),(1:Int),(2:Int)]:List Int) v2.2.toNat default))))
    (cond (decide (v17.2=(1:Int)))
     (Option.bind (aA v17.1 (2:Int)) λv18=>
     some (.go (v18.1.b,v18.1.p,s14.2.2,w64 ((64:Int)-(w64 (v18.2*(65:Int)))),List.getD ([(-1:Int),(1:Int),(2:Int)]:List Int) v2.2.toNat default)))
     (cond (decide (v17.2=(2:Int)))
      (Option.bind (aA v17.1 (2:Int)) λv19=>
      some (.go (v19.1.b,v19.1.p,s14.2.2,v1.2,w64 ((8:Int)-(w64 (v19.2*(10:Int)))))))
      (Option.bind (aA v17.1 (4:Int)) λv20=>
      grd ((0:Int)<=v20.2/\v20.2<((s14.2.2.length:Nat):Int)) (some (.go (v20.1.b,v20.1.p,s14.2.2.set v20.2.toNat (-1:Int),v1.2,List.getD ([(-1:Int),(1:Int),(2:Int)]:List Int) v2.2.toNat default)))))))
   (some (.go (v16.1.b,v16.1.p,s14.2.2,v1.2,List.getD ([(-1:Int),(1:Int),(2:Int)]:List Int) v2.2.toNat default)))) λj15=>
  JO.run j15 (aHz v3 v4 v5 v6 v7 v8 v9 v10 v11 v12 v13)
noncomputable def pW  (s21:(List Int)×Int×(List Int)×Int):Option (LO ((List Int)×Int×(List Int)×Int) (JO ((List Int)×Int×(List Int)) (Dl20Rd×DCore))):=
 cond (decide (s21.2.2.2<(4:Int)))
  (Option.bind (aA (Dl20Rd.mk s21.1 s21.2.1) (64:Int)) λv22=>
  Option.bind (aA v22.1 (16:Int)) λv23=>
  Option.bind (cV v23.1) λv24=>
  Option.bind (aA v24.1 (3:Int)) λv25=>
  grd ((0:Int)<=v25.2/\v25.2<((List.length ([v22.2,v23.2,v24.2]:List Int):Nat):Int)) (grd ((s21.2.2.1.length+List.length ([List.getD ([v22.2,v23.2,v24.2]:List Int) v25.2.toNat default]:List Int))*8<=2^47/\s21.2.2.1.length+List.length ([List.getD ([v22.2,v23.2,v24.2]:List Int) v25.2.toNat default]:List Int)<=2^47) (some (.next (v25.1.b,v25.1.p,s21.2.2.1++([List.getD ([v22.2,v23.2,v24.2]:List Int) v25.2.toNat default]:List Int),w64 (s21.2.2.2+(1:Int)))))))
  (some (.ret (.go (s21.1,s21.2.1,s21.2.2.1))))
noncomputable def nF (x_r:Dl20Rd)(x_n:Int):Option (Dl20Rd×DCore):=
 Option.bind (aA x_r (64:Int)) λv1=>
 Option.bind (aA v1.1 (3:Int)) λv2=>
 grd ((0:Int)<=v2.2/\v2.2<((List.length ([(-1:Int),(1:Int),(2:Int)]:List Int):Nat):Int)) (Option.bind (aA v2.1 (4:Int)) λv3=>
  Option.bind (aA v3.1 (64:Int)) λv4=>
  Option.bind (aA v4.1 (5:Int)) λv5=>
  Option.bind (aA v5.1 (64:Int)) λv6=>
  Option.bind (aA v6.1 (4:Int)) λv7=>
  Option.bind (aA v7.1 (6:Int)) λv8=>
  Option.bind (aA v8.1 (2:Int)) λv9=>
  Option.bind (aA v9.1 (6:Int)) λv10=>
  Option.bind (aA v10.1 (3:Int)) λv11=>
  Option.bind (aA v11.1 (2:Int)) λv12=>
  Option.bind (aA v12.1 (25:Int)) λv13=>
  Option.bind (Option.bind (iter pW (v13.1.b,v13.1.p,([]:List Int),(0:Int))) LO.val) λj14=>
   JO.run j14 (xP x_n v1 v2 v3 v4 v5 v6 v7 v8 v9 v10 v11 v12 v13))
noncomputable def bXz:Sw tG:=⟨[.pt 128,.v (.i .i64)],.one (.st 39),nF⟩
theorem cCw:Sjk 172 bXz:=sgy [(64,.w g64),(136,.w bAp),(96,.w g96)] ⟨s64,bKi,s96,trivial⟩ (.s .o (.s (.m [0]) (.s .o (.s .o (.s .o (.s .o (.s .o (.j ⟨[0,1,4,5],[],[(.c 0 0,.rb 5),(.c 0 1,.i .i64),(.c 5 0,.ro 3)]⟩ (.s .o (.k (.l ⟨[0,1,4,5],[],[(.c 0 0,.rb 5),(.c 0 1,.i .i64),(.c 5 0,.ro 3),(.s 6,.i .i64)]⟩ (.s .o (.s (.k (.m [0])) .o))))) (.j ⟨[4,5],[0],[(.d 0 0,.rb 5),(.d 0 1,.i .i64),(.c 5 0,.ro 3),(.c 5 1,.i .i64),(.c 5 2,.i .i64)]⟩ (.s .o (.c (.s .o (.k (.s .o (.c .o (.s .o (.c .o (.s .o (.c .o (.m [0]))))))))) .o)) .o))))))))) kr kr kr
noncomputable def aPa  (s4:Int×(List Int)×Int×Int×Int):Option (Dl20Rd×DIns):=some ((Dl20Rd.mk s4.2.1 s4.2.2.1),DIns.mk s4.1 s4.2.2.2.1 s4.2.2.2.2)
noncomputable def sZ (x_r:Dl20Rd)(x_n:Int):Option (Dl20Rd×DIns):=
 Option.bind (aA x_r (16:Int)) λv1=>
 Option.bind (aA v1.1 (4:Int)) λv2=>
 Option.bind (aA v2.1 (64:Int)) λv3=>
 Option.bind (Option.bind (bL v3.1 x_n) λv5=>
  cond v5.2
   (Option.bind (aA v5.1 (3:Int)) λv6=>
   cond (decide (v6.2=(0:Int)))
    (Option.bind (aA v6.1 (2:Int)) λv7=>
    some (.go ((w64 ((16:Int)-(w64 (v7.2*(17:Int))))),v7.1.b,v7.1.p,v2.2,v3.2)))
    (cond (decide (v6.2=(1:Int)))
     (some (.go (v1.2,v6.1.b,v6.1.p,(4:Int),v3.2)))
     (Option.bind (aA v6.1 (2:Int)) λv8=>
     some (.go (v1.2,v8.1.b,v8.1.p,v2.2,w64 ((64:Int)-(w64 (v8.2*(65:Int)))))))))
   (some (.go (v1.2,v5.1.b,v5.1.p,v2.2,v3.2)))) λj4=>
  JO.run j4 aPa
noncomputable def bZz:Sw tG:=⟨[.pt 128,.v (.i .i64)],.one (.st 141),sZ⟩
theorem cFj:Sjk 205 bZz:=sgy [(64,.w g64),(96,.w g96)] ⟨s64,s96,trivial⟩ (.s .o (.s .o (.j ⟨[4,5],[0],[(.c 5 0,.i .i64),(.d 0 0,.rb 5),(.d 0 1,.i .i64),(.c 5 1,.i .i64),(.c 5 2,.i .i64)]⟩ .o .o))) kr kr kr
noncomputable def qU (x_i:DIns):Option Int:=
 Option.bind (qQ x_i) λv1=>
 cond (!v1)
  (some (-1:Int))
  (some (w64 ((w64 ((w64 (x_i.Op*(256:Int)))+(w64 (x_i.A*(64:Int)))))+x_i.N)))
noncomputable def bWs:Sg tG:=⟨[.st 141],.one (.i .i64),qU⟩
theorem cEp:Sok 206 bWs:=sgx [(159,.r bPd)] ⟨cBa,trivial⟩ .o kr kr kr
noncomputable def zB  (s2:(List Int)×(List Int)×Int):Option (Dl20Rd×(List Int)):=some ((Dl20Rd.mk s2.2.1 s2.2.2),s2.1)
noncomputable def yZ (s3:(List Int)×Int×(List Int)×Int)(s4:(List Int)×Int×(List Int)):Option (LO ((List Int)×Int×(List Int)×Int) (JO ((List Int)×(List Int)×Int) (Dl20Rd×(List Int)))):=some (.next (s4.1,s4.2.1,s4.2.2,w64 (s3.2.2.2+(1:Int))))
noncomputable def xZ (s3:(List Int)×Int×(List Int)×Int)(v11:Dl20Rd×DIns)(s13:(List Int)×Int×Int):Option (JO ((List Int)×Int×(List Int)) (LO ((List Int)×Int×(List Int)×Int) (JO ((List Int)×(List Int)×Int) (Dl20Rd×(List Int))))):=
 Option.bind (qU (DIns.mk s13.2.2 v11.2.A v11.2.N)) λv14=>
 grd ((0:Int)<=s3.2.2.2/\s3.2.2.2<((s3.2.2.1.length:Nat):Int)) (some (.go (s13.1,s13.2.1,s3.2.2.1.set s3.2.2.2.toNat v14)))
noncomputable def xL (s3:(List Int)×Int×(List Int)×Int)(v11:Dl20Rd×DIns)(s12:(List Int)×Int×Int):Option (JO ((List Int)×Int×(List Int)) (LO ((List Int)×Int×(List Int)×Int) (JO ((List Int)×(List Int)×Int) (Dl20Rd×(List Int))))):=
 Option.bind (cond (decide (s12.2.2=(0:Int)))
  (Option.bind (aA (Dl20Rd.mk s12.1 s12.2.1) (4:Int)) λv15=>
  cond (decide ((0:Int)<v15.2))
   (some (.go (v15.1.b,v15.1.p,(1:Int))))
   (some (.go (v15.1.b,v15.1.p,s12.2.2))))
  (some (.go (s12.1,s12.2.1,s12.2.2)))) λj13=>
  JO.run j13 (xZ s3 v11)
noncomputable def zE (s3:(List Int)×Int×(List Int)×Int)(s5:Bool):Option (JO ((List Int)×Int×(List Int)) (LO ((List Int)×Int×(List Int)×Int) (JO ((List Int)×(List Int)×Int) (Dl20Rd×(List Int))))):=
 cond s5
  (Option.bind (aA (Dl20Rd.mk s3.1 s3.2.1) (3:Int)) λv6=>
  cond (decide ((0:Int)<v6.2))
   (Option.bind (aA v6.1 (8:Int)) λv7=>
   Option.bind (aA v7.1 (4:Int)) λv8=>
   Option.bind (aA v8.1 (3:Int)) λv9=>
   Option.bind (dK (DEntry.mk (decide ((0:Int)<v7.2)) (decide ((0:Int)<v8.2)) (decide ((0:Int)<v9.2)) (Int.tmod s3.2.2.2 (8:Int)))) λv10=>
   grd ((0:Int)<=s3.2.2.2/\s3.2.2.2<((s3.2.2.1.length:Nat):Int)) (some (.go (v9.1.b,v9.1.p,s3.2.2.1.set s3.2.2.2.toNat v10))))
   (some (.go (v6.1.b,v6.1.p,s3.2.2.1))))
  (Option.bind (sZ (Dl20Rd.mk s3.1 s3.2.1) (0:Int)) λv11=>
  Option.bind (Option.bind (aA v11.1 (2:Int)) λv16=>
   cond (decide (v16.2=(0:Int)))
    (Option.bind (aA v16.1 (10:Int)) λv17=>
    grd ((0:Int)<=v17.2/\v17.2<((10:Nat):Int)) (some (.go (v17.1.b,v17.1.p,List.getD ([(1:Int),(2:Int),(3:Int),(4:Int),(3:Int),(4:Int),(6:Int),(7:Int),(11:Int),(15:Int)]:List Int) v17.2.toNat default))))
    (some (.go (v16.1.b,v16.1.p,v11.2.Op)))) λj12=>
   JO.run j12 (xL s3 v11))
noncomputable def sH  (s3:(List Int)×Int×(List Int)×Int):Option (LO ((List Int)×Int×(List Int)×Int) (JO ((List Int)×(List Int)×Int) (Dl20Rd×(List Int)))):=
 cond (decide (s3.2.2.2<((s3.2.2.1.length:Nat):Int)))
  (Option.bind (Option.bind (cond (decide ((w64 (Int.tdiv s3.2.2.2 (8:Int)))=(1:Int)))
   (some (.go (decide ((w64 (Int.tdiv s3.2.2.2 (8:Int)))=(1:Int)))))
   (some (.go (decide ((w64 (Int.tdiv s3.2.2.2 (8:Int)))=(2:Int)))))) λj5=>
   JO.run j5 (zE s3)) λj4=>
   JO.run j4 (yZ s3))
  (some (.ret (.go (s3.2.2.1,s3.1,s3.2.1))))
noncomputable def rC (x_r:Dl20Rd):Option (Dl20Rd×(List Int)):=
 Option.bind (oR x_r (0:Int)) λv1=>
 Option.bind (Option.bind (iter sH (v1.1.b,v1.1.p,v1.2,(0:Int))) LO.val) λj2=>
  JO.run j2 zB
noncomputable def bXc:Sw tG:=⟨[.pt 128],.one (.row 3),rC⟩
theorem cDk:Sjk 173 bXc:=sgy [(174,.w bPo),(64,.w g64),(204,.r bQy),(205,.w bZz),(206,.r bWs)] ⟨bYy,s64,cAk,cFj,cEp,trivial⟩ (.s .o (.s .o (.j ⟨[],[0],[(.s 3,.ro 3),(.d 0 0,.rb 5),(.d 0 1,.i .i64)]⟩ (.s .o (.k (.l ⟨[0],[],[(.c 0 0,.rb 5),(.c 0 1,.i .i64),(.s 3,.ro 3),(.s 4,.i .i64)]⟩ (.s .o (.j ⟨[0,4],[],[(.c 0 0,.rb 5),(.c 0 1,.i .i64),(.s 3,.ro 3)]⟩ (.k (.s .o (.k (.j ⟨[0,3,4],[],[(.s 41,.b)]⟩ .o (.c .o (.s .o (.j ⟨[0,3,4,5],[],[(.c 0 0,.rb 5),(.c 0 1,.i .i64),(.c 5 0,.i .i64)]⟩ .o (.j ⟨[0,3,4,5],[],[(.c 0 0,.rb 5),(.c 0 1,.i .i64),(.c 5 0,.i .i64)]⟩ .o .o)))))))) .o))))) .o))) kr kr kr
noncomputable def aMi (s4:(List Int)×Int×(List Int))(s5:(List Int)×Int×Int×Int×Int×Bool×Int×Int×Int×Bool×Bool×Bool×Bool×(List Int)×Int×(List Int)×(List Int)):Option (Dl20Rd×DBare):=some ((Dl20Rd.mk s5.2.2.2.2.2.2.2.2.2.2.2.2.2.1 s5.2.2.2.2.2.2.2.2.2.2.2.2.2.2.1),DBare.mk (DCore.mk s5.1 s5.2.1 s5.2.2.1 s5.2.2.2.1 s5.2.2.2.2.1 s5.2.2.2.2.2.1 s5.2.2.2.2.2.2.1 s5.2.2.2.2.2.2.2.1 s5.2.2.2.2.2.2.2.2.1 s5.2.2.2.2.2.2.2.2.2.1 s5.2.2.2.2.2.2.2.2.2.2.1 s5.2.2.2.2.2.2.2.2.2.2.2.1 s5.2.2.2.2.2.2.2.2.2.2.2.2.1) s5.2.2.2.2.2.2.2.2.2.2.2.2.2.2.2.1 s5.2.2.2.2.2.2.2.2.2.2.2.2.2.2.2.2 s4.2.2)
noncomputable def zM (x_n:Int)(v1:Dl20Rd×DCore)(v2:Dl20Rd×(List Int))(s3:(List Int)×Int×(List Int))(s4:(List Int)×Int×(List Int)):Option (Dl20Rd×DBare):=
 Option.bind (Option.bind (bL (Dl20Rd.mk s4.1 s4.2.1) x_n) λv6=>
  cond v6.2
   (Option.bind (aA v6.1 (3:Int)) λv7=>
   cond (decide (v7.2=(0:Int)))
    (Option.bind (nF v7.1 (1:Int)) λv8=>
    some (.go (v8.2.Regs,v8.2.Pc,v8.2.Root,v8.2.Vector,v8.2.Saved,v8.2.SavedUser,v8.2.Cause,v8.2.Bad,v8.2.Timer,v8.2.Waits,v8.2.User,v8.2.On,v8.2.Stopped,v8.1.b,v8.1.p,v2.2,s3.2.2)))
    (cond (decide (v7.2=(1:Int)))
     (Option.bind (oR v7.1 (1:Int)) λv9=>
     some (.go (v1.2.Regs,v1.2.Pc,v1.2.Root,v1.2.Vector,v1.2.Saved,v1.2.SavedUser,v1.2.Cause,v1.2.Bad,v1.2.Timer,v1.2.Waits,v1.2.User,v1.2.On,v1.2.Stopped,v9.1.b,v9.1.p,v9.2,s3.2.2)))
     (some (.go (v1.2.Regs,v1.2.Pc,v1.2.Root,v1.2.Vector,v1.2.Saved,v1.2.SavedUser,v1.2.Cause,v1.2.Bad,v1.2.Timer,v1.2.Waits,v1.2.User,v1.2.On,v1.2.Stopped,v7.1.b,v7.1.p,v2.2,List.replicate (Int.toNat (31:Int)) (0:Int))))))
   (some (.go (v1.2.Regs,v1.2.Pc,v1.2.Root,v1.2.Vector,v1.2.Saved,v1.2.SavedUser,v1.2.Cause,v1.2.Bad,v1.2.Timer,v1.2.Waits,v1.2.User,v1.2.On,v1.2.Stopped,v6.1.b,v6.1.p,v2.2,s3.2.2)))) λj5=>
  JO.run j5 (aMi s4)
noncomputable def xX  (s11:(List Int)×Int×(List Int)×Int):Option (LO ((List Int)×Int×(List Int)×Int) (JO ((List Int)×Int×(List Int)) (Dl20Rd×DBare))):=
 cond (decide ((0:Int)<s11.2.2.2))
  (Option.bind (cV (Dl20Rd.mk s11.1 s11.2.1)) λv12=>
  grd ((s11.2.2.1.length+List.length ([v12.2]:List Int))*8<=2^47/\s11.2.2.1.length+List.length ([v12.2]:List Int)<=2^47) (some (.next (v12.1.b,v12.1.p,s11.2.2.1++([v12.2]:List Int),w64 (s11.2.2.2-(1:Int))))))
  (some (.ret (.go (s11.1,s11.2.1,s11.2.2.1))))
noncomputable def zC (x_n:Int)(v1:Dl20Rd×DCore)(v2:Dl20Rd×(List Int))(s3:(List Int)×Int×(List Int)):Option (Dl20Rd×DBare):=
 Option.bind (Option.bind (aA (Dl20Rd.mk s3.1 s3.2.1) (3:Int)) λv10=>
  Option.bind (iter xX (v10.1.b,v10.1.p,([]:List Int),v10.2)) LO.val) λj4=>
  JO.run j4 (zM x_n v1 v2 s3)
noncomputable def mH  (s14:(List Int)×Int×(List Int)×Int):Option (LO ((List Int)×Int×(List Int)×Int) (JO ((List Int)×Int×(List Int)) (Dl20Rd×DBare))):=
 cond (decide ((0:Int)<s14.2.2.2))
  (Option.bind (cV (Dl20Rd.mk s14.1 s14.2.1)) λv15=>
  grd ((s14.2.2.1.length+List.length ([v15.2]:List Int))*8<=2^47/\s14.2.2.1.length+List.length ([v15.2]:List Int)<=2^47) (some (.next (v15.1.b,v15.1.p,s14.2.2.1++([v15.2]:List Int),w64 (s14.2.2.2-(1:Int))))))
  (some (.ret (.go (s14.1,s14.2.1,s14.2.2.1))))
noncomputable def rH (x_r:Dl20Rd)(x_n:Int):Option (Dl20Rd×DBare):=
 Option.bind (nF x_r (0:Int)) λv1=>
 Option.bind (rC v1.1) λv2=>
 Option.bind (Option.bind (aA v2.1 (4:Int)) λv13=>
  Option.bind (iter mH (v13.1.b,v13.1.p,([]:List Int),v13.2)) LO.val) λj3=>
  JO.run j3 (zC x_n v1 v2)
noncomputable def bYr:Sw tG:=⟨[.pt 128,.v (.i .i64)],.one (.st 41),rH⟩
theorem cDl:Sjk 137 bYr:=sgy [(172,.w bXz),(173,.w bXc),(64,.w g64),(136,.w bAp),(96,.w g96),(174,.w bPo)] ⟨cCw,cDk,s64,bKi,s96,bYy,trivial⟩ (.s .o (.s .o (.j ⟨[0,1,4,5],[],[(.c 0 0,.rb 5),(.c 0 1,.i .i64),(.c 5 14,.ro 3)]⟩ (.s .o (.k (.l ⟨[0,1,4,5],[],[(.c 0 0,.rb 5),(.c 0 1,.i .i64),(.c 5 14,.ro 3),(.s 6,.i .i64)]⟩ (.s .o (.s (.k (.m [0])) .o))))) (.j ⟨[0,1,4,5],[],[(.c 0 0,.rb 5),(.c 0 1,.i .i64),(.c 5 15,.ro 3)]⟩ (.s .o (.k (.l ⟨[0,1,4,5],[],[(.c 0 0,.rb 5),(.c 0 1,.i .i64),(.c 5 15,.ro 3),(.s 7,.i .i64)]⟩ (.s .o (.s (.k (.m [0])) .o))))) (.j ⟨[4,5],[0],[(.c 5 0,.ro 3),(.c 5 1,.i .i64),(.c 5 2,.i .i64),(.c 5 3,.i .i64),(.c 5 4,.i .i64),(.c 5 5,.b),(.c 5 6,.i .i64),(.c 5 7,.i .i64),(.c 5 8,.i .i64),(.c 5 9,.b),(.c 5 10,.b),(.c 5 11,.b),(.c 5 12,.b),(.d 0 0,.rb 5),(.d 0 1,.i .i64),(.c 5 13,.ro 3),(.c 5 14,.ro 3)]⟩ .o .o))))) kr kr kr
theorem aOp:LW 135 ⟨6,[.cell 2 true 2],.seq (.reg false (rg 135 0)) (.seq (.rega [rg 135 1,rg 135 2]) .ret)⟩:=kr
noncomputable def rF (x_none:Int):Option DHost:=some (DHost.mk (List.replicate (Int.toNat (160:Int)) (0:Int)) (List.replicate (Int.toNat (3:Int)) (DGuest.mk false (DCore.mk ([]:List Int) (0:Int) (0:Int) (0:Int) (0:Int) false (0:Int) (0:Int) (0:Int) false false false false) ([]:List DSlot) ([]:List Int) ([]:List Int))))
theorem aQp{x_none:Int}{R_:DHost}(hh:rF x_none=some R_):Fn Tryz.prog 135 [.int .i64 x_none] (.agg [.own 3 1 R_.Words.length (fl (eI .i64) R_.Words),.own 94 17 R_.Guests.length (fl fG R_.Guests)]):=by let z1:=DCore.mk ([]:List Int) (0:Int) (0:Int) (0:Int) (0:Int) false (0:Int) (0:Int) (0:Int) false false false false;let z2:=DGuest.mk false z1 ([]:List DSlot) ([]:List Int) ([]:List Int);unfold rF at hh;refine Fn.start aOp [] (E:=sp 6 []) kr (v:= .agg [sw 0 R_.Words,.sref 1 [] 0 R_.Guests.length 17]) (Hr:=[(1,some (rO94 R_.Guests)),(0,some (rI_3 R_.Words))]) (k:=2) kr (sy [2] [0] (sp 6 [(2,pp 0)]) [(0,some ⟨26,[.nil,.nil]⟩)] 1 (Aw.srega [2] [0,1,2] (bLh ?_ (bLh ?_ bWk))));{refine ys (.mk 3 1 8 [ii 0] (.c (ii 160))) (some 3) (aXf (c:=(eI .i64)) (d:=(0:Int)) (k:=(160:Int)) kr dd kr ?_);refine ys (.mk 94 17 176 zc0 (.c (ii 3))) (some 4) (aXr (z:=(bb false:: .nil::pP [.nil,.nil,.nil])) (k:=(3:Int)) kr dd ?_);let q1:Root:=⟨26,[.sref 1 [] 0 (List.length (List.replicate (Int.toNat (160:Int)) (0:Int))) 1,.sref 2 [] 0 (Int.toNat (3:Int)) 17]⟩;let q2:Root:=(rI_3 (List.replicate (Int.toNat (160:Int)) (0:Int)));let q3:Root:=⟨94,aP (bb false:: .nil::pP [.nil,.nil,.nil]) (Int.toNat (3:Int))⟩;refine yt (sp 6 [(2,pp 0)]) [(0,some q1),(1,some q2),(2,some q3)] 3 (Aw.ent (Ent.foldM (c:=fG) (k:=Int.toNat (3:Int)) (d:=z2) (R:=2) (e:=94) (us2:=sp 6 [(2,pp 0)]) (H2:=[(0,some ⟨26,[.sref 1 [] 0 (List.length (List.replicate (Int.toNat (160:Int)) (0:Int))) 1,.sref 3 [] 0 (List.length (List.replicate (Int.toNat (3:Int)) z2)) 17]⟩),(1,some q2)]) (L:=[none,some none,none,none,none,none,none,none,none,none,none,none,none,none,some none,some none,some none]) (ws:=(bb false:: .own 3 1 0 []::pP [.own 91 3 0 [],.own 3 1 0 [],.own 3 1 0 []])) dd kr kr (eS (aCx (eS (eS (eS (eS (eS (eS (eS (eS (eS (eS (eS (eS (aCx (aCx (aCx bTt))))))))))))))))) rfl (bMn kr (bUc (u:=pp 0) kr (.same _) bTs)) (bIb (t:=q1) rfl kr rfl (aWz (.same _) (aWz (.sref _ _ _ _ eqn) bTu)) (bIb (t:=q2) rfl kr rfl bCf bZg))) (Aw.ret ?_));rw[cU hh];let q4:Root:=(rO94 (List.replicate (Int.toNat (3:Int)) z2));exact sR (r':= .agg [.sref 1 [] 0 (List.length (List.replicate (Int.toNat (160:Int)) (0:Int))) 1,.sref 3 [] 0 (List.length (List.replicate (Int.toNat (3:Int)) z2)) 17]) kr (Ent.list [some 1,some 3] rfl rfl (Nat.zero_le _) (nD (nL rz)) (hn kL (hn bK dB)))};refine ys (.mk 94 17 176 zc0 (.c (ii 3))) (some 4) (aXr (z:=(bb false:: .nil::pP [.nil,.nil,.nil])) (k:=(3:Int)) kr dd ?_);refine ys (.mk 3 1 8 [ii 0] (.c (ii 160))) (some 3) (aXf (c:=(eI .i64)) (d:=(0:Int)) (k:=(160:Int)) kr dd kr ?_);let q5:Root:=⟨26,[.sref 2 [] 0 (List.length (List.replicate (Int.toNat (160:Int)) (0:Int))) 1,.sref 1 [] 0 (Int.toNat (3:Int)) 17]⟩;let q6:Root:=⟨94,aP (bb false:: .nil::pP [.nil,.nil,.nil]) (Int.toNat (3:Int))⟩;let q7:Root:=(rI_3 (List.replicate (Int.toNat (160:Int)) (0:Int)));refine yt (sp 6 [(2,pp 0)]) [(0,some q5),(1,some q6),(2,some q7)] 3 (Aw.ent (Ent.foldM (c:=fG) (k:=Int.toNat (3:Int)) (d:=z2) (R:=1) (e:=94) (us2:=sp 6 [(2,pp 0)]) (H2:=[(0,some ⟨26,[.sref 2 [] 0 (List.length (List.replicate (Int.toNat (160:Int)) (0:Int))) 1,.sref 3 [] 0 (List.length (List.replicate (Int.toNat (3:Int)) z2)) 17]⟩),(2,some q7)]) (L:=[none,some none,none,none,none,none,none,none,none,none,none,none,none,none,some none,some none,some none]) (ws:=(bb false:: .own 3 1 0 []::pP [.own 91 3 0 [],.own 3 1 0 [],.own 3 1 0 []])) dd kr kr (eS (aCx (eS (eS (eS (eS (eS (eS (eS (eS (eS (eS (eS (eS (aCx (aCx (aCx bTt))))))))))))))))) rfl (bMn kr (bUc (u:=pp 0) kr (.same _) bTs)) (bIb (t:=q5) rfl kr rfl (aWz (.same _) (aWz (.sref _ _ _ _ eqn) bTu)) (bIb (t:=q7) rfl kr rfl bCf bZg))) (Aw.ret ?_));rw[cU hh];let q8:Root:=(rO94 (List.replicate (Int.toNat (3:Int)) z2));exact sR (r':= .agg [.sref 2 [] 0 (List.length (List.replicate (Int.toNat (160:Int)) (0:Int))) 1,.sref 3 [] 0 (List.length (List.replicate (Int.toNat (3:Int)) z2)) 17]) kr (Ent.list [some 2,some 3] rfl rfl (Nat.zero_le _) (nD (nL rz)) (hn kL (hn bK dB)))
noncomputable def cBp:Sg tG:=⟨[.i .i64],.one (.st 2026),rF⟩
theorem cDy:Sok 135 cBp:=λx_none R_ hh=>kc (aQp (x_none:=x_none) hh)
noncomputable def aMk  (s5:(List Int)×(List Int)×Int×(List DGuest)):Option (Dl20Rd×DHost):=some ((Dl20Rd.mk s5.2.1 s5.2.2.1),DHost.mk s5.1 s5.2.2.2)
noncomputable def zI (x_n:Int)(s3:(List Int)×Int×(List Int)×(List DGuest))(s4:(List Int)×Int×(List DGuest)):Option (Dl20Rd×DHost):=
 Option.bind (Option.bind (bL (Dl20Rd.mk s4.1 s4.2.1) x_n) λv6=>
  cond v6.2
   (Option.bind (aA v6.1 (4:Int)) λv7=>
   cond (decide (v7.2=(0:Int)))
    (Option.bind (aA v7.1 (9:Int)) λv8=>
    grd ((0:Int)<=v8.2/\v8.2<((s3.2.2.1.length:Nat):Int)) (some (.go ((s3.2.2.1.set v8.2.toNat (4096:Int)),v8.1.b,v8.1.p,s4.2.2))))
    (cond (decide (v7.2=(1:Int)))
     (grd ((0:Int)<=(0:Int)/\(0:Int)<=(2:Int)/\(2:Int)<=((s4.2.2.length:Nat):Int)) (some (.go (s3.2.2.1,v7.1.b,v7.1.p,List.take (Int.toNat (2:Int)-Int.toNat (0:Int)) s4.2.2))))
     (cond (decide (v7.2=(2:Int)))
      (grd ((0:Int)<=(2:Int)/\(2:Int)<((s4.2.2.length:Nat):Int)) (some (.go (s3.2.2.1,v7.1.b,v7.1.p,s4.2.2.set 2 (DGuest.mk false (DCore.mk ([]:List Int) (0:Int) (0:Int) (0:Int) (0:Int) false (0:Int) (0:Int) (0:Int) false false false false) ([]:List DSlot) ([(1:Int)]:List Int) ([]:List Int))))))
      (grd ((0:Int)<=(0:Int)/\(0:Int)<((s4.2.2.length:Nat):Int)) (some (.go (s3.2.2.1,v7.1.b,v7.1.p,s4.2.2.set 0 (DGuest.mk (s4.2.2.getD 0 default).Live (s4.2.2.getD 0 default).C ([DSlot.mk (3:Int) true false,DSlot.mk (3:Int) false false]:List DSlot) (s4.2.2.getD 0 default).In (s4.2.2.getD 0 default).Out))))))))
   (some (.go (s3.2.2.1,v6.1.b,v6.1.p,s4.2.2)))) λj5=>
  JO.run j5 aMk
noncomputable def xO (s10:(List Int)×Int×(List DGuest)×Int)(s11:(List Int)×Int×(List DGuest)):Option (LO ((List Int)×Int×(List DGuest)×Int) (JO ((List Int)×Int×(List DGuest)) (Dl20Rd×DHost))):=some (.next (s11.1,s11.2.1,s11.2.2,w64 (s10.2.2.2-(1:Int))))
noncomputable def qO  (s10:(List Int)×Int×(List DGuest)×Int):Option (LO ((List Int)×Int×(List DGuest)×Int) (JO ((List Int)×Int×(List DGuest)) (Dl20Rd×DHost))):=
 cond (decide ((0:Int)<s10.2.2.2))
  (Option.bind (Option.bind (aA (Dl20Rd.mk s10.1 s10.2.1) (3:Int)) λv12=>
   Option.bind (aA v12.1 (3:Int)) λv13=>
   Option.bind (aA v13.1 (8:Int)) λv14=>
   grd ((0:Int)<=v12.2/\v12.2<((s10.2.2.1.length:Nat):Int)) (cond (s10.2.2.1.getD v12.2.toNat default).Live
    (grd ((0:Int)<=v13.2/\v13.2<((s10.2.2.1.length:Nat):Int)) (cond (s10.2.2.1.getD v13.2.toNat default).Live
     (grd ((0:Int)<=v12.2/\v12.2<((s10.2.2.1.length:Nat):Int)) (grd ((0:Int)<=v14.2/\v14.2<((List.length (s10.2.2.1.getD v12.2.toNat default).Pages:Nat):Int)) (cond (decide ((0:Int)<=(List.getD (s10.2.2.1.getD v12.2.toNat default).Pages v14.2.toNat default).Frame))
      (grd ((0:Int)<=v12.2/\v12.2<((s10.2.2.1.length:Nat):Int)) (grd ((0:Int)<=v14.2/\v14.2<((List.length (s10.2.2.1.getD v12.2.toNat default).Pages:Nat):Int)) (grd ((0:Int)<=v13.2/\v13.2<((s10.2.2.1.length:Nat):Int)) (Option.bind (aA v14.1 (8:Int)) λv15=>
       grd ((0:Int)<=v12.2/\v12.2<((s10.2.2.1.length:Nat):Int)) (grd ((0:Int)<=v14.2/\v14.2<((List.length (List.getD (s10.2.2.1.set v12.2.toNat (DGuest.mk (s10.2.2.1.getD v12.2.toNat default).Live (s10.2.2.1.getD v12.2.toNat default).C (List.set (s10.2.2.1.getD v12.2.toNat default).Pages v14.2.toNat (DSlot.mk (List.getD (s10.2.2.1.getD v12.2.toNat default).Pages v14.2.toNat default).Frame false (List.getD (s10.2.2.1.getD v12.2.toNat default).Pages v14.2.toNat default).Dirty)) (s10.2.2.1.getD v12.2.toNat default).In (s10.2.2.1.getD v12.2.toNat default).Out)) v12.2.toNat default).Pages:Nat):Int)) (Option.bind (aA v15.1 (2:Int)) λv16=>
        grd ((0:Int)<=v15.2/\v15.2<((List.length (List.getD (s10.2.2.1.set v12.2.toNat (DGuest.mk (s10.2.2.1.getD v12.2.toNat default).Live (s10.2.2.1.getD v12.2.toNat default).C (List.set (s10.2.2.1.getD v12.2.toNat default).Pages v14.2.toNat (DSlot.mk (List.getD (s10.2.2.1.getD v12.2.toNat default).Pages v14.2.toNat default).Frame false (List.getD (s10.2.2.1.getD v12.2.toNat default).Pages v14.2.toNat default).Dirty)) (s10.2.2.1.getD v12.2.toNat default).In (s10.2.2.1.getD v12.2.toNat default).Out)) v13.2.toNat default).Pages:Nat):Int)) (some (.go (v16.1.b,v16.1.p,List.set (s10.2.2.1.set v12.2.toNat (DGuest.mk (s10.2.2.1.getD v12.2.toNat default).Live (s10.2.2.1.getD v12.2.toNat default).C (List.set (s10.2.2.1.getD v12.2.toNat default).Pages v14.2.toNat (DSlot.mk (List.getD (s10.2.2.1.getD v12.2.toNat default).Pages v14.2.toNat default).Frame false (List.getD (s10.2.2.1.getD v12.2.toNat default).Pages v14.2.toNat default).Dirty)) (s10.2.2.1.getD v12.2.toNat default).In (s10.2.2.1.getD v12.2.toNat default).Out)) v13.2.toNat (DGuest.mk (List.getD (s10.2.2.1.set v12.2.toNat (DGuest.mk (s10.2.2.1.getD v12.2.toNat default).Live (s10.2.2.1.getD v12.2.toNat default).C (List.set (s10.2.2.1.getD v12.2.toNat default).Pages v14.2.toNat (DSlot.mk (List.getD (s10.2.2.1.getD v12.2.toNat default).Pages v14.2.toNat default).Frame false (List.getD (s10.2.2.1.getD v12.2.toNat default).Pages v14.2.toNat default).Dirty)) (s10.2.2.1.getD v12.2.toNat default).In (s10.2.2.1.getD v12.2.toNat default).Out)) v13.2.toNat default).Live (List.getD (s10.2.2.1.set v12.2.toNat (DGuest.mk (s10.2.2.1.getD v12.2.toNat default).Live (s10.2.2.1.getD v12.2.toNat default).C (List.set (s10.2.2.1.getD v12.2.toNat default).Pages v14.2.toNat (DSlot.mk (List.getD (s10.2.2.1.getD v12.2.toNat default).Pages v14.2.toNat default).Frame false (List.getD (s10.2.2.1.getD v12.2.toNat default).Pages v14.2.toNat default).Dirty)) (s10.2.2.1.getD v12.2.toNat default).In (s10.2.2.1.getD v12.2.toNat default).Out)) v13.2.toNat default).C (List.set (List.getD (s10.2.2.1.set v12.2.toNat (DGuest.mk (s10.2.2.1.getD v12.2.toNat default).Live (s10.2.2.1.getD v12.2.toNat default).C (List.set (s10.2.2.1.getD v12.2.toNat default).Pages v14.2.toNat (DSlot.mk (List.getD (s10.2.2.1.getD v12.2.toNat default).Pages v14.2.toNat default).Frame false (List.getD (s10.2.2.1.getD v12.2.toNat default).Pages v14.2.toNat default).Dirty)) (s10.2.2.1.getD v12.2.toNat default).In (s10.2.2.1.getD v12.2.toNat default).Out)) v13.2.toNat default).Pages v15.2.toNat (DSlot.mk (List.getD (List.getD (s10.2.2.1.set v12.2.toNat (DGuest.mk (s10.2.2.1.getD v12.2.toNat default).Live (s10.2.2.1.getD v12.2.toNat default).C (List.set (s10.2.2.1.getD v12.2.toNat default).Pages v14.2.toNat (DSlot.mk (List.getD (s10.2.2.1.getD v12.2.toNat default).Pages v14.2.toNat default).Frame false (List.getD (s10.2.2.1.getD v12.2.toNat default).Pages v14.2.toNat default).Dirty)) (s10.2.2.1.getD v12.2.toNat default).In (s10.2.2.1.getD v12.2.toNat default).Out)) v12.2.toNat default).Pages v14.2.toNat default).Frame false (decide (v16.2=(0:Int))))) (List.getD (s10.2.2.1.set v12.2.toNat (DGuest.mk (s10.2.2.1.getD v12.2.toNat default).Live (s10.2.2.1.getD v12.2.toNat default).C (List.set (s10.2.2.1.getD v12.2.toNat default).Pages v14.2.toNat (DSlot.mk (List.getD (s10.2.2.1.getD v12.2.toNat default).Pages v14.2.toNat default).Frame false (List.getD (s10.2.2.1.getD v12.2.toNat default).Pages v14.2.toNat default).Dirty)) (s10.2.2.1.getD v12.2.toNat default).In (s10.2.2.1.getD v12.2.toNat default).Out)) v13.2.toNat default).In (List.getD (s10.2.2.1.set v12.2.toNat (DGuest.mk (s10.2.2.1.getD v12.2.toNat default).Live (s10.2.2.1.getD v12.2.toNat default).C (List.set (s10.2.2.1.getD v12.2.toNat default).Pages v14.2.toNat (DSlot.mk (List.getD (s10.2.2.1.getD v12.2.toNat default).Pages v14.2.toNat default).Frame false (List.getD (s10.2.2.1.getD v12.2.toNat default).Pages v14.2.toNat default).Dirty)) (s10.2.2.1.getD v12.2.toNat default).In (s10.2.2.1.getD v12.2.toNat default).Out)) v13.2.toNat default).Out))))))))))
      (some (.go (v14.1.b,v14.1.p,s10.2.2.1))))))
     (some (.go (v14.1.b,v14.1.p,s10.2.2.1)))))
    (some (.go (v14.1.b,v14.1.p,s10.2.2.1))))) λj11=>
   JO.run j11 (xO s10))
  (some (.ret (.go (s10.1,s10.2.1,s10.2.2.1))))
noncomputable def zH (x_n:Int)(s3:(List Int)×Int×(List Int)×(List DGuest)):Option (Dl20Rd×DHost):=
 Option.bind (Option.bind (aA (Dl20Rd.mk s3.1 s3.2.1) (4:Int)) λv9=>
  Option.bind (iter qO (v9.1.b,v9.1.p,s3.2.2.2,v9.2)) LO.val) λj4=>
  JO.run j4 (zI x_n s3)
noncomputable def xR (s18:(List Int)×Int×(List Int)×(List DGuest)×(List Int)×Int×Int×Int×Int×Bool×Int×Int×Int×Bool×Bool×Bool×Bool×(List Int)×(List Int)×(List Int)×Int)(s19:(List Int)×Int×(List Int)×(List DGuest)×(List Int)×Int×Int×Int×Int×Bool×Int×Int×Int×Bool×Bool×Bool×Bool×(List Int)×(List Int)×(List Int)):Option (LO ((List Int)×Int×(List Int)×(List DGuest)×(List Int)×Int×Int×Int×Int×Bool×Int×Int×Int×Bool×Bool×Bool×Bool×(List Int)×(List Int)×(List Int)×Int) (JO ((List Int)×Int×(List Int)×(List DGuest)) (Dl20Rd×DHost))):=some (.next (s19.1,s19.2.1,s19.2.2.1,s19.2.2.2.1,s19.2.2.2.2.1,s19.2.2.2.2.2.1,s19.2.2.2.2.2.2.1,s19.2.2.2.2.2.2.2.1,s19.2.2.2.2.2.2.2.2.1,s19.2.2.2.2.2.2.2.2.2.1,s19.2.2.2.2.2.2.2.2.2.2.1,s19.2.2.2.2.2.2.2.2.2.2.2.1,s19.2.2.2.2.2.2.2.2.2.2.2.2.1,s19.2.2.2.2.2.2.2.2.2.2.2.2.2.1,s19.2.2.2.2.2.2.2.2.2.2.2.2.2.2.1,s19.2.2.2.2.2.2.2.2.2.2.2.2.2.2.2.1,s19.2.2.2.2.2.2.2.2.2.2.2.2.2.2.2.2.1,s19.2.2.2.2.2.2.2.2.2.2.2.2.2.2.2.2.2.1,s19.2.2.2.2.2.2.2.2.2.2.2.2.2.2.2.2.2.2.1,s19.2.2.2.2.2.2.2.2.2.2.2.2.2.2.2.2.2.2.2,w64 (s18.2.2.2.2.2.2.2.2.2.2.2.2.2.2.2.2.2.2.2.2-(1:Int))))
noncomputable def yA (s18:(List Int)×Int×(List Int)×(List DGuest)×(List Int)×Int×Int×Int×Int×Bool×Int×Int×Int×Bool×Bool×Bool×Bool×(List Int)×(List Int)×(List Int)×Int)(v20:Dl20Rd×DBare)(s21:(List Int)×Int×(List Int)):Option (JO ((List Int)×Int×(List Int)×(List DGuest)×(List Int)×Int×Int×Int×Int×Bool×Int×Int×Int×Bool×Bool×Bool×Bool×(List Int)×(List Int)×(List Int)) (LO ((List Int)×Int×(List Int)×(List DGuest)×(List Int)×Int×Int×Int×Int×Bool×Int×Int×Int×Bool×Bool×Bool×Bool×(List Int)×(List Int)×(List Int)×Int) (JO ((List Int)×Int×(List Int)×(List DGuest)) (Dl20Rd×DHost)))):=
 Option.bind (pT (DHost.mk s18.2.2.1 s18.2.2.2.1) (DBare.mk v20.2.C s21.2.2 v20.2.In v20.2.Out)) λv22=>
 cond v22.2.2
  (some (.go (s21.1,s21.2.1,v22.1.Words,v22.1.Guests,v20.2.C.Regs,v20.2.C.Pc,v20.2.C.Root,v20.2.C.Vector,v20.2.C.Saved,v20.2.C.SavedUser,v20.2.C.Cause,v20.2.C.Bad,v20.2.C.Timer,v20.2.C.Waits,v20.2.C.User,v20.2.C.On,v20.2.C.Stopped,s21.2.2,v20.2.In,v20.2.Out)))
  (some (.go (s21.1,s21.2.1,s18.2.2.1,s18.2.2.2.1,v20.2.C.Regs,v20.2.C.Pc,v20.2.C.Root,v20.2.C.Vector,v20.2.C.Saved,v20.2.C.SavedUser,v20.2.C.Cause,v20.2.C.Bad,v20.2.C.Timer,v20.2.C.Waits,v20.2.C.User,v20.2.C.On,v20.2.C.Stopped,s21.2.2,v20.2.In,v20.2.Out)))
noncomputable def xJ (s23:(List Int)×Int×(List Int)×Int)(s24:(List Int)×Int×(List Int)):Option (LO ((List Int)×Int×(List Int)×Int) (JO ((List Int)×Int×(List Int)) (JO ((List Int)×Int×(List Int)×(List DGuest)×(List Int)×Int×Int×Int×Int×Bool×Int×Int×Int×Bool×Bool×Bool×Bool×(List Int)×(List Int)×(List Int)) (LO ((List Int)×Int×(List Int)×(List DGuest)×(List Int)×Int×Int×Int×Int×Bool×Int×Int×Int×Bool×Bool×Bool×Bool×(List Int)×(List Int)×(List Int)×Int) (JO ((List Int)×Int×(List Int)×(List DGuest)) (Dl20Rd×DHost)))))):=some (.next (s24.1,s24.2.1,s24.2.2,w64 (s23.2.2.2+(1:Int))))
noncomputable def xY (s18:(List Int)×Int×(List Int)×(List DGuest)×(List Int)×Int×Int×Int×Int×Bool×Int×Int×Int×Bool×Bool×Bool×Bool×(List Int)×(List Int)×(List Int)×Int)(s23:(List Int)×Int×(List Int)×Int)(s25:(List Int)×Int×(List Int)):Option (JO ((List Int)×Int×(List Int)) (LO ((List Int)×Int×(List Int)×Int) (JO ((List Int)×Int×(List Int)) (JO ((List Int)×Int×(List Int)×(List DGuest)×(List Int)×Int×Int×Int×Int×Bool×Int×Int×Int×Bool×Bool×Bool×Bool×(List Int)×(List Int)×(List Int)) (LO ((List Int)×Int×(List Int)×(List DGuest)×(List Int)×Int×Int×Int×Int×Bool×Int×Int×Int×Bool×Bool×Bool×Bool×(List Int)×(List Int)×(List Int)×Int) (JO ((List Int)×Int×(List Int)×(List DGuest)) (Dl20Rd×DHost))))))):=
 cond (decide ((0:Int)<((s18.2.2.2.2.2.2.2.2.2.2.2.2.2.2.2.2.2.1.length:Nat):Int)))
  (Option.bind (aA (Dl20Rd.mk s25.1 s25.2.1) (3:Int)) λv26=>
  cond (decide (v26.2=(0:Int)))
   (grd ((0:Int)<=(w64 (s23.2.2.2*(8:Int)))/\(w64 (s23.2.2.2*(8:Int)))<=(w64 ((w64 (s23.2.2.2+(1:Int)))*(8:Int)))/\(w64 ((w64 (s23.2.2.2+(1:Int)))*(8:Int)))<=((s25.2.2.length:Nat):Int)) (grd ((0:Int)<=(w64 (s23.2.2.2*(8:Int)))/\(w64 (s23.2.2.2*(8:Int)))<=((s18.2.2.2.2.2.2.2.2.2.2.2.2.2.2.2.2.2.1.length:Nat):Int)/\((s18.2.2.2.2.2.2.2.2.2.2.2.2.2.2.2.2.2.1.length:Nat):Int)<=((s18.2.2.2.2.2.2.2.2.2.2.2.2.2.2.2.2.2.1.length:Nat):Int)) (some (.go (v26.1.b,v26.1.p,over s25.2.2 (Int.toNat (w64 (s23.2.2.2*(8:Int)))) (Int.toNat (w64 ((w64 (s23.2.2.2+(1:Int)))*(8:Int)))-Int.toNat (w64 (s23.2.2.2*(8:Int)))) (List.take (Int.toNat ((s18.2.2.2.2.2.2.2.2.2.2.2.2.2.2.2.2.2.1.length:Nat):Int)-Int.toNat (w64 (s23.2.2.2*(8:Int)))) (List.drop (Int.toNat (w64 (s23.2.2.2*(8:Int)))) s18.2.2.2.2.2.2.2.2.2.2.2.2.2.2.2.2.2.1)))))))
   (some (.go (v26.1.b,v26.1.p,s25.2.2))))
  (some (.go (s25.1,s25.2.1,s25.2.2)))
noncomputable def qM (s18:(List Int)×Int×(List Int)×(List DGuest)×(List Int)×Int×Int×Int×Int×Bool×Int×Int×Int×Bool×Bool×Bool×Bool×(List Int)×(List Int)×(List Int)×Int)(s23:(List Int)×Int×(List Int)×Int):Option (LO ((List Int)×Int×(List Int)×Int) (JO ((List Int)×Int×(List Int)) (JO ((List Int)×Int×(List Int)×(List DGuest)×(List Int)×Int×Int×Int×Int×Bool×Int×Int×Int×Bool×Bool×Bool×Bool×(List Int)×(List Int)×(List Int)) (LO ((List Int)×Int×(List Int)×(List DGuest)×(List Int)×Int×Int×Int×Int×Bool×Int×Int×Int×Bool×Bool×Bool×Bool×(List Int)×(List Int)×(List Int)×Int) (JO ((List Int)×Int×(List Int)×(List DGuest)) (Dl20Rd×DHost)))))):=
 cond (decide (s23.2.2.2<(8:Int)))
  (Option.bind (Option.bind (cond (decide ((3:Int)<s23.2.2.2))
   (Option.bind (aA (Dl20Rd.mk s23.1 s23.2.1) (2:Int)) λv27=>
   cond (decide (v27.2=(0:Int)))
    (grd ((0:Int)<=(w64 (s23.2.2.2*(8:Int)))/\(w64 (s23.2.2.2*(8:Int)))<=((s23.2.2.1.length:Nat):Int)/\((s23.2.2.1.length:Nat):Int)<=((s23.2.2.1.length:Nat):Int)) (some (.go (v27.1.b,v27.1.p,over s23.2.2.1 (Int.toNat (w64 (s23.2.2.2*(8:Int)))) (Int.toNat ((s23.2.2.1.length:Nat):Int)-Int.toNat (w64 (s23.2.2.2*(8:Int)))) (List.replicate (Int.toNat (8:Int)) (0:Int))))))
    (some (.go (v27.1.b,v27.1.p,s23.2.2.1))))
   (some (.go (s23.1,s23.2.1,s23.2.2.1)))) λj25=>
   JO.run j25 (xY s18 s23)) λj24=>
   JO.run j24 (xJ s23))
  (some (.ret (.go (s23.1,s23.2.1,s23.2.2.1))))
noncomputable def pX  (s18:(List Int)×Int×(List Int)×(List DGuest)×(List Int)×Int×Int×Int×Int×Bool×Int×Int×Int×Bool×Bool×Bool×Bool×(List Int)×(List Int)×(List Int)×Int):Option (LO ((List Int)×Int×(List Int)×(List DGuest)×(List Int)×Int×Int×Int×Int×Bool×Int×Int×Int×Bool×Bool×Bool×Bool×(List Int)×(List Int)×(List Int)×Int) (JO ((List Int)×Int×(List Int)×(List DGuest)) (Dl20Rd×DHost))):=
 cond (decide ((0:Int)<s18.2.2.2.2.2.2.2.2.2.2.2.2.2.2.2.2.2.2.2.2))
  (Option.bind (Option.bind (rH (Dl20Rd.mk s18.1 s18.2.1) (0:Int)) λv20=>
   Option.bind (Option.bind (iter (qM s18) (v20.1.b,v20.1.p,v20.2.Mem,(0:Int))) LO.val) λj21=>
    JO.run j21 (yA s18 v20)) λj19=>
   JO.run j19 (xR s18))
  (some (.ret (.go (s18.1,s18.2.1,s18.2.2.1,s18.2.2.2.1))))
noncomputable def zK (x_n:Int)(v1:DHost)(s2:(List Int)×Int×(List Int)):Option (Dl20Rd×DHost):=
 Option.bind (Option.bind (aA (Dl20Rd.mk s2.1 s2.2.1) (3:Int)) λv17=>
  Option.bind (iter pX (v17.1.b,v17.1.p,s2.2.2,v1.Guests,([]:List Int),(0:Int),(0:Int),(0:Int),(0:Int),false,(0:Int),(0:Int),(0:Int),false,false,false,false,([]:List Int),([]:List Int),([]:List Int),w64 ((1:Int)+v17.2))) LO.val) λj3=>
  JO.run j3 (zH x_n)
noncomputable def yI (s28:(List Int)×Int×(List Int)×Int)(s29:(List Int)×Int×(List Int)):Option (LO ((List Int)×Int×(List Int)×Int) (JO ((List Int)×Int×(List Int)) (Dl20Rd×DHost))):=some (.next (s29.1,s29.2.1,s29.2.2,w64 (s28.2.2.2+(1:Int))))
noncomputable def qF  (s28:(List Int)×Int×(List Int)×Int):Option (LO ((List Int)×Int×(List Int)×Int) (JO ((List Int)×Int×(List Int)) (Dl20Rd×DHost))):=
 cond (decide (s28.2.2.2<((s28.2.2.1.length:Nat):Int)))
  (Option.bind (Option.bind (aA (Dl20Rd.mk s28.1 s28.2.1) (4:Int)) λv30=>
   cond (decide (v30.2=(0:Int)))
    (Option.bind (cV v30.1) λv31=>
    grd ((0:Int)<=s28.2.2.2/\s28.2.2.2<((s28.2.2.1.length:Nat):Int)) (some (.go (v31.1.b,v31.1.p,s28.2.2.1.set s28.2.2.2.toNat v31.2))))
    (some (.go (v30.1.b,v30.1.p,s28.2.2.1)))) λj29=>
   JO.run j29 (yI s28))
  (some (.ret (.go (s28.1,s28.2.1,s28.2.2.1))))
noncomputable def nE (x_r:Dl20Rd)(x_n:Int):Option (Dl20Rd×DHost):=
 Option.bind (rF (0:Int)) λv1=>
 Option.bind (Option.bind (iter qF (x_r.b,x_r.p,v1.Words,(0:Int))) LO.val) λj2=>
  JO.run j2 (zK x_n v1)
noncomputable def g74:Sw tG:=⟨[.pt 128,.v (.i .i64)],.one (.st 2026),nE⟩
theorem s74:Sjk 74 g74:=sgy [(135,.r cBp),(64,.w g64),(136,.w bAp),(137,.w bYr),(138,.r bWw),(96,.w g96)] ⟨cDy,s64,bKi,cDl,cEm,s96,trivial⟩ (.s .o (.s .o (.j ⟨[0,1,4,5],[],[(.c 0 0,.rb 5),(.c 0 1,.i .i64),(.c 5 0,.ro 3)]⟩ (.s .o (.k (.l ⟨[0,1,4,5],[],[(.c 0 0,.rb 5),(.c 0 1,.i .i64),(.c 5 0,.ro 3),(.s 6,.i .i64)]⟩ (.s .o (.j ⟨[0,1,4,5,6],[],[(.c 0 0,.rb 5),(.c 0 1,.i .i64),(.c 5 0,.ro 3)]⟩ (.k (.s .o (.c (.m [0]) .o))) .o))))) (.s .o (.j ⟨[0,1,4,5],[],[(.c 0 0,.rb 5),(.c 0 1,.i .i64),(.c 5 0,.ro 3),(.c 5 1,.ro 1094)]⟩ (.s .o (.k (.l ⟨[0,1,4,5,7],[],[(.c 0 0,.rb 5),(.c 0 1,.i .i64),(.c 5 0,.ro 3),(.c 5 1,.ro 1094),(.c 7 0,.ro 3),(.c 7 1,.i .i64),(.c 7 2,.i .i64),(.c 7 3,.i .i64),(.c 7 4,.i .i64),(.c 7 5,.b),(.c 7 6,.i .i64),(.c 7 7,.i .i64),(.c 7 8,.i .i64),(.c 7 9,.b),(.c 7 10,.b),(.c 7 11,.b),(.c 7 12,.b),(.c 7 13,.ro 3),(.c 7 14,.ro 3),(.c 7 15,.ro 3),(.s 8,.i .i64)]⟩ (.s .o (.j ⟨[0,1,4,5,7,8],[],[(.c 0 0,.rb 5),(.c 0 1,.i .i64),(.c 5 0,.ro 3),(.c 5 1,.ro 1094),(.c 7 0,.ro 3),(.c 7 1,.i .i64),(.c 7 2,.i .i64),(.c 7 3,.i .i64),(.c 7 4,.i .i64),(.c 7 5,.b),(.c 7 6,.i .i64),(.c 7 7,.i .i64),(.c 7 8,.i .i64),(.c 7 9,.b),(.c 7 10,.b),(.c 7 11,.b),(.c 7 12,.b),(.c 7 13,.ro 3),(.c 7 14,.ro 3),(.c 7 15,.ro 3)]⟩ (.k (.s .o (.j ⟨[0,1,4,5,7,8,9],[],[(.c 0 0,.rb 5),(.c 0 1,.i .i64),(.c 9 13,.ro 3)]⟩ (.s .o (.k (.l ⟨[0,1,4,5,7,8,9],[],[(.c 0 0,.rb 5),(.c 0 1,.i .i64),(.c 9 13,.ro 3),(.s 10,.i .i64)]⟩ (.s .o (.j ⟨[0,1,4,5,7,8,9,10],[],[(.c 0 0,.rb 5),(.c 0 1,.i .i64),(.c 9 13,.ro 3)]⟩ (.k (.j ⟨[0,1,4,5,7,8,9,10],[],[(.c 0 0,.rb 5),(.c 0 1,.i .i64),(.c 9 13,.ro 3)]⟩ .o .o)) .o))))) .o))) .o))))) (.j ⟨[0,1,4,5],[],[(.c 0 0,.rb 5),(.c 0 1,.i .i64),(.c 5 1,.ro 1094)]⟩ (.s .o (.k (.l ⟨[0,1,4,5],[],[(.c 0 0,.rb 5),(.c 0 1,.i .i64),(.c 5 1,.ro 1094),(.s 14,.i .i64)]⟩ (.s .o (.j ⟨[0,1,4,5,14],[],[(.c 0 0,.rb 5),(.c 0 1,.i .i64),(.c 5 1,.ro 1094)]⟩ (.k (.s .o (.s .o (.s .o (.s .o (.c (.s .o (.m [0])) .o)))))) .o))))) (.j ⟨[4,5],[0],[(.c 5 0,.ro 3),(.d 0 0,.rb 5),(.d 0 1,.i .i64),(.c 5 1,.ro 1094)]⟩ (.s .o (.c (.s .o (.k (.s .o (.c (.m [0]) (.s .o (.c .o (.s .o (.c (.g [] [] [.fo (.c 5 1) 0]) (.g [] [] [.fo (.c 5 1) 0]))))))))) .o)) .o))))))) kr kr kr
noncomputable def xW  (s1:Unit):Option Bool:=some true
noncomputable def fK (x_a:List Int)(x_b:List Int)(s2:Int):Option (LO Int (JO Unit Bool)):=
 cond (decide (s2<((x_a.length:Nat):Int)))
  (grd ((0:Int)<=s2/\s2<((x_a.length:Nat):Int)) (grd ((0:Int)<=s2/\s2<((x_b.length:Nat):Int)) (cond (!decide ((x_a.getD s2.toNat default)=(x_b.getD s2.toNat default)))
   (some (.ret (.out false)))
   (some (.next (w64 (s2+(1:Int))))))))
  (some (.ret (.go ())))
noncomputable def dE (x_a:List Int)(x_b:List Int):Option Bool:=
 cond (!decide (((x_a.length:Nat):Int)=((x_b.length:Nat):Int)))
  (some false)
  (Option.bind (Option.bind (iter (fK x_a x_b) (0:Int)) LO.val) λj1=>
   JO.run j1 xW)
noncomputable def g63:Sg tG:=⟨[.row 3,.row 3],.one .b,dE⟩
theorem s63:Sok 63 g63:=sgx [] trivial (.s .o (.s .o (.j ⟨[],[],[]⟩ (.s .o (.k (.l ⟨[0,1],[],[(.s 5,.i .i64)]⟩ .o))) .o))) kr kr kr
noncomputable def lZ (x_a:DCore)(x_b:DCore):Option Bool:=
 Option.bind (dE x_a.Regs x_b.Regs) λv1=>
 cond (!v1)
  (some false)
  (cond (!decide (x_a.Pc=x_b.Pc))
   (some false)
   (cond (!decide (x_a.Root=x_b.Root))
    (some false)
    (cond (!decide (x_a.Vector=x_b.Vector))
     (some false)
     (cond (!decide (x_a.Saved=x_b.Saved))
      (some false)
      (cond (!(x_a.SavedUser==x_b.SavedUser))
       (some false)
       (cond (decide (x_a.Cause=x_b.Cause))
        (cond (decide (x_a.Bad=x_b.Bad))
         (cond (decide (x_a.Timer=x_b.Timer))
          (cond (x_a.Waits==x_b.Waits)
           (cond (x_a.User==x_b.User)
            (cond (x_a.On==x_b.On)
             (some (x_a.Stopped==x_b.Stopped))
             (some false))
            (some false))
           (some false))
          (some false))
         (some false))
        (some false)))))))
noncomputable def g62:Sg tG:=⟨[.st 39,.st 39],.one .b,lZ⟩
theorem s62:Sok 62 g62:=sgx [(63,.r g63)] ⟨s63,trivial⟩ .o kr kr kr
noncomputable def jF (x_a:DBare)(x_b:DBare):Option Bool:=
 Option.bind (lZ x_a.C x_b.C) λv1=>
 cond v1
  (Option.bind (dE x_a.Mem x_b.Mem) λv2=>
  cond v2
   (Option.bind (dE x_a.In x_b.In) λv3=>
   cond v3
    (Option.bind (dE x_a.Out x_b.Out) λv4=>
    some v4)
    (some false))
   (some false))
  (some false)
noncomputable def g16:Sg tG:=⟨[.st 41,.st 41],.one .b,jF⟩
theorem s16:Sok 16 g16:=sgx [(62,.r g62),(63,.r g63)] ⟨s62,s63,trivial⟩ .o kr kr kr
noncomputable def aHs  (s4:Unit):Option Bool:=some true
noncomputable def lJ (x_a:DGuest)(x_b:DGuest)(s5:Int):Option (LO Int (JO Unit Bool)):=
 cond (decide (s5<((x_a.Pages.length:Nat):Int)))
  (grd ((0:Int)<=s5/\s5<((x_a.Pages.length:Nat):Int)) (grd ((0:Int)<=s5/\s5<((x_b.Pages.length:Nat):Int)) (cond (!(decide ((x_a.Pages.getD s5.toNat default).Frame=(x_b.Pages.getD s5.toNat default).Frame)&&(((x_a.Pages.getD s5.toNat default).Write==(x_b.Pages.getD s5.toNat default).Write)&&(((x_a.Pages.getD s5.toNat default).Dirty==(x_b.Pages.getD s5.toNat default).Dirty)&&true))))
   (some (.ret (.out false)))
   (some (.next (w64 (s5+(1:Int))))))))
  (some (.ret (.go ())))
noncomputable def kW (x_a:DGuest)(x_b:DGuest):Option Bool:=
 cond (!(x_a.Live==x_b.Live))
  (some false)
  (Option.bind (lZ x_a.C x_b.C) λv1=>
  cond (!v1)
   (some false)
   (Option.bind (dE x_a.In x_b.In) λv2=>
   cond (!v2)
    (some false)
    (Option.bind (dE x_a.Out x_b.Out) λv3=>
    cond (!v3)
     (some false)
     (cond (!decide (((x_a.Pages.length:Nat):Int)=((x_b.Pages.length:Nat):Int)))
      (some false)
      (Option.bind (Option.bind (iter (lJ x_a x_b) (0:Int)) LO.val) λj4=>
       JO.run j4 aHs)))))
noncomputable def g70:Sg tG:=⟨[.st 94,.st 94],.one .b,kW⟩
theorem s70:Sok 70 g70:=sgx [(62,.r g62),(63,.r g63)] ⟨s62,s63,trivial⟩ (.s .o (.s .o (.j ⟨[],[],[]⟩ (.s .o (.k (.l ⟨[2,3],[],[(.s 5,.i .i64)]⟩ .o))) .o))) kr kr kr
noncomputable def aJn  (s2:Unit):Option Bool:=some true
noncomputable def lW (x_a:DHost)(x_b:DHost)(s3:Int):Option (LO Int (JO Unit Bool)):=
 cond (decide (s3<((x_a.Guests.length:Nat):Int)))
  (grd ((0:Int)<=s3/\s3<((x_a.Guests.length:Nat):Int)) (grd ((0:Int)<=s3/\s3<((x_b.Guests.length:Nat):Int)) (Option.bind (kW (DGuest.mk (x_a.Guests.getD s3.toNat default).Live (DCore.mk ((x_a.Guests.getD s3.toNat default).C).Regs ((x_a.Guests.getD s3.toNat default).C).Pc ((x_a.Guests.getD s3.toNat default).C).Root ((x_a.Guests.getD s3.toNat default).C).Vector ((x_a.Guests.getD s3.toNat default).C).Saved ((x_a.Guests.getD s3.toNat default).C).SavedUser ((x_a.Guests.getD s3.toNat default).C).Cause ((x_a.Guests.getD s3.toNat default).C).Bad ((x_a.Guests.getD s3.toNat default).C).Timer ((x_a.Guests.getD s3.toNat default).C).Waits ((x_a.Guests.getD s3.toNat default).C).User ((x_a.Guests.getD s3.toNat default).C).On ((x_a.Guests.getD s3.toNat default).C).Stopped) (x_a.Guests.getD s3.toNat default).Pages (x_a.Guests.getD s3.toNat default).In (x_a.Guests.getD s3.toNat default).Out) (DGuest.mk (x_b.Guests.getD s3.toNat default).Live (DCore.mk ((x_b.Guests.getD s3.toNat default).C).Regs ((x_b.Guests.getD s3.toNat default).C).Pc ((x_b.Guests.getD s3.toNat default).C).Root ((x_b.Guests.getD s3.toNat default).C).Vector ((x_b.Guests.getD s3.toNat default).C).Saved ((x_b.Guests.getD s3.toNat default).C).SavedUser ((x_b.Guests.getD s3.toNat default).C).Cause ((x_b.Guests.getD s3.toNat default).C).Bad ((x_b.Guests.getD s3.toNat default).C).Timer ((x_b.Guests.getD s3.toNat default).C).Waits ((x_b.Guests.getD s3.toNat default).C).User ((x_b.Guests.getD s3.toNat default).C).On ((x_b.Guests.getD s3.toNat default).C).Stopped) (x_b.Guests.getD s3.toNat default).Pages (x_b.Guests.getD s3.toNat default).In (x_b.Guests.getD s3.toNat default).Out)) λv4=>
   cond (!v4)
    (some (.ret (.out false)))
    (some (.next (w64 (s3+(1:Int))))))))
  (some (.ret (.go ())))
noncomputable def lV (x_a:DHost)(x_b:DHost):Option Bool:=
 Option.bind (dE x_a.Words x_b.Words) λv1=>
 cond (!v1)
  (some false)
  (cond (!decide (((x_a.Guests.length:Nat):Int)=((x_b.Guests.length:Nat):Int)))
   (some false)
   (Option.bind (Option.bind (iter (lW x_a x_b) (0:Int)) LO.val) λj2=>
    JO.run j2 aJn))
noncomputable def g21:Sg tG:=⟨[.st 26,.st 26],.one .b,lV⟩
theorem s21:Sok 21 g21:=sgx [(63,.r g63),(70,.r g70)] ⟨s63,s70,trivial⟩ (.s .o (.s .o (.j ⟨[],[],[]⟩ (.s .o (.k (.l ⟨[2,3],[],[(.s 5,.i .i64)]⟩ .o))) .o))) kr kr kr
noncomputable def aHy  (s1:Unit):Option Bool:=some true
noncomputable def pE (s2:Int)(s3:Unit):Option (LO Int (JO Unit Bool)):=some (.next (w64 (s2+(1:Int))))
noncomputable def lM (x_a:DHost)(x_b:DHost)(x_but:Int)(s2:Int):Option (LO Int (JO Unit Bool)):=
 cond (decide (s2<(3:Int)))
  (Option.bind (Option.bind (fV x_a s2) λv4=>
   Option.bind (fV x_b s2) λv5=>
   cond (!decide (s2=x_but))
    (cond (!(v4.2==v5.2))
     (some (.out (.ret (.out false))))
     (Option.bind (jF v4.1 v5.1) λv6=>
     cond (!v6)
      (some (.out (.ret (.out false))))
      (some (.go ()))))
    (some (.go ()))) λj3=>
   JO.run j3 (pE s2))
  (some (.ret (.go ())))
noncomputable def lC (x_a:DHost)(x_b:DHost)(x_but:Int):Option Bool:=
 Option.bind (Option.bind (iter (lM x_a x_b x_but) (0:Int)) LO.val) λj1=>
  JO.run j1 aHy
noncomputable def g17:Sg tG:=⟨[.st 26,.st 26,.i .i64],.one .b,lC⟩
theorem s17:Sok 17 g17:=sgx [(13,.r g13),(16,.r g16)] ⟨s13,s16,trivial⟩ (.s .o (.j ⟨[],[],[]⟩ (.s .o (.k (.l ⟨[2,3,4],[],[(.s 7,.i .i64)]⟩ (.s .o (.j ⟨[2,3,4,7],[],[]⟩ .o .o))))) .o)) kr kr kr
noncomputable def aQd (v1:Dl20Rd×DHost)(s2:(List Int)×Int×(List DGuest)):Option (Dl20Rd×DHost):=some ((Dl20Rd.mk s2.1 s2.2.1),DHost.mk v1.2.Words s2.2.2)
noncomputable def sW (x_r:Dl20Rd):Option (Dl20Rd×DHost):=
 Option.bind (nE x_r (25:Int)) λv1=>
 Option.bind (cond (decide (((v1.2.Guests.length:Nat):Int)=(3:Int)))
  (grd ((0:Int)<=(2:Int)/\(2:Int)<((v1.2.Guests.length:Nat):Int)) (cond (v1.2.Guests.getD 2 default).Live
   (Option.bind (aA v1.1 (5:Int)) λv3=>
   cond (decide ((0:Int)<v3.2))
    (grd ((0:Int)<=(2:Int)/\(2:Int)<((v1.2.Guests.length:Nat):Int)) (some (.go (v3.1.b,v3.1.p,v1.2.Guests.set 2 (DGuest.mk false (DCore.mk ([]:List Int) (0:Int) (0:Int) (0:Int) (0:Int) false (0:Int) (0:Int) (0:Int) false false false false) ([]:List DSlot) ([]:List Int) ([]:List Int))))))
    (some (.go (v3.1.b,v3.1.p,v1.2.Guests))))
   (some (.go (v1.1.b,v1.1.p,v1.2.Guests)))))
  (some (.go (v1.1.b,v1.1.p,v1.2.Guests)))) λj2=>
  JO.run j2 (aQd v1)
noncomputable def g75:Sw tG:=⟨[.pt 128],.one (.st 2026),sW⟩
theorem s75:Sjk 75 g75:=sgy [(74,.w g74),(64,.w g64)] ⟨s74,s64,trivial⟩ (.s .o (.s .o (.j ⟨[2,3],[0],[(.d 0 0,.rb 5),(.d 0 1,.i .i64),(.c 3 1,.ro 1094)]⟩ (.s .o (.c (.g [] [] [.fo (.c 3 1) 0]) .o)) .o))) kr kr kr
noncomputable def aCi  (s2:(List Int)×Int×Int):Option (Dl20Rd×Int):=
 Option.bind (aA (Dl20Rd.mk s2.1 s2.2.1) (25:Int)) λv3=>
 some (v3.1,w64 (s2.2.2-(w64 (Int.tdiv v3.2 (24:Int)))))
noncomputable def vT (x_r:Dl20Rd)(x_h:DHost):Option (Dl20Rd×Int):=
 Option.bind (aA x_r (3:Int)) λv1=>
 Option.bind (cond (decide (((x_h.Guests.length:Nat):Int)=(3:Int)))
  (grd ((0:Int)<=v1.2/\v1.2<((x_h.Guests.length:Nat):Int)) (cond (!(x_h.Guests.getD v1.2.toNat default).Live)
   (Option.bind (aA v1.1 (6:Int)) λv4=>
   cond (decide ((0:Int)<v4.2))
    (some (.go (v4.1.b,v4.1.p,(0:Int))))
    (some (.go (v4.1.b,v4.1.p,v1.2))))
   (some (.go (v1.1.b,v1.1.p,v1.2)))))
  (some (.go (v1.1.b,v1.1.p,v1.2)))) λj2=>
  JO.run j2 aCi
noncomputable def g76:Sw tG:=⟨[.pt 128,.v (.st 26)],.one (.i .i64),vT⟩
theorem s76:Sjk 76 g76:=sgy [(64,.w g64)] ⟨s64,trivial⟩ (.s .o (.s .o (.j ⟨[0],[],[(.c 0 0,.rb 5),(.c 0 1,.i .i64),(.s 5,.i .i64)]⟩ .o .o))) kr kr kr
noncomputable def aJx  (s2:List DSlot):Option (List DSlot):=some s2
noncomputable def iQ (v1:List DSlot)(s3:(List DSlot)×Int):Option (LO ((List DSlot)×Int) (JO (List DSlot) (List DSlot))):=
 cond (decide (s3.2<((v1.length:Nat):Int)))
  (grd ((0:Int)<=s3.2/\s3.2<((s3.1.length:Nat):Int)) (some (.next ((s3.1.set s3.2.toNat (DSlot.mk (s3.1.getD s3.2.toNat default).Frame (s3.1.getD s3.2.toNat default).Write false)),w64 (s3.2+(1:Int))))))
  (some (.ret (.go s3.1)))
noncomputable def pM (x_pages:List DSlot):Option (List DSlot):=
 Option.bind (iI x_pages) λv1=>
 Option.bind (Option.bind (iter (iQ v1) (v1,(0:Int))) LO.val) λj2=>
  JO.run j2 aJx
noncomputable def g99:Sg tG:=⟨[.row 91],.one (.row 91),pM⟩
theorem s99:Sok 99 g99:=sgx [(150,.r bSk)] ⟨bZr,trivial⟩ (.s .o (.s .o (.j ⟨[],[],[(.s 3,.ro 91)]⟩ (.s .o (.k (.l ⟨[8],[],[(.s 3,.ro 91),(.s 9,.i .i64)]⟩ .o))) .o))) kr kr kr
noncomputable def bU (x_words:List Int)(x_s:DSlot):Option (List Int):=
 cond (decide (x_s.Frame=(-1:Int)))
  (some (List.replicate (Int.toNat (8:Int)) (0:Int)))
  (Option.bind (lR x_words x_s.Frame) λv1=>
  some v1)
noncomputable def bJp:Sg tG:=⟨[.row 3,.st 91],.one (.rb 3),bU⟩
theorem bHe:Sok 100 bJp:=sgx [(151,.r cAl)] ⟨bZm,trivial⟩ .o kr kr kr
theorem aMh{x_words:List Int}{x_s:DSlot}{R_:(List Int)}(hh:bU x_words x_s=some R_):Fn Tryz.prog 100 [bo (eI .i64) x_words,.agg (gL x_s)] (bo (eI .i64) R_):=kc (bHe x_words x_s R_ hh)
noncomputable def oH (x_h:DHost)(x_g:Int)(x_at:Int):Option Int:=
 grd ((0:Int)<=x_g/\x_g<((x_h.Guests.length:Nat):Int)) (grd ((0:Int)<=(w64 (Int.tdiv x_at (8:Int)))/\(w64 (Int.tdiv x_at (8:Int)))<((List.length (x_h.Guests.getD x_g.toNat default).Pages:Nat):Int)) (cond (decide ((List.getD (x_h.Guests.getD x_g.toNat default).Pages (Int.toNat (w64 (Int.tdiv x_at (8:Int)))) default).Frame<(0:Int)))
  (some (0:Int))
  (grd ((0:Int)<=(w64 ((w64 ((List.getD (x_h.Guests.getD x_g.toNat default).Pages (Int.toNat (w64 (Int.tdiv x_at (8:Int)))) default).Frame*(8:Int)))+(Int.tmod x_at (8:Int))))/\(w64 ((w64 ((List.getD (x_h.Guests.getD x_g.toNat default).Pages (Int.toNat (w64 (Int.tdiv x_at (8:Int)))) default).Frame*(8:Int)))+(Int.tmod x_at (8:Int))))<((x_h.Words.length:Nat):Int)) (some (x_h.Words.getD (Int.toNat (w64 ((w64 ((List.getD (x_h.Guests.getD x_g.toNat default).Pages (Int.toNat (w64 (Int.tdiv x_at (8:Int)))) default).Frame*(8:Int)))+(Int.tmod x_at (8:Int))))) default)))))
noncomputable def bSg:Sg tG:=⟨[.st 26,.i .i64,.i .i64],.one (.i .i64),oH⟩
theorem bYj:Sok 113 bSg:=sgx [] trivial .o kr kr kr
noncomputable def nP (x_w:Int):Option DEntry:=
 Option.bind (fB x_w) λv1=>
 cond (!v1)
  (some (DEntry.mk false false false (0:Int)))
  (some (DEntry.mk (decide ((Int.tmod x_w (2:Int))=(1:Int))) (decide ((Int.tmod (w64 (Int.tdiv x_w (2:Int))) (2:Int))=(1:Int))) (decide ((Int.tmod (w64 (Int.tdiv x_w (4:Int))) (2:Int))=(1:Int))) (Int.tmod (w64 (Int.tdiv x_w (8:Int))) (8:Int))))
noncomputable def bZn:Sg tG:=⟨[.i .i64],.one (.st 181),nP⟩
theorem cCr:Sok 157 bZn:=sgx [(158,.r aUz)] ⟨bCj,trivial⟩ .o kr kr kr
noncomputable def aKj  (s2:List DShade):Option (List DShade):=some s2
noncomputable def qG (x_h:DHost)(x_g:Int)(s3:(List DShade)×Int)(s4:Bool×Bool×Bool×Int):Option (LO ((List DShade)×Int) (JO (List DShade) (List DShade))):=grd ((0:Int)<=x_g/\x_g<((x_h.Guests.length:Nat):Int)) (grd ((0:Int)<=s4.2.2.2/\s4.2.2.2<((List.length (x_h.Guests.getD x_g.toNat default).Pages:Nat):Int)) (grd ((s3.1.length+List.length ([DShade.mk s4.1 s4.2.1 s4.2.2.1 s4.2.2.2 (List.getD (x_h.Guests.getD x_g.toNat default).Pages s4.2.2.2.toNat default).Frame (List.getD (x_h.Guests.getD x_g.toNat default).Pages s4.2.2.2.toNat default).Write]:List DShade))*32<=2^47/\s3.1.length+List.length ([DShade.mk s4.1 s4.2.1 s4.2.2.1 s4.2.2.2 (List.getD (x_h.Guests.getD x_g.toNat default).Pages s4.2.2.2.toNat default).Frame (List.getD (x_h.Guests.getD x_g.toNat default).Pages s4.2.2.2.toNat default).Write]:List DShade)<=2^47) (some (.next ((s3.1++([DShade.mk s4.1 s4.2.1 s4.2.2.1 s4.2.2.2 (List.getD (x_h.Guests.getD x_g.toNat default).Pages s4.2.2.2.toNat default).Frame (List.getD (x_h.Guests.getD x_g.toNat default).Pages s4.2.2.2.toNat default).Write]:List DShade)),w64 (s3.2+(1:Int)))))))
noncomputable def mM (x_h:DHost)(x_g:Int)(s3:(List DShade)×Int):Option (LO ((List DShade)×Int) (JO (List DShade) (List DShade))):=
 cond (decide (s3.2<(8:Int)))
  (Option.bind (grd ((0:Int)<=x_g/\x_g<((x_h.Guests.length:Nat):Int)) (cond (decide ((0:Int)<=((x_h.Guests.getD x_g.toNat default).C).Root))
   (Option.bind (oH x_h x_g (w64 ((w64 (((x_h.Guests.getD x_g.toNat default).C).Root*(8:Int)))+s3.2))) λv5=>
   Option.bind (nP v5) λv6=>
   some (.go (v6.There,v6.Write,v6.User,v6.Page)))
   (some (.go (true,true,true,s3.2))))) λj4=>
   JO.run j4 (qG x_h x_g s3))
  (some (.ret (.go s3.1)))
noncomputable def jA (x_h:DHost)(x_g:Int):Option (List DShade):=
 Option.bind (cY x_h x_g) λv1=>
 cond (!v1)
  (some ([]:List DShade))
  (Option.bind (Option.bind (iter (mM x_h x_g) (([]:List DShade),(0:Int))) LO.val) λj2=>
   JO.run j2 aKj)
noncomputable def bTe:Sg tG:=⟨[.st 26,.i .i64],.one (.row 147),jA⟩
theorem cAo:Sok 106 bTe:=sgx [(102,.r aFk),(113,.r bSg),(157,.r bZn)] ⟨aJm,bYj,cCr,trivial⟩ (.s .o (.s .o (.s .o (.j ⟨[],[],[(.s 5,.ro 147)]⟩ (.s .o (.k (.l ⟨[1,2],[],[(.s 5,.ro 147),(.s 6,.i .i64)]⟩ (.s .o (.s (.k (.s .o (.j ⟨[1,2,5,6,7],[],[(.c 7 0,.b),(.c 7 1,.b),(.c 7 2,.b),(.c 7 3,.i .i64)]⟩ .o .o))) .o))))) .o)))) kr kr kr
noncomputable def kV (x_w:Int):Option DEntry:=
 Option.bind (fE x_w) λv1=>
 cond (!v1)
  (some (DEntry.mk false false false (0:Int)))
  (some (DEntry.mk (decide ((Int.tmod (w64 (Int.tdiv x_w (1:Int))) (2:Int))=(1:Int))) (decide ((Int.tmod (w64 (Int.tdiv x_w (2:Int))) (2:Int))=(1:Int))) (decide ((Int.tmod (w64 (Int.tdiv x_w (4:Int))) (2:Int))=(1:Int))) (Int.tmod (w64 (Int.tdiv x_w (8:Int))) (8:Int))))
noncomputable def bRe:Sg tG:=⟨[.i .i64],.one (.st 181),kV⟩
theorem bWr:Sok 164 bRe:=sgx [(55,.r g55)] ⟨s55,trivial⟩ .o kr kr kr
noncomputable def rJ (x_h:DHost)(x_g:Int)(x_number:Int):Option DEntry:=
 grd ((0:Int)<=x_g/\x_g<((x_h.Guests.length:Nat):Int)) (cond (decide (((x_h.Guests.getD x_g.toNat default).C).Root=(-1:Int)))
  (some (DEntry.mk true true true x_number))
  (grd ((0:Int)<=((x_h.Guests.getD x_g.toNat default).C).Root/\((x_h.Guests.getD x_g.toNat default).C).Root<((List.length (x_h.Guests.getD x_g.toNat default).Pages:Nat):Int)) (Option.bind (bU x_h.Words (DSlot.mk (List.getD (x_h.Guests.getD x_g.toNat default).Pages (Int.toNat ((x_h.Guests.getD x_g.toNat default).C).Root) default).Frame (List.getD (x_h.Guests.getD x_g.toNat default).Pages (Int.toNat ((x_h.Guests.getD x_g.toNat default).C).Root) default).Write (List.getD (x_h.Guests.getD x_g.toNat default).Pages (Int.toNat ((x_h.Guests.getD x_g.toNat default).C).Root) default).Dirty)) λv1=>
   grd ((0:Int)<=x_number/\x_number<((v1.length:Nat):Int)) (Option.bind (kV (v1.getD x_number.toNat default)) λv2=>
    some v2))))
noncomputable def bWu:Sg tG:=⟨[.st 26,.i .i64,.i .i64],.one (.st 181),rJ⟩
theorem cFe:Sok 227 bWu:=sgx [(100,.r bJp),(164,.r bRe)] ⟨bHe,bWr,trivial⟩ .o kr kr kr
noncomputable def rO (x_h:DHost)(x_g:Int)(x_number:Int):Option DShade:=
 Option.bind (rJ x_h x_g x_number) λv1=>
 grd ((0:Int)<=x_g/\x_g<((x_h.Guests.length:Nat):Int)) (grd ((0:Int)<=v1.Page/\v1.Page<((List.length (x_h.Guests.getD x_g.toNat default).Pages:Nat):Int)) (some (DShade.mk v1.There v1.Write v1.User v1.Page (List.getD (x_h.Guests.getD x_g.toNat default).Pages v1.Page.toNat default).Frame (List.getD (x_h.Guests.getD x_g.toNat default).Pages v1.Page.toNat default).Write)))
noncomputable def bZp:Sg tG:=⟨[.st 26,.i .i64,.i .i64],.one (.st 147),rO⟩
theorem cDh:Sok 225 bZp:=sgx [(227,.r bWu)] ⟨cFe,trivial⟩ .o kr kr kr
noncomputable def cB (x_h:DHost):Option DHost:=
 Option.bind (cH x_h.Words) λv1=>
 Option.bind (gW x_h.Guests) λv2=>
 some (DHost.mk v1 v2)
noncomputable def aOe:Sg tG:=⟨[.st 26],.one (.st 2026),cB⟩
theorem aPy:Sok 131 aOe:=sgx [(117,.r aTt),(169,.r bPa)] ⟨aTu,cAq,trivial⟩ .o kr kr kr
theorem aJy{x_h:DHost}{R_:DHost}(hh:cB x_h=some R_):Fn Tryz.prog 131 [.agg (hG x_h)] (.agg [.own 3 1 R_.Words.length (fl (eI .i64) R_.Words),.own 94 17 R_.Guests.length (fl fG R_.Guests)]):=kc (aPy x_h R_ hh)
theorem aPq:LW 192 ⟨44,[.cell 8 true 2],.seq (.reg false (rg 192 0)) (.seq (.reg false (rg 192 1)) (.seq (.reg false (rg 192 2)) (.seq (.regd (rg 192 3) (rg 192 4)) (.seq (.regt (rg 192 5) (rg 192 6)) (.seq (.reg false (rg 192 7)) .ret)))))⟩:=kr
noncomputable def gZ (x_h:DHost)(x_g:Int)(x_page:Int)(x_frame:Int):Option DHost:=
 Option.bind (cB x_h) λv1=>
 grd ((0:Int)<=x_g/\x_g<((x_h.Guests.length:Nat):Int)) (grd ((0:Int)<=x_page/\x_page<((List.length (x_h.Guests.getD x_g.toNat default).Pages:Nat):Int)) (Option.bind (fY v1.Words x_frame) λv2=>
  grd (v2.1.length=v1.Words.length) (grd (v2.2.1+v2.2.2<=v2.1.length) (Option.bind (bU x_h.Words (DSlot.mk (List.getD (x_h.Guests.getD x_g.toNat default).Pages x_page.toNat default).Frame (List.getD (x_h.Guests.getD x_g.toNat default).Pages x_page.toNat default).Write (List.getD (x_h.Guests.getD x_g.toNat default).Pages x_page.toNat default).Dirty)) λv3=>
   grd ((0:Int)<=x_g/\x_g<((v1.Guests.length:Nat):Int)) (grd ((0:Int)<=x_page/\x_page<((List.length (v1.Guests.getD x_g.toNat default).Pages:Nat):Int)) (some (DHost.mk (over v2.1 v2.2.1 v2.2.2 v3) (v1.Guests.set x_g.toNat (DGuest.mk (v1.Guests.getD x_g.toNat default).Live (DCore.mk ((v1.Guests.getD x_g.toNat default).C).Regs ((v1.Guests.getD x_g.toNat default).C).Pc ((v1.Guests.getD x_g.toNat default).C).Root ((v1.Guests.getD x_g.toNat default).C).Vector ((v1.Guests.getD x_g.toNat default).C).Saved ((v1.Guests.getD x_g.toNat default).C).SavedUser ((v1.Guests.getD x_g.toNat default).C).Cause ((v1.Guests.getD x_g.toNat default).C).Bad ((v1.Guests.getD x_g.toNat default).C).Timer ((v1.Guests.getD x_g.toNat default).C).Waits ((v1.Guests.getD x_g.toNat default).C).User ((v1.Guests.getD x_g.toNat default).C).On ((v1.Guests.getD x_g.toNat default).C).Stopped) (List.set (v1.Guests.getD x_g.toNat default).Pages x_page.toNat (DSlot.mk x_frame true (List.getD (x_h.Guests.getD x_g.toNat default).Pages x_page.toNat default).Dirty)) (v1.Guests.getD x_g.toNat default).In (v1.Guests.getD x_g.toNat default).Out)))))))))
theorem aSs{x_h:DHost}{x_g:Int}{x_page:Int}{x_frame:Int}{R_:DHost}(hh:gZ x_h x_g x_page x_frame=some R_):Fn Tryz.prog 192 [.agg (hG x_h),.int .i64 x_g,.int .i64 x_page,.int .i64 x_frame] (.agg [.own 3 1 R_.Words.length (fl (eI .i64) R_.Words),.own 94 17 R_.Guests.length (fl fG R_.Guests)]):=by let z7:EH:=(0,some (rB26 x_h));let z8:=(1,ii x_g);let z9:EH:=(1,some ⟨26,[.nil,.nil]⟩);let z10:=(10,pp 5);let z11:=(2,ii x_page);let z12:=(3,ii x_frame);let z13:EV:=(34,.ptr 3 [] (0+x_g.toNat*17));let z14:EV:=(35,.ptr 3 [] (0+x_g.toNat*17+14));let z15:=(8,pp 1);let z16:=(9,pp 4);let z1:=x_h.Guests.getD x_g.toNat default;let z3:=List.getD z1.Pages x_page.toNat default;let z4:=DSlot.mk x_frame true z3.Dirty;unfold gZ at hh;refine Fn.start aPq [0,1,2,3] (E:=sp 44 [(0,.agg (hG x_h)),z8,z11,z12]) kr (v:= .agg [sw 0 R_.Words,.sref 1 [] 0 R_.Guests.length 17]) (Hr:=[(1,some (rO94 R_.Guests)),(0,some (rI_3 R_.Words))]) (k:=2) kr (sy [1,2,3,4,8] [0,1] (sp 44 [z8,z11,z12,(4,pp 0),z15]) [z7,z9] 2 (Aw.sreg [1,2,3,4,8,9] [0,1,2,3,4] (yu 1 [(11,.agg (hG x_h))] [z7,z9] 2 ?_)));obtain⟨v1,hv1,hh⟩:=bind_some hh;let z17:EV:=(32,.sref 3 [] 0 v1.Guests.length 17);let z2:=v1.Guests.getD x_g.toNat default;let z5:=List.set z2.Pages x_page.toNat z4;let z6:=DGuest.mk z2.Live z2.C z5 z2.In z2.Out;let q1:Root:=(rO94 v1.Guests);let z18:=(3,some q1);let q2:Root:=(rI_3 v1.Words);let z19:=(2,some q2);refine ys (.call 131 [.t 11]) (some 12) (uK (r:= .agg [.own 3 1 v1.Words.length (fl (eI .i64) v1.Words),.own 94 17 v1.Guests.length (fl fG v1.Guests)]) (v:= .agg [sw 2 v1.Words,.sref 3 [] 0 v1.Guests.length 17]) (Hr:=[z18,z19]) (n':=4) (aJy hv1) (zT (vs:=[.agg (hG x_h)]) kr (lK (aF (aCt (aAi _))) rL)) nrr nrr kr ?_);let q3:Root:=⟨26,[sw 2 v1.Words,.sref 3 [] 0 v1.Guests.length 17]⟩;let z20:=(4,some q3);refine yt (sp 44 [z8,z11,z12,(4,pp 0),z15,z16]) [z7,z9,z19,z18,z20] 5 (Aw.sreg [1,2,3,4,8,9,10] [0,1,2,3,4,5] (yu 3 [(13,.ptr 0 [] 1),(14,bo iJ x_h.Guests),(15,ii x_g)] [z7,z9,z19,z18,z20] 5 ?_));obtain⟨hg3,hh⟩:=bE hh;refine ys (.iadr 17 (.t 14) (.t 15)) (some 16) (aTr (kd:= .i64) (c:=iJ) (xs:=x_h.Guests) bAx dd kr kr hg3 ?_);refine yu 1 [(16,.bptr (fl iJ x_h.Guests) (Int.toNat x_g*17)),(17,.bptr (fl iJ x_h.Guests) (Int.toNat x_g*17+14))] [z7,z9,z19,z18,z20] 5 (ys (.load false 1 (.t 17)) (some 18) (bPf (c:=iJ) (xs:=x_h.Guests) (o:=Int.toNat x_g*17+14) (i:=x_g.toNat) (off:=14) (v:=bo gL z1.Pages) bAx kr ltn ltn dd kr ?_));refine yu 1 [(18,bo gL z1.Pages),(19,ii x_page)] [z7,z9,z19,z18,z20] 5 ?_;obtain⟨hg4,hh⟩:=bE hh;refine ys (.iadr 3 (.t 18) (.t 19)) (some 20) (aTr (kd:= .i64) (c:=gL) (xs:=z1.Pages) qH dd kr kr hg4 ?_);refine ys (.load true 3 (.t 20)) (some 21) (aVy (c:=gL) (xs:=z1.Pages) (o:=Int.toNat x_page*3) (i:=x_page.toNat) (off:=0) (v:= .agg [ii z3.Frame,bb z3.Write,bb z3.Dirty]) qH kr ltn ltn dd kr ?_);let q4:Root:=⟨91,[ii z3.Frame,bb z3.Write,bb z3.Dirty]⟩;let z21:=(5,some q4);refine yt (sp 44 [z8,z11,z12,(4,pp 0),z15,z16,z10]) [z7,z9,z19,z18,z20,z21] 6 (Aw.sregd [1,2,3,8,9,10] [1,2,3,4,5] [2] kr (dj 3 (sp 44 [z8,z11,z12,(4,pp 0),z15,z16,z10,(22,pp 4),(23,sw 2 v1.Words),(24,ii x_frame)]) [z7,z9,z19,z18,z20,z21] 6 ?_));obtain⟨v2,hv2,hh⟩:=bind_some hh;let z22:EH:=(2,some (rI_3 v2.1));obtain⟨hg7,hh⟩:=bE hh;obtain⟨hg8,hh⟩:=bE hh;refine ds (.call 151 [.t 23,.t 24]) (some 25) (aWt rfl (cf (.sref 2 [] (0+v2.2.1*1) v2.2.2 1) [z22] 6 [2] (tI hv2) [sw 2 v1.Words,ii x_frame] rz (hn bK dB) yN (hn bK dB) ⟨⟨⟨by decide,aIq rfl rfl⟩,Hld.un ?_⟩⟩));refine dt (sp 44 [z8,z11,z12,(4,pp 0),z15,z16,z10,(22,pp 4),(23,sw 2 v1.Words),(24,ii x_frame),(25,.sref 2 [] (0+v2.2.1*1) v2.2.2 1),(26,pp 0),(27,bo (eI .i64) x_h.Words),(28,.agg [ii z3.Frame,bb z3.Write,bb z3.Dirty])]) [z22,(2,none),z7,z9,z19,z18,z20,z21] 6 ?_;obtain⟨v3,hv3,hh⟩:=bind_some hh;refine ys (.call 100 [.t 27,.t 28]) (some 29) (aPo (r:=bo (eI .i64) v3) (v:=bo (eI .i64) v3) (Hr:=[]) (n':=6) (aMh hv3) (zT (vs:=[bo (eI .i64) x_h.Words,.agg [ii z3.Frame,bb z3.Write,bb z3.Dirty]]) kr (lK (aF (aCc (bN cX))) (cz1 rL))) nrr kr ?_);let q5:Root:=(rI_3 (over v2.1 v2.2.1 v2.2.2 v3));let z23:=(2,some q5);refine ys (.cpy 1 (.t 25) (.t 29)) (some 30) (aJr (c:=(eI .i64)) (xs:=v2.1) (ys:=v3) (e:=3) (r:=2) (π:=[]) (o:=0+v2.2.1*1) (k:=v2.2.2) (i:=v2.2.1) (H':=[z23,z22,(2,none),z7,z9,z19,z18,z20,z21]) cD (rpv kr (aRe (c:=(eI .i64)) (xs:=v3) cD)) kr kr ltn ltn kr ?_);refine yt (sp 44 [z8,z11,z12,z15,z16,z10]) [z9,z23,z18,z20,z21] 6 (Aw.sregt [8,9] [1,2,3,4] ?_);obtain⟨hg12,hh⟩:=bE hh;refine qc (cs:=[(0:Int)<=x_g/\x_g<((v1.Guests.length:Nat):Int)]) (E':=(sp 44 [z8,z11,z12,z15,z16,z10,(31,.ptr 4 [] 1),z17,(33,ii x_g),z13,z14])) (pre:=(List.take 5 (rg 192 5))) (L':=(List.drop 5 (rg 192 5))) kr (λK=>by kernel_rfl) (.cons hg12 .nil) (qs (.load false 1 (.t 35)) (some 36) (cDj rfl (aTm (c:=fG) (xs:=v1.Guests) (e:=94) (r:=3) (π:=[]) (o:=0+x_g.toNat*17+14) (i:=x_g.toNat) (off:=14) (v:= .sref 3 [0+x_g.toNat*17+14+0] 0 (List.length z2.Pages) 3) wQ kr kr ltn ltn dd kr ?_)));obtain⟨hg11,hh⟩:=bE hh;refine qtt (cs:=[(0:Int)<=x_page/\x_page<((List.length z2.Pages:Nat):Int)]) (E':=(sp 44 [z8,z11,z12,z15,z16,z10,(31,.ptr 4 [] 1),z17,(33,ii x_g),z13,z14,(36,.sref 3 [0+x_g.toNat*17+14+0] 0 (List.length z2.Pages) 3),(37,ii x_page),(38,ii x_frame),(39,.ptr 5 [] 2),(40,bb z3.Dirty),(41,.agg [ii x_frame,bb true,bb z3.Dirty]),(42,.ptr 3 [0+x_g.toNat*17+14+0] (0+x_page.toNat*3))])) (λK=>by kernel_rfl) (.cons hg11 .nil) ?_;let q6:Root:=(rO94 (v1.Guests.set x_g.toNat z6));refine ys (.store 3 (.t 42) (.t 41)) none (bRs (c:=gL) (xs:=z2.Pages) (e:=91) (r:=3) (π:=[0+x_g.toNat*17+14+0]) (o:=0+x_page.toNat*3) (i:=x_page.toNat) (off:=0) (vs:=[ii x_frame,bb true,bb z3.Dirty]) (y:=z4) (H':=[(3,some q6),z9,z23,z18,z20,z21]) qH kr kr kr (aEl (e:=94) (e':=91) (sz':=3) (m':=(List.length z2.Pages)) (cs':=(fl gL z2.Pages)) (c:=fG) (xs:=v1.Guests) (i:=x_g.toNat) (off:=14) wQ kr ltn ltn dd rfl kr) ltn ltn dd kr (bOb (e:=94) (e':=91) (sz':=3) (m':=(List.length z2.Pages)) (cs':=(fl gL z2.Pages)) (ds:=(fl gL z5)) (c:=fG) (xs:=v1.Guests) (i:=x_g.toNat) (off:=14) (y:=z6) (m2:=z5.length) wQ kr ltn ltn dd rfl kr eqn kr rfl kr) ?_);refine yt (sp 44 [z15,z16]) [z9,z23,(3,some q6),z20] 6 (sy [8] [1,2,3] (sp 44 [z15]) [(1,some q3),z23,(3,some q6)] 6 (Aw.ret ?_));rw[cU hh];exact sR (r':= .agg [sw 2 v1.Words,.sref 3 [] 0 v1.Guests.length 17]) kr (Ent.list [some 2,some 3] rfl rfl (Nat.zero_le _) (nD (nL rz)) (hn kL (hn bK dB)))
noncomputable def bQk:Sg tG:=⟨[.st 26,.i .i64,.i .i64,.i .i64],.one (.st 2026),gZ⟩
theorem cBk:Sok 192 bQk:=λx_h x_g x_page x_frame R_ hh=>kc (aSs (x_h:=x_h) (x_g:=x_g) (x_page:=x_page) (x_frame:=x_frame) hh)
noncomputable def iG (x_h:DHost)(x_g:Int)(x_page:Int):Option (DHost×Bool):=
 Option.bind (mW x_h.Guests) λv1=>
 cond (decide (((v1.length:Nat):Int)=(0:Int)))
  (some ((DHost.mk ([]:List Int) ([]:List DGuest)),false))
  (grd ((0:Int)<=(0:Int)/\(0:Int)<((v1.length:Nat):Int)) (Option.bind (gZ x_h x_g x_page (v1.getD 0 default)) λv2=>
   some (v2,true)))
noncomputable def bQu:Sg tG:=⟨[.st 26,.i .i64,.i .i64],.two (.st 2026) .b,iG⟩
theorem bWv:Sok 191 bQu:=sgx [(216,.r bYx),(192,.r bQk)] ⟨cEu,cBk,trivial⟩ .o kr kr kr
noncomputable def jG (x_h:DHost)(x_g:Int)(x_page:Int):Option (DHost×Bool):=
 Option.bind (cL x_h x_g) λv1=>
 cond (!v1)
  (some ((DHost.mk ([]:List Int) ([]:List DGuest)),false))
  (Option.bind (fC x_page) λv2=>
  cond (!v2)
   (some ((DHost.mk ([]:List Int) ([]:List DGuest)),false))
   (grd ((0:Int)<=x_g/\x_g<((x_h.Guests.length:Nat):Int)) (grd ((0:Int)<=x_page/\x_page<((List.length (x_h.Guests.getD x_g.toNat default).Pages:Nat):Int)) (cond (!decide ((List.getD (x_h.Guests.getD x_g.toNat default).Pages x_page.toNat default).Frame=(-1:Int)))
    (Option.bind (cB x_h) λv3=>
    some (v3,true))
    (Option.bind (iG x_h x_g x_page) λv4=>
    some (v4.1,v4.2))))))
noncomputable def cAd:Sg tG:=⟨[.st 26,.i .i64,.i .i64],.two (.st 2026) .b,jG⟩
theorem cAg:Sok 154 cAd:=sgx [(56,.r g56),(46,.r g46),(131,.r aOe),(191,.r bQu)] ⟨s56,s46,aPy,bWv,trivial⟩ .o kr kr kr
theorem aOy{x_h:DHost}{x_g:Int}{x_page:Int}{R_:DHost×Bool}(hh:jG x_h x_g x_page=some R_):Fn Tryz.prog 154 [.agg (hG x_h),.int .i64 x_g,.int .i64 x_page] (.tup [.agg [.own 3 1 R_.1.Words.length (fl (eI .i64) R_.1.Words),.own 94 17 R_.1.Guests.length (fl fG R_.1.Guests)],.bool R_.2]):=kc (cAg x_h x_g x_page R_ hh)
noncomputable def xF (x_g:Int)(x_page:Int)(v3:DHost)(v4:List Int)(s5:List Int):Option (DHost×Bool):=grd ((0:Int)<=x_g/\x_g<((v3.Guests.length:Nat):Int)) (grd ((0:Int)<=(0:Int)/\(0:Int)<((v4.length:Nat):Int)) (grd ((0:Int)<=x_page/\x_page<((List.length (v3.Guests.getD x_g.toNat default).Pages:Nat):Int)) (some ((DHost.mk s5 (v3.Guests.set x_g.toNat (DGuest.mk (v3.Guests.getD x_g.toNat default).Live (DCore.mk ((v3.Guests.getD x_g.toNat default).C).Regs ((v3.Guests.getD x_g.toNat default).C).Pc ((v3.Guests.getD x_g.toNat default).C).Root ((v3.Guests.getD x_g.toNat default).C).Vector ((v3.Guests.getD x_g.toNat default).C).Saved ((v3.Guests.getD x_g.toNat default).C).SavedUser ((v3.Guests.getD x_g.toNat default).C).Cause ((v3.Guests.getD x_g.toNat default).C).Bad ((v3.Guests.getD x_g.toNat default).C).Timer ((v3.Guests.getD x_g.toNat default).C).Waits ((v3.Guests.getD x_g.toNat default).C).User ((v3.Guests.getD x_g.toNat default).C).On ((v3.Guests.getD x_g.toNat default).C).Stopped) (List.set (v3.Guests.getD x_g.toNat default).Pages x_page.toNat (DSlot.mk (v4.getD 0 default) true false)) (v3.Guests.getD x_g.toNat default).In (v3.Guests.getD x_g.toNat default).Out))),true))))
noncomputable def iK (v4:List Int)(s6:(List Int)×Int):Option (LO ((List Int)×Int) (JO (List Int) (DHost×Bool))):=
 cond (decide (s6.2<(8:Int)))
  (grd ((0:Int)<=(0:Int)/\(0:Int)<((v4.length:Nat):Int)) (grd ((0:Int)<=(w64 ((w64 ((v4.getD 0 default)*(8:Int)))+s6.2))/\(w64 ((w64 ((v4.getD 0 default)*(8:Int)))+s6.2))<((s6.1.length:Nat):Int)) (some (.next ((s6.1.set (Int.toNat (w64 ((w64 ((v4.getD 0 default)*(8:Int)))+s6.2))) (0:Int)),w64 (s6.2+(1:Int)))))))
  (some (.ret (.go s6.1)))
noncomputable def fW (x_h:DHost)(x_g:Int)(x_page:Int):Option (DHost×Bool):=
 Option.bind (cY x_h x_g) λv1=>
 cond (!v1)
  (some ((DHost.mk ([]:List Int) ([]:List DGuest)),false))
  (Option.bind (bO x_page (0:Int) (7:Int)) λv2=>
  cond (!v2)
   (some ((DHost.mk ([]:List Int) ([]:List DGuest)),false))
   (Option.bind (cR x_h) λv3=>
   grd ((0:Int)<=x_g/\x_g<((x_h.Guests.length:Nat):Int)) (grd ((0:Int)<=x_page/\x_page<((List.length (x_h.Guests.getD x_g.toNat default).Pages:Nat):Int)) (cond (decide ((0:Int)<=(List.getD (x_h.Guests.getD x_g.toNat default).Pages x_page.toNat default).Frame))
    (some (v3,true))
    (Option.bind (jC x_h) λv4=>
    cond (decide (((v4.length:Nat):Int)=(0:Int)))
     (some ((DHost.mk ([]:List Int) ([]:List DGuest)),false))
     (Option.bind (Option.bind (iter (iK v4) (v3.Words,(0:Int))) LO.val) λj5=>
      JO.run j5 (xF x_g x_page v3 v4)))))))
noncomputable def g53:Sg tG:=⟨[.st 26,.i .i64,.i .i64],.two (.st 2026) .b,fW⟩
theorem s53:Sok 53 g53:=sgx [(102,.r aFk),(51,.r g51),(103,.r aKf),(114,.r bKh)] ⟨aJm,s51,aOb,bRp,trivial⟩ (.s .o (.s .o (.s .o (.s .o (.s .o (.s .o (.j ⟨[1,2,6,8,9],[],[(.c 8 0,.ro 3)]⟩ (.s .o (.k (.l ⟨[1,2,6,8,9],[],[(.c 8 0,.ro 3),(.s 10,.i .i64)]⟩ .o))) .o))))))) kr kr kr
noncomputable def iY (x_h:DHost)(x_g:Int)(x_page:Int):Option (DHost×Bool):=
 Option.bind (cL x_h x_g) λv1=>
 cond (!v1)
  (some ((DHost.mk ([]:List Int) ([]:List DGuest)),false))
  (Option.bind (fC x_page) λv2=>
  cond (!v2)
   (some ((DHost.mk ([]:List Int) ([]:List DGuest)),false))
   (grd ((0:Int)<=x_g/\x_g<((x_h.Guests.length:Nat):Int)) (grd ((0:Int)<=x_page/\x_page<((List.length (x_h.Guests.getD x_g.toNat default).Pages:Nat):Int)) (cond (decide ((List.getD (x_h.Guests.getD x_g.toNat default).Pages x_page.toNat default).Frame=(-1:Int)))
    (some ((DHost.mk ([]:List Int) ([]:List DGuest)),false))
    (Option.bind (fP x_h.Guests) λv3=>
    grd ((0:Int)<=(List.getD (x_h.Guests.getD x_g.toNat default).Pages x_page.toNat default).Frame/\(List.getD (x_h.Guests.getD x_g.toNat default).Pages x_page.toNat default).Frame<((v3.length:Nat):Int)) (cond (decide ((v3.getD (Int.toNat (List.getD (x_h.Guests.getD x_g.toNat default).Pages x_page.toNat default).Frame) default)=(1:Int)))
     (Option.bind (gZ x_h x_g x_page (List.getD (x_h.Guests.getD x_g.toNat default).Pages x_page.toNat default).Frame) λv4=>
     some (v4,true))
     (Option.bind (iG x_h x_g x_page) λv5=>
     some (v5.1,v5.2))))))))
noncomputable def cAi:Sg tG:=⟨[.st 26,.i .i64,.i .i64],.two (.st 2026) .b,iY⟩
theorem bYh:Sok 155 cAi:=sgx [(56,.r g56),(46,.r g46),(134,.r bHv),(192,.r bQk),(191,.r bQu)] ⟨s56,s46,bPc,cBk,bWv,trivial⟩ .o kr kr kr
theorem aPh{x_h:DHost}{x_g:Int}{x_page:Int}{R_:DHost×Bool}(hh:iY x_h x_g x_page=some R_):Fn Tryz.prog 155 [.agg (hG x_h),.int .i64 x_g,.int .i64 x_page] (.tup [.agg [.own 3 1 R_.1.Words.length (fl (eI .i64) R_.1.Words),.own 94 17 R_.1.Guests.length (fl fG R_.1.Guests)],.bool R_.2]):=kc (bYh x_h x_g x_page R_ hh)
noncomputable def mI (x_h:DHost)(x_g:Int)(x_page:Int)(v3:DHost)(s4:(List Int)×Int):Option (DHost×Bool):=grd ((0:Int)<=x_g/\x_g<((v3.Guests.length:Nat):Int)) (grd ((0:Int)<=x_page/\x_page<((List.length (v3.Guests.getD x_g.toNat default).Pages:Nat):Int)) (some ((DHost.mk s4.1 (v3.Guests.set x_g.toNat (DGuest.mk (v3.Guests.getD x_g.toNat default).Live (DCore.mk ((v3.Guests.getD x_g.toNat default).C).Regs ((v3.Guests.getD x_g.toNat default).C).Pc ((v3.Guests.getD x_g.toNat default).C).Root ((v3.Guests.getD x_g.toNat default).C).Vector ((v3.Guests.getD x_g.toNat default).C).Saved ((v3.Guests.getD x_g.toNat default).C).SavedUser ((v3.Guests.getD x_g.toNat default).C).Cause ((v3.Guests.getD x_g.toNat default).C).Bad ((v3.Guests.getD x_g.toNat default).C).Timer ((v3.Guests.getD x_g.toNat default).C).Waits ((v3.Guests.getD x_g.toNat default).C).User ((v3.Guests.getD x_g.toNat default).C).On ((v3.Guests.getD x_g.toNat default).C).Stopped) (List.set (v3.Guests.getD x_g.toNat default).Pages x_page.toNat (DSlot.mk s4.2 true (List.getD (x_h.Guests.getD x_g.toNat default).Pages x_page.toNat default).Dirty)) (v3.Guests.getD x_g.toNat default).In (v3.Guests.getD x_g.toNat default).Out))),true)))
noncomputable def fZ (x_h:DHost)(x_g:Int)(x_page:Int):Option (DHost×Bool):=
 Option.bind (cY x_h x_g) λv1=>
 cond (!v1)
  (some ((DHost.mk ([]:List Int) ([]:List DGuest)),false))
  (Option.bind (bO x_page (0:Int) (7:Int)) λv2=>
  cond (!v2)
   (some ((DHost.mk ([]:List Int) ([]:List DGuest)),false))
   (grd ((0:Int)<=x_g/\x_g<((x_h.Guests.length:Nat):Int)) (grd ((0:Int)<=x_page/\x_page<((List.length (x_h.Guests.getD x_g.toNat default).Pages:Nat):Int)) (cond (decide ((List.getD (x_h.Guests.getD x_g.toNat default).Pages x_page.toNat default).Frame<(0:Int)))
    (some ((DHost.mk ([]:List Int) ([]:List DGuest)),false))
    (Option.bind (cR x_h) λv3=>
    grd ((0:Int)<=x_g/\x_g<((x_h.Guests.length:Nat):Int)) (grd ((0:Int)<=x_page/\x_page<((List.length (x_h.Guests.getD x_g.toNat default).Pages:Nat):Int)) (Option.bind (cond (!(List.getD (x_h.Guests.getD x_g.toNat default).Pages x_page.toNat default).Write)
     (Option.bind (lQ x_h) λv5=>
     grd ((0:Int)<=(List.getD (x_h.Guests.getD x_g.toNat default).Pages x_page.toNat default).Frame/\(List.getD (x_h.Guests.getD x_g.toNat default).Pages x_page.toNat default).Frame<((v5.length:Nat):Int)) (cond (decide ((1:Int)<(v5.getD (Int.toNat (List.getD (x_h.Guests.getD x_g.toNat default).Pages x_page.toNat default).Frame) default)))
      (Option.bind (jC x_h) λv6=>
      cond (decide (((v6.length:Nat):Int)=(0:Int)))
       (some (.out ((DHost.mk ([]:List Int) ([]:List DGuest)),false)))
       (grd ((0:Int)<=(0:Int)/\(0:Int)<((v6.length:Nat):Int)) (grd ((0:Int)<=(0:Int)/\(0:Int)<((v6.length:Nat):Int)) (grd ((0:Int)<=(w64 ((v6.getD 0 default)*(8:Int)))/\(w64 ((v6.getD 0 default)*(8:Int)))<=(w64 ((w64 ((v6.getD 0 default)+(1:Int)))*(8:Int)))/\(w64 ((w64 ((v6.getD 0 default)+(1:Int)))*(8:Int)))<=((v3.Words.length:Nat):Int)) (grd ((0:Int)<=(w64 ((List.getD (x_h.Guests.getD x_g.toNat default).Pages x_page.toNat default).Frame*(8:Int)))/\(w64 ((List.getD (x_h.Guests.getD x_g.toNat default).Pages x_page.toNat default).Frame*(8:Int)))<=((x_h.Words.length:Nat):Int)/\((x_h.Words.length:Nat):Int)<=((x_h.Words.length:Nat):Int)) (grd ((0:Int)<=(0:Int)/\(0:Int)<((v6.length:Nat):Int)) (some (.go ((over v3.Words (Int.toNat (w64 ((v6.getD 0 default)*(8:Int)))) (Int.toNat (w64 ((w64 ((v6.getD 0 default)+(1:Int)))*(8:Int)))-Int.toNat (w64 ((v6.getD 0 default)*(8:Int)))) (List.take (Int.toNat ((x_h.Words.length:Nat):Int)-Int.toNat (w64 ((List.getD (x_h.Guests.getD x_g.toNat default).Pages x_page.toNat default).Frame*(8:Int)))) (List.drop (Int.toNat (w64 ((List.getD (x_h.Guests.getD x_g.toNat default).Pages x_page.toNat default).Frame*(8:Int)))) x_h.Words))),v6.getD 0 default)))))))))
      (some (.go (v3.Words,(List.getD (x_h.Guests.getD x_g.toNat default).Pages x_page.toNat default).Frame)))))
     (some (.go (v3.Words,(List.getD (x_h.Guests.getD x_g.toNat default).Pages x_page.toNat default).Frame)))) λj4=>
     JO.run j4 (mI x_h x_g x_page v3))))))))
noncomputable def g54:Sg tG:=⟨[.st 26,.i .i64,.i .i64],.two (.st 2026) .b,fZ⟩
theorem s54:Sok 54 g54:=sgx [(102,.r aFk),(51,.r g51),(103,.r aKf),(115,.r bSs),(114,.r bKh)] ⟨aJm,s51,aOb,cAy,bRp,trivial⟩ (.s .o (.s .o (.s .o (.s .o (.j ⟨[1,2,6,8,9],[],[(.c 8 0,.ro 3),(.c 9 0,.i .i64)]⟩ .o .o))))) kr kr kr
noncomputable def hT (x_e:DEntry)(x_user:Bool)(x_write:Bool):Option Bool:=
 cond x_e.There
  (cond x_e.Write
   (cond x_e.User
    (some true)
    (some (!x_user)))
   (cond (!x_write)
    (cond x_e.User
     (some true)
     (some (!x_user)))
    (some false)))
  (some false)
noncomputable def bSh:Sg tG:=⟨[.st 181,.b,.b],.one .b,hT⟩
theorem cAj:Sok 165 bSh:=sgx [] trivial .o kr kr kr
noncomputable def oX (x_mem:List Int)(x_root:Int)(x_addr:Int)(x_user:Bool)(x_write:Bool):Option Int:=
 Option.bind (pV x_mem) λv1=>
 cond (!v1)
  (some (-1:Int))
  (Option.bind (lP x_root) λv2=>
  cond (!v2)
   (some (-1:Int))
   (Option.bind (cG x_addr) λv3=>
   cond (!v3)
    (some (-1:Int))
    (cond (decide (x_root=(-1:Int)))
     (some x_addr)
     (grd ((0:Int)<=(w64 ((w64 (x_root*(8:Int)))+(w64 (Int.tdiv x_addr (8:Int)))))/\(w64 ((w64 (x_root*(8:Int)))+(w64 (Int.tdiv x_addr (8:Int)))))<((x_mem.length:Nat):Int)) (Option.bind (kV (x_mem.getD (Int.toNat (w64 ((w64 (x_root*(8:Int)))+(w64 (Int.tdiv x_addr (8:Int)))))) default)) λv4=>
      Option.bind (hT v4 x_user x_write) λv5=>
      cond (!v5)
       (some (-1:Int))
       (some (w64 ((w64 (v4.Page*(8:Int)))+(Int.tmod x_addr (8:Int))))))))))
noncomputable def bIa:Sg tG:=⟨[.row 3,.i .i64,.i .i64,.b,.b],.one (.i .i64),oX⟩
theorem bRw:Sok 125 bIa:=sgx [(120,.r bPv),(162,.r bOw),(161,.r bPn),(164,.r bRe),(165,.r bSh)] ⟨cBe,bYc,bXu,bWr,cAj,trivial⟩ .o kr kr kr
noncomputable def vC (x_i:DIns):Option Bool:=
 cond (decide ((0:Int)<=x_i.Op))
  (cond (decide ((0:Int)<=x_i.A))
   (cond (decide ((0:Int)<=x_i.N))
    (cond (decide (x_i.Op<=(15:Int)))
     (cond (decide (x_i.A<(4:Int)))
      (some (decide (x_i.N<(64:Int))))
      (some false))
     (some false))
    (cond (decide (x_i.Op<=(15:Int)))
     (cond (decide (x_i.A<(4:Int)))
      (some false)
      (some false))
     (some false)))
   (cond (decide ((0:Int)<=x_i.N))
    (cond (decide (x_i.Op<=(15:Int)))
     (some false)
     (some false))
    (cond (decide (x_i.Op<=(15:Int)))
     (some false)
     (some false))))
  (cond (decide ((0:Int)<=x_i.A))
   (cond (decide ((0:Int)<=x_i.N))
    (some false)
    (some false))
   (cond (decide ((0:Int)<=x_i.N))
    (some false)
    (some false)))
noncomputable def cAb:Sg tG:=⟨[.st 141],.one .b,vC⟩
theorem cDn:Sok 218 cAb:=sgx [] trivial .o kr kr kr
noncomputable def aHu  (s2:Bool):Option Bool:=
 cond s2
  (some true)
  (some false)
noncomputable def lE (x_i:DIns):Option Bool:=
 Option.bind (vC x_i) λv1=>
 cond (!v1)
  (some false)
  (Option.bind (cond (decide (x_i.Op=(0:Int)))
   (some (.go (decide (x_i.Op=(0:Int)))))
   (cond (decide (x_i.Op=(8:Int)))
    (some (.go (decide (x_i.Op=(8:Int)))))
    (cond (decide (x_i.Op=(9:Int)))
     (some (.go (decide (x_i.Op=(9:Int)))))
     (cond (decide (x_i.Op=(10:Int)))
      (some (.go (decide (x_i.Op=(10:Int)))))
      (cond (decide (x_i.Op=(11:Int)))
       (some (.go (decide (x_i.Op=(11:Int)))))
       (cond (decide (x_i.Op=(12:Int)))
        (some (.go (decide (x_i.Op=(12:Int)))))
        (cond (decide (x_i.Op=(13:Int)))
         (some (.go (decide (x_i.Op=(13:Int)))))
         (some (.go (decide (x_i.Op=(14:Int)))))))))))) λj2=>
   JO.run j2 aHu)
noncomputable def bOs:Sg tG:=⟨[.st 141],.one .b,lE⟩
theorem bYw:Sok 198 bOs:=sgx [(218,.r cAb)] ⟨cDn,trivial⟩ (.s .o (.s .o (.s (.s .o (.k (.j ⟨[],[],[(.s 8,.b)]⟩ .o .o))) .o))) kr kr kr
noncomputable def kM (x_w:Int):Option DIns:=
 Option.bind (fE x_w) λv1=>
 cond (!v1)
  (some (DIns.mk (0:Int) (0:Int) (0:Int)))
  (some (DIns.mk (w64 (Int.tdiv x_w (256:Int))) (Int.tmod (w64 (Int.tdiv x_w (64:Int))) (4:Int)) (Int.tmod x_w (64:Int))))
noncomputable def bJd:Sg tG:=⟨[.i .i64],.one (.st 141),kM⟩
theorem bRg:Sok 128 bJd:=sgx [(55,.r g55)] ⟨s55,trivial⟩ .o kr kr kr
noncomputable def cN (x_i:DIns):Option Bool:=
 Option.bind (qQ x_i) λv1=>
 cond v1
  (cond (decide (x_i.Op=(0:Int)))
   (some true)
   (Option.bind (bO x_i.Op (8:Int) (14:Int)) λv2=>
   some v2))
  (some false)
noncomputable def bIe:Sg tG:=⟨[.st 141],.one .b,cN⟩
theorem bSf:Sok 110 bIe:=sgx [(159,.r bPd),(51,.r g51)] ⟨cBa,s51,trivial⟩ .o kr kr kr
noncomputable def nI (x_w:Int):Option DIns:=
 Option.bind (fB x_w) λv1=>
 cond (!v1)
  (some (DIns.mk (0:Int) (0:Int) (0:Int)))
  (some (DIns.mk (w64 (Int.tdiv x_w (256:Int))) (Int.tmod (w64 (Int.tdiv x_w (64:Int))) (4:Int)) (Int.tmod x_w (64:Int))))
noncomputable def bTi:Sg tG:=⟨[.i .i64],.one (.st 141),nI⟩
theorem cAa:Sok 109 bTi:=sgx [(158,.r aUz)] ⟨bCj,trivial⟩ .o kr kr kr
noncomputable def aBy (x_c:DCore)(s1:Bool):Option DCore:=some (DCore.mk x_c.Regs x_c.Pc x_c.Root x_c.Vector x_c.Saved x_c.SavedUser x_c.Cause x_c.Bad (w64 (x_c.Timer-(1:Int))) s1 x_c.User x_c.On x_c.Stopped)
noncomputable def gK (x_c:DCore):Option DCore:=
 cond (decide (x_c.Timer=(0:Int)))
  (some x_c)
  (Option.bind (cond (decide ((w64 (x_c.Timer-(1:Int)))=(0:Int)))
   (some (.go true))
   (some (.go x_c.Waits))) λj1=>
   JO.run j1 (aBy x_c))
noncomputable def bIh:Sg tG:=⟨[.st 39],.one (.sb 39),gK⟩
theorem bPj:Sok 122 bIh:=sgx [] trivial (.s .o (.s .o (.s .o (.j ⟨[1,2],[],[(.c 1 9,.b)]⟩ .o .o)))) kr kr kr
noncomputable def eL (x_c:DCore):Option Bool:=
 cond x_c.Waits
  (some x_c.On)
  (some false)
noncomputable def bJg:Sg tG:=⟨[.st 39],.one .b,eL⟩
theorem bOx:Sok 123 bJg:=sgx [] trivial .o kr kr kr
noncomputable def jO (x_c:DCore)(x_from:Int)(x_cause:Int)(x_bad:Int):Option DCore:=some (DCore.mk x_c.Regs x_c.Vector x_c.Root x_c.Vector x_from x_c.User x_cause x_bad x_c.Timer x_c.Waits false false x_c.Stopped)
noncomputable def bIf:Sw tG:=⟨[.os 39,.v (.i .i64),.v (.i .i64),.v (.i .i64)],.one (.st 39),jO⟩
theorem bPz:Sjk 108 bIf:=sgy [] trivial .o kr kr kr
noncomputable def xG (x_c:DCore)(s1:Bool×Int)(s2:Unit):Option (DCore×Bool):=some ((DCore.mk x_c.Regs x_c.Pc x_c.Root x_c.Vector x_c.Saved x_c.SavedUser x_c.Cause x_c.Bad s1.2 s1.1 x_c.User x_c.On x_c.Stopped),false)
noncomputable def xV (x_c:DCore)(s1:Bool×Int):Option (DCore×Bool):=
 Option.bind (cond s1.1
  (cond x_c.On
   (Option.bind (jO (DCore.mk x_c.Regs x_c.Pc x_c.Root x_c.Vector x_c.Saved x_c.SavedUser x_c.Cause x_c.Bad s1.2 false x_c.User x_c.On x_c.Stopped) x_c.Pc (4:Int) (0:Int)) λv3=>
   some (.out (v3,true)))
   (some (.go ())))
  (some (.go ()))) λj2=>
  JO.run j2 (xG x_c s1)
noncomputable def jB (x_c:DCore):Option (DCore×Bool):=
 Option.bind (cond (decide ((0:Int)<x_c.Timer))
  (cond (decide ((w64 (x_c.Timer-(1:Int)))=(0:Int)))
   (some (.go (true,w64 (x_c.Timer-(1:Int)))))
   (some (.go (x_c.Waits,w64 (x_c.Timer-(1:Int))))))
  (some (.go (x_c.Waits,x_c.Timer)))) λj1=>
  JO.run j1 (xV x_c)
noncomputable def bPi:Sw tG:=⟨[.os 39],.two (.st 39) .b,jB⟩
theorem cBc:Sjk 105 bPi:=sgy [(108,.w bIf)] ⟨bPz,trivial⟩ (.s .o (.j ⟨[1,2],[],[(.c 1 9,.b),(.c 1 8,.i .i64)]⟩ .o (.j ⟨[1,2],[],[]⟩ .o .o))) kr kr kr
noncomputable def cM (x_c:DCore)(x_i:DIns):Option Int:=grd ((0:Int)<=(Int.tmod x_i.N (4:Int))/\(Int.tmod x_i.N (4:Int))<((x_c.Regs.length:Nat):Int)) (some (Int.tmod (x_c.Regs.getD (Int.toNat (Int.tmod x_i.N (4:Int))) default) (64:Int)))
noncomputable def aVa:Sg tG:=⟨[.st 39,.st 141],.one (.i .i64),cM⟩
theorem bAu:Sok 194 aVa:=sgx [] trivial .o kr kr kr
noncomputable def nQ (x_s:DShade)(x_addr:Int)(s2:Unit):Option (Int×Int):=some ((w64 ((w64 (x_s.Frame*(8:Int)))+(Int.tmod x_addr (8:Int)))),(0:Int))
noncomputable def mS (x_s:DShade)(x_addr:Int)(x_user:Bool)(x_write:Bool):Option (Int×Int):=
 Option.bind (hT (DEntry.mk x_s.There x_s.Write x_s.User x_s.Page) x_user x_write) λv1=>
 cond (!v1)
  (some ((-1:Int),(1:Int)))
  (cond (decide (x_s.Frame=(-1:Int)))
   (some ((-1:Int),(2:Int)))
   (Option.bind (cond x_write
    (cond (!x_s.Ready)
     (some (.out ((-1:Int),(3:Int))))
     (some (.go ())))
    (some (.go ()))) λj2=>
    JO.run j2 (nQ x_s x_addr)))
noncomputable def bYi:Sg tG:=⟨[.st 147,.i .i64,.b,.b],.two (.i .i64) (.i .i64),mS⟩
theorem cEq:Sok 212 bYi:=sgx [(165,.r bSh)] ⟨cAj,trivial⟩ (.s .o (.s .o (.s .o (.s .o (.j ⟨[1,4],[],[]⟩ .o .o))))) kr kr kr
noncomputable def zL (x_table:List DShade)(x_addr:Int)(s1:Unit):Option (Int×Int):=some ((w64 ((w64 ((x_table.getD (Int.toNat (w64 (Int.tdiv x_addr (8:Int)))) default).Frame*(8:Int)))+(Int.tmod x_addr (8:Int)))),(0:Int))
noncomputable def cS (x_table:List DShade)(x_addr:Int)(x_user:Bool)(x_write:Bool):Option (Int×Int):=
 grd ((0:Int)<=(w64 (Int.tdiv x_addr (8:Int)))/\(w64 (Int.tdiv x_addr (8:Int)))<((x_table.length:Nat):Int)) (Option.bind (cond (!(x_table.getD (Int.toNat (w64 (Int.tdiv x_addr (8:Int)))) default).There)
  (some (.out ((-1:Int),(1:Int))))
  (cond x_write
   (cond (!(x_table.getD (Int.toNat (w64 (Int.tdiv x_addr (8:Int)))) default).Write)
    (some (.out ((-1:Int),(1:Int))))
    (cond x_user
     (cond (!(x_table.getD (Int.toNat (w64 (Int.tdiv x_addr (8:Int)))) default).User)
      (some (.out ((-1:Int),(1:Int))))
      (cond (decide ((x_table.getD (Int.toNat (w64 (Int.tdiv x_addr (8:Int)))) default).Frame<(0:Int)))
       (some (.out ((-1:Int),(2:Int))))
       (cond x_write
        (cond (!(x_table.getD (Int.toNat (w64 (Int.tdiv x_addr (8:Int)))) default).Ready)
         (some (.out ((-1:Int),(3:Int))))
         (some (.go ())))
        (some (.go ())))))
     (cond (decide ((x_table.getD (Int.toNat (w64 (Int.tdiv x_addr (8:Int)))) default).Frame<(0:Int)))
      (some (.out ((-1:Int),(2:Int))))
      (cond x_write
       (cond (!(x_table.getD (Int.toNat (w64 (Int.tdiv x_addr (8:Int)))) default).Ready)
        (some (.out ((-1:Int),(3:Int))))
        (some (.go ())))
       (some (.go ()))))))
   (cond x_user
    (cond (!(x_table.getD (Int.toNat (w64 (Int.tdiv x_addr (8:Int)))) default).User)
     (some (.out ((-1:Int),(1:Int))))
     (cond (decide ((x_table.getD (Int.toNat (w64 (Int.tdiv x_addr (8:Int)))) default).Frame<(0:Int)))
      (some (.out ((-1:Int),(2:Int))))
      (cond x_write
       (cond (!(x_table.getD (Int.toNat (w64 (Int.tdiv x_addr (8:Int)))) default).Ready)
        (some (.out ((-1:Int),(3:Int))))
        (some (.go ())))
       (some (.go ())))))
    (cond (decide ((x_table.getD (Int.toNat (w64 (Int.tdiv x_addr (8:Int)))) default).Frame<(0:Int)))
     (some (.out ((-1:Int),(2:Int))))
     (cond x_write
      (cond (!(x_table.getD (Int.toNat (w64 (Int.tdiv x_addr (8:Int)))) default).Ready)
       (some (.out ((-1:Int),(3:Int))))
       (some (.go ())))
      (some (.go ()))))))) λj1=>
  JO.run j1 (zL x_table x_addr))
noncomputable def bPe:Sg tG:=⟨[.row 147,.i .i64,.b,.b],.two (.i .i64) (.i .i64),cS⟩
theorem bYp:Sok 107 bPe:=sgx [] trivial (.s .o (.s .o (.j ⟨[1,10],[],[]⟩ .o .o))) kr kr kr
noncomputable def gG (x_h:DHost)(x_g:Int)(x_addr:Int):Option DShade:=
 Option.bind (rO x_h x_g (w64 (Int.tdiv x_addr (8:Int)))) λv1=>
 some v1
noncomputable def bHi:Sg tG:=⟨[.st 26,.i .i64,.i .i64],.one (.st 147),gG⟩
theorem bOu:Sok 213 bHi:=sgx [(225,.r bZp)] ⟨cDh,trivial⟩ .o kr kr kr
noncomputable def dJ (x_h:DHost)(x_g:Int)(x_addr:Int)(x_write:Bool):Option (Int×Int):=
 Option.bind (gG x_h x_g x_addr) λv1=>
 grd ((0:Int)<=x_g/\x_g<((x_h.Guests.length:Nat):Int)) (Option.bind (mS v1 x_addr ((x_h.Guests.getD x_g.toNat default).C).User x_write) λv2=>
  some (v2.1,v2.2))
noncomputable def aUv:Sg tG:=⟨[.st 26,.i .i64,.i .i64,.b],.two (.i .i64) (.i .i64),dJ⟩
theorem bBc:Sok 188 aUv:=sgx [(213,.r bHi),(212,.r bYi)] ⟨bOu,cEq,trivial⟩ .o kr kr kr
noncomputable def iL (x_h:DHost)(x_g:Int)(x_addr:Int)(x_why:Int):Option DExit:=
 Option.bind (gG x_h x_g x_addr) λv1=>
 cond (decide (x_why=(2:Int)))
  (some (DExit.mk (2:Int) v1.Page (DIns.mk (0:Int) (0:Int) (0:Int))))
  (cond (decide (x_why=(3:Int)))
   (some (DExit.mk (3:Int) v1.Page (DIns.mk (0:Int) (0:Int) (0:Int))))
   (some (DExit.mk (0:Int) (0:Int) (DIns.mk (0:Int) (0:Int) (0:Int)))))
noncomputable def bTl:Sg tG:=⟨[.st 26,.i .i64,.i .i64,.i .i64],.one (.st 178),iL⟩
theorem cBt:Sok 210 bTl:=sgx [(213,.r bHi)] ⟨bOu,trivial⟩ .o kr kr kr
noncomputable def sB (x_h:DHost)(x_g:Int)(x_i:DIns)(s2:Unit):Option DExit:=
 Option.bind (cM (DCore.mk ((x_h.Guests.getD x_g.toNat default).C).Regs ((x_h.Guests.getD x_g.toNat default).C).Pc ((x_h.Guests.getD x_g.toNat default).C).Root ((x_h.Guests.getD x_g.toNat default).C).Vector ((x_h.Guests.getD x_g.toNat default).C).Saved ((x_h.Guests.getD x_g.toNat default).C).SavedUser ((x_h.Guests.getD x_g.toNat default).C).Cause ((x_h.Guests.getD x_g.toNat default).C).Bad ((x_h.Guests.getD x_g.toNat default).C).Timer ((x_h.Guests.getD x_g.toNat default).C).Waits ((x_h.Guests.getD x_g.toNat default).C).User ((x_h.Guests.getD x_g.toNat default).C).On ((x_h.Guests.getD x_g.toNat default).C).Stopped) x_i) λv3=>
 Option.bind (dJ x_h x_g v3 (decide (x_i.Op=(4:Int)))) λv4=>
 Option.bind (iL x_h x_g v3 v4.2) λv5=>
 some v5
noncomputable def sJ (x_h:DHost)(x_g:Int)(x_i:DIns)(s1:Unit):Option DExit:=
 Option.bind (cond (!decide (x_i.Op=(3:Int)))
  (cond (!decide (x_i.Op=(4:Int)))
   (some (.out (DExit.mk (0:Int) (0:Int) (DIns.mk (0:Int) (0:Int) (0:Int)))))
   (some (.go ())))
  (some (.go ()))) λj2=>
  JO.run j2 (sB x_h x_g x_i)
noncomputable def qT (x_h:DHost)(x_g:Int)(x_i:DIns):Option DExit:=
 grd ((0:Int)<=x_g/\x_g<((x_h.Guests.length:Nat):Int)) (Option.bind (Option.bind (lE x_i) λv6=>
  cond v6
   (cond (!((x_h.Guests.getD x_g.toNat default).C).User)
    (some (.out (DExit.mk (1:Int) (0:Int) x_i)))
    (some (.go ())))
   (some (.go ()))) λj1=>
  JO.run j1 (sJ x_h x_g x_i))
noncomputable def cAw:Sg tG:=⟨[.st 26,.i .i64,.st 141],.one (.st 178),qT⟩
theorem cFf:Sok 211 cAw:=sgx [(198,.r bOs),(194,.r aVa),(188,.r aUv),(210,.r bTl)] ⟨bYw,bAu,bBc,cBt,trivial⟩ (.s .o (.s .o (.j ⟨[1,3,5,6,7],[],[]⟩ .o (.j ⟨[1,3,5,6,7],[],[]⟩ .o .o)))) kr kr kr
noncomputable def oK (x_h:DHost)(x_g:Int):Option DExit:=
 grd ((0:Int)<=x_g/\x_g<((x_h.Guests.length:Nat):Int)) (cond ((x_h.Guests.getD x_g.toNat default).C).Stopped
  (some (DExit.mk (0:Int) (0:Int) (DIns.mk (0:Int) (0:Int) (0:Int))))
  (Option.bind (gK (DCore.mk ((x_h.Guests.getD x_g.toNat default).C).Regs ((x_h.Guests.getD x_g.toNat default).C).Pc ((x_h.Guests.getD x_g.toNat default).C).Root ((x_h.Guests.getD x_g.toNat default).C).Vector ((x_h.Guests.getD x_g.toNat default).C).Saved ((x_h.Guests.getD x_g.toNat default).C).SavedUser ((x_h.Guests.getD x_g.toNat default).C).Cause ((x_h.Guests.getD x_g.toNat default).C).Bad ((x_h.Guests.getD x_g.toNat default).C).Timer ((x_h.Guests.getD x_g.toNat default).C).Waits ((x_h.Guests.getD x_g.toNat default).C).User ((x_h.Guests.getD x_g.toNat default).C).On ((x_h.Guests.getD x_g.toNat default).C).Stopped)) λv1=>
  Option.bind (eL v1) λv2=>
  cond v2
   (some (DExit.mk (0:Int) (0:Int) (DIns.mk (0:Int) (0:Int) (0:Int))))
   (Option.bind (dJ x_h x_g ((x_h.Guests.getD x_g.toNat default).C).Pc false) λv3=>
   cond (!decide (v3.2=(0:Int)))
    (Option.bind (iL x_h x_g ((x_h.Guests.getD x_g.toNat default).C).Pc v3.2) λv4=>
    some v4)
    (grd ((0:Int)<=v3.1/\v3.1<((x_h.Words.length:Nat):Int)) (Option.bind (kM (x_h.Words.getD v3.1.toNat default)) λv5=>
     Option.bind (qT x_h x_g v5) λv6=>
     some v6)))))
noncomputable def bYv:Sg tG:=⟨[.st 26,.i .i64],.one (.st 178),oK⟩
theorem cCx:Sok 185 bYv:=sgx [(122,.r bIh),(123,.r bJg),(188,.r aUv),(210,.r bTl),(128,.r bJd),(211,.r cAw)] ⟨bPj,bOx,bBc,cBt,bRg,cFf,trivial⟩ .o kr kr kr
noncomputable def aBc (x_table:List DShade)(x_addr:Int)(s1:Int):Option DExit:=some (DExit.mk s1 (x_table.getD (Int.toNat (w64 (Int.tdiv x_addr (8:Int)))) default).Page (DIns.mk (0:Int) (0:Int) (0:Int)))
noncomputable def fD (x_table:List DShade)(x_addr:Int)(x_why:Int):Option DExit:=
 grd ((0:Int)<=(w64 (Int.tdiv x_addr (8:Int)))/\(w64 (Int.tdiv x_addr (8:Int)))<((x_table.length:Nat):Int)) (Option.bind (cond (decide (x_why=(2:Int)))
  (some (.go (2:Int)))
  (cond (decide (x_why=(3:Int)))
   (some (.go (3:Int)))
   (some (.out (DExit.mk (0:Int) (0:Int) (DIns.mk (0:Int) (0:Int) (0:Int))))))) λj1=>
  JO.run j1 (aBc x_table x_addr))
noncomputable def bWx:Sg tG:=⟨[.row 147,.i .i64,.i .i64],.one (.st 178),fD⟩
theorem cEn:Sok 193 bWx:=sgx [] trivial (.s .o (.s .o (.j ⟨[6,7],[],[(.c 7 0,.i .i64)]⟩ .o .o))) kr kr kr
noncomputable def aHv  (s8:Unit):Option DExit:=some (DExit.mk (0:Int) (0:Int) (DIns.mk (0:Int) (0:Int) (0:Int)))
noncomputable def kX (x_h:DHost)(x_g:Int):Option DExit:=
 Option.bind (cY x_h x_g) λv1=>
 cond (!v1)
  (some (DExit.mk (0:Int) (0:Int) (DIns.mk (0:Int) (0:Int) (0:Int))))
  (grd ((0:Int)<=x_g/\x_g<((x_h.Guests.length:Nat):Int)) (cond ((x_h.Guests.getD x_g.toNat default).C).Stopped
   (some (DExit.mk (0:Int) (0:Int) (DIns.mk (0:Int) (0:Int) (0:Int))))
   (grd ((0:Int)<=x_g/\x_g<((x_h.Guests.length:Nat):Int)) (Option.bind (jM (DCore.mk ((x_h.Guests.getD x_g.toNat default).C).Regs ((x_h.Guests.getD x_g.toNat default).C).Pc ((x_h.Guests.getD x_g.toNat default).C).Root ((x_h.Guests.getD x_g.toNat default).C).Vector ((x_h.Guests.getD x_g.toNat default).C).Saved ((x_h.Guests.getD x_g.toNat default).C).SavedUser ((x_h.Guests.getD x_g.toNat default).C).Cause ((x_h.Guests.getD x_g.toNat default).C).Bad ((x_h.Guests.getD x_g.toNat default).C).Timer ((x_h.Guests.getD x_g.toNat default).C).Waits ((x_h.Guests.getD x_g.toNat default).C).User ((x_h.Guests.getD x_g.toNat default).C).On ((x_h.Guests.getD x_g.toNat default).C).Stopped)) λv2=>
    Option.bind (jB v2) λv3=>
    cond v3.2
     (some (DExit.mk (0:Int) (0:Int) (DIns.mk (0:Int) (0:Int) (0:Int))))
     (Option.bind (jA x_h x_g) λv4=>
     Option.bind (cS v4 v3.1.Pc v3.1.User false) λv5=>
     cond (!decide (v5.2=(0:Int)))
      (Option.bind (fD v4 v3.1.Pc v5.2) λv6=>
      some v6)
      (grd ((0:Int)<=v5.1/\v5.1<((x_h.Words.length:Nat):Int)) (Option.bind (nI (x_h.Words.getD v5.1.toNat default)) λv7=>
       Option.bind (Option.bind (cN v7) λv9=>
        cond v9
         (cond (!v3.1.User)
          (some (.out (DExit.mk (1:Int) (0:Int) v7)))
          (cond (decide (v7.Op=(3:Int)))
           (grd ((0:Int)<=(Int.tmod v7.N (4:Int))/\(Int.tmod v7.N (4:Int))<((v3.1.Regs.length:Nat):Int)) (Option.bind (cS v4 (Int.tmod (v3.1.Regs.getD (Int.toNat (Int.tmod v7.N (4:Int))) default) (64:Int)) v3.1.User (decide (v7.Op=(4:Int)))) λv10=>
            Option.bind (fD v4 (Int.tmod (v3.1.Regs.getD (Int.toNat (Int.tmod v7.N (4:Int))) default) (64:Int)) v10.2) λv11=>
            some (.out v11)))
           (cond (decide (v7.Op=(4:Int)))
            (grd ((0:Int)<=(Int.tmod v7.N (4:Int))/\(Int.tmod v7.N (4:Int))<((v3.1.Regs.length:Nat):Int)) (Option.bind (cS v4 (Int.tmod (v3.1.Regs.getD (Int.toNat (Int.tmod v7.N (4:Int))) default) (64:Int)) v3.1.User (decide (v7.Op=(4:Int)))) λv12=>
             Option.bind (fD v4 (Int.tmod (v3.1.Regs.getD (Int.toNat (Int.tmod v7.N (4:Int))) default) (64:Int)) v12.2) λv13=>
             some (.out v13)))
            (some (.go ())))))
         (cond (decide (v7.Op=(3:Int)))
          (grd ((0:Int)<=(Int.tmod v7.N (4:Int))/\(Int.tmod v7.N (4:Int))<((v3.1.Regs.length:Nat):Int)) (Option.bind (cS v4 (Int.tmod (v3.1.Regs.getD (Int.toNat (Int.tmod v7.N (4:Int))) default) (64:Int)) v3.1.User (decide (v7.Op=(4:Int)))) λv14=>
           Option.bind (fD v4 (Int.tmod (v3.1.Regs.getD (Int.toNat (Int.tmod v7.N (4:Int))) default) (64:Int)) v14.2) λv15=>
           some (.out v15)))
          (cond (decide (v7.Op=(4:Int)))
           (grd ((0:Int)<=(Int.tmod v7.N (4:Int))/\(Int.tmod v7.N (4:Int))<((v3.1.Regs.length:Nat):Int)) (Option.bind (cS v4 (Int.tmod (v3.1.Regs.getD (Int.toNat (Int.tmod v7.N (4:Int))) default) (64:Int)) v3.1.User (decide (v7.Op=(4:Int)))) λv16=>
            Option.bind (fD v4 (Int.tmod (v3.1.Regs.getD (Int.toNat (Int.tmod v7.N (4:Int))) default) (64:Int)) v16.2) λv17=>
            some (.out v17)))
           (some (.go ()))))) λj8=>
        JO.run j8 aHv)))))))
noncomputable def bZf:Sg tG:=⟨[.st 26,.i .i64],.one (.st 178),kX⟩
theorem cDe:Sok 156 bZf:=sgx [(102,.r aFk),(132,.r bJl),(105,.w bPi),(106,.r bTe),(107,.r bPe),(193,.r bWx),(109,.r bTi),(110,.r bIe)] ⟨aJm,bRx,cBc,cAo,bYp,cEn,cAa,bSf,trivial⟩ (.s .o (.s .o (.s .o (.s .o (.s .o (.s .o (.s .o (.s .o (.j ⟨[4],[],[]⟩ .o .o))))))))) kr kr kr
noncomputable def kU (x_pc:Int):Option Int:=some (Int.tmod (w64 (x_pc+(1:Int))) (64:Int))
noncomputable def bPm:Sg tG:=⟨[.i .i64],.one (.i .i64),kU⟩
theorem cBr:Sok 217 bPm:=sgx [] trivial .o kr kr kr
noncomputable def eF (x_b:DBare):Option DBare:=
 Option.bind (kU x_b.C.Pc) λv1=>
 some (DBare.mk (DCore.mk x_b.C.Regs v1 x_b.C.Root x_b.C.Vector x_b.C.Saved x_b.C.SavedUser x_b.C.Cause x_b.C.Bad x_b.C.Timer x_b.C.Waits x_b.C.User x_b.C.On x_b.C.Stopped) x_b.Mem x_b.In x_b.Out)
noncomputable def aUi:Sg tG:=⟨[.st 41],.one (.sb 41),eF⟩
theorem bAc:Sok 197 aUi:=sgx [(217,.r bPm)] ⟨cBr,trivial⟩ .o kr kr kr
noncomputable def aCu (x_c:DCore):Option DCore:=some (DCore.mk x_c.Regs x_c.Saved x_c.Root x_c.Vector x_c.Saved x_c.SavedUser x_c.Cause x_c.Bad x_c.Timer x_c.Waits x_c.SavedUser true x_c.Stopped)
noncomputable def bXd:Sg tG:=⟨[.st 39],.one (.sb 39),aCu⟩
theorem cFi:Sok 221 bXd:=sgx [] trivial .o kr kr kr
noncomputable def pR (x_word:Int):Option Int:=
 Option.bind (fC (Int.tmod x_word (16:Int))) λv1=>
 cond (!v1)
  (some (-1:Int))
  (some (Int.tmod x_word (16:Int)))
noncomputable def bWn:Sg tG:=⟨[.i .i64],.one (.i .i64),pR⟩
theorem cDr:Sok 222 bWn:=sgx [(46,.r g46)] ⟨s46,trivial⟩ .o kr kr kr
noncomputable def rR (x_out:List Int)(x_word:Int):Option (List Int):=
 cond (decide ((30:Int)<=((x_out.length:Nat):Int)))
  (some x_out)
  (Option.bind (cH x_out) λv1=>
  grd ((v1.length+List.length ([x_word]:List Int))*8<=2^47/\v1.length+List.length ([x_word]:List Int)<=2^47) (some (v1++([x_word]:List Int))))
noncomputable def cAh:Sg tG:=⟨[.row 3,.i .i64],.one (.rb 3),rR⟩
theorem cEy:Sok 223 cAh:=sgx [(117,.r aTt)] ⟨aTu,trivial⟩ .o kr kr kr
noncomputable def kT (x_list:List Int)(x_at:Int)(x_w:Int):Option (List Int):=
 Option.bind (cH x_list) λv1=>
 grd ((0:Int)<=x_at/\x_at<((v1.length:Nat):Int)) (some (v1.set x_at.toNat x_w))
noncomputable def bKe:Sg tG:=⟨[.row 3,.i .i64,.i .i64],.one (.row 3),kT⟩
theorem bRc:Sok 196 bKe:=sgx [(117,.r aTt)] ⟨aTu,trivial⟩ .o kr kr kr
noncomputable def rU (x_b:DBare)(x_kind:Int):Option Int:=
 cond (decide (x_kind=(1:Int)))
  (some x_b.C.Cause)
  (cond (decide (x_kind=(2:Int)))
   (some x_b.C.Bad)
   (cond (decide (x_kind=(3:Int)))
    (some x_b.C.Saved)
    (cond (decide (((x_b.In.length:Nat):Int)=(0:Int)))
     (some (0:Int))
     (grd ((0:Int)<=(0:Int)/\(0:Int)<((x_b.In.length:Nat):Int)) (some (x_b.In.getD (Int.toNat (0:Int)) default))))))
noncomputable def bYs:Sg tG:=⟨[.st 41,.i .i64],.one (.i .i64),rU⟩
theorem cDf:Sok 226 bYs:=sgx [] trivial .o kr kr kr
noncomputable def aPx (x_b:DBare)(v2:List Int)(s3:List Int):Option DBare:=some (DBare.mk (DCore.mk v2 x_b.C.Pc x_b.C.Root x_b.C.Vector x_b.C.Saved x_b.C.SavedUser x_b.C.Cause x_b.C.Bad x_b.C.Timer x_b.C.Waits x_b.C.User x_b.C.On x_b.C.Stopped) x_b.Mem s3 x_b.Out)
noncomputable def tF (x_b:DBare)(x_i:DIns):Option DBare:=
 Option.bind (rU x_b (Int.tmod x_i.N (4:Int))) λv1=>
 Option.bind (kT x_b.C.Regs x_i.A v1) λv2=>
 Option.bind (cond (decide ((Int.tmod x_i.N (4:Int))=(0:Int)))
  (cond (decide ((0:Int)<((x_b.In.length:Nat):Int)))
   (grd ((0:Int)<=(1:Int)/\(1:Int)<=((x_b.In.length:Nat):Int)/\((x_b.In.length:Nat):Int)<=((x_b.In.length:Nat):Int)) (some (.go (List.take (Int.toNat ((x_b.In.length:Nat):Int)-Int.toNat (1:Int)) (List.drop (Int.toNat (1:Int)) x_b.In)))))
   (some (.go x_b.In)))
  (some (.go x_b.In))) λj3=>
  JO.run j3 (aPx x_b v2)
noncomputable def cAe:Sg tG:=⟨[.st 41,.st 141],.one (.sb 41),tF⟩
theorem cEo:Sok 224 cAe:=sgx [(226,.r bYs),(196,.r bKe)] ⟨cDf,bRc,trivial⟩ (.s .o (.s .o (.s .o (.j ⟨[2,4],[],[(.c 2 14,.rb 3)]⟩ .o .o)))) kr kr kr
noncomputable def gU  (s1:Int×Int×Int×Bool×(List Int)×(List Int)×Int×Int×Bool×Int×Int×Bool×Bool×Bool×(List Int)×(List Int)):Option DBare:=
 Option.bind (eF (DBare.mk (DCore.mk s1.2.2.2.2.2.1 s1.2.2.2.2.2.2.1 s1.1 s1.2.1 s1.2.2.2.2.2.2.2.1 s1.2.2.2.2.2.2.2.2.1 s1.2.2.2.2.2.2.2.2.2.1 s1.2.2.2.2.2.2.2.2.2.2.1 s1.2.2.1 s1.2.2.2.2.2.2.2.2.2.2.2.1 s1.2.2.2.2.2.2.2.2.2.2.2.2.1 s1.2.2.2.1 s1.2.2.2.2.2.2.2.2.2.2.2.2.2.1) s1.2.2.2.2.2.2.2.2.2.2.2.2.2.2.1 s1.2.2.2.2.2.2.2.2.2.2.2.2.2.2.2 s1.2.2.2.2.1)) λv2=>
 some v2
noncomputable def oD (x_b:DBare)(x_i:DIns):Option DBare:=
 grd ((0:Int)<=x_i.A/\x_i.A<((x_b.C.Regs.length:Nat):Int)) (Option.bind (cond (decide (x_i.Op=(0:Int)))
  (some (.out (DBare.mk (DCore.mk x_b.C.Regs x_b.C.Pc x_b.C.Root x_b.C.Vector x_b.C.Saved x_b.C.SavedUser x_b.C.Cause x_b.C.Bad x_b.C.Timer x_b.C.Waits x_b.C.User x_b.C.On true) x_b.Mem x_b.In x_b.Out)))
  (cond (decide (x_i.Op=(11:Int)))
   (Option.bind (aCu x_b.C) λv3=>
   some (.out (DBare.mk v3 x_b.Mem x_b.In x_b.Out)))
   (cond (decide (x_i.Op=(8:Int)))
    (Option.bind (pR (x_b.C.Regs.getD x_i.A.toNat default)) λv4=>
    some (.go (v4,x_b.C.Vector,x_b.C.Timer,x_b.C.On,x_b.Out,x_b.C.Regs,x_b.C.Pc,x_b.C.Saved,x_b.C.SavedUser,x_b.C.Cause,x_b.C.Bad,x_b.C.Waits,x_b.C.User,x_b.C.Stopped,x_b.Mem,x_b.In)))
    (cond (decide (x_i.Op=(9:Int)))
     (some (.go (x_b.C.Root,Int.tmod (x_b.C.Regs.getD x_i.A.toNat default) (64:Int),x_b.C.Timer,x_b.C.On,x_b.Out,x_b.C.Regs,x_b.C.Pc,x_b.C.Saved,x_b.C.SavedUser,x_b.C.Cause,x_b.C.Bad,x_b.C.Waits,x_b.C.User,x_b.C.Stopped,x_b.Mem,x_b.In)))
     (cond (decide (x_i.Op=(10:Int)))
      (some (.go (x_b.C.Root,x_b.C.Vector,x_b.C.Regs.getD x_i.A.toNat default,x_b.C.On,x_b.Out,x_b.C.Regs,x_b.C.Pc,x_b.C.Saved,x_b.C.SavedUser,x_b.C.Cause,x_b.C.Bad,x_b.C.Waits,x_b.C.User,x_b.C.Stopped,x_b.Mem,x_b.In)))
      (cond (decide (x_i.Op=(12:Int)))
       (some (.go (x_b.C.Root,x_b.C.Vector,x_b.C.Timer,decide ((Int.tmod x_i.N (2:Int))=(1:Int)),x_b.Out,x_b.C.Regs,x_b.C.Pc,x_b.C.Saved,x_b.C.SavedUser,x_b.C.Cause,x_b.C.Bad,x_b.C.Waits,x_b.C.User,x_b.C.Stopped,x_b.Mem,x_b.In)))
       (cond (decide (x_i.Op=(13:Int)))
        (Option.bind (rR x_b.Out (x_b.C.Regs.getD x_i.A.toNat default)) λv5=>
        some (.go (x_b.C.Root,x_b.C.Vector,x_b.C.Timer,x_b.C.On,v5,x_b.C.Regs,x_b.C.Pc,x_b.C.Saved,x_b.C.SavedUser,x_b.C.Cause,x_b.C.Bad,x_b.C.Waits,x_b.C.User,x_b.C.Stopped,x_b.Mem,x_b.In)))
        (cond (decide (x_i.Op=(14:Int)))
         (Option.bind (tF x_b x_i) λv6=>
         some (.go (v6.C.Root,v6.C.Vector,v6.C.Timer,v6.C.On,v6.Out,v6.C.Regs,v6.C.Pc,v6.C.Saved,v6.C.SavedUser,v6.C.Cause,v6.C.Bad,v6.C.Waits,v6.C.User,v6.C.Stopped,v6.Mem,v6.In)))
         (some (.go (x_b.C.Root,x_b.C.Vector,x_b.C.Timer,x_b.C.On,x_b.Out,x_b.C.Regs,x_b.C.Pc,x_b.C.Saved,x_b.C.SavedUser,x_b.C.Cause,x_b.C.Bad,x_b.C.Waits,x_b.C.User,x_b.C.Stopped,x_b.Mem,x_b.In))))))))))) λj1=>
  JO.run j1 gU)
noncomputable def bYf:Sg tG:=⟨[.st 41,.st 141],.one (.sb 41),oD⟩
theorem cDi:Sok 200 bYf:=sgx [(221,.r bXd),(222,.r bWn),(223,.r cAh),(224,.r cAe),(197,.r aUi)] ⟨cFi,cDr,cEy,cEo,bAc,trivial⟩ (.s .o (.s .o (.j ⟨[2,4],[],[(.c 2 2,.i .i64),(.c 2 3,.i .i64),(.c 2 8,.i .i64),(.c 2 11,.b),(.c 2 15,.rb 3),(.c 2 0,.rb 3),(.c 2 1,.i .i64),(.c 2 4,.i .i64),(.c 2 5,.b),(.c 2 6,.i .i64),(.c 2 7,.i .i64),(.c 2 9,.b),(.c 2 10,.b),(.c 2 12,.b),(.c 2 13,.rb 3),(.c 2 14,.rb 3)]⟩ .o .o))) kr kr kr
noncomputable def yC (x_c:DCore)(s1:Int×Int×Int×Bool×Bool×Int×(List Int)×(List Int)×(List Int)):Option (DCore×(List Int)×(List Int)):=some ((DCore.mk s1.2.2.2.2.2.2.2.2 s1.2.2.2.2.2.1 s1.1 s1.2.1 x_c.Saved x_c.SavedUser x_c.Cause x_c.Bad s1.2.2.1 x_c.Waits s1.2.2.2.1 s1.2.2.2.2.1 x_c.Stopped),s1.2.2.2.2.2.2.2.1,s1.2.2.2.2.2.2.1)
noncomputable def yD (x_c:DCore)(x_out:List Int)(x_i:DIns)(s2:(List Int)×Int):Option (JO (Int×Int×Int×Bool×Bool×Int×(List Int)×(List Int)×(List Int)) (DCore×(List Int)×(List Int))):=grd ((0:Int)<=x_i.A/\x_i.A<((x_c.Regs.length:Nat):Int)) (some (.go (x_c.Root,x_c.Vector,x_c.Timer,x_c.User,x_c.On,Int.tmod (w64 (x_c.Pc+(1:Int))) (64:Int),x_out,s2.1,x_c.Regs.set x_i.A.toNat s2.2)))
noncomputable def lU (x_c:DCore)(x_in:List Int)(x_out:List Int)(x_i:DIns):Option (DCore×(List Int)×(List Int)):=
 Option.bind (cond (decide (x_i.Op=(0:Int)))
  (some (.out ((DCore.mk x_c.Regs x_c.Pc x_c.Root x_c.Vector x_c.Saved x_c.SavedUser x_c.Cause x_c.Bad x_c.Timer x_c.Waits x_c.User x_c.On true),x_in,x_out)))
  (cond (decide (x_i.Op=(8:Int)))
   (grd ((0:Int)<=x_i.A/\x_i.A<((x_c.Regs.length:Nat):Int)) (cond (decide ((Int.tmod (x_c.Regs.getD x_i.A.toNat default) (16:Int))<(8:Int)))
    (grd ((0:Int)<=x_i.A/\x_i.A<((x_c.Regs.length:Nat):Int)) (some (.go ((Int.tmod (x_c.Regs.getD x_i.A.toNat default) (16:Int)),x_c.Vector,x_c.Timer,x_c.User,x_c.On,Int.tmod (w64 (x_c.Pc+(1:Int))) (64:Int),x_out,x_in,x_c.Regs))))
    (some (.go ((-1:Int),x_c.Vector,x_c.Timer,x_c.User,x_c.On,Int.tmod (w64 (x_c.Pc+(1:Int))) (64:Int),x_out,x_in,x_c.Regs)))))
   (cond (decide (x_i.Op=(9:Int)))
    (grd ((0:Int)<=x_i.A/\x_i.A<((x_c.Regs.length:Nat):Int)) (some (.go (x_c.Root,Int.tmod (x_c.Regs.getD x_i.A.toNat default) (64:Int),x_c.Timer,x_c.User,x_c.On,Int.tmod (w64 (x_c.Pc+(1:Int))) (64:Int),x_out,x_in,x_c.Regs))))
    (cond (decide (x_i.Op=(10:Int)))
     (grd ((0:Int)<=x_i.A/\x_i.A<((x_c.Regs.length:Nat):Int)) (some (.go (x_c.Root,x_c.Vector,x_c.Regs.getD x_i.A.toNat default,x_c.User,x_c.On,Int.tmod (w64 (x_c.Pc+(1:Int))) (64:Int),x_out,x_in,x_c.Regs))))
     (cond (decide (x_i.Op=(11:Int)))
      (some (.go (x_c.Root,x_c.Vector,x_c.Timer,x_c.SavedUser,true,x_c.Saved,x_out,x_in,x_c.Regs)))
      (cond (decide (x_i.Op=(12:Int)))
       (some (.go (x_c.Root,x_c.Vector,x_c.Timer,x_c.User,decide ((Int.tmod x_i.N (2:Int))=(1:Int)),Int.tmod (w64 (x_c.Pc+(1:Int))) (64:Int),x_out,x_in,x_c.Regs)))
       (cond (decide (x_i.Op=(13:Int)))
        (cond (decide (((x_out.length:Nat):Int)<(30:Int)))
         (grd ((0:Int)<=x_i.A/\x_i.A<((x_c.Regs.length:Nat):Int)) (grd ((x_out.length+List.length ([x_c.Regs.getD x_i.A.toNat default]:List Int))*8<=2^47/\x_out.length+List.length ([x_c.Regs.getD x_i.A.toNat default]:List Int)<=2^47) (some (.go (x_c.Root,x_c.Vector,x_c.Timer,x_c.User,x_c.On,Int.tmod (w64 (x_c.Pc+(1:Int))) (64:Int),x_out++([x_c.Regs.getD x_i.A.toNat default]:List Int),x_in,x_c.Regs)))))
         (some (.go (x_c.Root,x_c.Vector,x_c.Timer,x_c.User,x_c.On,Int.tmod (w64 (x_c.Pc+(1:Int))) (64:Int),x_out,x_in,x_c.Regs))))
        (cond (decide (x_i.Op=(14:Int)))
         (grd ((0:Int)<=(Int.tmod x_i.N (4:Int))/\(Int.tmod x_i.N (4:Int))<((4:Nat):Int)) (Option.bind (cond (decide ((Int.tmod x_i.N (4:Int))=(0:Int)))
          (cond (decide ((0:Int)<((x_in.length:Nat):Int)))
           (grd ((0:Int)<=(0:Int)/\(0:Int)<((x_in.length:Nat):Int)) (grd ((0:Int)<=(1:Int)/\(1:Int)<=((x_in.length:Nat):Int)/\((x_in.length:Nat):Int)<=((x_in.length:Nat):Int)) (some (.go ((List.take (Int.toNat ((x_in.length:Nat):Int)-Int.toNat (1:Int)) (List.drop 1 x_in)),x_in.getD 0 default)))))
           (some (.go (x_in,List.getD ([(0:Int),x_c.Cause,x_c.Bad,x_c.Saved]:List Int) (Int.toNat (Int.tmod x_i.N (4:Int))) default))))
          (some (.go (x_in,List.getD ([(0:Int),x_c.Cause,x_c.Bad,x_c.Saved]:List Int) (Int.toNat (Int.tmod x_i.N (4:Int))) default)))) λj2=>
          JO.run j2 (yD x_c x_out x_i)))
         (some (.go (x_c.Root,x_c.Vector,x_c.Timer,x_c.User,x_c.On,Int.tmod (w64 (x_c.Pc+(1:Int))) (64:Int),x_out,x_in,x_c.Regs))))))))))) λj1=>
  JO.run j1 (yC x_c)
noncomputable def bZi:Sw tG:=⟨[.os 39,.ow 3,.ow 3,.v (.st 141)],.three (.st 39) (.row 3) (.row 3),lU⟩
theorem cEf:Sjk 160 bZi:=sgy [] trivial (.s .o (.s .o (.j ⟨[4,8],[],[(.c 4 2,.i .i64),(.c 4 3,.i .i64),(.c 4 8,.i .i64),(.c 4 10,.b),(.c 4 11,.b),(.s 11,.i .i64),(.s 2,.ro 3),(.s 1,.ro 3),(.c 4 0,.ro 3)]⟩ (.s .o (.k (.s .o (.c .o (.s .o (.c .o (.s .o (.c .o (.s .o (.c .o (.s .o (.c .o (.s .o (.c .o (.s .o (.c .o (.s .o (.c (.s .o (.j ⟨[2,4,7,8,11],[],[(.s 1,.ro 3),(.s 12,.i .i64)]⟩ (.s .o (.c (.s .o (.g [] [] [.ct 1])) .o)) .o)) .o)))))))))))))))))) .o))) kr kr kr
noncomputable def bW (x_h:DHost)(x_g:Int)(x_b:DBare):Option DHost:=
 Option.bind (cB x_h) λv1=>
 Option.bind (dR x_b) λv2=>
 grd ((0:Int)<=x_g/\x_g<((v1.Guests.length:Nat):Int)) (grd ((0:Int)<=x_g/\x_g<((v1.Guests.length:Nat):Int)) (grd ((0:Int)<=x_g/\x_g<((v1.Guests.length:Nat):Int)) (some (DHost.mk v1.Words (let z0:=v1.Guests.set x_g.toNat (DGuest.mk (v1.Guests.getD x_g.toNat default).Live v2.C (v1.Guests.getD x_g.toNat default).Pages (v1.Guests.getD x_g.toNat default).In (v1.Guests.getD x_g.toNat default).Out);let z1:=z0.set x_g.toNat (DGuest.mk (z0.getD x_g.toNat default).Live (DCore.mk ((z0.getD x_g.toNat default).C).Regs ((z0.getD x_g.toNat default).C).Pc ((z0.getD x_g.toNat default).C).Root ((z0.getD x_g.toNat default).C).Vector ((z0.getD x_g.toNat default).C).Saved ((z0.getD x_g.toNat default).C).SavedUser ((z0.getD x_g.toNat default).C).Cause ((z0.getD x_g.toNat default).C).Bad ((z0.getD x_g.toNat default).C).Timer ((z0.getD x_g.toNat default).C).Waits ((z0.getD x_g.toNat default).C).User ((z0.getD x_g.toNat default).C).On ((z0.getD x_g.toNat default).C).Stopped) (z0.getD x_g.toNat default).Pages v2.In (z0.getD x_g.toNat default).Out);z1.set x_g.toNat (DGuest.mk (z1.getD x_g.toNat default).Live (DCore.mk ((z1.getD x_g.toNat default).C).Regs ((z1.getD x_g.toNat default).C).Pc ((z1.getD x_g.toNat default).C).Root ((z1.getD x_g.toNat default).C).Vector ((z1.getD x_g.toNat default).C).Saved ((z1.getD x_g.toNat default).C).SavedUser ((z1.getD x_g.toNat default).C).Cause ((z1.getD x_g.toNat default).C).Bad ((z1.getD x_g.toNat default).C).Timer ((z1.getD x_g.toNat default).C).Waits ((z1.getD x_g.toNat default).C).User ((z1.getD x_g.toNat default).C).On ((z1.getD x_g.toNat default).C).Stopped) (z1.getD x_g.toNat default).Pages (z1.getD x_g.toNat default).In v2.Out))))))
noncomputable def g67:Sg tG:=⟨[.st 26,.i .i64,.st 41],.one (.st 2026),bW⟩
theorem s67:Sok 67 g67:=sgx [(131,.r aOe),(57,.r g57)] ⟨aPy,s57,trivial⟩ (.s .o (.s .o (.s .o (.s (.g [] [] [.fo (.c 7 1) 0]) (.s (.g [] [] [.fo (.c 7 1) 0]) (.s (.g [] [] [.fo (.c 7 1) 0]) .o)))))) kr kr kr
noncomputable def lD (x_h:DHost)(x_g:Int):Option DBare:=grd ((0:Int)<=x_g/\x_g<((x_h.Guests.length:Nat):Int)) (some (DBare.mk (DCore.mk ((x_h.Guests.getD x_g.toNat default).C).Regs ((x_h.Guests.getD x_g.toNat default).C).Pc ((x_h.Guests.getD x_g.toNat default).C).Root ((x_h.Guests.getD x_g.toNat default).C).Vector ((x_h.Guests.getD x_g.toNat default).C).Saved ((x_h.Guests.getD x_g.toNat default).C).SavedUser ((x_h.Guests.getD x_g.toNat default).C).Cause ((x_h.Guests.getD x_g.toNat default).C).Bad ((x_h.Guests.getD x_g.toNat default).C).Timer ((x_h.Guests.getD x_g.toNat default).C).Waits ((x_h.Guests.getD x_g.toNat default).C).User ((x_h.Guests.getD x_g.toNat default).C).On ((x_h.Guests.getD x_g.toNat default).C).Stopped) ([]:List Int) (x_h.Guests.getD x_g.toNat default).In (x_h.Guests.getD x_g.toNat default).Out))
noncomputable def g68:Sg tG:=⟨[.st 26,.i .i64],.one (.sb 41),lD⟩
theorem s68:Sok 68 g68:=sgx [] trivial .o kr kr kr
noncomputable def fM (x_h:DHost)(x_g:Int)(x_i:DIns):Option (DHost×Bool):=
 Option.bind (cY x_h x_g) λv1=>
 cond (!v1)
  (some ((DHost.mk ([]:List Int) ([]:List DGuest)),false))
  (Option.bind (cN x_i) λv2=>
  cond (!v2)
   (some ((DHost.mk ([]:List Int) ([]:List DGuest)),false))
   (Option.bind (cR x_h) λv3=>
   grd ((0:Int)<=x_g/\x_g<((v3.Guests.length:Nat):Int)) (Option.bind (lU (DCore.mk ((v3.Guests.getD x_g.toNat default).C).Regs ((v3.Guests.getD x_g.toNat default).C).Pc ((v3.Guests.getD x_g.toNat default).C).Root ((v3.Guests.getD x_g.toNat default).C).Vector ((v3.Guests.getD x_g.toNat default).C).Saved ((v3.Guests.getD x_g.toNat default).C).SavedUser ((v3.Guests.getD x_g.toNat default).C).Cause ((v3.Guests.getD x_g.toNat default).C).Bad ((v3.Guests.getD x_g.toNat default).C).Timer ((v3.Guests.getD x_g.toNat default).C).Waits ((v3.Guests.getD x_g.toNat default).C).User ((v3.Guests.getD x_g.toNat default).C).On ((v3.Guests.getD x_g.toNat default).C).Stopped) (v3.Guests.getD x_g.toNat default).In (v3.Guests.getD x_g.toNat default).Out x_i) λv4=>
    grd ((0:Int)<=x_g/\x_g<((v3.Guests.length:Nat):Int)) (grd (x_g.toNat=x_g.toNat) (grd (x_g.toNat=x_g.toNat) (grd (x_g.toNat=x_g.toNat) (grd (x_g.toNat=x_g.toNat) (some ((DHost.mk v3.Words (v3.Guests.set x_g.toNat (DGuest.mk (v3.Guests.getD x_g.toNat default).Live v4.1 (v3.Guests.getD x_g.toNat default).Pages v4.2.1 v4.2.2))),true)))))))))
noncomputable def cBb:Sg tG:=⟨[.st 26,.i .i64,.st 141],.two (.st 2026) .b,fM⟩
theorem cEr:Sok 111 cBb:=sgx [(102,.r aFk),(110,.r bIe),(103,.r aKf),(160,.w bZi)] ⟨aJm,bSf,aOb,cEf,trivial⟩ (.s .o (.s .o (.s .o (.s .o (.s (.g [.uf (.c 9 1) 0 1,.uf (.c 9 15) 0 15,.uf (.c 9 16) 0 16] [] []) (.s (.g [.uf (.c 9 14) 0 14] [] [.fo (.c 8 1) 0]) .o)))))) kr kr kr
noncomputable def nK (x_c:DCore)(x_cause:Int)(x_bad:Int)(x_saved:Int):Option DCore:=some (DCore.mk x_c.Regs x_c.Vector x_c.Root x_c.Vector x_saved x_c.User x_cause x_bad x_c.Timer x_c.Waits false false x_c.Stopped)
noncomputable def aYr:Sg tG:=⟨[.st 39,.i .i64,.i .i64,.i .i64],.one (.sb 39),nK⟩
theorem bIj:Sok 163 aYr:=sgx [] trivial .o kr kr kr
noncomputable def eX (x_b:DBare)(x_a:Int)(x_w:Int):Option DBare:=
 Option.bind (kT x_b.C.Regs x_a x_w) λv1=>
 Option.bind (eF (DBare.mk (DCore.mk v1 x_b.C.Pc x_b.C.Root x_b.C.Vector x_b.C.Saved x_b.C.SavedUser x_b.C.Cause x_b.C.Bad x_b.C.Timer x_b.C.Waits x_b.C.User x_b.C.On x_b.C.Stopped) x_b.Mem x_b.In x_b.Out)) λv2=>
 some v2
noncomputable def bJo:Sg tG:=⟨[.st 41,.i .i64,.i .i64],.one (.sb 41),eX⟩
theorem bSj:Sok 195 bJo:=sgx [(196,.r bKe),(197,.r aUi)] ⟨bRc,bAc,trivial⟩ (.s .o (.s .o (.s (.g [.fr (.c 3 0) 0] [] []) .o))) kr kr kr
noncomputable def aNp (x_b:DBare)(x_i:DIns)(s1:Unit):Option DBare:=some (DBare.mk (DCore.mk x_b.C.Regs x_i.N x_b.C.Root x_b.C.Vector x_b.C.Saved x_b.C.SavedUser x_b.C.Cause x_b.C.Bad x_b.C.Timer x_b.C.Waits x_b.C.User x_b.C.On x_b.C.Stopped) x_b.Mem x_b.In x_b.Out)
noncomputable def tA (x_b:DBare)(x_i:DIns):Option DBare:=
 Option.bind (cond (decide (x_i.Op=(6:Int)))
  (grd ((0:Int)<=x_i.A/\x_i.A<((x_b.C.Regs.length:Nat):Int)) (cond (decide ((x_b.C.Regs.getD x_i.A.toNat default)=(0:Int)))
   (Option.bind (eF x_b) λv2=>
   some (.out v2))
   (some (.go ()))))
  (some (.go ()))) λj1=>
  JO.run j1 (aNp x_b x_i)
noncomputable def bZe:Sg tG:=⟨[.st 41,.st 141],.one (.sb 41),tA⟩
theorem cFb:Sok 219 bZe:=sgx [(197,.r aUi)] ⟨bAc,trivial⟩ (.s .o (.j ⟨[2,3,4],[],[]⟩ .o .o)) kr kr kr
noncomputable def qX (x_regs:List Int)(x_i:DIns):Option Int:=
 grd ((0:Int)<=(Int.tmod x_i.N (4:Int))/\(Int.tmod x_i.N (4:Int))<((x_regs.length:Nat):Int)) (cond (decide (x_i.Op=(2:Int)))
  (grd ((0:Int)<=x_i.A/\x_i.A<((x_regs.length:Nat):Int)) (some (Int.tmod (w64 ((x_regs.getD x_i.A.toNat default)+(x_regs.getD (Int.toNat (Int.tmod x_i.N (4:Int))) default))) (4096:Int))))
  (cond (decide (x_i.Op=(15:Int)))
   (grd ((0:Int)<=x_i.A/\x_i.A<((x_regs.length:Nat):Int)) (some (Int.tmod (w64 ((w64 ((x_regs.getD x_i.A.toNat default)-(x_regs.getD (Int.toNat (Int.tmod x_i.N (4:Int))) default)))+(4096:Int))) (4096:Int))))
   (some x_i.N)))
noncomputable def bYk:Sg tG:=⟨[.row 3,.st 141],.one (.i .i64),qX⟩
theorem cDa:Sok 220 bYk:=sgx [] trivial .o kr kr kr
noncomputable def zJ (x_b:DBare)(x_i:DIns)(s3:Bool):Option DBare:=
 cond s3
  (Option.bind (tA x_b x_i) λv4=>
  some v4)
  (Option.bind (qX x_b.C.Regs x_i) λv5=>
  Option.bind (eX x_b x_i.A v5) λv6=>
  some v6)
noncomputable def rB (x_b:DBare)(x_i:DIns):Option DBare:=
 cond (decide (x_i.Op=(7:Int)))
  (Option.bind (kU x_b.C.Pc) λv1=>
  Option.bind (nK x_b.C (1:Int) (0:Int) v1) λv2=>
  some (DBare.mk v2 x_b.Mem x_b.In x_b.Out))
  (Option.bind (cond (decide (x_i.Op=(5:Int)))
   (some (.go (decide (x_i.Op=(5:Int)))))
   (some (.go (decide (x_i.Op=(6:Int)))))) λj3=>
   JO.run j3 (zJ x_b x_i))
noncomputable def bWo:Sg tG:=⟨[.st 41,.st 141],.one (.sb 41),rB⟩
theorem cDo:Sok 199 bWo:=sgx [(217,.r bPm),(163,.r aYr),(219,.r bZe),(220,.r bYk),(195,.r bJo)] ⟨cBr,bIj,cFb,cDa,bSj,trivial⟩ (.s .o (.s (.s .o (.k (.s .o (.c .o (.j ⟨[2,3,4],[],[(.s 18,.b)]⟩ .o .o))))) .o)) kr kr kr
noncomputable def lI (x_b:DBare)(x_i:DIns):Option DBare:=
 Option.bind (lE x_i) λv1=>
 cond (!v1)
  (Option.bind (rB x_b x_i) λv2=>
  some v2)
  (cond x_b.C.User
   (Option.bind (nK x_b.C (3:Int) (0:Int) x_b.C.Pc) λv3=>
   some (DBare.mk v3 x_b.Mem x_b.In x_b.Out))
   (Option.bind (oD x_b x_i) λv4=>
   some v4))
noncomputable def bTf:Sg tG:=⟨[.st 41,.st 141],.one (.sb 41),lI⟩
theorem bZc:Sok 168 bTf:=sgx [(198,.r bOs),(199,.r bWo),(163,.r aYr),(200,.r bYf)] ⟨bYw,cDo,bIj,cDi,trivial⟩ .o kr kr kr
end Go.Proofs.YtcgggihjcelmhaaGreat
