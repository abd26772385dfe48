/- Plain functions of the program, and that it hands back what they say. Made by program. -/
import Derived.Test.YtcgggihjcelmhaaWTD
import Derived.Test.YtcgggihjcelmhaaProg
import Derived.Test.YtcgggihjcelmhaaZY
namespace Go.Proofs.Ytcgggihjcelmhaa
open Go.RowKit
set_option maxRecDepth 100000
set_option linter.all false
set_option maxHeartbeats 0
noncomputable def cE (x_n:Int)(x_low:Int)(x_high:Int):Option Bool:=
 cond (decide (x_low<=x_n))
  (some (decide (x_n<=x_high)))
  (some false)
noncomputable def g79:Sg tG:=⟨[.i .i64,.i .i64,.i .i64],.one .b,cE⟩
theorem s79:Sok 79 g79:=sgx [] trivial .o kr kr kr
noncomputable def gM (x_n:Int):Option Bool:=
 Option.bind (cE x_n (0:Int) (4095:Int)) λv1=>
 some v1
noncomputable def aYi:Sg tG:=⟨[.i .i64],.one .b,gM⟩
theorem bDi:Sok 117 aYi:=sgx [(79,.r g79)] ⟨s79,trivial⟩ .o kr kr kr
noncomputable def nN (x_list:List Int)(x_most:Int)(s1:Unit):Option Bool:=some (decide (((List.length x_list:Nat):Int)<=x_most))
noncomputable def nO (x_list:List Int)(s2:Int):Option (LO Int (JO Unit Bool)):=
 cond (decide (s2<((List.length x_list:Nat):Int)))
  (grd ((0:Int)<=s2/\s2<((List.length x_list:Nat):Int)) (Option.bind (gM (List.getD x_list (Int.toNat s2) default)) λv3=>
   cond (!v3)
    (some (.ret (.out false)))
    (some (.next (w64 (s2+(1:Int)))))))
  (some (.ret (.go ())))
noncomputable def dD (x_list:List Int)(x_most:Int):Option Bool:=
 Option.bind (Option.bind (iter (nO x_list) (0:Int)) LO.val) λj1=>
  JO.run j1 (nN x_list x_most)
noncomputable def g92:Sg tG:=⟨[.row 3,.i .i64],.one .b,dD⟩
theorem s92:Sok 92 g92:=sgx [(117,.r aYi)] ⟨bDi,trivial⟩ (.s .o (.j ⟨[0,1],[],[]⟩ (.s .o (.k (.l ⟨[0,1],[],[(.s 5,.i .i64)]⟩ .o))) .o)) kr kr kr
noncomputable def uZ (x_c:DCore)(s1:Unit):Option Bool:=
 cond (decide (((List.length x_c.Regs:Nat):Int)=(4:Int)))
  (Option.bind (cE x_c.Pc (0:Int) (63:Int)) λv2=>
  cond v2
   (Option.bind (cE x_c.Vector (0:Int) (63:Int)) λv3=>
   cond v3
    (Option.bind (cE x_c.Saved (0:Int) (63:Int)) λv4=>
    cond v4
     (Option.bind (cE x_c.Bad (0:Int) (63:Int)) λv5=>
     cond v5
      (Option.bind (cE x_c.Root (-1:Int) (7:Int)) λv6=>
      cond v6
       (Option.bind (cE x_c.Cause (0:Int) (4:Int)) λv7=>
       cond v7
        (Option.bind (gM x_c.Timer) λv8=>
        some v8)
        (some false))
       (some false))
      (some false))
     (some false))
    (some false))
   (some false))
  (some false)
noncomputable def vX (x_c:DCore)(s9:Int):Option (LO Int (JO Unit Bool)):=
 cond (decide (s9<((List.length x_c.Regs:Nat):Int)))
  (grd ((0:Int)<=s9/\s9<((List.length x_c.Regs:Nat):Int)) (Option.bind (gM (List.getD x_c.Regs (Int.toNat s9) default)) λv10=>
   cond (!v10)
    (some (.ret (.out false)))
    (some (.next (w64 (s9+(1:Int)))))))
  (some (.ret (.go ())))
noncomputable def iZ (x_c:DCore):Option Bool:=
 Option.bind (Option.bind (iter (vX x_c) (0:Int)) LO.val) λj1=>
  JO.run j1 (uZ x_c)
noncomputable def g94:Sg tG:=⟨[.st 61],.one .b,iZ⟩
theorem s94:Sok 94 g94:=sgx [(117,.r aYi),(79,.r g79)] ⟨bDi,s79,trivial⟩ (.s .o (.j ⟨[1],[],[]⟩ (.s .o (.k (.l ⟨[1],[],[(.s 3,.i .i64)]⟩ .o))) .o)) kr kr kr
noncomputable def wH (x_mem:List Int)(s1:Unit):Option Bool:=some (decide (((List.length x_mem:Nat):Int)=(64:Int)))
noncomputable def wR (x_mem:List Int)(s2:Int):Option (LO Int (JO Unit Bool)):=
 cond (decide (s2<((List.length x_mem:Nat):Int)))
  (grd ((0:Int)<=s2/\s2<((List.length x_mem:Nat):Int)) (Option.bind (gM (List.getD x_mem (Int.toNat s2) default)) λv3=>
   cond (!v3)
    (some (.ret (.out false)))
    (some (.next (w64 (s2+(1:Int)))))))
  (some (.ret (.go ())))
noncomputable def qI (x_mem:List Int):Option Bool:=
 Option.bind (Option.bind (iter (wR x_mem) (0:Int)) LO.val) λj1=>
  JO.run j1 (wH x_mem)
noncomputable def bMi:Sg tG:=⟨[.row 3],.one .b,qI⟩
theorem bOt:Sok 138 bMi:=sgx [(117,.r aYi)] ⟨bDi,trivial⟩ (.s .o (.j ⟨[0],[],[]⟩ (.s .o (.k (.l ⟨[0],[],[(.s 3,.i .i64)]⟩ .o))) .o)) kr kr kr
noncomputable def oK (x_b:DBare):Option Bool:=
 Option.bind (iZ x_b.C) λv1=>
 cond v1
  (Option.bind (qI x_b.Mem) λv2=>
  cond v2
   (Option.bind (dD x_b.In (30:Int)) λv3=>
   cond v3
    (Option.bind (dD x_b.Out (30:Int)) λv4=>
    some v4)
    (some false))
   (some false))
  (some false)
noncomputable def bLw:Sg tG:=⟨[.st 81],.one .b,oK⟩
theorem bNx:Sok 112 bLw:=sgx [(94,.r g94),(138,.r bMi),(92,.r g92)] ⟨s94,bOt,s92,trivial⟩ .o kr kr kr
noncomputable def gU (x_n:Int):Option Bool:=
 cond (decide ((0:Int)<=x_n))
  (some (decide (x_n<=(4095:Int))))
  (some false)
noncomputable def g35:Sg tG:=⟨[.i .i64],.one .b,gU⟩
theorem s35:Sok 35 g35:=sgx [] trivial .o kr kr kr
noncomputable def aEm  (s1:Unit):Option Bool:=some true
noncomputable def tR (x_list:List Int)(s2:Int):Option (LO Int (JO Unit Bool)):=
 cond (decide (s2<((List.length x_list:Nat):Int)))
  (grd ((0:Int)<=s2/\s2<((List.length x_list:Nat):Int)) (Option.bind (gU (List.getD x_list (Int.toNat s2) default)) λv3=>
   cond (!v3)
    (some (.ret (.out false)))
    (some (.next (w64 (s2+(1:Int)))))))
  (some (.ret (.go ())))
noncomputable def iC (x_list:List Int):Option Bool:=
 Option.bind (Option.bind (iter (tR x_list) (0:Int)) LO.val) λj1=>
  JO.run j1 aEm
noncomputable def g85:Sg tG:=⟨[.row 3],.one .b,iC⟩
theorem s85:Sok 85 g85:=sgx [(35,.r g35)] ⟨s35,trivial⟩ (.s .o (.j ⟨[],[],[]⟩ (.s .o (.k (.l ⟨[5,6],[],[(.s 7,.i .i64)]⟩ .o))) .o)) kr kr kr
noncomputable def cG (x_addr:Int):Option Bool:=
 cond (decide ((0:Int)<=x_addr))
  (some (decide (x_addr<(64:Int))))
  (some false)
noncomputable def bMt:Sg tG:=⟨[.i .i64],.one .b,cG⟩
theorem bPa:Sok 150 bMt:=sgx [] trivial .o kr kr kr
noncomputable def oH (x_page:Int):Option Bool:=
 cond (decide ((0:Int)<=x_page))
  (some (decide (x_page<(8:Int))))
  (some false)
noncomputable def bMg:Sg tG:=⟨[.i .i64],.one .b,oH⟩
theorem bOz:Sok 154 bMg:=sgx [] trivial .o kr kr kr
noncomputable def kZ (x_root:Int):Option Bool:=
 cond (decide (x_root=(-1:Int)))
  (some true)
  (Option.bind (oH x_root) λv1=>
  some v1)
noncomputable def bMn:Sg tG:=⟨[.i .i64],.one .b,kZ⟩
theorem bOp:Sok 151 bMn:=sgx [(154,.r bMg)] ⟨bOz,trivial⟩ .o kr kr kr
noncomputable def oE (x_c:DCore):Option Bool:=
 cond (decide (((List.length x_c.Regs:Nat):Int)=(4:Int)))
  (Option.bind (iC x_c.Regs) λv1=>
  Option.bind (cG x_c.Pc) λv2=>
  cond v2
   (Option.bind (cG x_c.Vector) λv3=>
   cond v3
    (Option.bind (cG x_c.Saved) λv4=>
    cond v4
     (Option.bind (cG x_c.Bad) λv5=>
     cond (decide ((0:Int)<=x_c.Cause))
      (cond v1
       (cond v5
        (Option.bind (kZ x_c.Root) λv6=>
        cond v6
         (cond (decide (x_c.Cause<=(4:Int)))
          (Option.bind (gU x_c.Timer) λv7=>
          some v7)
          (some false))
         (some false))
        (some false))
       (some false))
      (cond v1
       (cond v5
        (Option.bind (kZ x_c.Root) λv8=>
        cond v8
         (some false)
         (some false))
        (some false))
       (some false)))
     (cond (decide ((0:Int)<=x_c.Cause))
      (cond v1
       (some false)
       (some false))
      (cond v1
       (some false)
       (some false))))
    (cond (decide ((0:Int)<=x_c.Cause))
     (cond v1
      (some false)
      (some false))
     (cond v1
      (some false)
      (some false))))
   (cond (decide ((0:Int)<=x_c.Cause))
    (cond v1
     (some false)
     (some false))
    (cond v1
     (some false)
     (some false))))
  (Option.bind (cG x_c.Pc) λv9=>
  cond v9
   (Option.bind (cG x_c.Vector) λv10=>
   cond v10
    (Option.bind (cG x_c.Saved) λv11=>
    cond v11
     (Option.bind (cG x_c.Bad) λv12=>
     cond (decide ((0:Int)<=x_c.Cause))
      (some false)
      (some false))
     (cond (decide ((0:Int)<=x_c.Cause))
      (some false)
      (some false)))
    (cond (decide ((0:Int)<=x_c.Cause))
     (some false)
     (some false)))
   (cond (decide ((0:Int)<=x_c.Cause))
    (some false)
    (some false)))
noncomputable def bLe:Sg tG:=⟨[.st 61],.one .b,oE⟩
theorem bOo:Sok 140 bLe:=sgx [(85,.r g85),(150,.r bMt),(151,.r bMn),(35,.r g35)] ⟨s85,bPa,bOp,s35,trivial⟩ .o kr kr kr
noncomputable def mC (x_words:List Int):Option Bool:=
 cond (decide (((List.length x_words:Nat):Int)<=(30:Int)))
  (Option.bind (iC x_words) λv1=>
  some v1)
  (some false)
noncomputable def bKw:Sg tG:=⟨[.row 3],.one .b,mC⟩
theorem bOn:Sok 142 bKw:=sgx [(85,.r g85)] ⟨s85,trivial⟩ .o kr kr kr
noncomputable def mA (x_c:DCore):Option Bool:=
 cond (decide (x_c.Pc=(0:Int)))
  (cond (decide (x_c.Root=(0:Int)))
   (cond (decide (x_c.Vector=(0:Int)))
    (cond (decide (x_c.Saved=(0:Int)))
     (cond x_c.SavedUser
      (cond (decide (((List.length x_c.Regs:Nat):Int)=(0:Int)))
       (cond (decide (x_c.Bad=(0:Int)))
        (cond (decide (x_c.Cause=(0:Int)))
         (cond (decide (x_c.Timer=(0:Int)))
          (some false)
          (some false))
         (some false))
        (some false))
       (some false))
      (cond x_c.Waits
       (cond (decide (((List.length x_c.Regs:Nat):Int)=(0:Int)))
        (cond (decide (x_c.Bad=(0:Int)))
         (cond (decide (x_c.Cause=(0:Int)))
          (cond (decide (x_c.Timer=(0:Int)))
           (some false)
           (some false))
          (some false))
         (some false))
        (some false))
       (cond x_c.User
        (cond (decide (((List.length x_c.Regs:Nat):Int)=(0:Int)))
         (cond (decide (x_c.Bad=(0:Int)))
          (cond (decide (x_c.Cause=(0:Int)))
           (cond (decide (x_c.Timer=(0:Int)))
            (some false)
            (some false))
           (some false))
          (some false))
         (some false))
        (cond x_c.On
         (cond (decide (((List.length x_c.Regs:Nat):Int)=(0:Int)))
          (cond (decide (x_c.Bad=(0:Int)))
           (cond (decide (x_c.Cause=(0:Int)))
            (cond (decide (x_c.Timer=(0:Int)))
             (some false)
             (some false))
            (some false))
           (some false))
          (some false))
         (cond (decide (((List.length x_c.Regs:Nat):Int)=(0:Int)))
          (cond (decide (x_c.Bad=(0:Int)))
           (cond (decide (x_c.Cause=(0:Int)))
            (cond (decide (x_c.Timer=(0:Int)))
             (some (!x_c.Stopped))
             (some false))
            (some false))
           (some false))
          (some false))))))
     (cond x_c.SavedUser
      (cond (decide (((List.length x_c.Regs:Nat):Int)=(0:Int)))
       (some false)
       (some false))
      (cond x_c.Waits
       (cond (decide (((List.length x_c.Regs:Nat):Int)=(0:Int)))
        (some false)
        (some false))
       (cond x_c.User
        (cond (decide (((List.length x_c.Regs:Nat):Int)=(0:Int)))
         (some false)
         (some false))
        (cond x_c.On
         (cond (decide (((List.length x_c.Regs:Nat):Int)=(0:Int)))
          (some false)
          (some false))
         (cond (decide (((List.length x_c.Regs:Nat):Int)=(0:Int)))
          (some false)
          (some false)))))))
    (cond x_c.SavedUser
     (cond (decide (((List.length x_c.Regs:Nat):Int)=(0:Int)))
      (some false)
      (some false))
     (cond x_c.Waits
      (cond (decide (((List.length x_c.Regs:Nat):Int)=(0:Int)))
       (some false)
       (some false))
      (cond x_c.User
       (cond (decide (((List.length x_c.Regs:Nat):Int)=(0:Int)))
        (some false)
        (some false))
       (cond x_c.On
        (cond (decide (((List.length x_c.Regs:Nat):Int)=(0:Int)))
         (some false)
         (some false))
        (cond (decide (((List.length x_c.Regs:Nat):Int)=(0:Int)))
         (some false)
         (some false)))))))
   (cond x_c.SavedUser
    (cond (decide (((List.length x_c.Regs:Nat):Int)=(0:Int)))
     (some false)
     (some false))
    (cond x_c.Waits
     (cond (decide (((List.length x_c.Regs:Nat):Int)=(0:Int)))
      (some false)
      (some false))
     (cond x_c.User
      (cond (decide (((List.length x_c.Regs:Nat):Int)=(0:Int)))
       (some false)
       (some false))
      (cond x_c.On
       (cond (decide (((List.length x_c.Regs:Nat):Int)=(0:Int)))
        (some false)
        (some false))
       (cond (decide (((List.length x_c.Regs:Nat):Int)=(0:Int)))
        (some false)
        (some false)))))))
  (cond x_c.SavedUser
   (cond (decide (((List.length x_c.Regs:Nat):Int)=(0:Int)))
    (some false)
    (some false))
   (cond x_c.Waits
    (cond (decide (((List.length x_c.Regs:Nat):Int)=(0:Int)))
     (some false)
     (some false))
    (cond x_c.User
     (cond (decide (((List.length x_c.Regs:Nat):Int)=(0:Int)))
      (some false)
      (some false))
     (cond x_c.On
      (cond (decide (((List.length x_c.Regs:Nat):Int)=(0:Int)))
       (some false)
       (some false))
      (cond (decide (((List.length x_c.Regs:Nat):Int)=(0:Int)))
       (some false)
       (some false))))))
noncomputable def bLx:Sg tG:=⟨[.st 61],.one .b,mA⟩
theorem bNr:Sok 149 bLx:=sgx [] trivial .o kr kr kr
noncomputable def jY (x_guest:DGuest):Option Bool:=
 Option.bind (mA x_guest.C) λv1=>
 cond v1
  (cond (decide (((List.length x_guest.Pages:Nat):Int)=(0:Int)))
   (cond (decide (((List.length x_guest.In:Nat):Int)=(0:Int)))
    (some (decide (((List.length x_guest.Out:Nat):Int)=(0:Int))))
    (some false))
   (some false))
  (some false)
noncomputable def bJz:Sg tG:=⟨[.st 64],.one .b,jY⟩
theorem bOg:Sok 139 bJz:=sgx [(149,.r bLx)] ⟨bNr,trivial⟩ .o kr kr kr
noncomputable def oC (x_s:DSlot):Option Bool:=
 cond (decide (x_s.Frame=(-1:Int)))
  (cond (!x_s.Write)
   (some (!x_s.Dirty))
   (some false))
  (cond (decide ((0:Int)<=x_s.Frame))
   (some (decide (x_s.Frame<(20:Int))))
   (some false))
noncomputable def bKf:Sg tG:=⟨[.st 66],.one .b,oC⟩
theorem bOe:Sok 152 bKf:=sgx [] trivial .o kr kr kr
noncomputable def aEl  (s1:Unit):Option Bool:=some true
noncomputable def tT (x_pages:List DSlot)(s2:Int):Option (LO Int (JO Unit Bool)):=
 cond (decide (s2<((List.length x_pages:Nat):Int)))
  (grd ((0:Int)<=s2/\s2<((List.length x_pages:Nat):Int)) (Option.bind (oC (DSlot.mk (List.getD x_pages (Int.toNat s2) default).Frame (List.getD x_pages (Int.toNat s2) default).Write (List.getD x_pages (Int.toNat s2) default).Dirty)) λv3=>
   cond (!v3)
    (some (.ret (.out false)))
    (some (.next (w64 (s2+(1:Int)))))))
  (some (.ret (.go ())))
noncomputable def mW (x_pages:List DSlot):Option Bool:=
 cond (!decide (((List.length x_pages:Nat):Int)=(8:Int)))
  (some false)
  (Option.bind (Option.bind (iter (tT x_pages) (0:Int)) LO.val) λj1=>
   JO.run j1 aEl)
noncomputable def bJq:Sg tG:=⟨[.row 66],.one .b,mW⟩
theorem bNw:Sok 141 bJq:=sgx [(152,.r bKf)] ⟨bOe,trivial⟩ (.s .o (.s .o (.j ⟨[],[],[]⟩ (.s .o (.k (.l ⟨[8,9],[],[(.s 10,.i .i64)]⟩ .o))) .o))) kr kr kr
noncomputable def kB (x_guest:DGuest):Option Bool:=
 cond (!x_guest.Live)
  (Option.bind (jY x_guest) λv1=>
  some v1)
  (Option.bind (oE x_guest.C) λv2=>
  cond v2
   (Option.bind (mW x_guest.Pages) λv3=>
   cond v3
    (Option.bind (mC x_guest.In) λv4=>
    cond v4
     (Option.bind (mC x_guest.Out) λv5=>
     some v5)
     (some false))
    (some false))
   (some false))
noncomputable def bJn:Sg tG:=⟨[.st 64],.one .b,kB⟩
theorem bOi:Sok 114 bJn:=sgx [(139,.r bJz),(140,.r bLe),(141,.r bJq),(142,.r bKw)] ⟨bOg,bOo,bNw,bOn,trivial⟩ .o kr kr kr
noncomputable def aBo  (s1:Unit):Option Bool:=some true
noncomputable def jL (x_guests:List DGuest)(s2:Int):Option (LO Int (JO Unit Bool)):=
 cond (decide (s2<((List.length x_guests:Nat):Int)))
  (grd ((0:Int)<=s2/\s2<((List.length x_guests:Nat):Int)) (Option.bind (kB (DGuest.mk (List.getD x_guests (Int.toNat s2) default).Live (DCore.mk ((List.getD x_guests (Int.toNat s2) default).C).Regs ((List.getD x_guests (Int.toNat s2) default).C).Pc ((List.getD x_guests (Int.toNat s2) default).C).Root ((List.getD x_guests (Int.toNat s2) default).C).Vector ((List.getD x_guests (Int.toNat s2) default).C).Saved ((List.getD x_guests (Int.toNat s2) default).C).SavedUser ((List.getD x_guests (Int.toNat s2) default).C).Cause ((List.getD x_guests (Int.toNat s2) default).C).Bad ((List.getD x_guests (Int.toNat s2) default).C).Timer ((List.getD x_guests (Int.toNat s2) default).C).Waits ((List.getD x_guests (Int.toNat s2) default).C).User ((List.getD x_guests (Int.toNat s2) default).C).On ((List.getD x_guests (Int.toNat s2) default).C).Stopped) (List.getD x_guests (Int.toNat s2) default).Pages (List.getD x_guests (Int.toNat s2) default).In (List.getD x_guests (Int.toNat s2) default).Out)) λv3=>
   cond (!v3)
    (some (.ret (.out false)))
    (some (.next (w64 (s2+(1:Int)))))))
  (some (.ret (.go ())))
noncomputable def lW (x_guests:List DGuest):Option Bool:=
 cond (!decide (((List.length x_guests:Nat):Int)=(3:Int)))
  (some false)
  (Option.bind (Option.bind (iter (jL x_guests) (0:Int)) LO.val) λj1=>
   JO.run j1 aBo)
noncomputable def g86:Sg tG:=⟨[.row 64],.one .b,lW⟩
theorem s86:Sok 86 g86:=sgx [(114,.r bJn)] ⟨bOi,trivial⟩ (.s .o (.s .o (.j ⟨[],[],[]⟩ (.s .o (.k (.l ⟨[8,9],[],[(.s 10,.i .i64)]⟩ .o))) .o))) kr kr kr
noncomputable def pD  (s1:List Int):Option (List Int):=some s1
noncomputable def pI (s2:(List Int)×Int)(s3:List Int):Option (LO ((List Int)×Int) (JO (List Int) (List Int))):=some (.next (s3,w64 (s2.2+(1:Int))))
noncomputable def pQ (s4:(List Int)×Int)(s5:List Int):Option (LO ((List Int)×Int) (JO (List Int) (LO ((List Int)×Int) (JO (List Int) (List Int))))):=some (.next (s5,w64 (s4.2+(1:Int))))
noncomputable def eO (x_guests:List DGuest)(s2:(List Int)×Int)(s4:(List Int)×Int):Option (LO ((List Int)×Int) (JO (List Int) (LO ((List Int)×Int) (JO (List Int) (List Int))))):=
 cond (decide (s4.2<((List.length (List.getD x_guests (Int.toNat s2.2) default).Pages:Nat):Int)))
  (Option.bind (grd ((0:Int)<=s4.2/\s4.2<((List.length (List.getD x_guests (Int.toNat s2.2) default).Pages:Nat):Int)) (cond (!decide ((List.getD (List.getD x_guests (Int.toNat s2.2) default).Pages (Int.toNat s4.2) default).Frame=(-1:Int)))
   (grd ((0:Int)<=(List.getD (List.getD x_guests (Int.toNat s2.2) default).Pages (Int.toNat s4.2) default).Frame/\(List.getD (List.getD x_guests (Int.toNat s2.2) default).Pages (Int.toNat s4.2) default).Frame<((List.length s4.1:Nat):Int)) (grd ((0:Int)<=(List.getD (List.getD x_guests (Int.toNat s2.2) default).Pages (Int.toNat s4.2) default).Frame/\(List.getD (List.getD x_guests (Int.toNat s2.2) default).Pages (Int.toNat s4.2) default).Frame<((List.length s4.1:Nat):Int)) (some (.go (List.set s4.1 (Int.toNat (List.getD (List.getD x_guests (Int.toNat s2.2) default).Pages (Int.toNat s4.2) default).Frame) (w64 ((List.getD s4.1 (Int.toNat (List.getD (List.getD x_guests (Int.toNat s2.2) default).Pages (Int.toNat s4.2) default).Frame) default)+(1:Int))))))))
   (some (.go s4.1)))) λj5=>
   JO.run j5 (pQ s4))
  (some (.ret (.go s4.1)))
noncomputable def gJ (x_guests:List DGuest)(s2:(List Int)×Int):Option (LO ((List Int)×Int) (JO (List Int) (List Int))):=
 cond (decide (s2.2<((List.length x_guests:Nat):Int)))
  (Option.bind (grd ((0:Int)<=s2.2/\s2.2<((List.length x_guests:Nat):Int)) (Option.bind (iter (eO x_guests s2) (s2.1,(0:Int))) LO.val)) λj3=>
   JO.run j3 (pI s2))
  (some (.ret (.go s2.1)))
noncomputable def jO (x_guests:List DGuest):Option (List Int):=
 Option.bind (Option.bind (iter (gJ x_guests) ((List.replicate (Int.toNat (20:Int)) (0:Int)),(0:Int))) LO.val) λj1=>
  JO.run j1 pD
noncomputable def bLs:Sg tG:=⟨[.row 64],.one (.row 3),jO⟩
theorem bOq:Sok 115 bLs:=sgx [] trivial (.s .o (.s .o (.j ⟨[],[],[(.s 3,.ro 3)]⟩ (.s .o (.k (.l ⟨[9,10],[],[(.s 3,.ro 3),(.s 11,.i .i64)]⟩ (.s .o (.s .o (.j ⟨[9,10,11],[],[(.s 3,.ro 3)]⟩ (.k (.s .o (.s .o (.k (.l ⟨[9,10,11,16,17],[],[(.s 3,.ro 3),(.s 18,.i .i64)]⟩ (.s .o (.s .o (.j ⟨[9,10,11,16,17,18],[],[(.s 3,.ro 3)]⟩ .o .o)))))))) .o)))))) .o))) kr kr kr
noncomputable def uG  (s2:Unit):Option Bool:=some true
noncomputable def lY (s3:Int)(s4:Unit):Option (LO Int (JO Unit Bool)):=some (.next (w64 (s3+(1:Int))))
noncomputable def hY (s5:Int)(s6:Unit):Option (LO Int (JO Unit (LO Int (JO Unit Bool)))):=some (.next (w64 (s5+(1:Int))))
noncomputable def dO (x_guests:List DGuest)(v1:List Int)(s3:Int)(s5:Int):Option (LO Int (JO Unit (LO Int (JO Unit Bool)))):=
 cond (decide (s5<((List.length (List.getD x_guests (Int.toNat s3) default).Pages:Nat):Int)))
  (Option.bind (grd ((0:Int)<=s5/\s5<((List.length (List.getD x_guests (Int.toNat s3) default).Pages:Nat):Int)) (cond (List.getD (List.getD x_guests (Int.toNat s3) default).Pages (Int.toNat s5) default).Write
   (grd ((0:Int)<=(List.getD (List.getD x_guests (Int.toNat s3) default).Pages (Int.toNat s5) default).Frame/\(List.getD (List.getD x_guests (Int.toNat s3) default).Pages (Int.toNat s5) default).Frame<((List.length v1:Nat):Int)) (cond (decide ((1:Int)<(List.getD v1 (Int.toNat (List.getD (List.getD x_guests (Int.toNat s3) default).Pages (Int.toNat s5) default).Frame) default)))
    (some (.out (.ret (.out (.ret (.out false))))))
    (some (.go ()))))
   (some (.go ())))) λj6=>
   JO.run j6 (hY s5))
  (some (.ret (.go ())))
noncomputable def eU (x_guests:List DGuest)(v1:List Int)(s3:Int):Option (LO Int (JO Unit Bool)):=
 cond (decide (s3<((List.length x_guests:Nat):Int)))
  (Option.bind (grd ((0:Int)<=s3/\s3<((List.length x_guests:Nat):Int)) (Option.bind (iter (dO x_guests v1 s3) (0:Int)) LO.val)) λj4=>
   JO.run j4 (lY s3))
  (some (.ret (.go ())))
noncomputable def fV (x_guests:List DGuest):Option Bool:=
 Option.bind (jO x_guests) λv1=>
 Option.bind (Option.bind (iter (eU x_guests v1) (0:Int)) LO.val) λj2=>
  JO.run j2 uG
noncomputable def g87:Sg tG:=⟨[.row 64],.one .b,fV⟩
theorem s87:Sok 87 g87:=sgx [(115,.r bLs)] ⟨bOq,trivial⟩ (.s .o (.s .o (.j ⟨[],[],[]⟩ (.s .o (.k (.l ⟨[3,10,11],[],[(.s 12,.i .i64)]⟩ (.s .o (.s .o (.j ⟨[3,10,11,12],[],[]⟩ (.k (.s .o (.s .o (.k (.l ⟨[3,10,11,12,17,18],[],[(.s 19,.i .i64)]⟩ (.s .o (.s .o (.j ⟨[3,10,11,12,17,18,19],[],[]⟩ .o .o)))))))) .o)))))) .o))) kr kr kr
noncomputable def iV (x_h:DHost):Option Bool:=
 cond (decide (((List.length x_h.Words:Nat):Int)=(160:Int)))
  (Option.bind (iC x_h.Words) λv1=>
  cond v1
   (Option.bind (lW x_h.Guests) λv2=>
   cond v2
    (Option.bind (fV x_h.Guests) λv3=>
    some v3)
    (some false))
   (some false))
  (some false)
noncomputable def g39:Sg tG:=⟨[.st 26],.one .b,iV⟩
theorem s39:Sok 39 g39:=sgx [(85,.r g85),(86,.r g86),(87,.r g87)] ⟨s85,s86,s87,trivial⟩ .o kr kr kr
theorem aLm{x_h:DHost}{R_:Bool}(hh:iV x_h=some R_):Fn Try.prog 39 [.agg (gO x_h)] (.bool R_):=kc (s39 x_h R_ hh)
noncomputable def lJ (x_g:DGuest):Option Bool:=
 cond (decide (((List.length x_g.C.Regs:Nat):Int)=(0:Int)))
  (cond (decide (x_g.C.Pc=(0:Int)))
   (cond (decide (x_g.C.Root=(0:Int)))
    (cond (decide (x_g.C.Vector=(0:Int)))
     (cond (decide (x_g.C.Saved=(0:Int)))
      (cond (!x_g.C.SavedUser)
       (cond (decide (x_g.C.Cause=(0:Int)))
        (cond (decide (x_g.C.Bad=(0:Int)))
         (cond (decide (x_g.C.Timer=(0:Int)))
          (cond (!x_g.C.Waits)
           (cond (!x_g.C.User)
            (cond (!x_g.C.On)
             (cond (!x_g.C.Stopped)
              (cond (decide (((List.length x_g.Pages:Nat):Int)=(0:Int)))
               (cond (decide (((List.length x_g.In:Nat):Int)=(0:Int)))
                (some (decide (((List.length x_g.Out:Nat):Int)=(0:Int))))
                (some false))
               (some false))
              (some false))
             (some false))
            (some false))
           (some false))
          (some false))
         (some false))
        (some false))
       (some false))
      (some false))
     (some false))
    (some false))
   (some false))
  (some false)
noncomputable def g93:Sg tG:=⟨[.st 64],.one .b,lJ⟩
theorem s93:Sok 93 g93:=sgx [] trivial .o kr kr kr
noncomputable def aHq  (s3:Unit):Option Bool:=some true
noncomputable def oV (s4:Int)(s5:Unit):Option (LO Int (JO Unit Bool)):=some (.next (w64 (s4+(1:Int))))
noncomputable def kX (s2:(List Int)×(List Bool))(s4:Int):Option (LO Int (JO Unit Bool)):=
 cond (decide (s4<(20:Int)))
  (Option.bind (grd ((0:Int)<=s4/\s4<((List.length s2.1:Nat):Int)) (cond (decide ((1:Int)<(List.getD s2.1 (Int.toNat s4) default)))
   (grd ((0:Int)<=s4/\s4<((List.length s2.2:Nat):Int)) (cond (List.getD s2.2 (Int.toNat s4) default)
    (some (.out (.ret (.out false))))
    (some (.go ()))))
   (some (.go ())))) λj5=>
   JO.run j5 (oV s4))
  (some (.ret (.go ())))
noncomputable def vH  (s2:(List Int)×(List Bool)):Option Bool:=
 Option.bind (Option.bind (iter (kX s2) (0:Int)) LO.val) λj3=>
  JO.run j3 aHq
noncomputable def oN (s6:(List Int)×(List Bool)×Int)(s7:(List Int)×(List Bool)):Option (LO ((List Int)×(List Bool)×Int) (JO ((List Int)×(List Bool)) Bool)):=some (.next (s7.1,s7.2,w64 (s6.2.2+(1:Int))))
noncomputable def nX (s12:(List Int)×(List Bool)×Int)(s13:(List Bool)×(List Int)):Option (LO ((List Int)×(List Bool)×Int) (JO ((List Int)×(List Bool)) (LO ((List Int)×(List Bool)×Int) (JO ((List Int)×(List Bool)) Bool)))):=some (.next (s13.2,s13.1,w64 (s12.2.2+(1:Int))))
noncomputable def nR (x_h:DHost)(s6:(List Int)×(List Bool)×Int)(s12:(List Int)×(List Bool)×Int)(s14:Unit):Option (JO ((List Bool)×(List Int)) (LO ((List Int)×(List Bool)×Int) (JO ((List Int)×(List Bool)) (LO ((List Int)×(List Bool)×Int) (JO ((List Int)×(List Bool)) Bool))))):=
 cond (decide ((0:Int)<=(List.getD (List.getD x_h.Guests (Int.toNat s6.2.2) default).Pages (Int.toNat s12.2.2) default).Frame))
  (grd ((0:Int)<=(List.getD (List.getD x_h.Guests (Int.toNat s6.2.2) default).Pages (Int.toNat s12.2.2) default).Frame/\(List.getD (List.getD x_h.Guests (Int.toNat s6.2.2) default).Pages (Int.toNat s12.2.2) default).Frame<((List.length s12.1:Nat):Int)) (grd ((0:Int)<=(List.getD (List.getD x_h.Guests (Int.toNat s6.2.2) default).Pages (Int.toNat s12.2.2) default).Frame/\(List.getD (List.getD x_h.Guests (Int.toNat s6.2.2) default).Pages (Int.toNat s12.2.2) default).Frame<((List.length s12.1:Nat):Int)) (grd ((0:Int)<=(List.getD (List.getD x_h.Guests (Int.toNat s6.2.2) default).Pages (Int.toNat s12.2.2) default).Frame/\(List.getD (List.getD x_h.Guests (Int.toNat s6.2.2) default).Pages (Int.toNat s12.2.2) default).Frame<((List.length s12.2.1:Nat):Int)) (cond (List.getD s12.2.1 (Int.toNat (List.getD (List.getD x_h.Guests (Int.toNat s6.2.2) default).Pages (Int.toNat s12.2.2) default).Frame) default)
   (grd ((0:Int)<=(List.getD (List.getD x_h.Guests (Int.toNat s6.2.2) default).Pages (Int.toNat s12.2.2) default).Frame/\(List.getD (List.getD x_h.Guests (Int.toNat s6.2.2) default).Pages (Int.toNat s12.2.2) default).Frame<((List.length s12.2.1:Nat):Int)) (some (.go ((List.set s12.2.1 (Int.toNat (List.getD (List.getD x_h.Guests (Int.toNat s6.2.2) default).Pages (Int.toNat s12.2.2) default).Frame) true),List.set s12.1 (Int.toNat (List.getD (List.getD x_h.Guests (Int.toNat s6.2.2) default).Pages (Int.toNat s12.2.2) default).Frame) (w64 ((List.getD s12.1 (Int.toNat (List.getD (List.getD x_h.Guests (Int.toNat s6.2.2) default).Pages (Int.toNat s12.2.2) default).Frame) default)+(1:Int)))))))
   (grd ((0:Int)<=(List.getD (List.getD x_h.Guests (Int.toNat s6.2.2) default).Pages (Int.toNat s12.2.2) default).Frame/\(List.getD (List.getD x_h.Guests (Int.toNat s6.2.2) default).Pages (Int.toNat s12.2.2) default).Frame<((List.length s12.2.1:Nat):Int)) (some (.go ((List.set s12.2.1 (Int.toNat (List.getD (List.getD x_h.Guests (Int.toNat s6.2.2) default).Pages (Int.toNat s12.2.2) default).Frame) (List.getD (List.getD x_h.Guests (Int.toNat s6.2.2) default).Pages (Int.toNat s12.2.2) default).Write),List.set s12.1 (Int.toNat (List.getD (List.getD x_h.Guests (Int.toNat s6.2.2) default).Pages (Int.toNat s12.2.2) default).Frame) (w64 ((List.getD s12.1 (Int.toNat (List.getD (List.getD x_h.Guests (Int.toNat s6.2.2) default).Pages (Int.toNat s12.2.2) default).Frame) default)+(1:Int)))))))))))
  (some (.go (s12.2.1,s12.1)))
noncomputable def gZ (x_h:DHost)(s6:(List Int)×(List Bool)×Int)(s12:(List Int)×(List Bool)×Int):Option (LO ((List Int)×(List Bool)×Int) (JO ((List Int)×(List Bool)) (LO ((List Int)×(List Bool)×Int) (JO ((List Int)×(List Bool)) Bool)))):=
 cond (decide (s12.2.2<((List.length (List.getD x_h.Guests (Int.toNat s6.2.2) default).Pages:Nat):Int)))
  (Option.bind (grd ((0:Int)<=s12.2.2/\s12.2.2<((List.length (List.getD x_h.Guests (Int.toNat s6.2.2) default).Pages:Nat):Int)) (Option.bind (Option.bind (cE (List.getD (List.getD x_h.Guests (Int.toNat s6.2.2) default).Pages (Int.toNat s12.2.2) default).Frame (-1:Int) (19:Int)) λv15=>
   cond (!v15)
    (some (.out (.out (.ret (.out (.ret (.out false)))))))
    (cond (decide ((List.getD (List.getD x_h.Guests (Int.toNat s6.2.2) default).Pages (Int.toNat s12.2.2) default).Frame=(-1:Int)))
     (cond (List.getD (List.getD x_h.Guests (Int.toNat s6.2.2) default).Pages (Int.toNat s12.2.2) default).Write
      (some (.out (.out (.ret (.out (.ret (.out false)))))))
      (cond (List.getD (List.getD x_h.Guests (Int.toNat s6.2.2) default).Pages (Int.toNat s12.2.2) default).Dirty
       (some (.out (.out (.ret (.out (.ret (.out false)))))))
       (some (.go ()))))
     (some (.go ())))) λj14=>
   JO.run j14 (nR x_h s6 s12))) λj13=>
   JO.run j13 (nX s12))
  (some (.ret (.go (s12.1,s12.2.1))))
noncomputable def iI (x_h:DHost)(s6:(List Int)×(List Bool)×Int):Option (LO ((List Int)×(List Bool)×Int) (JO ((List Int)×(List Bool)) Bool)):=
 cond (decide (s6.2.2<((List.length x_h.Guests:Nat):Int)))
  (Option.bind (grd ((0:Int)<=s6.2.2/\s6.2.2<((List.length x_h.Guests:Nat):Int)) (cond (!(List.getD x_h.Guests (Int.toNat s6.2.2) default).Live)
   (Option.bind (lJ (DGuest.mk (List.getD x_h.Guests (Int.toNat s6.2.2) default).Live (DCore.mk ((List.getD x_h.Guests (Int.toNat s6.2.2) default).C).Regs ((List.getD x_h.Guests (Int.toNat s6.2.2) default).C).Pc ((List.getD x_h.Guests (Int.toNat s6.2.2) default).C).Root ((List.getD x_h.Guests (Int.toNat s6.2.2) default).C).Vector ((List.getD x_h.Guests (Int.toNat s6.2.2) default).C).Saved ((List.getD x_h.Guests (Int.toNat s6.2.2) default).C).SavedUser ((List.getD x_h.Guests (Int.toNat s6.2.2) default).C).Cause ((List.getD x_h.Guests (Int.toNat s6.2.2) default).C).Bad ((List.getD x_h.Guests (Int.toNat s6.2.2) default).C).Timer ((List.getD x_h.Guests (Int.toNat s6.2.2) default).C).Waits ((List.getD x_h.Guests (Int.toNat s6.2.2) default).C).User ((List.getD x_h.Guests (Int.toNat s6.2.2) default).C).On ((List.getD x_h.Guests (Int.toNat s6.2.2) default).C).Stopped) (List.getD x_h.Guests (Int.toNat s6.2.2) default).Pages (List.getD x_h.Guests (Int.toNat s6.2.2) default).In (List.getD x_h.Guests (Int.toNat s6.2.2) default).Out)) λv8=>
   cond (!v8)
    (some (.out (.ret (.out false))))
    (some (.go (s6.1,s6.2.1))))
   (Option.bind (iZ (DCore.mk ((List.getD x_h.Guests (Int.toNat s6.2.2) default).C).Regs ((List.getD x_h.Guests (Int.toNat s6.2.2) default).C).Pc ((List.getD x_h.Guests (Int.toNat s6.2.2) default).C).Root ((List.getD x_h.Guests (Int.toNat s6.2.2) default).C).Vector ((List.getD x_h.Guests (Int.toNat s6.2.2) default).C).Saved ((List.getD x_h.Guests (Int.toNat s6.2.2) default).C).SavedUser ((List.getD x_h.Guests (Int.toNat s6.2.2) default).C).Cause ((List.getD x_h.Guests (Int.toNat s6.2.2) default).C).Bad ((List.getD x_h.Guests (Int.toNat s6.2.2) default).C).Timer ((List.getD x_h.Guests (Int.toNat s6.2.2) default).C).Waits ((List.getD x_h.Guests (Int.toNat s6.2.2) default).C).User ((List.getD x_h.Guests (Int.toNat s6.2.2) default).C).On ((List.getD x_h.Guests (Int.toNat s6.2.2) default).C).Stopped)) λv9=>
   cond (!v9)
    (some (.out (.ret (.out false))))
    (cond (!decide (((List.length (List.getD x_h.Guests (Int.toNat s6.2.2) default).Pages:Nat):Int)=(8:Int)))
     (some (.out (.ret (.out false))))
     (Option.bind (dD (List.getD x_h.Guests (Int.toNat s6.2.2) default).In (30:Int)) λv10=>
     cond (!v10)
      (some (.out (.ret (.out false))))
      (Option.bind (dD (List.getD x_h.Guests (Int.toNat s6.2.2) default).Out (30:Int)) λv11=>
      cond (!v11)
       (some (.out (.ret (.out false))))
       (Option.bind (iter (gZ x_h s6) (s6.1,s6.2.1,(0:Int))) LO.val))))))) λj7=>
   JO.run j7 (oN s6))
  (some (.ret (.go (s6.1,s6.2.1))))
noncomputable def gS (x_h:DHost):Option Bool:=
 Option.bind (dD x_h.Words (160:Int)) λv1=>
 cond (!v1)
  (some false)
  (cond (!decide (((List.length x_h.Words:Nat):Int)=(160:Int)))
   (some false)
   (cond (!decide (((List.length x_h.Guests:Nat):Int)=(3:Int)))
    (some false)
    (Option.bind (Option.bind (iter (iI x_h) ((List.replicate (Int.toNat (20:Int)) (0:Int)),List.replicate (Int.toNat (20:Int)) false,(0:Int))) LO.val) λj2=>
     JO.run j2 vH)))
noncomputable def g48:Sg tG:=⟨[.st 26],.one .b,gS⟩
theorem s48:Sok 48 g48:=sgx [(92,.r g92),(93,.r g93),(94,.r g94),(79,.r g79)] ⟨s92,s93,s94,s79,trivial⟩ (.s .o (.s .o (.s .o (.s .o (.j ⟨[],[],[(.s 3,.ro 3),(.s 4,.ro 4)]⟩ (.s .o (.k (.l ⟨[1],[],[(.s 3,.ro 3),(.s 4,.ro 4),(.s 5,.i .i64)]⟩ (.s .o (.j ⟨[1,5],[],[(.s 3,.ro 3),(.s 4,.ro 4)]⟩ (.k (.s .o (.s .o (.s .o (.s .o (.k (.l ⟨[1,5,6],[],[(.s 3,.ro 3),(.s 4,.ro 4),(.s 7,.i .i64)]⟩ (.s .o (.j ⟨[1,5,6,7],[],[(.s 4,.ro 4),(.s 3,.ro 3)]⟩ (.k (.s .o (.j ⟨[1,3,4,5,6,7,8],[],[]⟩ .o .o))) .o))))))))) .o))))) (.j ⟨[],[],[]⟩ (.s .o (.k (.l ⟨[3,4],[],[(.s 9,.i .i64)]⟩ (.s .o (.j ⟨[3,4,9],[],[]⟩ .o .o))))) .o)))))) kr kr kr
noncomputable def vI  (s1:List Int):Option (List Int):=some s1
noncomputable def vM (s2:(List Int)×Int)(s3:List Int):Option (LO ((List Int)×Int) (JO (List Int) (List Int))):=some (.next (s3,w64 (s2.2+(1:Int))))
noncomputable def oR (s4:(List Int)×Int)(s5:List Int):Option (LO ((List Int)×Int) (JO (List Int) (LO ((List Int)×Int) (JO (List Int) (List Int))))):=some (.next (s5,w64 (s4.2+(1:Int))))
noncomputable def iJ (x_h:DHost)(s2:(List Int)×Int)(s4:(List Int)×Int):Option (LO ((List Int)×Int) (JO (List Int) (LO ((List Int)×Int) (JO (List Int) (List Int))))):=
 grd ((0:Int)<=s2.2/\s2.2<((List.length x_h.Guests:Nat):Int)) (cond (decide (s4.2<((List.length (List.getD x_h.Guests (Int.toNat s2.2) default).Pages:Nat):Int)))
  (Option.bind (grd ((0:Int)<=s2.2/\s2.2<((List.length x_h.Guests:Nat):Int)) (grd ((0:Int)<=s4.2/\s4.2<((List.length (List.getD x_h.Guests (Int.toNat s2.2) default).Pages:Nat):Int)) (cond (decide ((0:Int)<=(List.getD (List.getD x_h.Guests (Int.toNat s2.2) default).Pages (Int.toNat s4.2) default).Frame))
   (grd ((0:Int)<=(List.getD (List.getD x_h.Guests (Int.toNat s2.2) default).Pages (Int.toNat s4.2) default).Frame/\(List.getD (List.getD x_h.Guests (Int.toNat s2.2) default).Pages (Int.toNat s4.2) default).Frame<((List.length s4.1:Nat):Int)) (grd ((0:Int)<=(List.getD (List.getD x_h.Guests (Int.toNat s2.2) default).Pages (Int.toNat s4.2) default).Frame/\(List.getD (List.getD x_h.Guests (Int.toNat s2.2) default).Pages (Int.toNat s4.2) default).Frame<((List.length s4.1:Nat):Int)) (some (.go (List.set s4.1 (Int.toNat (List.getD (List.getD x_h.Guests (Int.toNat s2.2) default).Pages (Int.toNat s4.2) default).Frame) (w64 ((List.getD s4.1 (Int.toNat (List.getD (List.getD x_h.Guests (Int.toNat s2.2) default).Pages (Int.toNat s4.2) default).Frame) default)+(1:Int))))))))
   (some (.go s4.1))))) λj5=>
   JO.run j5 (oR s4))
  (some (.ret (.go s4.1))))
noncomputable def kV (x_h:DHost)(s2:(List Int)×Int):Option (LO ((List Int)×Int) (JO (List Int) (List Int))):=
 cond (decide (s2.2<((List.length x_h.Guests:Nat):Int)))
  (Option.bind (Option.bind (iter (iJ x_h s2) (s2.1,(0:Int))) LO.val) λj3=>
   JO.run j3 (vM s2))
  (some (.ret (.go s2.1)))
noncomputable def lI (x_h:DHost):Option (List Int):=
 Option.bind (Option.bind (iter (kV x_h) ((List.replicate (Int.toNat (20:Int)) (0:Int)),(0:Int))) LO.val) λj1=>
  JO.run j1 vI
noncomputable def bLc:Sg tG:=⟨[.st 26],.one (.row 3),lI⟩
theorem bNz:Sok 134 bLc:=sgx [] trivial (.s .o (.s .o (.j ⟨[],[],[(.s 3,.ro 3)]⟩ (.s .o (.k (.l ⟨[1],[],[(.s 3,.ro 3),(.s 4,.i .i64)]⟩ (.s .o (.j ⟨[1,4],[],[(.s 3,.ro 3)]⟩ (.k (.s .o (.k (.l ⟨[1,4],[],[(.s 3,.ro 3),(.s 5,.i .i64)]⟩ (.s .o (.j ⟨[1,4,5],[],[(.s 3,.ro 3)]⟩ .o .o)))))) .o))))) .o))) kr kr kr
noncomputable def aCc  (s3:List Int):Option (List Int):=some s3
noncomputable def sE (s4:(List Int)×Int)(s5:List Int):Option (LO ((List Int)×Int) (JO (List Int) (List Int))):=some (.next (s5,w64 (s4.2+(1:Int))))
noncomputable def jP (v2:List Int)(s4:(List Int)×Int):Option (LO ((List Int)×Int) (JO (List Int) (List Int))):=
 cond (decide (s4.2<(20:Int)))
  (Option.bind (grd ((0:Int)<=s4.2/\s4.2<((List.length v2:Nat):Int)) (cond (decide ((List.getD v2 (Int.toNat s4.2) default)=(0:Int)))
   (grd ((List.length s4.1+List.length ([s4.2]:List Int))*8<=2^47/\List.length s4.1+List.length ([s4.2]:List Int)<=2^47) (some (.go (s4.1++([s4.2]:List Int)))))
   (some (.go s4.1)))) λj5=>
   JO.run j5 (sE s4))
  (some (.ret (.go s4.1)))
noncomputable def lU (x_h:DHost):Option (List Int):=
 Option.bind (gS x_h) λv1=>
 cond (!v1)
  (some ([]:List Int))
  (Option.bind (lI x_h) λv2=>
  Option.bind (Option.bind (iter (jP v2) (([]:List Int),(0:Int))) LO.val) λj3=>
   JO.run j3 aCc)
noncomputable def bKn:Sg tG:=⟨[.st 26],.one (.row 3),lU⟩
theorem bOs:Sok 113 bKn:=sgx [(48,.r g48),(134,.r bLc)] ⟨s48,bNz,trivial⟩ (.s .o (.s .o (.s .o (.s .o (.j ⟨[],[],[(.s 3,.ro 3)]⟩ (.s .o (.k (.l ⟨[4],[],[(.s 3,.ro 3),(.s 5,.i .i64)]⟩ (.s .o (.j ⟨[4,5],[],[(.s 3,.ro 3)]⟩ .o .o))))) .o))))) kr kr kr
noncomputable def dA (x_list:List Int):Option (List Int):=grd ((0:Int)<=((List.length x_list:Nat):Int)/\((List.length x_list:Nat):Int)*8<=2^47/\((List.length x_list:Nat):Int)<=2^47) (some (over (List.replicate (Int.toNat ((List.length x_list:Nat):Int)) (0:Int)) 0 (List.length (List.replicate (Int.toNat ((List.length x_list:Nat):Int)) (0:Int))) x_list))
noncomputable def g88:Sg tG:=⟨[.row 3],.one (.row 3),dA⟩
theorem s88:Sok 88 g88:=sgx [] trivial .o kr kr kr
noncomputable def lH (x_c:DCore):Option DCore:=grd ((List.length ([]:List Int)+List.length x_c.Regs)*8<=2^47/\List.length ([]:List Int)+List.length x_c.Regs<=2^47) (some (DCore.mk (([]:List Int)++x_c.Regs) x_c.Pc x_c.Root x_c.Vector x_c.Saved x_c.SavedUser x_c.Cause x_c.Bad x_c.Timer x_c.Waits x_c.User x_c.On x_c.Stopped))
noncomputable def g95:Sg tG:=⟨[.st 61],.one (.st 61),lH⟩
theorem s95:Sok 95 g95:=sgx [] trivial .o kr kr kr
noncomputable def mZ (x_guests:List DGuest)(x_g:Int):Option Bool:=
 cond (decide ((0:Int)<=x_g))
  (cond (decide (x_g<(3:Int)))
   (grd ((0:Int)<=x_g/\x_g<((List.length x_guests:Nat):Int)) (some (List.getD x_guests (Int.toNat x_g) default).Live))
   (some false))
  (some false)
noncomputable def g76:Sg tG:=⟨[.row 64,.i .i64],.one .b,mZ⟩
theorem s76:Sok 76 g76:=sgx [] trivial .o kr kr kr
noncomputable def eD (x_h:DHost)(x_g:Int):Option Bool:=
 Option.bind (iV x_h) λv1=>
 cond v1
  (Option.bind (mZ x_h.Guests x_g) λv2=>
  some v2)
  (some false)
noncomputable def g31:Sg tG:=⟨[.st 26,.i .i64],.one .b,eD⟩
theorem s31:Sok 31 g31:=sgx [(39,.r g39),(76,.r g76)] ⟨s39,s76,trivial⟩ .o kr kr kr
theorem aHe{x_h:DHost}{x_g:Int}{R_:Bool}(hh:eD x_h x_g=some R_):Fn Try.prog 31 [.agg (gO x_h),.int .i64 x_g] (.bool R_):=kc (s31 x_h x_g R_ hh)
noncomputable def iY (x_h:DHost)(x_g:Int):Option Bool:=
 Option.bind (gS x_h) λv1=>
 cond v1
  (Option.bind (cE x_g (0:Int) (2:Int)) λv2=>
  cond v2
   (grd ((0:Int)<=x_g/\x_g<((List.length x_h.Guests:Nat):Int)) (some (List.getD x_h.Guests (Int.toNat x_g) default).Live))
   (some false))
  (some false)
noncomputable def g33:Sg tG:=⟨[.st 26,.i .i64],.one .b,iY⟩
theorem s33:Sok 33 g33:=sgx [(48,.r g48),(79,.r g79)] ⟨s48,s79,trivial⟩ .o kr kr kr
noncomputable def hC (x_b:DBare):Option DBare:=
 Option.bind (dA x_b.C.Regs) λv1=>
 Option.bind (dA x_b.Mem) λv2=>
 Option.bind (dA x_b.In) λv3=>
 Option.bind (dA x_b.Out) λv4=>
 some (DBare.mk (DCore.mk v1 x_b.C.Pc x_b.C.Root x_b.C.Vector x_b.C.Saved x_b.C.SavedUser x_b.C.Cause x_b.C.Bad x_b.C.Timer x_b.C.Waits x_b.C.User x_b.C.On x_b.C.Stopped) v2 v3 v4)
noncomputable def g91:Sg tG:=⟨[.st 81],.one (.st 81),hC⟩
theorem s91:Sok 91 g91:=sgx [(88,.r g88)] ⟨s88,trivial⟩ .o kr kr kr
theorem aIa:LW 108 ⟨12,[.tmp 4],.seq (.reg false (rg 108 0)) (.seq (.reg false (rg 108 1)) .ret)⟩:=kr
noncomputable def jA (x_words:List Int)(x_page:Int):Option (List Int):=grd ((0:Int)<=(w64 (x_page*(8:Int)))/\(w64 (x_page*(8:Int)))<=(w64 ((w64 (x_page+(1:Int)))*(8:Int)))/\(w64 ((w64 (x_page+(1:Int)))*(8:Int)))<=((List.length x_words:Nat):Int)) (some (List.take (Int.toNat (w64 ((w64 (x_page+(1:Int)))*(8:Int)))-Int.toNat (w64 (x_page*(8:Int)))) (List.drop (Int.toNat (w64 (x_page*(8:Int)))) x_words)))
noncomputable def bKi:Sg tG:=⟨[.row 3,.i .i64],.one (.rb 3),jA⟩
theorem bJy:Sok 108 bKi:=sgx [] trivial .o kr kr kr
theorem aLq{x_words:List Int}{x_page:Int}{R_:(List Int)}(hh:jA x_words x_page=some R_):Fn Try.prog 108 [bo (eI .i64) x_words,.int .i64 x_page] (bo (eI .i64) R_):=kc (bJy x_words x_page R_ hh)
noncomputable def jM (x_words:List Int)(x_page:Int):Option ((List Int)×(Nat×Nat)):=grd ((0:Int)<=(w64 (x_page*(8:Int)))/\(w64 (x_page*(8:Int)))<=(w64 ((w64 (x_page+(1:Int)))*(8:Int)))/\(w64 ((w64 (x_page+(1:Int)))*(8:Int)))<=((List.length x_words:Nat):Int)) (some (x_words,((Int.toNat (w64 (x_page*(8:Int)))),(Int.toNat (w64 ((w64 (x_page+(1:Int)))*(8:Int)))-Int.toNat (w64 (x_page*(8:Int)))))))
theorem aHa{x_words:List Int}{x_page:Int}{R_:(List Int)×(Nat×Nat)}(hh:jM x_words x_page=some R_):Inl Try.prog 108 [.sref 0 [] 0 (List.length x_words) 1,.int .i64 x_page] [(0,some (rI_3 x_words))] 1 (.sref 0 [] (0+R_.2.1*1) R_.2.2 1) [(0,some (rI_3 R_.1))] 1:=by unfold jM at hh;let q1:Root:=(rI_3 x_words);refine Inl.start aIa [0,1] [0] (E:=sp 12 [(0,sw 0 x_words),(1,ii x_page)]) (H1:=[(0,some q1)]) kr kr (sy [0,1] [0] (sp 12 [(0,sw 0 x_words),(1,ii x_page)]) [(0,some q1)] 1 (Aw.sreg [4] [0] (yu 6 [(5,sw 0 x_words),(6,ii x_page),(7,ii (w64 (x_page*(8:Int)))),(8,ii x_page),(9,ii (w64 (x_page+(1:Int)))),(10,ii (w64 ((w64 (x_page+(1:Int)))*(8:Int))))] [(0,some q1)] 1 ?_)));obtain⟨hg2,hh⟩:=bW hh;refine ys (.slc 1 (.t 5) (some (.t 7)) (some (.t 10))) (some 11) (aPp (r:=0) (π:=[]) (o:=0) (k:=(List.length x_words)) (sz:=1) (l:=(w64 (x_page*(8:Int)))) (h:=(w64 ((w64 (x_page+(1:Int)))*(8:Int)))) kr kr kr hg2 ?_);refine yt (sp 12 [(4,.sref 0 [] (0+Int.toNat (w64 (x_page*(8:Int)))*1) (Int.toNat (w64 ((w64 (x_page+(1:Int)))*(8:Int)))-Int.toNat (w64 (x_page*(8:Int)))) 1)]) [(0,some q1)] 1 (Aw.ret ?_);rw[dE hh];exact tZ (r':= .sref 0 [] (0+Int.toNat (w64 (x_page*(8:Int)))*1) (Int.toNat (w64 ((w64 (x_page+(1:Int)))*(8:Int)))-Int.toNat (w64 (x_page*(8:Int)))) 1) kr (el [some 0] (oA yD) (hn bU eQ))
theorem aGe:LW 118 ⟨29,[.tmp 4],.seq (.reg false (rg 118 0)) (.seq (.reg false (rg 118 1)) (.seq (.seq (.reg false (rg 118 2)) (.block 0 (.loop (.seq (.reg false (rg 118 3)) (.seq (.cond (.t 12) .skip (.exit 0)) (.seq (.block 1 (.seq (.reg false (rg 118 4)) (.seq (.reg false (rg 118 5)) (.cond (.t 18) (.regd (rg 118 6) (rg 118 7)) .skip)))) (.reg false (rg 118 8)))))))) (.seq (.reg false (rg 118 10)) .ret)))⟩:=kr
noncomputable def jX  (s1:List Int):Option (List Int):=some s1
noncomputable def gW (s2:(List Int)×Int)(s3:List Int):Option (LO ((List Int)×Int) (JO (List Int) (List Int))):=some (.next (s3,w64 (s2.2+(1:Int))))
noncomputable def hG (x_words:List Int)(x_pages:List DSlot)(s2:(List Int)×Int):Option (LO ((List Int)×Int) (JO (List Int) (List Int))):=
 cond (decide (s2.2<((List.length x_pages:Nat):Int)))
  (Option.bind (grd ((0:Int)<=s2.2/\s2.2<((List.length x_pages:Nat):Int)) (cond (!decide ((List.getD x_pages (Int.toNat s2.2) default).Frame=(-1:Int)))
   (Option.bind (jM s2.1 s2.2) λv4=>
   grd (List.length v4.1=(List.length s2.1)) (grd (v4.2.1+v4.2.2<=List.length v4.1) (Option.bind (jA x_words (List.getD x_pages (Int.toNat s2.2) default).Frame) λv5=>
    some (.go (over v4.1 v4.2.1 v4.2.2 v5)))))
   (some (.go s2.1)))) λj3=>
   JO.run j3 (gW s2))
  (some (.ret (.go s2.1)))
noncomputable def iA (x_words:List Int)(x_pages:List DSlot):Option (List Int):=
 Option.bind (Option.bind (iter (hG x_words x_pages) ((List.replicate (Int.toNat (64:Int)) (0:Int)),(0:Int))) LO.val) λj1=>
  JO.run j1 jX
theorem aJw{x_words:List Int}{x_pages:List DSlot}{R_:(List Int)}(hh:iA x_words x_pages=some R_):Fn Try.prog 118 [bo (eI .i64) x_words,bo eW x_pages] (.own 3 1 (List.length R_) (fl (eI .i64) R_)):=by let z2:=(0,bo (eI .i64) x_words);let z3:=(1,bo eW x_pages);let z4:=(10,ii ((List.length x_pages:Nat):Int));let z5:EV:=(5,.sref 0 [] 0 (List.length (List.replicate (Int.toNat (64:Int)) (0:Int))) 1);let z6:=(9,bo eW x_pages);unfold iA at hh;refine Fn.start aGe [0,1] (E:=sp 29 [z2,z3]) kr (v:=sw 0 R_) (Hr:=[(0,some (rI_3 R_))]) (k:=1) kr (sy [0,1] [] (sp 29 [z2,z3]) [] 0 (Aw.sreg [0,1,5] [0] (ys (.mk 3 1 8 [ii 0] (.c (ii 64))) (some 8) (aNp (c:=(eI .i64)) (d:=(0:Int)) (k:=(64:Int)) kr dd kr ?_))));let q1:Root:=(rI_3 (List.replicate (Int.toNat (64:Int)) (0:Int)));refine yt (sp 29 [z2,z3,z5]) [(0,some q1)] 1 ?_;obtain⟨j1,hh,hk1⟩:=bind_some hh;refine Aw.join (S:=(List Int)) (λs1=>sp 29 [(5,sw 0 s1)]) (λs1=>[(0,some (rI_3 s1))]) 1 (λs1=>jX s1=some R_) ?_ ?_;{intro s1 hh;unfold jX at hh;refine sy [4] [0] (sp 29 [(4,sw 0 s1)]) [(0,some (rI_3 s1))] 1 (Aw.ret ?_);rw[dE hh];exact tZ (r':=sw 0 s1) kr (Ent.list [some 0] rfl rfl (Nat.zero_le _) (oA yD) (hn bU eQ))};intro Q1 hN1 hR1 hE1;refine sy [0,5,9,10,11] [0] (sp 29 [z2,z5,z6,z4,(11,ii 0)]) [(0,some q1)] 1 (Aw.block ?_);obtain⟨o2,hi2,hk2⟩:=bind_some hh;refine Aw.iter (λ(s2:(List Int)×Int)=>sp 29 [(0,bo (eI .i64) x_words),(5,sw 0 s2.1),(9,bo eW x_pages),(10,ii ((List.length x_pages:Nat):Int)),(11,ii s2.2)]) (λ(s2:(List Int)×Int)=>[(0,some (rI_3 s2.1))]) 1 hi2 (el [some 0] (qW kr (ro bU (rs (.sref 0 [] 0 (List.length (List.replicate (Int.toNat (64:Int)) (0:Int))) 1) (ro kF (ri (ri aHt)))))) (hn bU eQ)) ?_;intro s2 u2 Q2 hh hN2 hX2 hR2;let z7:EH:=(0,some (rI_3 s2.1));let z8:=(11,ii s2.2);let z9:=(12,bb (decide (s2.2<((List.length x_pages:Nat):Int))));let z10:=(5,sw 0 s2.1);let z11:=(6,ii s2.2);let z1:=List.getD x_pages (Int.toNat s2.2) default;let z12:=(18,bb (!decide (z1.Frame=(-1:Int))));unfold hG at hh;refine sy [0,5,9,10,11,12] [0] (sp 29 [z2,z10,z6,z4,z8,z9]) [z7] 1 (Aw.seq ?_);rcases aKv hh with⟨hb,hh⟩|⟨hb,hh⟩;{refine cF hb (Aw.exit (bJu (hX2 _ _ _ _ _ (dE hh) ?_)));intro hout;rw[hout]at hk2;refine bGo ?_;obtain rfl:=dE hk2;exact hN1 s2.1 _ _ _ hk1 (el [some 0] (qW kr (rs (sw 0 s2.1) aHt)) (hn bU eQ))};refine cT hb (Aw.xskip (λ_ _ _ hq=>aRc hq) ?_);obtain⟨j3,hh,hk3⟩:=bind_some hh;refine Aw.join (S:=(List Int)) (λs3=>sp 29 [(0,bo (eI .i64) x_words),(5,sw 0 s3),(9,bo eW x_pages),(10,ii ((List.length x_pages:Nat):Int)),(11,ii s2.2)]) (λs3=>[(0,some (rI_3 s3))]) 1 (λs3=>gW s2 s3=some u2) ?_ ?_;{intro s3 hh;unfold gW at hh;exact Aw.oreg (ye (sp 29 [z2,(5,sw 0 s3),z6,z4,(11,ii (w64 (s2.2+(1:Int)))),(27,ii (w64 (s2.2+(1:Int))))]) [(0,some (rI_3 s3))] 1 (hN2 (s3,w64 (s2.2+(1:Int))) _ _ _ (dE hh) (el [some 0] (qW kr (ro bU (rs (sw 0 s3) (ro kF (ri (ri aHt)))))) (hn bU eQ))))};intro Q3 hN3 hR3 hE3;refine Aw.block (Aw.sreg [0,5,6,7,9,10,11] [0,1] (yj 1  (sp 29 [z2,z10,z6,z4,z8,z9,(13,ii s2.2)]) [z7] 1 ?_));obtain⟨hg104,hh⟩:=bW hh;refine ys (.iadr 3 (.t 9) (.t 11)) (some 14) (aUs (kd:= .i64) (c:=eW) (xs:=x_pages) aAc dd kr kr hg104 ?_);refine ys (.load true 3 (.t 14)) (some 15) (bBj (c:=eW) (xs:=x_pages) (o:=Int.toNat s2.2*3) (i:=(Int.toNat s2.2)) (off:=0) (v:= .agg [ii z1.Frame,bb z1.Write,bb z1.Dirty]) aAc kr ltn ltn dd kr ?_);let q2:Root:=⟨66,[ii z1.Frame,bb z1.Write,bb z1.Dirty]⟩;let z13:=(1,some q2);refine yt (sp 29 [z2,z10,z11,(7,pp 1),z6,z4,z8]) [z7,z13] 2 (sy [0,5,6,7,9,10,11,18] [0,1] (sp 29 [z2,z10,z11,(7,pp 1),z6,z4,z8,z12]) [z7,z13] 2 ?_);rcases aKv hh with⟨hb,hh⟩|⟨hb,hh⟩;{refine cF hb (Aw.skip (aYr ?_));obtain rfl:=dE hh;exact hN3 s2.1 _ _ _ hk3 (el [some 0] (qW kr (ro bU (rs (sw 0 s2.1) (ro kF (ri (ri aHt)))))) (hn bU eQ))};refine cT hb (Aw.oregd [0] kr (dj 2 (sp 29 [z2,z10,z11,(7,pp 1),z6,z4,z8,z12,(19,sw 0 s2.1),(20,ii s2.2)]) [z7,z13] 2 ?_));obtain⟨v4,hv4,hh⟩:=bind_some hh;let z14:EH:=(0,some (rI_3 v4.1));let z15:EV:=(21,.sref 0 [] (0+v4.2.1*1) v4.2.2 1);obtain⟨hg107,hh⟩:=bW hh;obtain⟨hg108,hh⟩:=bW hh;refine ds (.call 108 [.t 19,.t 20]) (some 21) (zK rfl (cf (.sref 0 [] (0+v4.2.1*1) v4.2.2 1) [z14] 2 [0] (aHa hv4) [sw 0 s2.1,ii s2.2] rz (hn bU eQ) yD (hn bU eQ) ⟨⟨⟨by decide,bCg rfl rfl⟩,Hld.un ?_⟩⟩));refine dt (sp 29 [z2,z10,z11,(7,pp 1),z6,z4,z8,z12,(19,sw 0 s2.1),(20,ii s2.2),z15,(22,bo (eI .i64) x_words),(23,pp 1),(24,ii z1.Frame)]) [z14,(0,none),z7,z13] 2 ?_;obtain⟨v5,hv5,hh⟩:=bind_some hh;refine ys (.call 108 [.t 22,.t 24]) (some 25) (aHm (r:=bo (eI .i64) v5) (v:=bo (eI .i64) v5) (Hr:=[]) (n':=2) (aLq hv5) (pV (vs:=[bo (eI .i64) x_words,ii z1.Frame]) kr (iS (aC (rY (bG cV))) (cz1 kW))) nrr kr ?_);let q3:Root:=(rI_3 (over v4.1 v4.2.1 v4.2.2 v5));refine ys (.cpy 1 (.t 21) (.t 25)) (some 26) (aRu (c:=(eI .i64)) (xs:=v4.1) (ys:=v5) (e:=3) (r:=0) (π:=[]) (o:=0+v4.2.1*1) (k:=v4.2.2) (i:=v4.2.1) (H':=[(0,some q3),z14,(0,none),z7,z13]) cK (rpv kr (bAx (c:=(eI .i64)) (xs:=v5) cK)) kr kr ltn ltn kr ?_);refine ye (sp 29 [z2,z10,z11,(7,pp 1),z6,z4,z8,z12,(19,sw 0 s2.1),(20,ii s2.2),z15,(22,bo (eI .i64) x_words),(23,pp 1),(24,ii z1.Frame),(25,bo (eI .i64) v5),(26,ii ((min v4.2.2 (List.length v5):Nat):Int))]) [(0,some q3),z14,(0,none),z7,z13] 2 (aYr ?_);obtain rfl:=dE hh;exact hN3 (over v4.1 v4.2.1 v4.2.2 v5) _ _ _ hk3 (el [some 0] (qW kr (ro bU (rs (sw 0 s2.1) (ro kF (ri (ri aHt)))))) (hn bU eQ))
noncomputable def bKu:Sg tG:=⟨[.row 3,.row 66],.one (.row 3),iA⟩
theorem bOu:Sok 118 bKu:=λx_words x_pages R_ hh=>kc (aJw (x_words:=x_words) (x_pages:=x_pages) hh)
noncomputable def oM (x_h:DHost)(x_g:Int):Option DBare:=
 grd ((0:Int)<=x_g/\x_g<((List.length x_h.Guests:Nat):Int)) (Option.bind (iA x_h.Words (List.getD x_h.Guests (Int.toNat x_g) default).Pages) λv1=>
  some (DBare.mk (DCore.mk ((List.getD x_h.Guests (Int.toNat x_g) default).C).Regs ((List.getD x_h.Guests (Int.toNat x_g) default).C).Pc ((List.getD x_h.Guests (Int.toNat x_g) default).C).Root ((List.getD x_h.Guests (Int.toNat x_g) default).C).Vector ((List.getD x_h.Guests (Int.toNat x_g) default).C).Saved ((List.getD x_h.Guests (Int.toNat x_g) default).C).SavedUser ((List.getD x_h.Guests (Int.toNat x_g) default).C).Cause ((List.getD x_h.Guests (Int.toNat x_g) default).C).Bad ((List.getD x_h.Guests (Int.toNat x_g) default).C).Timer ((List.getD x_h.Guests (Int.toNat x_g) default).C).Waits ((List.getD x_h.Guests (Int.toNat x_g) default).C).User ((List.getD x_h.Guests (Int.toNat x_g) default).C).On ((List.getD x_h.Guests (Int.toNat x_g) default).C).Stopped) v1 (List.getD x_h.Guests (Int.toNat x_g) default).In (List.getD x_h.Guests (Int.toNat x_g) default).Out))
noncomputable def g98:Sg tG:=⟨[.st 26,.i .i64],.one (.sb 81),oM⟩
theorem s98:Sok 98 g98:=sgx [(118,.r bKu)] ⟨bOu,trivial⟩ .o kr kr kr
noncomputable def jK (x_h:DHost)(x_g:Int):Option (DBare×Bool):=
 Option.bind (eD x_h x_g) λv1=>
 cond (!v1)
  (some ((DBare.mk (DCore.mk ([]:List Int) (0:Int) (0:Int) (0:Int) (0:Int) false (0:Int) (0:Int) (0:Int) false false false false) ([]:List Int) ([]:List Int) ([]:List Int)),false))
  (Option.bind (oM x_h x_g) λv2=>
  Option.bind (hC v2) λv3=>
  some (v3,true))
noncomputable def g52:Sg tG:=⟨[.st 26,.i .i64],.two (.st 81) .b,jK⟩
theorem s52:Sok 52 g52:=sgx [(31,.r g31),(98,.r g98),(91,.r g91)] ⟨s31,s98,s91,trivial⟩ .o kr kr kr
noncomputable def aHl  (s1:List Int):Option (List Int):=some s1
noncomputable def aHj (x_a:List Int)(s2:(List Int)×Int):Option (LO ((List Int)×Int) (JO (List Int) (List Int))):=
 cond (decide (s2.2<((List.length x_a:Nat):Int)))
  (grd ((0:Int)<=s2.2/\s2.2<((List.length x_a:Nat):Int)) (grd ((0:Int)<=s2.2/\s2.2<((List.length s2.1:Nat):Int)) (some (.next ((List.set s2.1 (Int.toNat s2.2) (List.getD x_a (Int.toNat s2.2) default)),w64 (s2.2+(1:Int)))))))
  (some (.ret (.go s2.1)))
noncomputable def lC (x_a:List Int):Option (List Int):=
 grd ((0:Int)<=((List.length x_a:Nat):Int)/\((List.length x_a:Nat):Int)*8<=2^47/\((List.length x_a:Nat):Int)<=2^47) (Option.bind (Option.bind (iter (aHj x_a) ((List.replicate (Int.toNat ((List.length x_a:Nat):Int)) (0:Int)),(0:Int))) LO.val) λj1=>
  JO.run j1 aHl)
noncomputable def g59:Sg tG:=⟨[.row 3],.one (.row 3),lC⟩
theorem s59:Sok 59 g59:=sgx [] trivial (.s .o (.s .o (.j ⟨[],[],[(.s 3,.ro 3)]⟩ (.s .o (.k (.l ⟨[0],[],[(.s 3,.ro 3),(.s 4,.i .i64)]⟩ .o))) .o))) kr kr kr
noncomputable def aAt (x_a:DCore):Option DCore:=
 Option.bind (lC x_a.Regs) λv1=>
 some (DCore.mk v1 x_a.Pc x_a.Root x_a.Vector x_a.Saved x_a.SavedUser x_a.Cause x_a.Bad x_a.Timer x_a.Waits x_a.User x_a.On x_a.Stopped)
noncomputable def bKj:Sg tG:=⟨[.st 130],.one (.st 61),aAt⟩
theorem bOa:Sok 121 bKj:=sgx [(59,.r g59)] ⟨s59,trivial⟩ .o kr kr kr
noncomputable def aBx  (s1:Int):Option Int:=some s1
noncomputable def aDa (x_a:List Int)(s2:Int×Int):Option (LO (Int×Int) (JO Int Int)):=
 cond (decide (s2.2<((List.length x_a:Nat):Int)))
  (grd ((0:Int)<=s2.2/\s2.2<((List.length x_a:Nat):Int)) (cond (!decide ((List.getD x_a (Int.toNat s2.2) default)=s2.1))
   (some (.ret (.out (-1:Int))))
   (some (.next ((w64 (s2.1+(1:Int))),w64 (s2.2+(1:Int)))))))
  (some (.ret (.go s2.1)))
noncomputable def jJ (x_a:List Int)(x_k:Int):Option Int:=
 Option.bind (Option.bind (iter (aDa x_a) (x_k,(0:Int))) LO.val) λj1=>
  JO.run j1 aBx
noncomputable def g70:Sg tG:=⟨[.row 3,.i .i64],.one (.i .i64),jJ⟩
theorem s70:Sok 70 g70:=sgx [] trivial (.s .o (.j ⟨[],[],[(.s 1,.i .i64)]⟩ (.s .o (.k (.l ⟨[0],[],[(.s 1,.i .i64),(.s 5,.i .i64)]⟩ .o))) .o)) kr kr kr
noncomputable def gI (x_pages:List DSlot):Option (List DSlot):=grd ((0:Int)<=((List.length x_pages:Nat):Int)/\((List.length x_pages:Nat):Int)*16<=2^47/\((List.length x_pages:Nat):Int)<=2^47) (some (over (List.replicate (Int.toNat ((List.length x_pages:Nat):Int)) (DSlot.mk (0:Int) false false)) 0 (List.length (List.replicate (Int.toNat ((List.length x_pages:Nat):Int)) (DSlot.mk (0:Int) false false))) x_pages))
noncomputable def g90:Sg tG:=⟨[.row 66],.one (.row 66),gI⟩
theorem s90:Sok 90 g90:=sgx [] trivial .o kr kr kr
noncomputable def cQ (x_guest:DGuest):Option DGuest:=
 cond (!x_guest.Live)
  (some (DGuest.mk false (DCore.mk ([]:List Int) (0:Int) (0:Int) (0:Int) (0:Int) false (0:Int) (0:Int) (0:Int) false false false false) ([]:List DSlot) ([]:List Int) ([]:List Int)))
  (Option.bind (dA x_guest.C.Regs) λv1=>
  Option.bind (gI x_guest.Pages) λv2=>
  Option.bind (dA x_guest.In) λv3=>
  Option.bind (dA x_guest.Out) λv4=>
  some (DGuest.mk x_guest.Live (DCore.mk v1 x_guest.C.Pc x_guest.C.Root x_guest.C.Vector x_guest.C.Saved x_guest.C.SavedUser x_guest.C.Cause x_guest.C.Bad x_guest.C.Timer x_guest.C.Waits x_guest.C.User x_guest.C.On x_guest.C.Stopped) v2 v3 v4))
noncomputable def bLb:Sg tG:=⟨[.st 64],.one (.st 64),cQ⟩
theorem bNq:Sok 116 bLb:=sgx [(88,.r g88),(90,.r g90)] ⟨s88,s90,trivial⟩ .o kr kr kr
noncomputable def xB  (s1:List DGuest):Option (List DGuest):=some s1
noncomputable def bV (x_guests:List DGuest)(s2:(List DGuest)×Int):Option (LO ((List DGuest)×Int) (JO (List DGuest) (List DGuest))):=
 cond (decide (s2.2<((List.length x_guests:Nat):Int)))
  (grd ((0:Int)<=s2.2/\s2.2<((List.length x_guests:Nat):Int)) (Option.bind (cQ (DGuest.mk (List.getD x_guests (Int.toNat s2.2) default).Live (DCore.mk ((List.getD x_guests (Int.toNat s2.2) default).C).Regs ((List.getD x_guests (Int.toNat s2.2) default).C).Pc ((List.getD x_guests (Int.toNat s2.2) default).C).Root ((List.getD x_guests (Int.toNat s2.2) default).C).Vector ((List.getD x_guests (Int.toNat s2.2) default).C).Saved ((List.getD x_guests (Int.toNat s2.2) default).C).SavedUser ((List.getD x_guests (Int.toNat s2.2) default).C).Cause ((List.getD x_guests (Int.toNat s2.2) default).C).Bad ((List.getD x_guests (Int.toNat s2.2) default).C).Timer ((List.getD x_guests (Int.toNat s2.2) default).C).Waits ((List.getD x_guests (Int.toNat s2.2) default).C).User ((List.getD x_guests (Int.toNat s2.2) default).C).On ((List.getD x_guests (Int.toNat s2.2) default).C).Stopped) (List.getD x_guests (Int.toNat s2.2) default).Pages (List.getD x_guests (Int.toNat s2.2) default).In (List.getD x_guests (Int.toNat s2.2) default).Out)) λv3=>
   grd ((0:Int)<=s2.2/\s2.2<((List.length s2.1:Nat):Int)) (some (.next ((List.set s2.1 (Int.toNat s2.2) v3),w64 (s2.2+(1:Int)))))))
  (some (.ret (.go s2.1)))
noncomputable def eH (x_guests:List DGuest):Option (List DGuest):=
 grd ((0:Int)<=((List.length x_guests:Nat):Int)/\((List.length x_guests:Nat):Int)*176<=2^47/\((List.length x_guests:Nat):Int)<=2^47) (Option.bind (Option.bind (iter (bV x_guests) ((List.replicate (Int.toNat ((List.length x_guests:Nat):Int)) (DGuest.mk false (DCore.mk ([]:List Int) (0:Int) (0:Int) (0:Int) (0:Int) false (0:Int) (0:Int) (0:Int) false false false false) ([]:List DSlot) ([]:List Int) ([]:List Int))),(0:Int))) LO.val) λj1=>
  JO.run j1 xB)
noncomputable def g89:Sg tG:=⟨[.row 64],.one (.row 1064),eH⟩
theorem s89:Sok 89 g89:=sgx [(116,.r bLb)] ⟨bNq,trivial⟩ (.s .o (.s (.g [] [] [.fo (.s 3) 0]) (.j ⟨[],[],[(.s 3,.ro 1064)]⟩ (.s .o (.k (.l ⟨[9,10],[],[(.s 3,.ro 1064),(.s 11,.i .i64)]⟩ (.s .o (.s .o (.s (.k (.s .o (.g [] [] [.fo (.s 3) 0]))) .o)))))) .o))) kr kr kr
noncomputable def iN (x_guests:List DGuest)(x_g:Int)(x_guest:DGuest):Option (List DGuest):=
 Option.bind (eH x_guests) λv1=>
 grd ((0:Int)<=x_g/\x_g<((List.length v1:Nat):Int)) (some (List.set v1 (Int.toNat x_g) x_guest))
noncomputable def g43:Sw tG:=⟨[.v (.row 64),.v (.i .i64),.os 64],.one (.row 1064),iN⟩
theorem s43:Sjk 43 g43:=sgy [(89,.r g89)] ⟨s89,trivial⟩ (.s .o (.s .o (.s (.g [] [] [.fo (.s 7) 0]) .o))) kr kr kr
theorem aEs{x_guests:List DGuest}{x_g:Int}{x_guest:DGuest}{R_:(List DGuest)}(hh:iN x_guests x_g x_guest=some R_):Inl Try.prog 43 [bo fE x_guests,.int .i64 x_g,.agg [.bool x_guest.Live,.sref 0 [] 0 (List.length x_guest.C.Regs) 1,.int .i64 x_guest.C.Pc,.int .i64 x_guest.C.Root,.int .i64 x_guest.C.Vector,.int .i64 x_guest.C.Saved,.bool x_guest.C.SavedUser,.int .i64 x_guest.C.Cause,.int .i64 x_guest.C.Bad,.int .i64 x_guest.C.Timer,.bool x_guest.C.Waits,.bool x_guest.C.User,.bool x_guest.C.On,.bool x_guest.C.Stopped,.sref 1 [] 0 (List.length x_guest.Pages) 3,.sref 2 [] 0 (List.length x_guest.In) 1,.sref 3 [] 0 (List.length x_guest.Out) 1]] [(3,some (rI_3 x_guest.Out)),(2,some (rI_3 x_guest.In)),(1,some (rC66 x_guest.Pages)),(0,some (rI_3 x_guest.C.Regs))] 4 (.sref 4 [] 0 (List.length R_) 17) [(4,some (rO64 R_))] 5:=kc (s43 x_guests x_g x_guest R_ hh)
noncomputable def fN (x_g:DGuest):Option DGuest:=
 cond (!x_g.Live)
  (some (DGuest.mk false (DCore.mk ([]:List Int) (0:Int) (0:Int) (0:Int) (0:Int) false (0:Int) (0:Int) (0:Int) false false false false) ([]:List DSlot) ([]:List Int) ([]:List Int)))
  (Option.bind (lH x_g.C) λv1=>
  grd (List.length x_g.Pages*16<=2^47/\List.length x_g.Pages<=2^47) (grd (List.length x_g.In*8<=2^47/\List.length x_g.In<=2^47) (grd (List.length x_g.Out*8<=2^47/\List.length x_g.Out<=2^47) (some (DGuest.mk true v1 x_g.Pages x_g.In x_g.Out)))))
noncomputable def g50:Sg tG:=⟨[.st 64],.one (.st 64),fN⟩
theorem s50:Sok 50 g50:=sgx [(95,.r g95)] ⟨s95,trivial⟩ .o kr kr kr
noncomputable def aGf (x_h:DHost)(s1:List DGuest):Option DHost:=some (DHost.mk (([]:List Int)++x_h.Words) s1)
noncomputable def kQ (x_h:DHost)(s2:(List DGuest)×Int):Option (LO ((List DGuest)×Int) (JO (List DGuest) DHost)):=
 cond (decide (s2.2<((List.length x_h.Guests:Nat):Int)))
  (grd ((0:Int)<=s2.2/\s2.2<((List.length x_h.Guests:Nat):Int)) (Option.bind (fN (DGuest.mk (List.getD x_h.Guests (Int.toNat s2.2) default).Live (DCore.mk ((List.getD x_h.Guests (Int.toNat s2.2) default).C).Regs ((List.getD x_h.Guests (Int.toNat s2.2) default).C).Pc ((List.getD x_h.Guests (Int.toNat s2.2) default).C).Root ((List.getD x_h.Guests (Int.toNat s2.2) default).C).Vector ((List.getD x_h.Guests (Int.toNat s2.2) default).C).Saved ((List.getD x_h.Guests (Int.toNat s2.2) default).C).SavedUser ((List.getD x_h.Guests (Int.toNat s2.2) default).C).Cause ((List.getD x_h.Guests (Int.toNat s2.2) default).C).Bad ((List.getD x_h.Guests (Int.toNat s2.2) default).C).Timer ((List.getD x_h.Guests (Int.toNat s2.2) default).C).Waits ((List.getD x_h.Guests (Int.toNat s2.2) default).C).User ((List.getD x_h.Guests (Int.toNat s2.2) default).C).On ((List.getD x_h.Guests (Int.toNat s2.2) default).C).Stopped) (List.getD x_h.Guests (Int.toNat s2.2) default).Pages (List.getD x_h.Guests (Int.toNat s2.2) default).In (List.getD x_h.Guests (Int.toNat s2.2) default).Out)) λv3=>
   grd ((List.length s2.1+1)*176<=2^47/\List.length s2.1+1<=2^47) (some (.next ((s2.1++([v3]:List DGuest)),w64 (s2.2+(1:Int)))))))
  (some (.ret (.go s2.1)))
noncomputable def iW (x_h:DHost):Option DHost:=
 grd ((List.length ([]:List Int)+List.length x_h.Words)*8<=2^47/\List.length ([]:List Int)+List.length x_h.Words<=2^47) (Option.bind (Option.bind (iter (kQ x_h) (([]:List DGuest),(0:Int))) LO.val) λj1=>
  JO.run j1 (aGf x_h))
noncomputable def g49:Sg tG:=⟨[.st 26],.one (.st 2026),iW⟩
theorem s49:Sok 49 g49:=sgx [(50,.r g50)] ⟨s50,trivial⟩ (.s .o (.s .o (.j ⟨[2,3],[],[(.c 3 1,.ro 1064)]⟩ (.s .o (.k (.l ⟨[1,2,3],[],[(.c 3 1,.ro 1064),(.s 4,.i .i64)]⟩ (.s .o (.s (.k (.g [] [] [.fo (.c 3 1) 0])) .o))))) .o))) kr kr kr
noncomputable def sD (x_b:DBare)(v3:DHost)(s4:Int)(v6:DCore)(s7:(List Int)×(List DSlot)):Option (DHost×Int×Bool):=
 cond (decide (s4<(0:Int)))
  (some ((DHost.mk ([]:List Int) ([]:List DGuest)),(-1:Int),false))
  (grd ((0:Int)<=s4/\s4<((List.length v3.Guests:Nat):Int)) (some ((DHost.mk s7.1 (List.set v3.Guests (Int.toNat s4) (DGuest.mk true v6 s7.2 x_b.In x_b.Out))),s4,true)))
noncomputable def mD (s8:(List Int)×(List Int)×(List DSlot)×Int)(s9:(List Int)×(List Int)×(List DSlot)):Option (LO ((List Int)×(List Int)×(List DSlot)×Int) (JO ((List Int)×(List DSlot)) (DHost×Int×Bool))):=some (.next (s9.1,s9.2.1,s9.2.2,w64 (s8.2.2.2+(1:Int))))
noncomputable def qO (x_b:DBare)(s8:(List Int)×(List Int)×(List DSlot)×Int)(s10:Bool):Option (JO ((List Int)×(List Int)×(List DSlot)) (LO ((List Int)×(List Int)×(List DSlot)×Int) (JO ((List Int)×(List DSlot)) (DHost×Int×Bool)))):=
 cond s10
  (grd ((List.length s8.2.2.1+List.length ([DSlot.mk (-1:Int) false false]:List DSlot))*16<=2^47/\List.length s8.2.2.1+List.length ([DSlot.mk (-1:Int) false false]:List DSlot)<=2^47) (some (.go (s8.1,s8.2.1,s8.2.2.1++([DSlot.mk (-1:Int) false false]:List DSlot)))))
  (cond (decide (((List.length s8.2.1:Nat):Int)=(0:Int)))
   (some (.out (.ret (.out ((DHost.mk ([]:List Int) ([]:List DGuest)),(-1:Int),false)))))
   (grd ((0:Int)<=(0:Int)/\(0:Int)<((List.length s8.2.1:Nat):Int)) (grd ((0:Int)<=(w64 ((List.getD s8.2.1 (Int.toNat (0:Int)) default)*(8:Int)))/\(w64 ((List.getD s8.2.1 (Int.toNat (0:Int)) default)*(8:Int)))<=((List.length s8.1:Nat):Int)/\((List.length s8.1:Nat):Int)<=((List.length s8.1:Nat):Int)) (grd ((0:Int)<=(0:Int)/\(0:Int)<((List.length s8.2.1:Nat):Int)) (grd ((List.length s8.2.2.1+List.length ([DSlot.mk (List.getD s8.2.1 (Int.toNat (0:Int)) default) true false]:List DSlot))*16<=2^47/\List.length s8.2.2.1+List.length ([DSlot.mk (List.getD s8.2.1 (Int.toNat (0:Int)) default) true false]:List DSlot)<=2^47) (grd ((0:Int)<=(1:Int)/\(1:Int)<=((List.length s8.2.1:Nat):Int)/\((List.length s8.2.1:Nat):Int)<=((List.length s8.2.1:Nat):Int)) (some (.go ((over s8.1 (Int.toNat (w64 ((List.getD s8.2.1 (Int.toNat (0:Int)) default)*(8:Int)))) (Int.toNat ((List.length s8.1:Nat):Int)-Int.toNat (w64 ((List.getD s8.2.1 (Int.toNat (0:Int)) default)*(8:Int)))) (List.take (Int.toNat (w64 ((w64 (s8.2.2.2+(1:Int)))*(8:Int)))-Int.toNat (w64 (s8.2.2.2*(8:Int)))) (List.drop (Int.toNat (w64 (s8.2.2.2*(8:Int)))) x_b.Mem))),List.take (Int.toNat ((List.length s8.2.1:Nat):Int)-Int.toNat (1:Int)) (List.drop (Int.toNat (1:Int)) s8.2.1),s8.2.2.1++([DSlot.mk (List.getD s8.2.1 (Int.toNat (0:Int)) default) true false]:List DSlot))))))))))
noncomputable def lP (s11:Bool×Int)(s12:Bool):Option (LO (Bool×Int) (JO Bool (JO ((List Int)×(List Int)×(List DSlot)) (LO ((List Int)×(List Int)×(List DSlot)×Int) (JO ((List Int)×(List DSlot)) (DHost×Int×Bool)))))):=some (.next (s12,w64 (s11.2+(1:Int))))
noncomputable def fK (x_b:DBare)(s8:(List Int)×(List Int)×(List DSlot)×Int)(s11:Bool×Int):Option (LO (Bool×Int) (JO Bool (JO ((List Int)×(List Int)×(List DSlot)) (LO ((List Int)×(List Int)×(List DSlot)×Int) (JO ((List Int)×(List DSlot)) (DHost×Int×Bool)))))):=
 cond (decide (s11.2<(8:Int)))
  (Option.bind (cond s11.1
   (grd ((0:Int)<=s11.2/\s11.2<((List.length (List.take (Int.toNat (w64 ((w64 (s8.2.2.2+(1:Int)))*(8:Int)))-Int.toNat (w64 (s8.2.2.2*(8:Int)))) (List.drop (Int.toNat (w64 (s8.2.2.2*(8:Int)))) x_b.Mem)):Nat):Int)) (some (.go (decide ((List.getD (List.take (Int.toNat (w64 ((w64 (s8.2.2.2+(1:Int)))*(8:Int)))-Int.toNat (w64 (s8.2.2.2*(8:Int)))) (List.drop (Int.toNat (w64 (s8.2.2.2*(8:Int)))) x_b.Mem)) (Int.toNat s11.2) default)=(0:Int))))))
   (some (.go false))) λj12=>
   JO.run j12 (lP s11))
  (some (.ret (.go s11.1)))
noncomputable def eP (x_b:DBare)(s4:Int)(s8:(List Int)×(List Int)×(List DSlot)×Int):Option (LO ((List Int)×(List Int)×(List DSlot)×Int) (JO ((List Int)×(List DSlot)) (DHost×Int×Bool))):=
 cond (decide (s8.2.2.2<(8:Int)))
  (cond (decide ((0:Int)<=s4))
   (Option.bind (grd ((0:Int)<=(w64 (s8.2.2.2*(8:Int)))/\(w64 (s8.2.2.2*(8:Int)))<=(w64 ((w64 (s8.2.2.2+(1:Int)))*(8:Int)))/\(w64 ((w64 (s8.2.2.2+(1:Int)))*(8:Int)))<=((List.length x_b.Mem:Nat):Int)) (Option.bind (Option.bind (iter (fK x_b s8) (true,(0:Int))) LO.val) λj10=>
    JO.run j10 (qO x_b s8))) λj9=>
    JO.run j9 (mD s8))
   (some (.ret (.go (s8.1,s8.2.2.1)))))
  (some (.ret (.go (s8.1,s8.2.2.1))))
noncomputable def sS (x_h:DHost)(x_b:DBare)(v3:DHost)(s4:Int):Option (DHost×Int×Bool):=
 Option.bind (lU x_h) λv5=>
 Option.bind (lH x_b.C) λv6=>
 grd (List.length x_b.In*8<=2^47/\List.length x_b.In<=2^47) (grd (List.length x_b.Out*8<=2^47/\List.length x_b.Out<=2^47) (Option.bind (Option.bind (iter (eP x_b s4) (v3.Words,v5,([]:List DSlot),(0:Int))) LO.val) λj7=>
  JO.run j7 (sD x_b v3 s4 v6)))
noncomputable def qP (s13:Int×Int)(s14:Int):Option (LO (Int×Int) (JO Int (DHost×Int×Bool))):=some (.next (s14,w64 (s13.2-(1:Int))))
noncomputable def eE (x_h:DHost)(s13:Int×Int):Option (LO (Int×Int) (JO Int (DHost×Int×Bool))):=
 cond (decide ((0:Int)<=s13.2))
  (Option.bind (grd ((0:Int)<=s13.2/\s13.2<((List.length x_h.Guests:Nat):Int)) (cond (!(List.getD x_h.Guests (Int.toNat s13.2) default).Live)
   (some (.go s13.2))
   (some (.go s13.1)))) λj14=>
   JO.run j14 (qP s13))
  (some (.ret (.go s13.1)))
noncomputable def lZ (x_h:DHost)(x_b:DBare):Option (DHost×Int×Bool):=
 Option.bind (gS x_h) λv1=>
 cond (!v1)
  (some ((DHost.mk ([]:List Int) ([]:List DGuest)),(-1:Int),false))
  (Option.bind (oK x_b) λv2=>
  cond (!v2)
   (some ((DHost.mk ([]:List Int) ([]:List DGuest)),(-1:Int),false))
   (Option.bind (iW x_h) λv3=>
   Option.bind (Option.bind (iter (eE x_h) ((-1:Int),(2:Int))) LO.val) λj4=>
    JO.run j4 (sS x_h x_b v3)))
noncomputable def g84:Sg tG:=⟨[.st 26,.st 81],.three (.st 2026) (.i .i64) .b,lZ⟩
theorem s84:Sok 84 g84:=sgx [(48,.r g48),(112,.r bLw),(49,.r g49),(113,.r bKn),(95,.r g95)] ⟨s48,bNx,s49,bOs,s95,trivial⟩ (.s .o (.s .o (.s .o (.s .o (.j ⟨[2,3,4,7],[],[(.s 8,.i .i64)]⟩ (.s .o (.k (.l ⟨[2,3,4,7],[],[(.s 8,.i .i64),(.s 9,.i .i64)]⟩ (.s .o (.j ⟨[2,3,4,7,9],[],[(.s 8,.i .i64)]⟩ .o .o))))) (.s .o (.s (.g [.fr (.s 10) 0] [] []) (.j ⟨[4,7,8,11],[],[(.c 7 0,.ro 3),(.c 11 14,.ro 66)]⟩ (.s .o (.k (.l ⟨[3,4,7,8,11],[],[(.c 7 0,.ro 3),(.s 10,.rb 3),(.c 11 14,.ro 66),(.s 12,.i .i64)]⟩ (.s .o (.j ⟨[3,4,7,8,11,12],[],[(.c 7 0,.ro 3),(.s 10,.rb 3),(.c 11 14,.ro 66)]⟩ (.k (.s .o (.s .o (.j ⟨[3,4,7,8,10,11,12,13],[],[(.s 14,.b)]⟩ (.s .o (.k (.l ⟨[3,4,7,8,10,11,12,13],[],[(.s 14,.b),(.s 15,.i .i64)]⟩ (.s .o (.j ⟨[3,4,7,8,10,11,12,13,15],[],[(.s 14,.b)]⟩ .o .o))))) .o)))) .o))))) (.s .o (.s (.g [] [] [.fo (.c 7 1) 0]) .o)))))))))) kr kr kr
noncomputable def aBg  (s1:Unit):Option Int:=some (-1:Int)
noncomputable def fI (x_guests:List DGuest)(s2:Int):Option (LO Int (JO Unit Int)):=
 cond (decide (s2<((List.length x_guests:Nat):Int)))
  (grd ((0:Int)<=s2/\s2<((List.length x_guests:Nat):Int)) (cond (!(List.getD x_guests (Int.toNat s2) default).Live)
   (some (.ret (.out s2)))
   (some (.next (w64 (s2+(1:Int)))))))
  (some (.ret (.go ())))
noncomputable def iO (x_guests:List DGuest):Option Int:=
 Option.bind (Option.bind (iter (fI x_guests) (0:Int)) LO.val) λj1=>
  JO.run j1 aBg
noncomputable def g40:Sg tG:=⟨[.row 64],.one (.i .i64),iO⟩
theorem s40:Sok 40 g40:=sgx [] trivial (.s .o (.j ⟨[],[],[]⟩ (.s .o (.k (.l ⟨[5,6],[],[(.s 7,.i .i64)]⟩ .o))) .o)) kr kr kr
theorem aEr{x_guests:List DGuest}{R_:Int}(hh:iO x_guests=some R_):Fn Try.prog 40 [bo fE x_guests] (.int .i64 R_):=kc (s40 x_guests R_ hh)
theorem aHk:LW 30 ⟨11,[.tmp 2],.seq (.reg false (rg 30 0)) (.seq (.seq (.reg false (rg 30 1)) (.cond (.t 5) (.reg false (rg 30 2)) .skip)) (.seq (.reg false (rg 30 3)) .ret))⟩:=kr
noncomputable def nW  (s1:List Int):Option Dl20Rd:=some (Dl20Rd.mk s1 (0:Int))
noncomputable def iB (x_code:List Int):Option Dl20Rd:=
 Option.bind (cond (decide ((2000:Int)<((List.length x_code:Nat):Int)))
  (grd ((0:Int)<=(0:Int)/\(0:Int)<=(2000:Int)/\(2000:Int)<=((List.length x_code:Nat):Int)) (some (.go (List.take (Int.toNat (2000:Int)-Int.toNat (0:Int)) (List.drop (Int.toNat (0:Int)) x_code)))))
  (some (.go x_code))) λj1=>
  JO.run j1 nW
theorem aIs{x_code:List Int}{R_:Dl20Rd}(hh:iB x_code=some R_):Inl Try.prog 30 [bo (eI .u8) x_code] [] 0 (pp 0) [(0,some ⟨109,[bo (eI .u8) R_.b,.int .i64 R_.p]⟩)] 1:=by let z3:=(0,bo (eI .u8) x_code);let z4:=(5,bb (decide ((2000:Int)<((List.length x_code:Nat):Int))));let z1:=List.drop (Int.toNat (0:Int)) x_code;let z2:=List.take (Int.toNat (2000:Int)-Int.toNat (0:Int)) z1;unfold iB at hh;refine Inl.start aHk [0] [] (E:=sp 11 [z3]) (H1:=[]) kr kr (sy [0] [] (sp 11 [z3]) [] 0 ?_);obtain⟨j1,hh,hk1⟩:=bind_some hh;refine Aw.join (S:=(List Int)) (λs1=>sp 11 [(0,bo (eI .u8) s1)]) (λs1=>[]) 0 (λs1=>nW s1=some R_) ?_ ?_;{intro s1 hh;unfold nW at hh;refine Aw.sreg [2] [0] ?_;let q1:Root:=⟨109,[bo (eI .u8) s1,ii 0]⟩;refine yt (sp 11 [(2,pp 0)]) [(0,some q1)] 1 (Aw.ret ?_);rw[dE hh];exact tZ (r':=pp 0) kr (el [some 0] (oA (aDy dd rfl)) (hq q1 rz eQ))};intro Q1 hN1 hR1 hE1;refine sy [0,5] [] (sp 11 [z3,z4]) [] 0 ?_;rcases aKv hh with⟨hb,hh⟩|⟨hb,hh⟩;{refine cF hb (Aw.skip ?_);obtain rfl:=dE hh;exact hN1 x_code _ _ _ hk1 (el [] (qW kr (ro bU aHt)) eQ)};refine cT hb (Aw.oreg (yu 1 [(6,bo (eI .u8) x_code)] [] 0 ?_));obtain⟨hg6,hh⟩:=bW hh;refine ys (.slc 1 (.t 6) none (some (.c (ii 2000)))) (some 7) (bAv (c:=(eI .u8)) (xs:=x_code) (l:=(0:Int)) (h:=(2000:Int)) cK kr kr kr hg6 ?_);refine ye (sp 11 [(0,bo (eI .u8) z2),z4,(6,bo (eI .u8) x_code),(7,bo (eI .u8) z2)]) [] 0 ?_;obtain rfl:=dE hh;exact hN1 z2 _ _ _ hk1 (el [] (qW kr (ro bU aHt)) eQ)
noncomputable def g30:So tG:=⟨[.row 5],109,iB⟩
theorem s30:Sop 30 g30:=λx_code R_ hh=>kc (aIs (x_code:=x_code) hh)
noncomputable def aA (x_r:Dl20Rd)(x_n:Int):Option (Dl20Rd×Int):=
 cond (decide (x_n<(1:Int)))
  (some ((Dl20Rd.mk x_r.b (w64 (x_r.p+(1:Int)))),(0:Int)))
  (cond (decide (((List.length x_r.b:Nat):Int)=(0:Int)))
   (some ((Dl20Rd.mk x_r.b (w64 (x_r.p+(1:Int)))),(0:Int)))
   (cond (decide ((w64 ((w64 (x_r.p+(1:Int)))-(1:Int)))<((List.length x_r.b:Nat):Int)))
    (grd ((0:Int)<=(w64 ((w64 (x_r.p+(1:Int)))-(1:Int)))/\(w64 ((w64 (x_r.p+(1:Int)))-(1:Int)))<((List.length x_r.b:Nat):Int)) (grd (x_n≠0) (some ((Dl20Rd.mk x_r.b (w64 (x_r.p+(1:Int)))),Int.tmod (IntKind.wrap .i64 (List.getD x_r.b (Int.toNat (w64 ((w64 (x_r.p+(1:Int)))-(1:Int)))) default)) x_n))))
    (grd (((List.length x_r.b:Nat):Int)≠0) (grd ((0:Int)<=(Int.tmod (w64 ((w64 (x_r.p+(1:Int)))-(1:Int))) ((List.length x_r.b:Nat):Int))/\(Int.tmod (w64 ((w64 (x_r.p+(1:Int)))-(1:Int))) ((List.length x_r.b:Nat):Int))<((List.length x_r.b:Nat):Int)) (grd (((List.length x_r.b:Nat):Int)≠0) (grd ((0:Int)<=(Int.tmod (w64 ((w64 ((w64 ((w64 (x_r.p+(1:Int)))-(1:Int)))*(7:Int)))+(3:Int))) ((List.length x_r.b:Nat):Int))/\(Int.tmod (w64 ((w64 ((w64 ((w64 (x_r.p+(1:Int)))-(1:Int)))*(7:Int)))+(3:Int))) ((List.length x_r.b:Nat):Int))<((List.length x_r.b:Nat):Int)) (grd (((List.length x_r.b:Nat):Int)≠0) (grd (x_n≠0) (some ((Dl20Rd.mk x_r.b (w64 (x_r.p+(1:Int)))),Int.tmod (bits .xor .i64 (w64 ((w64 ((w64 ((w64 ((IntKind.wrap .i64 (List.getD x_r.b (Int.toNat (Int.tmod (w64 ((w64 (x_r.p+(1:Int)))-(1:Int))) ((List.length x_r.b:Nat):Int))) default))*(131:Int)))+(w64 ((IntKind.wrap .i64 (List.getD x_r.b (Int.toNat (Int.tmod (w64 ((w64 ((w64 ((w64 (x_r.p+(1:Int)))-(1:Int)))*(7:Int)))+(3:Int))) ((List.length x_r.b:Nat):Int))) default))*(1117:Int)))))+(w64 ((w64 ((w64 (x_r.p+(1:Int)))-(1:Int)))*(29:Int)))))+(w64 ((w64 (Int.tdiv (w64 ((w64 (x_r.p+(1:Int)))-(1:Int))) ((List.length x_r.b:Nat):Int)))*(53:Int))))) (w64 (Int.tdiv (w64 ((w64 ((w64 ((w64 ((IntKind.wrap .i64 (List.getD x_r.b (Int.toNat (Int.tmod (w64 ((w64 (x_r.p+(1:Int)))-(1:Int))) ((List.length x_r.b:Nat):Int))) default))*(131:Int)))+(w64 ((IntKind.wrap .i64 (List.getD x_r.b (Int.toNat (Int.tmod (w64 ((w64 ((w64 ((w64 (x_r.p+(1:Int)))-(1:Int)))*(7:Int)))+(3:Int))) ((List.length x_r.b:Nat):Int))) default))*(1117:Int)))))+(w64 ((w64 ((w64 (x_r.p+(1:Int)))-(1:Int)))*(29:Int)))))+(w64 ((w64 (Int.tdiv (w64 ((w64 (x_r.p+(1:Int)))-(1:Int))) ((List.length x_r.b:Nat):Int)))*(53:Int))))) (64:Int)))) x_n))))))))))
noncomputable def g72:Sw tG:=⟨[.pt 109,.v (.i .i64)],.one (.i .i64),aA⟩
theorem s72:Sjk 72 g72:=sgy [] trivial .o kr kr kr
noncomputable def bX (x_r:Dl20Rd)(x_n:Int):Option (Dl20Rd×Bool):=
 cond (decide ((0:Int)<x_n))
  (Option.bind (aA x_r x_n) λv1=>
  some (v1.1,decide (v1.2=(w64 (x_n-(1:Int))))))
  (some (x_r,false))
noncomputable def g75:Sw tG:=⟨[.pt 109,.v (.i .i64)],.one .b,bX⟩
theorem s75:Sjk 75 g75:=sgy [(72,.w g72)] ⟨s72,trivial⟩ .o kr kr kr
noncomputable def cJ (x_r:Dl20Rd):Option (Dl20Rd×Int):=
 Option.bind (aA x_r (16:Int)) λv1=>
 Option.bind (aA v1.1 (256:Int)) λv2=>
 some (v2.1,w64 ((w64 (v1.2*(256:Int)))+v2.2))
noncomputable def g82:Sw tG:=⟨[.pt 109],.one (.i .i64),cJ⟩
theorem s82:Sjk 82 g82:=sgy [(72,.w g72)] ⟨s72,trivial⟩ .o kr kr kr
noncomputable def aBc  (s4:Int):Option Int:=some s4
noncomputable def aBb (x_e:DEntry)(s3:Int):Option Int:=
 Option.bind (cond x_e.User
  (some (.go (w64 (s3+(4:Int)))))
  (some (.go s3))) λj4=>
  JO.run j4 aBc
noncomputable def aBa (x_e:DEntry)(s2:Int):Option Int:=
 Option.bind (cond x_e.Write
  (some (.go (w64 (s2+(2:Int)))))
  (some (.go s2))) λj3=>
  JO.run j3 (aBb x_e)
noncomputable def cZ (x_e:DEntry):Option Int:=
 Option.bind (cE x_e.Page (0:Int) (7:Int)) λv1=>
 cond (!v1)
  (some (-1:Int))
  (Option.bind (cond x_e.There
   (some (.go (w64 ((w64 (x_e.Page*(8:Int)))+(1:Int)))))
   (some (.go (w64 (x_e.Page*(8:Int)))))) λj2=>
   JO.run j2 (aBa x_e))
noncomputable def bEn:Sg tG:=⟨[.st 167],.one (.i .i64),cZ⟩
theorem bLy:Sok 135 bEn:=sgx [(79,.r g79)] ⟨s79,trivial⟩ (.s .o (.s .o (.s .o (.j ⟨[1],[],[(.s 3,.i .i64)]⟩ .o (.j ⟨[1],[],[(.s 3,.i .i64)]⟩ .o (.j ⟨[],[],[(.s 3,.i .i64)]⟩ .o .o)))))) kr kr kr
noncomputable def aHv  (s2:(List Int)×Int×(List Int)):Option (Dl20Rd×(List Int)):=some ((Dl20Rd.mk s2.1 s2.2.1),s2.2.2)
noncomputable def vR (x_n:Int)(s1:(List Int)×Int×(List Int)):Option (Dl20Rd×(List Int)):=
 Option.bind (Option.bind (bX (Dl20Rd.mk s1.1 s1.2.1) x_n) λv3=>
  cond v3.2
   (Option.bind (aA v3.1 (2:Int)) λv4=>
   cond (decide (v4.2=(0:Int)))
    (grd ((0:Int)<=(0:Int)/\(0:Int)<=(63:Int)/\(63:Int)<=((List.length s1.2.2:Nat):Int)) (some (.go (v4.1.b,v4.1.p,List.take (Int.toNat (63:Int)-Int.toNat (0:Int)) s1.2.2))))
    (Option.bind (aA v4.1 (64:Int)) λv5=>
    Option.bind (aA v5.1 (2:Int)) λv6=>
    grd ((0:Int)<=v5.2/\v5.2<((List.length s1.2.2:Nat):Int)) (some (.go (v6.1.b,v6.1.p,List.set s1.2.2 (Int.toNat v5.2) (w64 ((4096:Int)-(w64 (v6.2*(4097:Int))))))))))
   (some (.go (v3.1.b,v3.1.p,s1.2.2)))) λj2=>
  JO.run j2 aHv
noncomputable def vV (s7:(List Int)×Int×(List Int)×Int)(s9:(List Int)×Int×Int):Option (LO ((List Int)×Int×(List Int)×Int) (JO ((List Int)×Int×(List Int)) (Dl20Rd×(List Int)))):=grd ((List.length s7.2.2.1+List.length ([s9.2.2]:List Int))*8<=2^47/\List.length s7.2.2.1+List.length ([s9.2.2]:List Int)<=2^47) (some (.next (s9.1,s9.2.1,s7.2.2.1++([s9.2.2]:List Int),w64 (s7.2.2.2+(1:Int)))))
noncomputable def vE (s7:(List Int)×Int×(List Int)×Int)(s8:(List Int)×Int×Int):Option (LO ((List Int)×Int×(List Int)×Int) (JO ((List Int)×Int×(List Int)) (Dl20Rd×(List Int)))):=
 Option.bind (cond (decide ((w64 (Int.tdiv s7.2.2.2 (8:Int)))=(1:Int)))
  (Option.bind (aA (Dl20Rd.mk s8.1 s8.2.1) (5:Int)) λv10=>
  Option.bind (aA v10.1 (4:Int)) λv11=>
  Option.bind (aA v11.1 (3:Int)) λv12=>
  Option.bind (aA v12.1 (8:Int)) λv13=>
  Option.bind (cZ (DEntry.mk (decide ((0:Int)<v10.2)) (decide ((0:Int)<v11.2)) (decide ((0:Int)<v12.2)) v13.2)) λv14=>
  some (.go (v13.1.b,v13.1.p,v14)))
  (cond (decide ((w64 (Int.tdiv s7.2.2.2 (8:Int)))=(2:Int)))
   (Option.bind (aA (Dl20Rd.mk s8.1 s8.2.1) (5:Int)) λv15=>
   Option.bind (aA v15.1 (4:Int)) λv16=>
   Option.bind (aA v16.1 (3:Int)) λv17=>
   Option.bind (aA v17.1 (8:Int)) λv18=>
   Option.bind (cZ (DEntry.mk (decide ((0:Int)<v15.2)) (decide ((0:Int)<v16.2)) (decide ((0:Int)<v17.2)) v18.2)) λv19=>
   some (.go (v18.1.b,v18.1.p,v19)))
   (some (.go (s8.1,s8.2.1,s8.2.2))))) λj9=>
  JO.run j9 (vV s7)
noncomputable def oT  (s7:(List Int)×Int×(List Int)×Int):Option (LO ((List Int)×Int×(List Int)×Int) (JO ((List Int)×Int×(List Int)) (Dl20Rd×(List Int)))):=
 cond (decide (s7.2.2.2<(64:Int)))
  (Option.bind (Option.bind (aA (Dl20Rd.mk s7.1 s7.2.1) (2:Int)) λv20=>
   cond (decide (v20.2=(0:Int)))
    (Option.bind (cJ v20.1) λv21=>
    some (.go (v21.1.b,v21.1.p,v21.2)))
    (some (.go (v20.1.b,v20.1.p,(0:Int))))) λj8=>
   JO.run j8 (vE s7))
  (some (.ret (.go (s7.1,s7.2.1,s7.2.2.1))))
noncomputable def lE (x_r:Dl20Rd)(x_n:Int):Option (Dl20Rd×(List Int)):=
 Option.bind (Option.bind (iter oT (x_r.b,x_r.p,([]:List Int),(0:Int))) LO.val) λj1=>
  JO.run j1 (vR x_n)
noncomputable def bFv:Sw tG:=⟨[.pt 109,.v (.i .i64)],.one (.row 3),lE⟩
theorem bJt:Sjk 111 bFv:=sgy [(72,.w g72),(82,.w g82),(135,.r bEn),(75,.w g75)] ⟨s72,s82,bLy,s75,trivial⟩ (.s .o (.s .o (.j ⟨[0,1],[],[(.c 0 0,.rb 5),(.c 0 1,.i .i64),(.s 5,.ro 3)]⟩ (.s .o (.k (.l ⟨[0,1],[],[(.c 0 0,.rb 5),(.c 0 1,.i .i64),(.s 5,.ro 3),(.s 6,.i .i64)]⟩ (.s .o (.s (.k (.s .o (.j ⟨[0,1,5,6],[],[(.c 0 0,.rb 5),(.c 0 1,.i .i64),(.s 7,.i .i64)]⟩ .o (.j ⟨[0,1,5,6],[],[(.c 0 0,.rb 5),(.c 0 1,.i .i64),(.s 7,.i .i64)]⟩ .o .o)))) .o))))) (.j ⟨[],[0],[(.d 0 0,.rb 5),(.d 0 1,.i .i64),(.s 5,.ro 3)]⟩ .o .o)))) kr kr kr
noncomputable def mQ:Option Bool:=
 Option.bind (gU (5:Int)) λv1=>
 cond v1
  (Option.bind (gU (-1:Int)) λv2=>
  some (!v2))
  (some false)
noncomputable def g11:Sg tG:=⟨[],.one .b,mQ⟩
theorem s11:Sok 11 g11:=sgx [(35,.r g35)] ⟨s35,trivial⟩ .o kr kr kr
noncomputable def qK (x_i:DIns):Option Bool:=
 Option.bind (cE x_i.Op (0:Int) (15:Int)) λv1=>
 cond v1
  (Option.bind (cE x_i.A (0:Int) (3:Int)) λv2=>
  cond v2
   (Option.bind (cE x_i.N (0:Int) (63:Int)) λv3=>
   some v3)
   (some false))
  (some false)
noncomputable def bKk:Sg tG:=⟨[.st 158],.one .b,qK⟩
theorem bOx:Sok 147 bKk:=sgx [(79,.r g79)] ⟨s79,trivial⟩ .o kr kr kr
noncomputable def aCq (v3:Dl20Rd×Int)(v4:Dl20Rd×Int)(v5:Dl20Rd×Int)(v6:Dl20Rd×Int)(v7:Dl20Rd×Int)(v8:Dl20Rd×Int)(v9:Dl20Rd×Int)(v10:Dl20Rd×Int)(v11:Dl20Rd×Int)(v12:Dl20Rd×Int)(v13:Dl20Rd×Int)(s15:(List Int)×Int×(List Int)×Int×Int):Option (Dl20Rd×DCore):=some ((Dl20Rd.mk s15.1 s15.2.1),DCore.mk s15.2.2.1 s15.2.2.2.1 s15.2.2.2.2 (w64 ((24:Int)+v3.2)) v4.2 (decide (v9.2=(0:Int))) v5.2 v6.2 (w64 (v7.2*v8.2)) (decide (v10.2=(0:Int))) (decide (v11.2=(0:Int))) (decide (v12.2=(0:Int))) (decide (v13.2=(0:Int))))
noncomputable def sU (x_n:Int)(v1:Dl20Rd×Int)(v2:Dl20Rd×Int)(v3:Dl20Rd×Int)(v4:Dl20Rd×Int)(v5:Dl20Rd×Int)(v6:Dl20Rd×Int)(v7:Dl20Rd×Int)(v8:Dl20Rd×Int)(v9:Dl20Rd×Int)(v10:Dl20Rd×Int)(v11:Dl20Rd×Int)(v12:Dl20Rd×Int)(v13:Dl20Rd×Int)(s14:(List Int)×Int×(List Int)):Option (Dl20Rd×DCore):=
 Option.bind (Option.bind (bX (Dl20Rd.mk s14.1 s14.2.1) x_n) λv16=>
  cond v16.2
   (Option.bind (aA v16.1 (4:Int)) λv17=>
   cond (decide (v17.2=(0:Int)))
    (grd ((0:Int)<=(0:Int)/\(0:Int)<=(3:Int)/\(3:Int)<=((List.length s14.2.2:Nat):Int)) (some (.go (v17.1.b,v17.1.p,List.take (Int.toNat (3:Int)-Int.toNat (0:Int)) s14.2.2,v1.2,List.getD ([(-1:Int),(1:Int),(2:Int)]:List Int) (Int.toNat v2.2) default))))
    (cond (decide (v17.2=(1:Int)))
     (Option.bind (aA v17.1 (2:Int)) λv18=>
     some (.go (v18.1.b,v18.1.p,s14.2.2,w64 ((64:Int)-(w64 (v18.2*(65:Int)))),List.getD ([(-1:Int),(1:Int),(2:Int)]:List Int) (Int.toNat v2.2) default)))
     (cond (decide (v17.2=(2:Int)))
      (Option.bind (aA v17.1 (2:Int)) λv19=>
      some (.go (v19.1.b,v19.1.p,s14.2.2,v1.2,w64 ((8:Int)-(w64 (v19.2*(10:Int)))))))
      (Option.bind (aA v17.1 (4:Int)) λv20=>
      grd ((0:Int)<=v20.2/\v20.2<((List.length s14.2.2:Nat):Int)) (some (.go (v20.1.b,v20.1.p,List.set s14.2.2 (Int.toNat v20.2) (-1:Int),v1.2,List.getD ([(-1:Int),(1:Int),(2:Int)]:List Int) (Int.toNat v2.2) default)))))))
   (some (.go (v16.1.b,v16.1.p,s14.2.2,v1.2,List.getD ([(-1:Int),(1:Int),(2:Int)]:List Int) (Int.toNat v2.2) default)))) λj15=>
  JO.run j15 (aCq v3 v4 v5 v6 v7 v8 v9 v10 v11 v12 v13)
noncomputable def mN  (s21:(List Int)×Int×(List Int)×Int):Option (LO ((List Int)×Int×(List Int)×Int) (JO ((List Int)×Int×(List Int)) (Dl20Rd×DCore))):=
 cond (decide (s21.2.2.2<(4:Int)))
  (Option.bind (aA (Dl20Rd.mk s21.1 s21.2.1) (64:Int)) λv22=>
  Option.bind (aA v22.1 (16:Int)) λv23=>
  Option.bind (cJ v23.1) λv24=>
  Option.bind (aA v24.1 (3:Int)) λv25=>
  grd ((0:Int)<=v25.2/\v25.2<((List.length ([v22.2,v23.2,v24.2]:List Int):Nat):Int)) (grd ((List.length s21.2.2.1+List.length ([List.getD ([v22.2,v23.2,v24.2]:List Int) (Int.toNat v25.2) default]:List Int))*8<=2^47/\List.length s21.2.2.1+List.length ([List.getD ([v22.2,v23.2,v24.2]:List Int) (Int.toNat v25.2) default]:List Int)<=2^47) (some (.next (v25.1.b,v25.1.p,s21.2.2.1++([List.getD ([v22.2,v23.2,v24.2]:List Int) (Int.toNat v25.2) default]:List Int),w64 (s21.2.2.2+(1:Int)))))))
  (some (.ret (.go (s21.1,s21.2.1,s21.2.2.1))))
noncomputable def kJ (x_r:Dl20Rd)(x_n:Int):Option (Dl20Rd×DCore):=
 Option.bind (aA x_r (64:Int)) λv1=>
 Option.bind (aA v1.1 (3:Int)) λv2=>
 grd ((0:Int)<=v2.2/\v2.2<((List.length ([(-1:Int),(1:Int),(2:Int)]:List Int):Nat):Int)) (Option.bind (aA v2.1 (4:Int)) λv3=>
  Option.bind (aA v3.1 (64:Int)) λv4=>
  Option.bind (aA v4.1 (5:Int)) λv5=>
  Option.bind (aA v5.1 (64:Int)) λv6=>
  Option.bind (aA v6.1 (4:Int)) λv7=>
  Option.bind (aA v7.1 (6:Int)) λv8=>
  Option.bind (aA v8.1 (2:Int)) λv9=>
  Option.bind (aA v9.1 (6:Int)) λv10=>
  Option.bind (aA v10.1 (3:Int)) λv11=>
  Option.bind (aA v11.1 (2:Int)) λv12=>
  Option.bind (aA v12.1 (25:Int)) λv13=>
  Option.bind (Option.bind (iter mN (v13.1.b,v13.1.p,([]:List Int),(0:Int))) LO.val) λj14=>
   JO.run j14 (sU x_n v1 v2 v3 v4 v5 v6 v7 v8 v9 v10 v11 v12 v13))
noncomputable def bMc:Sw tG:=⟨[.pt 109,.v (.i .i64)],.one (.st 61),kJ⟩
theorem bNs:Sjk 109 bMc:=sgy [(72,.w g72),(82,.w g82),(75,.w g75)] ⟨s72,s82,s75,trivial⟩ (.s .o (.s (.m [0]) (.s .o (.s .o (.s .o (.s .o (.s .o (.j ⟨[0,1,4,5],[],[(.c 0 0,.rb 5),(.c 0 1,.i .i64),(.c 5 0,.ro 3)]⟩ (.s .o (.k (.l ⟨[0,1,4,5],[],[(.c 0 0,.rb 5),(.c 0 1,.i .i64),(.c 5 0,.ro 3),(.s 6,.i .i64)]⟩ (.s .o (.s (.k (.m [0])) .o))))) (.j ⟨[4,5],[0],[(.d 0 0,.rb 5),(.d 0 1,.i .i64),(.c 5 0,.ro 3),(.c 5 1,.i .i64),(.c 5 2,.i .i64)]⟩ (.s .o (.c (.s .o (.k (.s .o (.c .o (.s .o (.c .o (.s .o (.c .o (.m [0]))))))))) .o)) .o))))))))) kr kr kr
noncomputable def aGq  (s4:Int×(List Int)×Int×Int×Int):Option (Dl20Rd×DIns):=some ((Dl20Rd.mk s4.2.1 s4.2.2.1),DIns.mk s4.1 s4.2.2.2.1 s4.2.2.2.2)
noncomputable def oJ (x_r:Dl20Rd)(x_n:Int):Option (Dl20Rd×DIns):=
 Option.bind (aA x_r (16:Int)) λv1=>
 Option.bind (aA v1.1 (4:Int)) λv2=>
 Option.bind (aA v2.1 (64:Int)) λv3=>
 Option.bind (Option.bind (bX v3.1 x_n) λv5=>
  cond v5.2
   (Option.bind (aA v5.1 (3:Int)) λv6=>
   cond (decide (v6.2=(0:Int)))
    (Option.bind (aA v6.1 (2:Int)) λv7=>
    some (.go ((w64 ((16:Int)-(w64 (v7.2*(17:Int))))),v7.1.b,v7.1.p,v2.2,v3.2)))
    (cond (decide (v6.2=(1:Int)))
     (some (.go (v1.2,v6.1.b,v6.1.p,(4:Int),v3.2)))
     (Option.bind (aA v6.1 (2:Int)) λv8=>
     some (.go (v1.2,v8.1.b,v8.1.p,v2.2,w64 ((64:Int)-(w64 (v8.2*(65:Int)))))))))
   (some (.go (v1.2,v5.1.b,v5.1.p,v2.2,v3.2)))) λj4=>
  JO.run j4 aGq
noncomputable def bKp:Sw tG:=⟨[.pt 109,.v (.i .i64)],.one (.st 158),oJ⟩
theorem bOw:Sjk 136 bKp:=sgy [(72,.w g72),(75,.w g75)] ⟨s72,s75,trivial⟩ (.s .o (.s .o (.j ⟨[4,5],[0],[(.c 5 0,.i .i64),(.d 0 0,.rb 5),(.d 0 1,.i .i64),(.c 5 1,.i .i64),(.c 5 2,.i .i64)]⟩ .o .o))) kr kr kr
noncomputable def nK (x_i:DIns):Option Int:=
 Option.bind (qK x_i) λv1=>
 cond (!v1)
  (some (-1:Int))
  (some (w64 ((w64 ((w64 (x_i.Op*(256:Int)))+(w64 (x_i.A*(64:Int)))))+x_i.N)))
noncomputable def bJm:Sg tG:=⟨[.st 158],.one (.i .i64),nK⟩
theorem bOy:Sok 137 bJm:=sgx [(147,.r bKk)] ⟨bOx,trivial⟩ .o kr kr kr
noncomputable def tL  (s2:(List Int)×(List Int)×Int):Option (Dl20Rd×(List Int)):=some ((Dl20Rd.mk s2.2.1 s2.2.2),s2.1)
noncomputable def tP (s3:(List Int)×Int×(List Int)×Int)(s4:(List Int)×Int×(List Int)):Option (LO ((List Int)×Int×(List Int)×Int) (JO ((List Int)×(List Int)×Int) (Dl20Rd×(List Int)))):=some (.next (s4.1,s4.2.1,s4.2.2,w64 (s3.2.2.2+(1:Int))))
noncomputable def rX (s3:(List Int)×Int×(List Int)×Int)(v11:Dl20Rd×DIns)(s13:(List Int)×Int×Int):Option (JO ((List Int)×Int×(List Int)) (LO ((List Int)×Int×(List Int)×Int) (JO ((List Int)×(List Int)×Int) (Dl20Rd×(List Int))))):=
 Option.bind (nK (DIns.mk s13.2.2 v11.2.A v11.2.N)) λv14=>
 grd ((0:Int)<=s3.2.2.2/\s3.2.2.2<((List.length s3.2.2.1:Nat):Int)) (some (.go (s13.1,s13.2.1,List.set s3.2.2.1 (Int.toNat s3.2.2.2) v14)))
noncomputable def sH (s3:(List Int)×Int×(List Int)×Int)(v11:Dl20Rd×DIns)(s12:(List Int)×Int×Int):Option (JO ((List Int)×Int×(List Int)) (LO ((List Int)×Int×(List Int)×Int) (JO ((List Int)×(List Int)×Int) (Dl20Rd×(List Int))))):=
 Option.bind (cond (decide (s12.2.2=(0:Int)))
  (Option.bind (aA (Dl20Rd.mk s12.1 s12.2.1) (4:Int)) λv15=>
  cond (decide ((0:Int)<v15.2))
   (some (.go (v15.1.b,v15.1.p,(1:Int))))
   (some (.go (v15.1.b,v15.1.p,s12.2.2))))
  (some (.go (s12.1,s12.2.1,s12.2.2)))) λj13=>
  JO.run j13 (rX s3 v11)
noncomputable def tK (s3:(List Int)×Int×(List Int)×Int)(s5:Bool):Option (JO ((List Int)×Int×(List Int)) (LO ((List Int)×Int×(List Int)×Int) (JO ((List Int)×(List Int)×Int) (Dl20Rd×(List Int))))):=
 cond s5
  (Option.bind (aA (Dl20Rd.mk s3.1 s3.2.1) (3:Int)) λv6=>
  cond (decide ((0:Int)<v6.2))
   (Option.bind (aA v6.1 (8:Int)) λv7=>
   Option.bind (aA v7.1 (4:Int)) λv8=>
   Option.bind (aA v8.1 (3:Int)) λv9=>
   Option.bind (cZ (DEntry.mk (decide ((0:Int)<v7.2)) (decide ((0:Int)<v8.2)) (decide ((0:Int)<v9.2)) (Int.tmod s3.2.2.2 (8:Int)))) λv10=>
   grd ((0:Int)<=s3.2.2.2/\s3.2.2.2<((List.length s3.2.2.1:Nat):Int)) (some (.go (v9.1.b,v9.1.p,List.set s3.2.2.1 (Int.toNat s3.2.2.2) v10))))
   (some (.go (v6.1.b,v6.1.p,s3.2.2.1))))
  (Option.bind (oJ (Dl20Rd.mk s3.1 s3.2.1) (0:Int)) λv11=>
  Option.bind (Option.bind (aA v11.1 (2:Int)) λv16=>
   cond (decide (v16.2=(0:Int)))
    (Option.bind (aA v16.1 (10:Int)) λv17=>
    grd ((0:Int)<=v17.2/\v17.2<((10:Nat):Int)) (some (.go (v17.1.b,v17.1.p,List.getD ([(1:Int),(2:Int),(3:Int),(4:Int),(3:Int),(4:Int),(6:Int),(7:Int),(11:Int),(15:Int)]:List Int) (Int.toNat v17.2) default))))
    (some (.go (v16.1.b,v16.1.p,v11.2.Op)))) λj12=>
   JO.run j12 (sH s3 v11))
noncomputable def nS  (s3:(List Int)×Int×(List Int)×Int):Option (LO ((List Int)×Int×(List Int)×Int) (JO ((List Int)×(List Int)×Int) (Dl20Rd×(List Int)))):=
 cond (decide (s3.2.2.2<((List.length s3.2.2.1:Nat):Int)))
  (Option.bind (Option.bind (cond (decide ((w64 (Int.tdiv s3.2.2.2 (8:Int)))=(1:Int)))
   (some (.go (decide ((w64 (Int.tdiv s3.2.2.2 (8:Int)))=(1:Int)))))
   (some (.go (decide ((w64 (Int.tdiv s3.2.2.2 (8:Int)))=(2:Int)))))) λj5=>
   JO.run j5 (tK s3)) λj4=>
   JO.run j4 (tP s3))
  (some (.ret (.go (s3.2.2.1,s3.1,s3.2.1))))
noncomputable def nB (x_r:Dl20Rd):Option (Dl20Rd×(List Int)):=
 Option.bind (lE x_r (0:Int)) λv1=>
 Option.bind (Option.bind (iter nS (v1.1.b,v1.1.p,v1.2,(0:Int))) LO.val) λj2=>
  JO.run j2 tL
noncomputable def bKv:Sw tG:=⟨[.pt 109],.one (.row 3),nB⟩
theorem bOm:Sjk 110 bKv:=sgy [(111,.w bFv),(72,.w g72),(135,.r bEn),(136,.w bKp),(137,.r bJm)] ⟨bJt,s72,bLy,bOw,bOy,trivial⟩ (.s .o (.s .o (.j ⟨[],[0],[(.s 3,.ro 3),(.d 0 0,.rb 5),(.d 0 1,.i .i64)]⟩ (.s .o (.k (.l ⟨[0],[],[(.c 0 0,.rb 5),(.c 0 1,.i .i64),(.s 3,.ro 3),(.s 4,.i .i64)]⟩ (.s .o (.j ⟨[0,4],[],[(.c 0 0,.rb 5),(.c 0 1,.i .i64),(.s 3,.ro 3)]⟩ (.k (.s .o (.k (.j ⟨[0,3,4],[],[(.s 41,.b)]⟩ .o (.c .o (.s .o (.j ⟨[0,3,4,5],[],[(.c 0 0,.rb 5),(.c 0 1,.i .i64),(.c 5 0,.i .i64)]⟩ .o (.j ⟨[0,3,4,5],[],[(.c 0 0,.rb 5),(.c 0 1,.i .i64),(.c 5 0,.i .i64)]⟩ .o .o)))))))) .o))))) .o))) kr kr kr
noncomputable def aEn (s4:(List Int)×Int×(List Int))(s5:(List Int)×Int×Int×Int×Int×Bool×Int×Int×Int×Bool×Bool×Bool×Bool×(List Int)×Int×(List Int)×(List Int)):Option (Dl20Rd×DBare):=some ((Dl20Rd.mk s5.2.2.2.2.2.2.2.2.2.2.2.2.2.1 s5.2.2.2.2.2.2.2.2.2.2.2.2.2.2.1),DBare.mk (DCore.mk s5.1 s5.2.1 s5.2.2.1 s5.2.2.2.1 s5.2.2.2.2.1 s5.2.2.2.2.2.1 s5.2.2.2.2.2.2.1 s5.2.2.2.2.2.2.2.1 s5.2.2.2.2.2.2.2.2.1 s5.2.2.2.2.2.2.2.2.2.1 s5.2.2.2.2.2.2.2.2.2.2.1 s5.2.2.2.2.2.2.2.2.2.2.2.1 s5.2.2.2.2.2.2.2.2.2.2.2.2.1) s5.2.2.2.2.2.2.2.2.2.2.2.2.2.2.2.1 s5.2.2.2.2.2.2.2.2.2.2.2.2.2.2.2.2 s4.2.2)
noncomputable def tM (x_n:Int)(v1:Dl20Rd×DCore)(v2:Dl20Rd×(List Int))(s3:(List Int)×Int×(List Int))(s4:(List Int)×Int×(List Int)):Option (Dl20Rd×DBare):=
 Option.bind (Option.bind (bX (Dl20Rd.mk s4.1 s4.2.1) x_n) λv6=>
  cond v6.2
   (Option.bind (aA v6.1 (3:Int)) λv7=>
   cond (decide (v7.2=(0:Int)))
    (Option.bind (kJ v7.1 (1:Int)) λv8=>
    some (.go (v8.2.Regs,v8.2.Pc,v8.2.Root,v8.2.Vector,v8.2.Saved,v8.2.SavedUser,v8.2.Cause,v8.2.Bad,v8.2.Timer,v8.2.Waits,v8.2.User,v8.2.On,v8.2.Stopped,v8.1.b,v8.1.p,v2.2,s3.2.2)))
    (cond (decide (v7.2=(1:Int)))
     (Option.bind (lE v7.1 (1:Int)) λv9=>
     some (.go (v1.2.Regs,v1.2.Pc,v1.2.Root,v1.2.Vector,v1.2.Saved,v1.2.SavedUser,v1.2.Cause,v1.2.Bad,v1.2.Timer,v1.2.Waits,v1.2.User,v1.2.On,v1.2.Stopped,v9.1.b,v9.1.p,v9.2,s3.2.2)))
     (some (.go (v1.2.Regs,v1.2.Pc,v1.2.Root,v1.2.Vector,v1.2.Saved,v1.2.SavedUser,v1.2.Cause,v1.2.Bad,v1.2.Timer,v1.2.Waits,v1.2.User,v1.2.On,v1.2.Stopped,v7.1.b,v7.1.p,v2.2,List.replicate (Int.toNat (31:Int)) (0:Int))))))
   (some (.go (v1.2.Regs,v1.2.Pc,v1.2.Root,v1.2.Vector,v1.2.Saved,v1.2.SavedUser,v1.2.Cause,v1.2.Bad,v1.2.Timer,v1.2.Waits,v1.2.User,v1.2.On,v1.2.Stopped,v6.1.b,v6.1.p,v2.2,s3.2.2)))) λj5=>
  JO.run j5 (aEn s4)
noncomputable def sV  (s11:(List Int)×Int×(List Int)×Int):Option (LO ((List Int)×Int×(List Int)×Int) (JO ((List Int)×Int×(List Int)) (Dl20Rd×DBare))):=
 cond (decide ((0:Int)<s11.2.2.2))
  (Option.bind (cJ (Dl20Rd.mk s11.1 s11.2.1)) λv12=>
  grd ((List.length s11.2.2.1+List.length ([v12.2]:List Int))*8<=2^47/\List.length s11.2.2.1+List.length ([v12.2]:List Int)<=2^47) (some (.next (v12.1.b,v12.1.p,s11.2.2.1++([v12.2]:List Int),w64 (s11.2.2.2-(1:Int))))))
  (some (.ret (.go (s11.1,s11.2.1,s11.2.2.1))))
noncomputable def tN (x_n:Int)(v1:Dl20Rd×DCore)(v2:Dl20Rd×(List Int))(s3:(List Int)×Int×(List Int)):Option (Dl20Rd×DBare):=
 Option.bind (Option.bind (aA (Dl20Rd.mk s3.1 s3.2.1) (3:Int)) λv10=>
  Option.bind (iter sV (v10.1.b,v10.1.p,([]:List Int),v10.2)) LO.val) λj4=>
  JO.run j4 (tM x_n v1 v2 s3)
noncomputable def jR  (s14:(List Int)×Int×(List Int)×Int):Option (LO ((List Int)×Int×(List Int)×Int) (JO ((List Int)×Int×(List Int)) (Dl20Rd×DBare))):=
 cond (decide ((0:Int)<s14.2.2.2))
  (Option.bind (cJ (Dl20Rd.mk s14.1 s14.2.1)) λv15=>
  grd ((List.length s14.2.2.1+List.length ([v15.2]:List Int))*8<=2^47/\List.length s14.2.2.1+List.length ([v15.2]:List Int)<=2^47) (some (.next (v15.1.b,v15.1.p,s14.2.2.1++([v15.2]:List Int),w64 (s14.2.2.2-(1:Int))))))
  (some (.ret (.go (s14.1,s14.2.1,s14.2.2.1))))
noncomputable def nH (x_r:Dl20Rd)(x_n:Int):Option (Dl20Rd×DBare):=
 Option.bind (kJ x_r (0:Int)) λv1=>
 Option.bind (nB v1.1) λv2=>
 Option.bind (Option.bind (aA v2.1 (4:Int)) λv13=>
  Option.bind (iter jR (v13.1.b,v13.1.p,([]:List Int),v13.2)) LO.val) λj3=>
  JO.run j3 (tN x_n v1 v2)
noncomputable def g83:Sw tG:=⟨[.pt 109,.v (.i .i64)],.one (.st 81),nH⟩
theorem s83:Sjk 83 g83:=sgy [(109,.w bMc),(110,.w bKv),(72,.w g72),(82,.w g82),(75,.w g75),(111,.w bFv)] ⟨bNs,bOm,s72,s82,s75,bJt,trivial⟩ (.s .o (.s .o (.j ⟨[0,1,4,5],[],[(.c 0 0,.rb 5),(.c 0 1,.i .i64),(.c 5 14,.ro 3)]⟩ (.s .o (.k (.l ⟨[0,1,4,5],[],[(.c 0 0,.rb 5),(.c 0 1,.i .i64),(.c 5 14,.ro 3),(.s 6,.i .i64)]⟩ (.s .o (.s (.k (.m [0])) .o))))) (.j ⟨[0,1,4,5],[],[(.c 0 0,.rb 5),(.c 0 1,.i .i64),(.c 5 15,.ro 3)]⟩ (.s .o (.k (.l ⟨[0,1,4,5],[],[(.c 0 0,.rb 5),(.c 0 1,.i .i64),(.c 5 15,.ro 3),(.s 7,.i .i64)]⟩ (.s .o (.s (.k (.m [0])) .o))))) (.j ⟨[4,5],[0],[(.c 5 0,.ro 3),(.c 5 1,.i .i64),(.c 5 2,.i .i64),(.c 5 3,.i .i64),(.c 5 4,.i .i64),(.c 5 5,.b),(.c 5 6,.i .i64),(.c 5 7,.i .i64),(.c 5 8,.i .i64),(.c 5 9,.b),(.c 5 10,.b),(.c 5 11,.b),(.c 5 12,.b),(.d 0 0,.rb 5),(.d 0 1,.i .i64),(.c 5 13,.ro 3),(.c 5 14,.ro 3)]⟩ .o .o))))) kr kr kr
theorem aGh:LW 81 ⟨6,[.cell 2 true 2],.seq (.reg false (rg 81 0)) (.seq (.rega [rg 81 1,rg 81 2]) .ret)⟩:=kr
noncomputable def nA (x_none:Int):Option DHost:=some (DHost.mk (List.replicate (Int.toNat (160:Int)) (0:Int)) (List.replicate (Int.toNat (3:Int)) (DGuest.mk false (DCore.mk ([]:List Int) (0:Int) (0:Int) (0:Int) (0:Int) false (0:Int) (0:Int) (0:Int) false false false false) ([]:List DSlot) ([]:List Int) ([]:List Int))))
theorem aJy{x_none:Int}{R_:DHost}(hh:nA x_none=some R_):Fn Try.prog 81 [.int .i64 x_none] (.agg [.own 3 1 (List.length R_.Words) (fl (eI .i64) R_.Words),.own 64 17 (List.length R_.Guests) (fl gN R_.Guests)]):=by let z1:=DCore.mk ([]:List Int) (0:Int) (0:Int) (0:Int) (0:Int) false (0:Int) (0:Int) (0:Int) false false false false;let z2:=DGuest.mk false z1 ([]:List DSlot) ([]:List Int) ([]:List Int);unfold nA at hh;refine Fn.start aGh [] (E:=sp 6 []) kr (v:= .agg [sw 0 R_.Words,.sref 1 [] 0 (List.length R_.Guests) 17]) (Hr:=[(1,some (rO64 R_.Guests)),(0,some (rI_3 R_.Words))]) (k:=2) kr (sy [2] [0] (sp 6 [(2,pp 0)]) [(0,some ⟨26,[.nil,.nil]⟩)] 1 (Aw.srega [2] [0,1,2] (bAq ?_ (bAq ?_ bKy))));{refine ys (.mk 3 1 8 [ii 0] (.c (ii 160))) (some 3) (aNp (c:=(eI .i64)) (d:=(0:Int)) (k:=(160:Int)) kr dd kr ?_);refine ys (.mk 64 17 176 zc0 (.c (ii 3))) (some 4) (aSl (z:=(bb false:: .nil::nE [.nil,.nil,.nil])) (k:=(3:Int)) kr dd ?_);let q1:Root:=⟨26,[.sref 1 [] 0 (List.length (List.replicate (Int.toNat (160:Int)) (0:Int))) 1,.sref 2 [] 0 (Int.toNat (3:Int)) 17]⟩;let q2:Root:=(rI_3 (List.replicate (Int.toNat (160:Int)) (0:Int)));let q3:Root:=⟨64,aO (bb false:: .nil::nE [.nil,.nil,.nil]) (Int.toNat (3:Int))⟩;refine yt (sp 6 [(2,pp 0)]) [(0,some q1),(1,some q2),(2,some q3)] 3 (Aw.ent (Ent.foldM (c:=gN) (k:=Int.toNat (3:Int)) (d:=z2) (R:=2) (e:=64) (us2:=sp 6 [(2,pp 0)]) (H2:=[(0,some ⟨26,[.sref 1 [] 0 (List.length (List.replicate (Int.toNat (160:Int)) (0:Int))) 1,.sref 3 [] 0 (List.length (List.replicate (Int.toNat (3:Int)) z2)) 17]⟩),(1,some q2)]) (L:=[none,some none,none,none,none,none,none,none,none,none,none,none,none,none,some none,some none,some none]) (ws:=(bb false:: .own 3 1 0 []::nE [.own 66 3 0 [],.own 3 1 0 [],.own 3 1 0 []])) dd kr kr (eC (wG (eC (eC (eC (eC (eC (eC (eC (eC (eC (eC (eC (eC (wG (wG (wG aXx))))))))))))))))) rfl (aQv kr (wC (u:=pp 0) kr (.same _) aZe)) (yT (t:=q1) rfl kr rfl (aDj (.same _) (aDj (.sref _ _ _ _ eqn) aXu)) (yT (t:=q2) rfl kr rfl rI bDz))) (Aw.ret ?_));rw[dE hh];let q4:Root:=(rO64 (List.replicate (Int.toNat (3:Int)) z2));exact tZ (r':= .agg [.sref 1 [] 0 (List.length (List.replicate (Int.toNat (160:Int)) (0:Int))) 1,.sref 3 [] 0 (List.length (List.replicate (Int.toNat (3:Int)) z2)) 17]) kr (Ent.list [some 1,some 3] rfl rfl (Nat.zero_le _) (oA (lM rz)) (hn kD (hn bU eQ)))};refine ys (.mk 64 17 176 zc0 (.c (ii 3))) (some 4) (aSl (z:=(bb false:: .nil::nE [.nil,.nil,.nil])) (k:=(3:Int)) kr dd ?_);refine ys (.mk 3 1 8 [ii 0] (.c (ii 160))) (some 3) (aNp (c:=(eI .i64)) (d:=(0:Int)) (k:=(160:Int)) kr dd kr ?_);let q5:Root:=⟨26,[.sref 2 [] 0 (List.length (List.replicate (Int.toNat (160:Int)) (0:Int))) 1,.sref 1 [] 0 (Int.toNat (3:Int)) 17]⟩;let q6:Root:=⟨64,aO (bb false:: .nil::nE [.nil,.nil,.nil]) (Int.toNat (3:Int))⟩;let q7:Root:=(rI_3 (List.replicate (Int.toNat (160:Int)) (0:Int)));refine yt (sp 6 [(2,pp 0)]) [(0,some q5),(1,some q6),(2,some q7)] 3 (Aw.ent (Ent.foldM (c:=gN) (k:=Int.toNat (3:Int)) (d:=z2) (R:=1) (e:=64) (us2:=sp 6 [(2,pp 0)]) (H2:=[(0,some ⟨26,[.sref 2 [] 0 (List.length (List.replicate (Int.toNat (160:Int)) (0:Int))) 1,.sref 3 [] 0 (List.length (List.replicate (Int.toNat (3:Int)) z2)) 17]⟩),(2,some q7)]) (L:=[none,some none,none,none,none,none,none,none,none,none,none,none,none,none,some none,some none,some none]) (ws:=(bb false:: .own 3 1 0 []::nE [.own 66 3 0 [],.own 3 1 0 [],.own 3 1 0 []])) dd kr kr (eC (wG (eC (eC (eC (eC (eC (eC (eC (eC (eC (eC (eC (eC (wG (wG (wG aXx))))))))))))))))) rfl (aQv kr (wC (u:=pp 0) kr (.same _) aZe)) (yT (t:=q5) rfl kr rfl (aDj (.same _) (aDj (.sref _ _ _ _ eqn) aXu)) (yT (t:=q7) rfl kr rfl rI bDz))) (Aw.ret ?_));rw[dE hh];let q8:Root:=(rO64 (List.replicate (Int.toNat (3:Int)) z2));exact tZ (r':= .agg [.sref 2 [] 0 (List.length (List.replicate (Int.toNat (160:Int)) (0:Int))) 1,.sref 3 [] 0 (List.length (List.replicate (Int.toNat (3:Int)) z2)) 17]) kr (Ent.list [some 2,some 3] rfl rfl (Nat.zero_le _) (oA (lM rz)) (hn kD (hn bU eQ)))
noncomputable def g81:Sg tG:=⟨[.i .i64],.one (.st 2026),nA⟩
theorem s81:Sok 81 g81:=λx_none R_ hh=>kc (aJy (x_none:=x_none) hh)
noncomputable def aEv  (s5:(List Int)×(List Int)×Int×(List DGuest)):Option (Dl20Rd×DHost):=some ((Dl20Rd.mk s5.2.1 s5.2.2.1),DHost.mk s5.1 s5.2.2.2)
noncomputable def tO (x_n:Int)(s3:(List Int)×Int×(List Int)×(List DGuest))(s4:(List Int)×Int×(List DGuest)):Option (Dl20Rd×DHost):=
 Option.bind (Option.bind (bX (Dl20Rd.mk s4.1 s4.2.1) x_n) λv6=>
  cond v6.2
   (Option.bind (aA v6.1 (4:Int)) λv7=>
   cond (decide (v7.2=(0:Int)))
    (Option.bind (aA v7.1 (9:Int)) λv8=>
    grd ((0:Int)<=v8.2/\v8.2<((List.length s3.2.2.1:Nat):Int)) (some (.go ((List.set s3.2.2.1 (Int.toNat v8.2) (4096:Int)),v8.1.b,v8.1.p,s4.2.2))))
    (cond (decide (v7.2=(1:Int)))
     (grd ((0:Int)<=(0:Int)/\(0:Int)<=(2:Int)/\(2:Int)<=((List.length s4.2.2:Nat):Int)) (some (.go (s3.2.2.1,v7.1.b,v7.1.p,List.take (Int.toNat (2:Int)-Int.toNat (0:Int)) s4.2.2))))
     (cond (decide (v7.2=(2:Int)))
      (grd ((0:Int)<=(2:Int)/\(2:Int)<((List.length s4.2.2:Nat):Int)) (some (.go (s3.2.2.1,v7.1.b,v7.1.p,List.set s4.2.2 2 (DGuest.mk false (DCore.mk ([]:List Int) (0:Int) (0:Int) (0:Int) (0:Int) false (0:Int) (0:Int) (0:Int) false false false false) ([]:List DSlot) ([(1:Int)]:List Int) ([]:List Int))))))
      (grd ((0:Int)<=(0:Int)/\(0:Int)<((List.length s4.2.2:Nat):Int)) (some (.go (s3.2.2.1,v7.1.b,v7.1.p,List.set s4.2.2 0 (DGuest.mk (List.getD s4.2.2 0 default).Live (List.getD s4.2.2 0 default).C ([DSlot.mk (3:Int) true false,DSlot.mk (3:Int) false false]:List DSlot) (List.getD s4.2.2 0 default).In (List.getD s4.2.2 0 default).Out))))))))
   (some (.go (s3.2.2.1,v6.1.b,v6.1.p,s4.2.2)))) λj5=>
  JO.run j5 aEv
noncomputable def sM (s10:(List Int)×Int×(List DGuest)×Int)(s11:(List Int)×Int×(List DGuest)):Option (LO ((List Int)×Int×(List DGuest)×Int) (JO ((List Int)×Int×(List DGuest)) (Dl20Rd×DHost))):=some (.next (s11.1,s11.2.1,s11.2.2,w64 (s10.2.2.2-(1:Int))))
noncomputable def mV  (s10:(List Int)×Int×(List DGuest)×Int):Option (LO ((List Int)×Int×(List DGuest)×Int) (JO ((List Int)×Int×(List DGuest)) (Dl20Rd×DHost))):=
 cond (decide ((0:Int)<s10.2.2.2))
  (Option.bind (Option.bind (aA (Dl20Rd.mk s10.1 s10.2.1) (3:Int)) λv12=>
   Option.bind (aA v12.1 (3:Int)) λv13=>
   Option.bind (aA v13.1 (8:Int)) λv14=>
   grd ((0:Int)<=v12.2/\v12.2<((List.length s10.2.2.1:Nat):Int)) (cond (List.getD s10.2.2.1 (Int.toNat v12.2) default).Live
    (grd ((0:Int)<=v13.2/\v13.2<((List.length s10.2.2.1:Nat):Int)) (cond (List.getD s10.2.2.1 (Int.toNat v13.2) default).Live
     (grd ((0:Int)<=v12.2/\v12.2<((List.length s10.2.2.1:Nat):Int)) (grd ((0:Int)<=v14.2/\v14.2<((List.length (List.getD s10.2.2.1 (Int.toNat v12.2) default).Pages:Nat):Int)) (cond (decide ((0:Int)<=(List.getD (List.getD s10.2.2.1 (Int.toNat v12.2) default).Pages (Int.toNat v14.2) default).Frame))
      (grd ((0:Int)<=v12.2/\v12.2<((List.length s10.2.2.1:Nat):Int)) (grd ((0:Int)<=v14.2/\v14.2<((List.length (List.getD s10.2.2.1 (Int.toNat v12.2) default).Pages:Nat):Int)) (grd ((0:Int)<=v13.2/\v13.2<((List.length s10.2.2.1:Nat):Int)) (Option.bind (aA v14.1 (8:Int)) λv15=>
       grd ((0:Int)<=v12.2/\v12.2<((List.length s10.2.2.1:Nat):Int)) (grd ((0:Int)<=v14.2/\v14.2<((List.length (List.getD (List.set s10.2.2.1 (Int.toNat v12.2) (DGuest.mk (List.getD s10.2.2.1 (Int.toNat v12.2) default).Live (List.getD s10.2.2.1 (Int.toNat v12.2) default).C (List.set (List.getD s10.2.2.1 (Int.toNat v12.2) default).Pages (Int.toNat v14.2) (DSlot.mk (List.getD (List.getD s10.2.2.1 (Int.toNat v12.2) default).Pages (Int.toNat v14.2) default).Frame false (List.getD (List.getD s10.2.2.1 (Int.toNat v12.2) default).Pages (Int.toNat v14.2) default).Dirty)) (List.getD s10.2.2.1 (Int.toNat v12.2) default).In (List.getD s10.2.2.1 (Int.toNat v12.2) default).Out)) (Int.toNat v12.2) default).Pages:Nat):Int)) (Option.bind (aA v15.1 (2:Int)) λv16=>
        grd ((0:Int)<=v15.2/\v15.2<((List.length (List.getD (List.set s10.2.2.1 (Int.toNat v12.2) (DGuest.mk (List.getD s10.2.2.1 (Int.toNat v12.2) default).Live (List.getD s10.2.2.1 (Int.toNat v12.2) default).C (List.set (List.getD s10.2.2.1 (Int.toNat v12.2) default).Pages (Int.toNat v14.2) (DSlot.mk (List.getD (List.getD s10.2.2.1 (Int.toNat v12.2) default).Pages (Int.toNat v14.2) default).Frame false (List.getD (List.getD s10.2.2.1 (Int.toNat v12.2) default).Pages (Int.toNat v14.2) default).Dirty)) (List.getD s10.2.2.1 (Int.toNat v12.2) default).In (List.getD s10.2.2.1 (Int.toNat v12.2) default).Out)) (Int.toNat v13.2) default).Pages:Nat):Int)) (some (.go (v16.1.b,v16.1.p,List.set (List.set s10.2.2.1 (Int.toNat v12.2) (DGuest.mk (List.getD s10.2.2.1 (Int.toNat v12.2) default).Live (List.getD s10.2.2.1 (Int.toNat v12.2) default).C (List.set (List.getD s10.2.2.1 (Int.toNat v12.2) default).Pages (Int.toNat v14.2) (DSlot.mk (List.getD (List.getD s10.2.2.1 (Int.toNat v12.2) default).Pages (Int.toNat v14.2) default).Frame false (List.getD (List.getD s10.2.2.1 (Int.toNat v12.2) default).Pages (Int.toNat v14.2) default).Dirty)) (List.getD s10.2.2.1 (Int.toNat v12.2) default).In (List.getD s10.2.2.1 (Int.toNat v12.2) default).Out)) (Int.toNat v13.2) (DGuest.mk (List.getD (List.set s10.2.2.1 (Int.toNat v12.2) (DGuest.mk (List.getD s10.2.2.1 (Int.toNat v12.2) default).Live (List.getD s10.2.2.1 (Int.toNat v12.2) default).C (List.set (List.getD s10.2.2.1 (Int.toNat v12.2) default).Pages (Int.toNat v14.2) (DSlot.mk (List.getD (List.getD s10.2.2.1 (Int.toNat v12.2) default).Pages (Int.toNat v14.2) default).Frame false (List.getD (List.getD s10.2.2.1 (Int.toNat v12.2) default).Pages (Int.toNat v14.2) default).Dirty)) (List.getD s10.2.2.1 (Int.toNat v12.2) default).In (List.getD s10.2.2.1 (Int.toNat v12.2) default).Out)) (Int.toNat v13.2) default).Live (List.getD (List.set s10.2.2.1 (Int.toNat v12.2) (DGuest.mk (List.getD s10.2.2.1 (Int.toNat v12.2) default).Live (List.getD s10.2.2.1 (Int.toNat v12.2) default).C (List.set (List.getD s10.2.2.1 (Int.toNat v12.2) default).Pages (Int.toNat v14.2) (DSlot.mk (List.getD (List.getD s10.2.2.1 (Int.toNat v12.2) default).Pages (Int.toNat v14.2) default).Frame false (List.getD (List.getD s10.2.2.1 (Int.toNat v12.2) default).Pages (Int.toNat v14.2) default).Dirty)) (List.getD s10.2.2.1 (Int.toNat v12.2) default).In (List.getD s10.2.2.1 (Int.toNat v12.2) default).Out)) (Int.toNat v13.2) default).C (List.set (List.getD (List.set s10.2.2.1 (Int.toNat v12.2) (DGuest.mk (List.getD s10.2.2.1 (Int.toNat v12.2) default).Live (List.getD s10.2.2.1 (Int.toNat v12.2) default).C (List.set (List.getD s10.2.2.1 (Int.toNat v12.2) default).Pages (Int.toNat v14.2) (DSlot.mk (List.getD (List.getD s10.2.2.1 (Int.toNat v12.2) default).Pages (Int.toNat v14.2) default).Frame false (List.getD (List.getD s10.2.2.1 (Int.toNat v12.2) default).Pages (Int.toNat v14.2) default).Dirty)) (List.getD s10.2.2.1 (Int.toNat v12.2) default).In (List.getD s10.2.2.1 (Int.toNat v12.2) default).Out)) (Int.toNat v13.2) default).Pages (Int.toNat v15.2) (DSlot.mk (List.getD (List.getD (List.set s10.2.2.1 (Int.toNat v12.2) (DGuest.mk (List.getD s10.2.2.1 (Int.toNat v12.2) default).Live (List.getD s10.2.2.1 (Int.toNat v12.2) default).C (List.set (List.getD s10.2.2.1 (Int.toNat v12.2) default).Pages (Int.toNat v14.2) (DSlot.mk (List.getD (List.getD s10.2.2.1 (Int.toNat v12.2) default).Pages (Int.toNat v14.2) default).Frame false (List.getD (List.getD s10.2.2.1 (Int.toNat v12.2) default).Pages (Int.toNat v14.2) default).Dirty)) (List.getD s10.2.2.1 (Int.toNat v12.2) default).In (List.getD s10.2.2.1 (Int.toNat v12.2) default).Out)) (Int.toNat v12.2) default).Pages (Int.toNat v14.2) default).Frame false (decide (v16.2=(0:Int))))) (List.getD (List.set s10.2.2.1 (Int.toNat v12.2) (DGuest.mk (List.getD s10.2.2.1 (Int.toNat v12.2) default).Live (List.getD s10.2.2.1 (Int.toNat v12.2) default).C (List.set (List.getD s10.2.2.1 (Int.toNat v12.2) default).Pages (Int.toNat v14.2) (DSlot.mk (List.getD (List.getD s10.2.2.1 (Int.toNat v12.2) default).Pages (Int.toNat v14.2) default).Frame false (List.getD (List.getD s10.2.2.1 (Int.toNat v12.2) default).Pages (Int.toNat v14.2) default).Dirty)) (List.getD s10.2.2.1 (Int.toNat v12.2) default).In (List.getD s10.2.2.1 (Int.toNat v12.2) default).Out)) (Int.toNat v13.2) default).In (List.getD (List.set s10.2.2.1 (Int.toNat v12.2) (DGuest.mk (List.getD s10.2.2.1 (Int.toNat v12.2) default).Live (List.getD s10.2.2.1 (Int.toNat v12.2) default).C (List.set (List.getD s10.2.2.1 (Int.toNat v12.2) default).Pages (Int.toNat v14.2) (DSlot.mk (List.getD (List.getD s10.2.2.1 (Int.toNat v12.2) default).Pages (Int.toNat v14.2) default).Frame false (List.getD (List.getD s10.2.2.1 (Int.toNat v12.2) default).Pages (Int.toNat v14.2) default).Dirty)) (List.getD s10.2.2.1 (Int.toNat v12.2) default).In (List.getD s10.2.2.1 (Int.toNat v12.2) default).Out)) (Int.toNat v13.2) default).Out))))))))))
      (some (.go (v14.1.b,v14.1.p,s10.2.2.1))))))
     (some (.go (v14.1.b,v14.1.p,s10.2.2.1)))))
    (some (.go (v14.1.b,v14.1.p,s10.2.2.1))))) λj11=>
   JO.run j11 (sM s10))
  (some (.ret (.go (s10.1,s10.2.1,s10.2.2.1))))
noncomputable def tU (x_n:Int)(s3:(List Int)×Int×(List Int)×(List DGuest)):Option (Dl20Rd×DHost):=
 Option.bind (Option.bind (aA (Dl20Rd.mk s3.1 s3.2.1) (4:Int)) λv9=>
  Option.bind (iter mV (v9.1.b,v9.1.p,s3.2.2.2,v9.2)) LO.val) λj4=>
  JO.run j4 (tO x_n s3)
noncomputable def rV (s18:(List Int)×Int×(List Int)×(List DGuest)×(List Int)×Int×Int×Int×Int×Bool×Int×Int×Int×Bool×Bool×Bool×Bool×(List Int)×(List Int)×(List Int)×Int)(s19:(List Int)×Int×(List Int)×(List DGuest)×(List Int)×Int×Int×Int×Int×Bool×Int×Int×Int×Bool×Bool×Bool×Bool×(List Int)×(List Int)×(List Int)):Option (LO ((List Int)×Int×(List Int)×(List DGuest)×(List Int)×Int×Int×Int×Int×Bool×Int×Int×Int×Bool×Bool×Bool×Bool×(List Int)×(List Int)×(List Int)×Int) (JO ((List Int)×Int×(List Int)×(List DGuest)) (Dl20Rd×DHost))):=some (.next (s19.1,s19.2.1,s19.2.2.1,s19.2.2.2.1,s19.2.2.2.2.1,s19.2.2.2.2.2.1,s19.2.2.2.2.2.2.1,s19.2.2.2.2.2.2.2.1,s19.2.2.2.2.2.2.2.2.1,s19.2.2.2.2.2.2.2.2.2.1,s19.2.2.2.2.2.2.2.2.2.2.1,s19.2.2.2.2.2.2.2.2.2.2.2.1,s19.2.2.2.2.2.2.2.2.2.2.2.2.1,s19.2.2.2.2.2.2.2.2.2.2.2.2.2.1,s19.2.2.2.2.2.2.2.2.2.2.2.2.2.2.1,s19.2.2.2.2.2.2.2.2.2.2.2.2.2.2.2.1,s19.2.2.2.2.2.2.2.2.2.2.2.2.2.2.2.2.1,s19.2.2.2.2.2.2.2.2.2.2.2.2.2.2.2.2.2.1,s19.2.2.2.2.2.2.2.2.2.2.2.2.2.2.2.2.2.2.1,s19.2.2.2.2.2.2.2.2.2.2.2.2.2.2.2.2.2.2.2,w64 (s18.2.2.2.2.2.2.2.2.2.2.2.2.2.2.2.2.2.2.2.2-(1:Int))))
noncomputable def sQ (s18:(List Int)×Int×(List Int)×(List DGuest)×(List Int)×Int×Int×Int×Int×Bool×Int×Int×Int×Bool×Bool×Bool×Bool×(List Int)×(List Int)×(List Int)×Int)(v20:Dl20Rd×DBare)(s21:(List Int)×Int×(List Int)):Option (JO ((List Int)×Int×(List Int)×(List DGuest)×(List Int)×Int×Int×Int×Int×Bool×Int×Int×Int×Bool×Bool×Bool×Bool×(List Int)×(List Int)×(List Int)) (LO ((List Int)×Int×(List Int)×(List DGuest)×(List Int)×Int×Int×Int×Int×Bool×Int×Int×Int×Bool×Bool×Bool×Bool×(List Int)×(List Int)×(List Int)×Int) (JO ((List Int)×Int×(List Int)×(List DGuest)) (Dl20Rd×DHost)))):=
 Option.bind (lZ (DHost.mk s18.2.2.1 s18.2.2.2.1) (DBare.mk v20.2.C s21.2.2 v20.2.In v20.2.Out)) λv22=>
 cond v22.2.2
  (some (.go (s21.1,s21.2.1,v22.1.Words,v22.1.Guests,v20.2.C.Regs,v20.2.C.Pc,v20.2.C.Root,v20.2.C.Vector,v20.2.C.Saved,v20.2.C.SavedUser,v20.2.C.Cause,v20.2.C.Bad,v20.2.C.Timer,v20.2.C.Waits,v20.2.C.User,v20.2.C.On,v20.2.C.Stopped,s21.2.2,v20.2.In,v20.2.Out)))
  (some (.go (s21.1,s21.2.1,s18.2.2.1,s18.2.2.2.1,v20.2.C.Regs,v20.2.C.Pc,v20.2.C.Root,v20.2.C.Vector,v20.2.C.Saved,v20.2.C.SavedUser,v20.2.C.Cause,v20.2.C.Bad,v20.2.C.Timer,v20.2.C.Waits,v20.2.C.User,v20.2.C.On,v20.2.C.Stopped,s21.2.2,v20.2.In,v20.2.Out)))
noncomputable def rZ (s23:(List Int)×Int×(List Int)×Int)(s24:(List Int)×Int×(List Int)):Option (LO ((List Int)×Int×(List Int)×Int) (JO ((List Int)×Int×(List Int)) (JO ((List Int)×Int×(List Int)×(List DGuest)×(List Int)×Int×Int×Int×Int×Bool×Int×Int×Int×Bool×Bool×Bool×Bool×(List Int)×(List Int)×(List Int)) (LO ((List Int)×Int×(List Int)×(List DGuest)×(List Int)×Int×Int×Int×Int×Bool×Int×Int×Int×Bool×Bool×Bool×Bool×(List Int)×(List Int)×(List Int)×Int) (JO ((List Int)×Int×(List Int)×(List DGuest)) (Dl20Rd×DHost)))))):=some (.next (s24.1,s24.2.1,s24.2.2,w64 (s23.2.2.2+(1:Int))))
noncomputable def sT (s18:(List Int)×Int×(List Int)×(List DGuest)×(List Int)×Int×Int×Int×Int×Bool×Int×Int×Int×Bool×Bool×Bool×Bool×(List Int)×(List Int)×(List Int)×Int)(s23:(List Int)×Int×(List Int)×Int)(s25:(List Int)×Int×(List Int)):Option (JO ((List Int)×Int×(List Int)) (LO ((List Int)×Int×(List Int)×Int) (JO ((List Int)×Int×(List Int)) (JO ((List Int)×Int×(List Int)×(List DGuest)×(List Int)×Int×Int×Int×Int×Bool×Int×Int×Int×Bool×Bool×Bool×Bool×(List Int)×(List Int)×(List Int)) (LO ((List Int)×Int×(List Int)×(List DGuest)×(List Int)×Int×Int×Int×Int×Bool×Int×Int×Int×Bool×Bool×Bool×Bool×(List Int)×(List Int)×(List Int)×Int) (JO ((List Int)×Int×(List Int)×(List DGuest)) (Dl20Rd×DHost))))))):=
 cond (decide ((0:Int)<((List.length s18.2.2.2.2.2.2.2.2.2.2.2.2.2.2.2.2.2.1:Nat):Int)))
  (Option.bind (aA (Dl20Rd.mk s25.1 s25.2.1) (3:Int)) λv26=>
  cond (decide (v26.2=(0:Int)))
   (grd ((0:Int)<=(w64 (s23.2.2.2*(8:Int)))/\(w64 (s23.2.2.2*(8:Int)))<=(w64 ((w64 (s23.2.2.2+(1:Int)))*(8:Int)))/\(w64 ((w64 (s23.2.2.2+(1:Int)))*(8:Int)))<=((List.length s25.2.2:Nat):Int)) (grd ((0:Int)<=(w64 (s23.2.2.2*(8:Int)))/\(w64 (s23.2.2.2*(8:Int)))<=((List.length s18.2.2.2.2.2.2.2.2.2.2.2.2.2.2.2.2.2.1:Nat):Int)/\((List.length s18.2.2.2.2.2.2.2.2.2.2.2.2.2.2.2.2.2.1:Nat):Int)<=((List.length s18.2.2.2.2.2.2.2.2.2.2.2.2.2.2.2.2.2.1:Nat):Int)) (some (.go (v26.1.b,v26.1.p,over s25.2.2 (Int.toNat (w64 (s23.2.2.2*(8:Int)))) (Int.toNat (w64 ((w64 (s23.2.2.2+(1:Int)))*(8:Int)))-Int.toNat (w64 (s23.2.2.2*(8:Int)))) (List.take (Int.toNat ((List.length s18.2.2.2.2.2.2.2.2.2.2.2.2.2.2.2.2.2.1:Nat):Int)-Int.toNat (w64 (s23.2.2.2*(8:Int)))) (List.drop (Int.toNat (w64 (s23.2.2.2*(8:Int)))) s18.2.2.2.2.2.2.2.2.2.2.2.2.2.2.2.2.2.1)))))))
   (some (.go (v26.1.b,v26.1.p,s25.2.2))))
  (some (.go (s25.1,s25.2.1,s25.2.2)))
noncomputable def mK (s18:(List Int)×Int×(List Int)×(List DGuest)×(List Int)×Int×Int×Int×Int×Bool×Int×Int×Int×Bool×Bool×Bool×Bool×(List Int)×(List Int)×(List Int)×Int)(s23:(List Int)×Int×(List Int)×Int):Option (LO ((List Int)×Int×(List Int)×Int) (JO ((List Int)×Int×(List Int)) (JO ((List Int)×Int×(List Int)×(List DGuest)×(List Int)×Int×Int×Int×Int×Bool×Int×Int×Int×Bool×Bool×Bool×Bool×(List Int)×(List Int)×(List Int)) (LO ((List Int)×Int×(List Int)×(List DGuest)×(List Int)×Int×Int×Int×Int×Bool×Int×Int×Int×Bool×Bool×Bool×Bool×(List Int)×(List Int)×(List Int)×Int) (JO ((List Int)×Int×(List Int)×(List DGuest)) (Dl20Rd×DHost)))))):=
 cond (decide (s23.2.2.2<(8:Int)))
  (Option.bind (Option.bind (cond (decide ((3:Int)<s23.2.2.2))
   (Option.bind (aA (Dl20Rd.mk s23.1 s23.2.1) (2:Int)) λv27=>
   cond (decide (v27.2=(0:Int)))
    (grd ((0:Int)<=(w64 (s23.2.2.2*(8:Int)))/\(w64 (s23.2.2.2*(8:Int)))<=((List.length s23.2.2.1:Nat):Int)/\((List.length s23.2.2.1:Nat):Int)<=((List.length s23.2.2.1:Nat):Int)) (some (.go (v27.1.b,v27.1.p,over s23.2.2.1 (Int.toNat (w64 (s23.2.2.2*(8:Int)))) (Int.toNat ((List.length s23.2.2.1:Nat):Int)-Int.toNat (w64 (s23.2.2.2*(8:Int)))) (List.replicate (Int.toNat (8:Int)) (0:Int))))))
    (some (.go (v27.1.b,v27.1.p,s23.2.2.1))))
   (some (.go (s23.1,s23.2.1,s23.2.2.1)))) λj25=>
   JO.run j25 (sT s18 s23)) λj24=>
   JO.run j24 (rZ s23))
  (some (.ret (.go (s23.1,s23.2.1,s23.2.2.1))))
noncomputable def mG  (s18:(List Int)×Int×(List Int)×(List DGuest)×(List Int)×Int×Int×Int×Int×Bool×Int×Int×Int×Bool×Bool×Bool×Bool×(List Int)×(List Int)×(List Int)×Int):Option (LO ((List Int)×Int×(List Int)×(List DGuest)×(List Int)×Int×Int×Int×Int×Bool×Int×Int×Int×Bool×Bool×Bool×Bool×(List Int)×(List Int)×(List Int)×Int) (JO ((List Int)×Int×(List Int)×(List DGuest)) (Dl20Rd×DHost))):=
 cond (decide ((0:Int)<s18.2.2.2.2.2.2.2.2.2.2.2.2.2.2.2.2.2.2.2.2))
  (Option.bind (Option.bind (nH (Dl20Rd.mk s18.1 s18.2.1) (0:Int)) λv20=>
   Option.bind (Option.bind (iter (mK s18) (v20.1.b,v20.1.p,v20.2.Mem,(0:Int))) LO.val) λj21=>
    JO.run j21 (sQ s18 v20)) λj19=>
   JO.run j19 (rV s18))
  (some (.ret (.go (s18.1,s18.2.1,s18.2.2.1,s18.2.2.2.1))))
noncomputable def tQ (x_n:Int)(v1:DHost)(s2:(List Int)×Int×(List Int)):Option (Dl20Rd×DHost):=
 Option.bind (Option.bind (aA (Dl20Rd.mk s2.1 s2.2.1) (3:Int)) λv17=>
  Option.bind (iter mG (v17.1.b,v17.1.p,s2.2.2,v1.Guests,([]:List Int),(0:Int),(0:Int),(0:Int),(0:Int),false,(0:Int),(0:Int),(0:Int),false,false,false,false,([]:List Int),([]:List Int),([]:List Int),w64 ((1:Int)+v17.2))) LO.val) λj3=>
  JO.run j3 (tU x_n)
noncomputable def sF (s28:(List Int)×Int×(List Int)×Int)(s29:(List Int)×Int×(List Int)):Option (LO ((List Int)×Int×(List Int)×Int) (JO ((List Int)×Int×(List Int)) (Dl20Rd×DHost))):=some (.next (s29.1,s29.2.1,s29.2.2,w64 (s28.2.2.2+(1:Int))))
noncomputable def mF  (s28:(List Int)×Int×(List Int)×Int):Option (LO ((List Int)×Int×(List Int)×Int) (JO ((List Int)×Int×(List Int)) (Dl20Rd×DHost))):=
 cond (decide (s28.2.2.2<((List.length s28.2.2.1:Nat):Int)))
  (Option.bind (Option.bind (aA (Dl20Rd.mk s28.1 s28.2.1) (4:Int)) λv30=>
   cond (decide (v30.2=(0:Int)))
    (Option.bind (cJ v30.1) λv31=>
    grd ((0:Int)<=s28.2.2.2/\s28.2.2.2<((List.length s28.2.2.1:Nat):Int)) (some (.go (v31.1.b,v31.1.p,List.set s28.2.2.1 (Int.toNat s28.2.2.2) v31.2))))
    (some (.go (v30.1.b,v30.1.p,s28.2.2.1)))) λj29=>
   JO.run j29 (sF s28))
  (some (.ret (.go (s28.1,s28.2.1,s28.2.2.1))))
noncomputable def jZ (x_r:Dl20Rd)(x_n:Int):Option (Dl20Rd×DHost):=
 Option.bind (nA (0:Int)) λv1=>
 Option.bind (Option.bind (iter mF (x_r.b,x_r.p,v1.Words,(0:Int))) LO.val) λj2=>
  JO.run j2 (tQ x_n v1)
noncomputable def g36:Sw tG:=⟨[.pt 109,.v (.i .i64)],.one (.st 2026),jZ⟩
theorem s36:Sjk 36 g36:=sgy [(81,.r g81),(72,.w g72),(82,.w g82),(83,.w g83),(84,.r g84),(75,.w g75)] ⟨s81,s72,s82,s83,s84,s75,trivial⟩ (.s .o (.s .o (.j ⟨[0,1,4,5],[],[(.c 0 0,.rb 5),(.c 0 1,.i .i64),(.c 5 0,.ro 3)]⟩ (.s .o (.k (.l ⟨[0,1,4,5],[],[(.c 0 0,.rb 5),(.c 0 1,.i .i64),(.c 5 0,.ro 3),(.s 6,.i .i64)]⟩ (.s .o (.j ⟨[0,1,4,5,6],[],[(.c 0 0,.rb 5),(.c 0 1,.i .i64),(.c 5 0,.ro 3)]⟩ (.k (.s .o (.c (.m [0]) .o))) .o))))) (.s .o (.j ⟨[0,1,4,5],[],[(.c 0 0,.rb 5),(.c 0 1,.i .i64),(.c 5 0,.ro 3),(.c 5 1,.ro 1064)]⟩ (.s .o (.k (.l ⟨[0,1,4,5,7],[],[(.c 0 0,.rb 5),(.c 0 1,.i .i64),(.c 5 0,.ro 3),(.c 5 1,.ro 1064),(.c 7 0,.ro 3),(.c 7 1,.i .i64),(.c 7 2,.i .i64),(.c 7 3,.i .i64),(.c 7 4,.i .i64),(.c 7 5,.b),(.c 7 6,.i .i64),(.c 7 7,.i .i64),(.c 7 8,.i .i64),(.c 7 9,.b),(.c 7 10,.b),(.c 7 11,.b),(.c 7 12,.b),(.c 7 13,.ro 3),(.c 7 14,.ro 3),(.c 7 15,.ro 3),(.s 8,.i .i64)]⟩ (.s .o (.j ⟨[0,1,4,5,7,8],[],[(.c 0 0,.rb 5),(.c 0 1,.i .i64),(.c 5 0,.ro 3),(.c 5 1,.ro 1064),(.c 7 0,.ro 3),(.c 7 1,.i .i64),(.c 7 2,.i .i64),(.c 7 3,.i .i64),(.c 7 4,.i .i64),(.c 7 5,.b),(.c 7 6,.i .i64),(.c 7 7,.i .i64),(.c 7 8,.i .i64),(.c 7 9,.b),(.c 7 10,.b),(.c 7 11,.b),(.c 7 12,.b),(.c 7 13,.ro 3),(.c 7 14,.ro 3),(.c 7 15,.ro 3)]⟩ (.k (.s .o (.j ⟨[0,1,4,5,7,8,9],[],[(.c 0 0,.rb 5),(.c 0 1,.i .i64),(.c 9 13,.ro 3)]⟩ (.s .o (.k (.l ⟨[0,1,4,5,7,8,9],[],[(.c 0 0,.rb 5),(.c 0 1,.i .i64),(.c 9 13,.ro 3),(.s 10,.i .i64)]⟩ (.s .o (.j ⟨[0,1,4,5,7,8,9,10],[],[(.c 0 0,.rb 5),(.c 0 1,.i .i64),(.c 9 13,.ro 3)]⟩ (.k (.j ⟨[0,1,4,5,7,8,9,10],[],[(.c 0 0,.rb 5),(.c 0 1,.i .i64),(.c 9 13,.ro 3)]⟩ .o .o)) .o))))) .o))) .o))))) (.j ⟨[0,1,4,5],[],[(.c 0 0,.rb 5),(.c 0 1,.i .i64),(.c 5 1,.ro 1064)]⟩ (.s .o (.k (.l ⟨[0,1,4,5],[],[(.c 0 0,.rb 5),(.c 0 1,.i .i64),(.c 5 1,.ro 1064),(.s 14,.i .i64)]⟩ (.s .o (.j ⟨[0,1,4,5,14],[],[(.c 0 0,.rb 5),(.c 0 1,.i .i64),(.c 5 1,.ro 1064)]⟩ (.k (.s .o (.s .o (.s .o (.s .o (.c (.s .o (.m [0])) .o)))))) .o))))) (.j ⟨[4,5],[0],[(.c 5 0,.ro 3),(.d 0 0,.rb 5),(.d 0 1,.i .i64),(.c 5 1,.ro 1064)]⟩ (.s .o (.c (.s .o (.k (.s .o (.c (.m [0]) (.s .o (.c .o (.s .o (.c (.g [] [] [.fo (.c 5 1) 0]) (.g [] [] [.fo (.c 5 1) 0]))))))))) .o)) .o))))))) kr kr kr
noncomputable def sG  (s1:Unit):Option Bool:=some true
noncomputable def eS (x_a:List Int)(x_b:List Int)(s2:Int):Option (LO Int (JO Unit Bool)):=
 cond (decide (s2<((List.length x_a:Nat):Int)))
  (grd ((0:Int)<=s2/\s2<((List.length x_a:Nat):Int)) (grd ((0:Int)<=s2/\s2<((List.length x_b:Nat):Int)) (cond (!decide ((List.getD x_a (Int.toNat s2) default)=(List.getD x_b (Int.toNat s2) default)))
   (some (.ret (.out false)))
   (some (.next (w64 (s2+(1:Int))))))))
  (some (.ret (.go ())))
noncomputable def cP (x_a:List Int)(x_b:List Int):Option Bool:=
 cond (!decide (((List.length x_a:Nat):Int)=((List.length x_b:Nat):Int)))
  (some false)
  (Option.bind (Option.bind (iter (eS x_a x_b) (0:Int)) LO.val) λj1=>
   JO.run j1 sG)
noncomputable def g96:Sg tG:=⟨[.row 3,.row 3],.one .b,cP⟩
theorem s96:Sok 96 g96:=sgx [] trivial (.s .o (.s .o (.j ⟨[],[],[]⟩ (.s .o (.k (.l ⟨[0,1],[],[(.s 5,.i .i64)]⟩ .o))) .o))) kr kr kr
noncomputable def jN (x_a:DCore)(x_b:DCore):Option Bool:=
 Option.bind (cP x_a.Regs x_b.Regs) λv1=>
 cond (!v1)
  (some false)
  (cond (!decide (x_a.Pc=x_b.Pc))
   (some false)
   (cond (!decide (x_a.Root=x_b.Root))
    (some false)
    (cond (!decide (x_a.Vector=x_b.Vector))
     (some false)
     (cond (!decide (x_a.Saved=x_b.Saved))
      (some false)
      (cond (!(x_a.SavedUser==x_b.SavedUser))
       (some false)
       (cond (decide (x_a.Cause=x_b.Cause))
        (cond (decide (x_a.Bad=x_b.Bad))
         (cond (decide (x_a.Timer=x_b.Timer))
          (cond (x_a.Waits==x_b.Waits)
           (cond (x_a.User==x_b.User)
            (cond (x_a.On==x_b.On)
             (some (x_a.Stopped==x_b.Stopped))
             (some false))
            (some false))
           (some false))
          (some false))
         (some false))
        (some false)))))))
noncomputable def g99:Sg tG:=⟨[.st 61,.st 61],.one .b,jN⟩
theorem s99:Sok 99 g99:=sgx [(96,.r g96)] ⟨s96,trivial⟩ .o kr kr kr
noncomputable def lX (x_a:DBare)(x_b:DBare):Option Bool:=
 Option.bind (jN x_a.C x_b.C) λv1=>
 cond v1
  (Option.bind (cP x_a.Mem x_b.Mem) λv2=>
  cond v2
   (Option.bind (cP x_a.In x_b.In) λv3=>
   cond v3
    (Option.bind (cP x_a.Out x_b.Out) λv4=>
    some v4)
    (some false))
   (some false))
  (some false)
noncomputable def g53:Sg tG:=⟨[.st 81,.st 81],.one .b,lX⟩
theorem s53:Sok 53 g53:=sgx [(99,.r g99),(96,.r g96)] ⟨s99,s96,trivial⟩ .o kr kr kr
noncomputable def aBi  (s4:Unit):Option Bool:=some true
noncomputable def iR (x_a:DGuest)(x_b:DGuest)(s5:Int):Option (LO Int (JO Unit Bool)):=
 cond (decide (s5<((List.length x_a.Pages:Nat):Int)))
  (grd ((0:Int)<=s5/\s5<((List.length x_a.Pages:Nat):Int)) (grd ((0:Int)<=s5/\s5<((List.length x_b.Pages:Nat):Int)) (cond (!(decide ((List.getD x_a.Pages (Int.toNat s5) default).Frame=(List.getD x_b.Pages (Int.toNat s5) default).Frame)&&(((List.getD x_a.Pages (Int.toNat s5) default).Write==(List.getD x_b.Pages (Int.toNat s5) default).Write)&&(((List.getD x_a.Pages (Int.toNat s5) default).Dirty==(List.getD x_b.Pages (Int.toNat s5) default).Dirty)&&true))))
   (some (.ret (.out false)))
   (some (.next (w64 (s5+(1:Int))))))))
  (some (.ret (.go ())))
noncomputable def iK (x_a:DGuest)(x_b:DGuest):Option Bool:=
 cond (!(x_a.Live==x_b.Live))
  (some false)
  (Option.bind (jN x_a.C x_b.C) λv1=>
  cond (!v1)
   (some false)
   (Option.bind (cP x_a.In x_b.In) λv2=>
   cond (!v2)
    (some false)
    (Option.bind (cP x_a.Out x_b.Out) λv3=>
    cond (!v3)
     (some false)
     (cond (!decide (((List.length x_a.Pages:Nat):Int)=((List.length x_b.Pages:Nat):Int)))
      (some false)
      (Option.bind (Option.bind (iter (iR x_a x_b) (0:Int)) LO.val) λj4=>
       JO.run j4 aBi)))))
noncomputable def g97:Sg tG:=⟨[.st 64,.st 64],.one .b,iK⟩
theorem s97:Sok 97 g97:=sgx [(99,.r g99),(96,.r g96)] ⟨s99,s96,trivial⟩ (.s .o (.s .o (.j ⟨[],[],[]⟩ (.s .o (.k (.l ⟨[2,3],[],[(.s 5,.i .i64)]⟩ .o))) .o))) kr kr kr
noncomputable def aCv  (s2:Unit):Option Bool:=some true
noncomputable def jQ (x_a:DHost)(x_b:DHost)(s3:Int):Option (LO Int (JO Unit Bool)):=
 cond (decide (s3<((List.length x_a.Guests:Nat):Int)))
  (grd ((0:Int)<=s3/\s3<((List.length x_a.Guests:Nat):Int)) (grd ((0:Int)<=s3/\s3<((List.length x_b.Guests:Nat):Int)) (Option.bind (iK (DGuest.mk (List.getD x_a.Guests (Int.toNat s3) default).Live (DCore.mk ((List.getD x_a.Guests (Int.toNat s3) default).C).Regs ((List.getD x_a.Guests (Int.toNat s3) default).C).Pc ((List.getD x_a.Guests (Int.toNat s3) default).C).Root ((List.getD x_a.Guests (Int.toNat s3) default).C).Vector ((List.getD x_a.Guests (Int.toNat s3) default).C).Saved ((List.getD x_a.Guests (Int.toNat s3) default).C).SavedUser ((List.getD x_a.Guests (Int.toNat s3) default).C).Cause ((List.getD x_a.Guests (Int.toNat s3) default).C).Bad ((List.getD x_a.Guests (Int.toNat s3) default).C).Timer ((List.getD x_a.Guests (Int.toNat s3) default).C).Waits ((List.getD x_a.Guests (Int.toNat s3) default).C).User ((List.getD x_a.Guests (Int.toNat s3) default).C).On ((List.getD x_a.Guests (Int.toNat s3) default).C).Stopped) (List.getD x_a.Guests (Int.toNat s3) default).Pages (List.getD x_a.Guests (Int.toNat s3) default).In (List.getD x_a.Guests (Int.toNat s3) default).Out) (DGuest.mk (List.getD x_b.Guests (Int.toNat s3) default).Live (DCore.mk ((List.getD x_b.Guests (Int.toNat s3) default).C).Regs ((List.getD x_b.Guests (Int.toNat s3) default).C).Pc ((List.getD x_b.Guests (Int.toNat s3) default).C).Root ((List.getD x_b.Guests (Int.toNat s3) default).C).Vector ((List.getD x_b.Guests (Int.toNat s3) default).C).Saved ((List.getD x_b.Guests (Int.toNat s3) default).C).SavedUser ((List.getD x_b.Guests (Int.toNat s3) default).C).Cause ((List.getD x_b.Guests (Int.toNat s3) default).C).Bad ((List.getD x_b.Guests (Int.toNat s3) default).C).Timer ((List.getD x_b.Guests (Int.toNat s3) default).C).Waits ((List.getD x_b.Guests (Int.toNat s3) default).C).User ((List.getD x_b.Guests (Int.toNat s3) default).C).On ((List.getD x_b.Guests (Int.toNat s3) default).C).Stopped) (List.getD x_b.Guests (Int.toNat s3) default).Pages (List.getD x_b.Guests (Int.toNat s3) default).In (List.getD x_b.Guests (Int.toNat s3) default).Out)) λv4=>
   cond (!v4)
    (some (.ret (.out false)))
    (some (.next (w64 (s3+(1:Int))))))))
  (some (.ret (.go ())))
noncomputable def jB (x_a:DHost)(x_b:DHost):Option Bool:=
 Option.bind (cP x_a.Words x_b.Words) λv1=>
 cond (!v1)
  (some false)
  (cond (!decide (((List.length x_a.Guests:Nat):Int)=((List.length x_b.Guests:Nat):Int)))
   (some false)
   (Option.bind (Option.bind (iter (jQ x_a x_b) (0:Int)) LO.val) λj2=>
    JO.run j2 aCv))
noncomputable def g51:Sg tG:=⟨[.st 26,.st 26],.one .b,jB⟩
theorem s51:Sok 51 g51:=sgx [(96,.r g96),(97,.r g97)] ⟨s96,s97,trivial⟩ (.s .o (.s .o (.j ⟨[],[],[]⟩ (.s .o (.k (.l ⟨[2,3],[],[(.s 5,.i .i64)]⟩ .o))) .o))) kr kr kr
noncomputable def aBj  (s1:Unit):Option Bool:=some true
noncomputable def lQ (s2:Int)(s3:Unit):Option (LO Int (JO Unit Bool)):=some (.next (w64 (s2+(1:Int))))
noncomputable def iQ (x_a:DHost)(x_b:DHost)(x_but:Int)(s2:Int):Option (LO Int (JO Unit Bool)):=
 cond (decide (s2<(3:Int)))
  (Option.bind (Option.bind (jK x_a s2) λv4=>
   Option.bind (jK x_b s2) λv5=>
   cond (!decide (s2=x_but))
    (cond (!(v4.2==v5.2))
     (some (.out (.ret (.out false))))
     (Option.bind (lX v4.1 v5.1) λv6=>
     cond (!v6)
      (some (.out (.ret (.out false))))
      (some (.go ()))))
    (some (.go ()))) λj3=>
   JO.run j3 (lQ s2))
  (some (.ret (.go ())))
noncomputable def iG (x_a:DHost)(x_b:DHost)(x_but:Int):Option Bool:=
 Option.bind (Option.bind (iter (iQ x_a x_b x_but) (0:Int)) LO.val) λj1=>
  JO.run j1 aBj
noncomputable def g16:Sg tG:=⟨[.st 26,.st 26,.i .i64],.one .b,iG⟩
theorem s16:Sok 16 g16:=sgx [(52,.r g52),(53,.r g53)] ⟨s52,s53,trivial⟩ (.s .o (.j ⟨[],[],[]⟩ (.s .o (.k (.l ⟨[2,3,4],[],[(.s 7,.i .i64)]⟩ (.s .o (.j ⟨[2,3,4,7],[],[]⟩ .o .o))))) .o)) kr kr kr
noncomputable def aGt (v1:Dl20Rd×DHost)(s2:(List Int)×Int×(List DGuest)):Option (Dl20Rd×DHost):=some ((Dl20Rd.mk s2.1 s2.2.1),DHost.mk v1.2.Words s2.2.2)
noncomputable def oD (x_r:Dl20Rd):Option (Dl20Rd×DHost):=
 Option.bind (jZ x_r (25:Int)) λv1=>
 Option.bind (cond (decide (((List.length v1.2.Guests:Nat):Int)=(3:Int)))
  (grd ((0:Int)<=(2:Int)/\(2:Int)<((List.length v1.2.Guests:Nat):Int)) (cond (List.getD v1.2.Guests 2 default).Live
   (Option.bind (aA v1.1 (5:Int)) λv3=>
   cond (decide ((0:Int)<v3.2))
    (grd ((0:Int)<=(2:Int)/\(2:Int)<((List.length v1.2.Guests:Nat):Int)) (some (.go (v3.1.b,v3.1.p,List.set v1.2.Guests 2 (DGuest.mk false (DCore.mk ([]:List Int) (0:Int) (0:Int) (0:Int) (0:Int) false (0:Int) (0:Int) (0:Int) false false false false) ([]:List DSlot) ([]:List Int) ([]:List Int))))))
    (some (.go (v3.1.b,v3.1.p,v1.2.Guests))))
   (some (.go (v1.1.b,v1.1.p,v1.2.Guests)))))
  (some (.go (v1.1.b,v1.1.p,v1.2.Guests)))) λj2=>
  JO.run j2 (aGt v1)
noncomputable def g37:Sw tG:=⟨[.pt 109],.one (.st 2026),oD⟩
theorem s37:Sjk 37 g37:=sgy [(36,.w g36),(72,.w g72)] ⟨s36,s72,trivial⟩ (.s .o (.s .o (.j ⟨[2,3],[0],[(.d 0 0,.rb 5),(.d 0 1,.i .i64),(.c 3 1,.ro 1064)]⟩ (.s .o (.c (.g [] [] [.fo (.c 3 1) 0]) .o)) .o))) kr kr kr
noncomputable def wN  (s2:(List Int)×Int×Int):Option (Dl20Rd×Int):=
 Option.bind (aA (Dl20Rd.mk s2.1 s2.2.1) (25:Int)) λv3=>
 some (v3.1,w64 (s2.2.2-(w64 (Int.tdiv v3.2 (24:Int)))))
noncomputable def qL (x_r:Dl20Rd)(x_h:DHost):Option (Dl20Rd×Int):=
 Option.bind (aA x_r (3:Int)) λv1=>
 Option.bind (cond (decide (((List.length x_h.Guests:Nat):Int)=(3:Int)))
  (grd ((0:Int)<=v1.2/\v1.2<((List.length x_h.Guests:Nat):Int)) (cond (!(List.getD x_h.Guests (Int.toNat v1.2) default).Live)
   (Option.bind (aA v1.1 (6:Int)) λv4=>
   cond (decide ((0:Int)<v4.2))
    (some (.go (v4.1.b,v4.1.p,(0:Int))))
    (some (.go (v4.1.b,v4.1.p,v1.2))))
   (some (.go (v1.1.b,v1.1.p,v1.2)))))
  (some (.go (v1.1.b,v1.1.p,v1.2)))) λj2=>
  JO.run j2 wN
noncomputable def g38:Sw tG:=⟨[.pt 109,.v (.st 26)],.one (.i .i64),qL⟩
theorem s38:Sjk 38 g38:=sgy [(72,.w g72)] ⟨s72,trivial⟩ (.s .o (.s .o (.j ⟨[0],[],[(.c 0 0,.rb 5),(.c 0 1,.i .i64),(.s 5,.i .i64)]⟩ .o .o))) kr kr kr
noncomputable def aCg  (s2:List DSlot):Option (List DSlot):=some s2
noncomputable def gH (v1:List DSlot)(s3:(List DSlot)×Int):Option (LO ((List DSlot)×Int) (JO (List DSlot) (List DSlot))):=
 cond (decide (s3.2<((List.length v1:Nat):Int)))
  (grd ((0:Int)<=s3.2/\s3.2<((List.length s3.1:Nat):Int)) (some (.next ((List.set s3.1 (Int.toNat s3.2) (DSlot.mk (List.getD s3.1 (Int.toNat s3.2) default).Frame (List.getD s3.1 (Int.toNat s3.2) default).Write false)),w64 (s3.2+(1:Int))))))
  (some (.ret (.go s3.1)))
noncomputable def jD (x_pages:List DSlot):Option (List DSlot):=
 Option.bind (gI x_pages) λv1=>
 Option.bind (Option.bind (iter (gH v1) (v1,(0:Int))) LO.val) λj2=>
  JO.run j2 aCg
noncomputable def g42:Sg tG:=⟨[.row 66],.one (.row 66),jD⟩
theorem s42:Sok 42 g42:=sgx [(90,.r g90)] ⟨s90,trivial⟩ (.s .o (.s .o (.j ⟨[],[],[(.s 3,.ro 66)]⟩ (.s .o (.k (.l ⟨[8],[],[(.s 3,.ro 66),(.s 9,.i .i64)]⟩ .o))) .o))) kr kr kr
theorem aGk{x_pages:List DSlot}{R_:(List DSlot)}(hh:jD x_pages=some R_):Fn Try.prog 42 [bo eW x_pages] (.own 66 3 (List.length R_) (fl eW R_)):=kc (s42 x_pages R_ hh)
noncomputable def aAx (x_h:DHost)(x_g:Int)(x_at:Int):Option Int:=
 grd ((0:Int)<=x_g/\x_g<((List.length x_h.Guests:Nat):Int)) (grd ((0:Int)<=(w64 (Int.tdiv x_at (8:Int)))/\(w64 (Int.tdiv x_at (8:Int)))<((List.length (List.getD x_h.Guests (Int.toNat x_g) default).Pages:Nat):Int)) (cond (decide ((List.getD (List.getD x_h.Guests (Int.toNat x_g) default).Pages (Int.toNat (w64 (Int.tdiv x_at (8:Int)))) default).Frame<(0:Int)))
  (some (0:Int))
  (grd ((0:Int)<=(w64 ((w64 ((List.getD (List.getD x_h.Guests (Int.toNat x_g) default).Pages (Int.toNat (w64 (Int.tdiv x_at (8:Int)))) default).Frame*(8:Int)))+(Int.tmod x_at (8:Int))))/\(w64 ((w64 ((List.getD (List.getD x_h.Guests (Int.toNat x_g) default).Pages (Int.toNat (w64 (Int.tdiv x_at (8:Int)))) default).Frame*(8:Int)))+(Int.tmod x_at (8:Int))))<((List.length x_h.Words:Nat):Int)) (some (List.getD x_h.Words (Int.toNat (w64 ((w64 ((List.getD (List.getD x_h.Guests (Int.toNat x_g) default).Pages (Int.toNat (w64 (Int.tdiv x_at (8:Int)))) default).Frame*(8:Int)))+(Int.tmod x_at (8:Int))))) default)))))
noncomputable def g80:Sg tG:=⟨[.st 26,.i .i64,.i .i64],.one (.i .i64),aAx⟩
theorem s80:Sok 80 g80:=sgx [] trivial .o kr kr kr
noncomputable def eL (x_words:List Int)(x_s:DSlot):Option (List Int):=
 cond (decide (x_s.Frame=(-1:Int)))
  (some (List.replicate (Int.toNat (8:Int)) (0:Int)))
  (Option.bind (jA x_words x_s.Frame) λv1=>
  some v1)
noncomputable def g78:Sg tG:=⟨[.row 3,.st 66],.one (.rb 3),eL⟩
theorem s78:Sok 78 g78:=sgx [(108,.r bKi)] ⟨bJy,trivial⟩ .o kr kr kr
noncomputable def dG (x_h:DHost):Option DHost:=
 Option.bind (dA x_h.Words) λv1=>
 Option.bind (eH x_h.Guests) λv2=>
 some (DHost.mk v1 v2)
noncomputable def g41:Sg tG:=⟨[.st 26],.one (.st 2026),dG⟩
theorem s41:Sok 41 g41:=sgx [(88,.r g88),(89,.r g89)] ⟨s88,s89,trivial⟩ .o kr kr kr
theorem aCd{x_h:DHost}{R_:DHost}(hh:dG x_h=some R_):Fn Try.prog 41 [.agg (gO x_h)] (.agg [.own 3 1 (List.length R_.Words) (fl (eI .i64) R_.Words),.own 64 17 (List.length R_.Guests) (fl gN R_.Guests)]):=kc (s41 x_h R_ hh)
noncomputable def aAs (x_a:DSlot):Option DSlot:=some x_a
noncomputable def bLh:Sg tG:=⟨[.st 172],.one (.st 66),aAs⟩
theorem bOl:Sok 143 bLh:=sgx [] trivial .o kr kr kr
noncomputable def aEu  (s1:List DSlot):Option (List DSlot):=some s1
noncomputable def aEk (x_a:List DSlot)(s2:(List DSlot)×Int):Option (LO ((List DSlot)×Int) (JO (List DSlot) (List DSlot))):=
 cond (decide (s2.2<((List.length x_a:Nat):Int)))
  (grd ((0:Int)<=s2.2/\s2.2<((List.length x_a:Nat):Int)) (Option.bind (aAs (DSlot.mk (List.getD x_a (Int.toNat s2.2) default).Frame (List.getD x_a (Int.toNat s2.2) default).Write (List.getD x_a (Int.toNat s2.2) default).Dirty)) λv3=>
   grd ((0:Int)<=s2.2/\s2.2<((List.length s2.1:Nat):Int)) (some (.next ((List.set s2.1 (Int.toNat s2.2) v3),w64 (s2.2+(1:Int)))))))
  (some (.ret (.go s2.1)))
noncomputable def yI (x_a:List DSlot):Option (List DSlot):=
 grd ((0:Int)<=((List.length x_a:Nat):Int)/\((List.length x_a:Nat):Int)*16<=2^47/\((List.length x_a:Nat):Int)<=2^47) (Option.bind (Option.bind (iter (aEk x_a) ((List.replicate (Int.toNat ((List.length x_a:Nat):Int)) (DSlot.mk (0:Int) false false)),(0:Int))) LO.val) λj1=>
  JO.run j1 aEu)
noncomputable def bLq:Sg tG:=⟨[.row 172],.one (.row 66),yI⟩
theorem bOd:Sok 122 bLq:=sgx [(143,.r bLh)] ⟨bOl,trivial⟩ (.s .o (.s .o (.j ⟨[],[],[(.s 3,.ro 66)]⟩ (.s .o (.k (.l ⟨[0],[],[(.s 3,.ro 66),(.s 4,.i .i64)]⟩ .o))) .o))) kr kr kr
noncomputable def xL (x_a:DGuest):Option DGuest:=
 Option.bind (aAt x_a.C) λv1=>
 Option.bind (yI x_a.Pages) λv2=>
 Option.bind (lC x_a.In) λv3=>
 Option.bind (lC x_a.Out) λv4=>
 some (DGuest.mk x_a.Live v1 v2 v3 v4)
noncomputable def bLi:Sg tG:=⟨[.st 133],.one (.st 64),xL⟩
theorem bNu:Sok 101 bLi:=sgx [(121,.r bKj),(122,.r bLq),(59,.r g59)] ⟨bOa,bOd,s59,trivial⟩ .o kr kr kr
noncomputable def aCs  (s1:List DGuest):Option (List DGuest):=some s1
noncomputable def aDh (x_a:List DGuest)(s2:(List DGuest)×Int):Option (LO ((List DGuest)×Int) (JO (List DGuest) (List DGuest))):=
 cond (decide (s2.2<((List.length x_a:Nat):Int)))
  (grd ((0:Int)<=s2.2/\s2.2<((List.length x_a:Nat):Int)) (Option.bind (xL (DGuest.mk (List.getD x_a (Int.toNat s2.2) default).Live (DCore.mk ((List.getD x_a (Int.toNat s2.2) default).C).Regs ((List.getD x_a (Int.toNat s2.2) default).C).Pc ((List.getD x_a (Int.toNat s2.2) default).C).Root ((List.getD x_a (Int.toNat s2.2) default).C).Vector ((List.getD x_a (Int.toNat s2.2) default).C).Saved ((List.getD x_a (Int.toNat s2.2) default).C).SavedUser ((List.getD x_a (Int.toNat s2.2) default).C).Cause ((List.getD x_a (Int.toNat s2.2) default).C).Bad ((List.getD x_a (Int.toNat s2.2) default).C).Timer ((List.getD x_a (Int.toNat s2.2) default).C).Waits ((List.getD x_a (Int.toNat s2.2) default).C).User ((List.getD x_a (Int.toNat s2.2) default).C).On ((List.getD x_a (Int.toNat s2.2) default).C).Stopped) (List.getD x_a (Int.toNat s2.2) default).Pages (List.getD x_a (Int.toNat s2.2) default).In (List.getD x_a (Int.toNat s2.2) default).Out)) λv3=>
   grd ((0:Int)<=s2.2/\s2.2<((List.length s2.1:Nat):Int)) (some (.next ((List.set s2.1 (Int.toNat s2.2) v3),w64 (s2.2+(1:Int)))))))
  (some (.ret (.go s2.1)))
noncomputable def wM (x_a:List DGuest):Option (List DGuest):=
 grd ((0:Int)<=((List.length x_a:Nat):Int)/\((List.length x_a:Nat):Int)*176<=2^47/\((List.length x_a:Nat):Int)<=2^47) (Option.bind (Option.bind (iter (aDh x_a) ((List.replicate (Int.toNat ((List.length x_a:Nat):Int)) (DGuest.mk false (DCore.mk ([]:List Int) (0:Int) (0:Int) (0:Int) (0:Int) false (0:Int) (0:Int) (0:Int) false false false false) ([]:List DSlot) ([]:List Int) ([]:List Int))),(0:Int))) LO.val) λj1=>
  JO.run j1 aCs)
noncomputable def g60:Sg tG:=⟨[.row 133],.one (.row 1064),wM⟩
theorem s60:Sok 60 g60:=sgx [(101,.r bLi)] ⟨bNu,trivial⟩ (.s .o (.s (.g [] [] [.fo (.s 3) 0]) (.j ⟨[],[],[(.s 3,.ro 1064)]⟩ (.s .o (.k (.l ⟨[0],[],[(.s 3,.ro 1064),(.s 4,.i .i64)]⟩ (.s .o (.s (.k (.g [] [] [.fo (.s 3) 0])) .o))))) .o))) kr kr kr
noncomputable def aNl (x_a:DHost):Option DHost:=
 Option.bind (lC x_a.Words) λv1=>
 Option.bind (wM x_a.Guests) λv2=>
 some (DHost.mk v1 v2)
noncomputable def g21:Sg tG:=⟨[.st 42],.one (.st 2026),aNl⟩
theorem s21:Sok 21 g21:=sgx [(59,.r g59),(60,.r g60)] ⟨s59,s60,trivial⟩ .o kr kr kr
noncomputable def aBf  (s1:Int):Option Int:=some s1
noncomputable def aBe (x_a:List DSlot)(s2:Int×Int):Option (LO (Int×Int) (JO Int Int)):=
 cond (decide (s2.2<((List.length x_a:Nat):Int)))
  (grd ((0:Int)<=s2.2/\s2.2<((List.length x_a:Nat):Int)) (cond (!decide ((List.getD x_a (Int.toNat s2.2) default).Frame=s2.1))
   (some (.ret (.out (-1:Int))))
   (grd ((0:Int)<=s2.2/\s2.2<((List.length x_a:Nat):Int)) (cond (!((List.getD x_a (Int.toNat s2.2) default).Write==(decide ((Int.tmod (w64 (s2.1+(1:Int))) (3:Int))=(0:Int)))))
    (some (.ret (.out (-1:Int))))
    (grd ((0:Int)<=s2.2/\s2.2<((List.length x_a:Nat):Int)) (cond (!((List.getD x_a (Int.toNat s2.2) default).Dirty==(decide ((Int.tmod (w64 ((w64 (s2.1+(1:Int)))+(1:Int))) (3:Int))=(0:Int)))))
     (some (.ret (.out (-1:Int))))
     (some (.next ((w64 ((w64 ((w64 (s2.1+(1:Int)))+(1:Int)))+(1:Int))),w64 (s2.2+(1:Int)))))))))))
  (some (.ret (.go s2.1)))
noncomputable def vL (x_a:List DSlot)(x_k:Int):Option Int:=
 Option.bind (Option.bind (iter (aBe x_a) (x_k,(0:Int))) LO.val) λj1=>
  JO.run j1 aBf
noncomputable def bKs:Sg tG:=⟨[.row 66,.i .i64],.one (.i .i64),vL⟩
theorem bOk:Sok 104 bKs:=sgx [] trivial (.s .o (.j ⟨[],[],[(.s 1,.i .i64)]⟩ (.s .o (.k (.l ⟨[0],[],[(.s 1,.i .i64),(.s 5,.i .i64)]⟩ .o))) .o)) kr kr kr
noncomputable def yQ  (s1:Int):Option Int:=some s1
noncomputable def aAo (x_a:List DGuest)(s2:Int×Int):Option (LO (Int×Int) (JO Int Int)):=
 cond (decide (s2.2<((List.length x_a:Nat):Int)))
  (grd ((0:Int)<=s2.2/\s2.2<((List.length x_a:Nat):Int)) (cond (!((List.getD x_a (Int.toNat s2.2) default).Live==(decide ((Int.tmod s2.1 (3:Int))=(0:Int)))))
   (some (.ret (.out (-1:Int))))
   (grd ((0:Int)<=s2.2/\s2.2<((List.length x_a:Nat):Int)) (Option.bind (jJ ((List.getD x_a (Int.toNat s2.2) default).C).Regs (w64 (s2.1+(1:Int)))) λv3=>
    cond (decide (v3<(0:Int)))
     (some (.ret (.out (-1:Int))))
     (grd ((0:Int)<=s2.2/\s2.2<((List.length x_a:Nat):Int)) (cond (!decide (((List.getD x_a (Int.toNat s2.2) default).C).Pc=v3))
      (some (.ret (.out (-1:Int))))
      (grd ((0:Int)<=s2.2/\s2.2<((List.length x_a:Nat):Int)) (cond (!decide (((List.getD x_a (Int.toNat s2.2) default).C).Root=(w64 (v3+(1:Int)))))
       (some (.ret (.out (-1:Int))))
       (grd ((0:Int)<=s2.2/\s2.2<((List.length x_a:Nat):Int)) (cond (!decide (((List.getD x_a (Int.toNat s2.2) default).C).Vector=(w64 ((w64 (v3+(1:Int)))+(1:Int)))))
        (some (.ret (.out (-1:Int))))
        (grd ((0:Int)<=s2.2/\s2.2<((List.length x_a:Nat):Int)) (cond (!decide (((List.getD x_a (Int.toNat s2.2) default).C).Saved=(w64 ((w64 ((w64 (v3+(1:Int)))+(1:Int)))+(1:Int)))))
         (some (.ret (.out (-1:Int))))
         (grd ((0:Int)<=s2.2/\s2.2<((List.length x_a:Nat):Int)) (cond (!(((List.getD x_a (Int.toNat s2.2) default).C).SavedUser==(decide ((Int.tmod (w64 ((w64 ((w64 ((w64 (v3+(1:Int)))+(1:Int)))+(1:Int)))+(1:Int))) (3:Int))=(0:Int)))))
          (some (.ret (.out (-1:Int))))
          (grd ((0:Int)<=s2.2/\s2.2<((List.length x_a:Nat):Int)) (cond (!decide (((List.getD x_a (Int.toNat s2.2) default).C).Cause=(w64 ((w64 ((w64 ((w64 ((w64 (v3+(1:Int)))+(1:Int)))+(1:Int)))+(1:Int)))+(1:Int)))))
           (some (.ret (.out (-1:Int))))
           (grd ((0:Int)<=s2.2/\s2.2<((List.length x_a:Nat):Int)) (cond (!decide (((List.getD x_a (Int.toNat s2.2) default).C).Bad=(w64 ((w64 ((w64 ((w64 ((w64 ((w64 (v3+(1:Int)))+(1:Int)))+(1:Int)))+(1:Int)))+(1:Int)))+(1:Int)))))
            (some (.ret (.out (-1:Int))))
            (grd ((0:Int)<=s2.2/\s2.2<((List.length x_a:Nat):Int)) (cond (!decide (((List.getD x_a (Int.toNat s2.2) default).C).Timer=(w64 ((w64 ((w64 ((w64 ((w64 ((w64 ((w64 (v3+(1:Int)))+(1:Int)))+(1:Int)))+(1:Int)))+(1:Int)))+(1:Int)))+(1:Int)))))
             (some (.ret (.out (-1:Int))))
             (grd ((0:Int)<=s2.2/\s2.2<((List.length x_a:Nat):Int)) (cond (!(((List.getD x_a (Int.toNat s2.2) default).C).Waits==(decide ((Int.tmod (w64 ((w64 ((w64 ((w64 ((w64 ((w64 ((w64 ((w64 (v3+(1:Int)))+(1:Int)))+(1:Int)))+(1:Int)))+(1:Int)))+(1:Int)))+(1:Int)))+(1:Int))) (3:Int))=(0:Int)))))
              (some (.ret (.out (-1:Int))))
              (grd ((0:Int)<=s2.2/\s2.2<((List.length x_a:Nat):Int)) (cond (!(((List.getD x_a (Int.toNat s2.2) default).C).User==(decide ((Int.tmod (w64 ((w64 ((w64 ((w64 ((w64 ((w64 ((w64 ((w64 ((w64 (v3+(1:Int)))+(1:Int)))+(1:Int)))+(1:Int)))+(1:Int)))+(1:Int)))+(1:Int)))+(1:Int)))+(1:Int))) (3:Int))=(0:Int)))))
               (some (.ret (.out (-1:Int))))
               (grd ((0:Int)<=s2.2/\s2.2<((List.length x_a:Nat):Int)) (cond (!(((List.getD x_a (Int.toNat s2.2) default).C).On==(decide ((Int.tmod (w64 ((w64 ((w64 ((w64 ((w64 ((w64 ((w64 ((w64 ((w64 ((w64 (v3+(1:Int)))+(1:Int)))+(1:Int)))+(1:Int)))+(1:Int)))+(1:Int)))+(1:Int)))+(1:Int)))+(1:Int)))+(1:Int))) (3:Int))=(0:Int)))))
                (some (.ret (.out (-1:Int))))
                (grd ((0:Int)<=s2.2/\s2.2<((List.length x_a:Nat):Int)) (cond (!(((List.getD x_a (Int.toNat s2.2) default).C).Stopped==(decide ((Int.tmod (w64 ((w64 ((w64 ((w64 ((w64 ((w64 ((w64 ((w64 ((w64 ((w64 ((w64 (v3+(1:Int)))+(1:Int)))+(1:Int)))+(1:Int)))+(1:Int)))+(1:Int)))+(1:Int)))+(1:Int)))+(1:Int)))+(1:Int)))+(1:Int))) (3:Int))=(0:Int)))))
                 (some (.ret (.out (-1:Int))))
                 (grd ((0:Int)<=s2.2/\s2.2<((List.length x_a:Nat):Int)) (Option.bind (vL (List.getD x_a (Int.toNat s2.2) default).Pages (w64 ((w64 ((w64 ((w64 ((w64 ((w64 ((w64 ((w64 ((w64 ((w64 ((w64 ((w64 (v3+(1:Int)))+(1:Int)))+(1:Int)))+(1:Int)))+(1:Int)))+(1:Int)))+(1:Int)))+(1:Int)))+(1:Int)))+(1:Int)))+(1:Int)))+(1:Int)))) λv4=>
                  cond (decide (v4<(0:Int)))
                   (some (.ret (.out (-1:Int))))
                   (grd ((0:Int)<=s2.2/\s2.2<((List.length x_a:Nat):Int)) (Option.bind (jJ (List.getD x_a (Int.toNat s2.2) default).In v4) λv5=>
                    cond (decide (v5<(0:Int)))
                     (some (.ret (.out (-1:Int))))
                     (grd ((0:Int)<=s2.2/\s2.2<((List.length x_a:Nat):Int)) (Option.bind (jJ (List.getD x_a (Int.toNat s2.2) default).Out v5) λv6=>
                      cond (decide (v6<(0:Int)))
                       (some (.ret (.out (-1:Int))))
                       (some (.next (v6,w64 (s2.2+(1:Int)))))))))))))))))))))))))))))))))))))))
  (some (.ret (.go s2.1)))
noncomputable def tJ (x_a:List DGuest)(x_k:Int):Option Int:=
 Option.bind (Option.bind (iter (aAo x_a) (x_k,(0:Int))) LO.val) λj1=>
  JO.run j1 yQ
noncomputable def g71:Sg tG:=⟨[.row 64,.i .i64],.one (.i .i64),tJ⟩
theorem s71:Sok 71 g71:=sgx [(70,.r g70),(104,.r bKs)] ⟨s70,bOk,trivial⟩ (.s .o (.j ⟨[],[],[(.s 1,.i .i64)]⟩ (.s .o (.k (.l ⟨[0],[],[(.s 1,.i .i64),(.s 5,.i .i64)]⟩ .o))) .o)) kr kr kr
noncomputable def aIv (x_a:DHost)(x_k:Int):Option Int:=
 Option.bind (jJ x_a.Words x_k) λv1=>
 cond (decide (v1<(0:Int)))
  (some (-1:Int))
  (Option.bind (tJ x_a.Guests v1) λv2=>
  cond (decide (v2<(0:Int)))
   (some (-1:Int))
   (some v2))
noncomputable def g28:Sg tG:=⟨[.st 26,.i .i64],.one (.i .i64),aIv⟩
theorem s28:Sok 28 g28:=sgx [(70,.r g70),(71,.r g71)] ⟨s70,s71,trivial⟩ .o kr kr kr
noncomputable def jF (x_h:DHost)(x_g:Int)(x_b:DBare):Option DHost:=
 Option.bind (dG x_h) λv1=>
 Option.bind (hC x_b) λv2=>
 grd ((0:Int)<=x_g/\x_g<((List.length v1.Guests:Nat):Int)) (grd ((0:Int)<=x_g/\x_g<((List.length v1.Guests:Nat):Int)) (grd ((0:Int)<=x_g/\x_g<((List.length v1.Guests:Nat):Int)) (some (DHost.mk v1.Words (let z0:=List.set v1.Guests (Int.toNat x_g) (DGuest.mk (List.getD v1.Guests (Int.toNat x_g) default).Live v2.C (List.getD v1.Guests (Int.toNat x_g) default).Pages (List.getD v1.Guests (Int.toNat x_g) default).In (List.getD v1.Guests (Int.toNat x_g) default).Out);let z1:=List.set z0 (Int.toNat x_g) (DGuest.mk (List.getD z0 (Int.toNat x_g) default).Live (DCore.mk ((List.getD z0 (Int.toNat x_g) default).C).Regs ((List.getD z0 (Int.toNat x_g) default).C).Pc ((List.getD z0 (Int.toNat x_g) default).C).Root ((List.getD z0 (Int.toNat x_g) default).C).Vector ((List.getD z0 (Int.toNat x_g) default).C).Saved ((List.getD z0 (Int.toNat x_g) default).C).SavedUser ((List.getD z0 (Int.toNat x_g) default).C).Cause ((List.getD z0 (Int.toNat x_g) default).C).Bad ((List.getD z0 (Int.toNat x_g) default).C).Timer ((List.getD z0 (Int.toNat x_g) default).C).Waits ((List.getD z0 (Int.toNat x_g) default).C).User ((List.getD z0 (Int.toNat x_g) default).C).On ((List.getD z0 (Int.toNat x_g) default).C).Stopped) (List.getD z0 (Int.toNat x_g) default).Pages v2.In (List.getD z0 (Int.toNat x_g) default).Out);List.set z1 (Int.toNat x_g) (DGuest.mk (List.getD z1 (Int.toNat x_g) default).Live (DCore.mk ((List.getD z1 (Int.toNat x_g) default).C).Regs ((List.getD z1 (Int.toNat x_g) default).C).Pc ((List.getD z1 (Int.toNat x_g) default).C).Root ((List.getD z1 (Int.toNat x_g) default).C).Vector ((List.getD z1 (Int.toNat x_g) default).C).Saved ((List.getD z1 (Int.toNat x_g) default).C).SavedUser ((List.getD z1 (Int.toNat x_g) default).C).Cause ((List.getD z1 (Int.toNat x_g) default).C).Bad ((List.getD z1 (Int.toNat x_g) default).C).Timer ((List.getD z1 (Int.toNat x_g) default).C).Waits ((List.getD z1 (Int.toNat x_g) default).C).User ((List.getD z1 (Int.toNat x_g) default).C).On ((List.getD z1 (Int.toNat x_g) default).C).Stopped) (List.getD z1 (Int.toNat x_g) default).Pages (List.getD z1 (Int.toNat x_g) default).In v2.Out))))))
noncomputable def g45:Sg tG:=⟨[.st 26,.i .i64,.st 81],.one (.st 2026),jF⟩
theorem s45:Sok 45 g45:=sgx [(41,.r g41),(91,.r g91)] ⟨s41,s91,trivial⟩ (.s .o (.s .o (.s .o (.s (.g [] [] [.fo (.c 7 1) 0]) (.s (.g [] [] [.fo (.c 7 1) 0]) (.s (.g [] [] [.fo (.c 7 1) 0]) .o)))))) kr kr kr
theorem aBl{x_h:DHost}{x_g:Int}{x_b:DBare}{R_:DHost}(hh:jF x_h x_g x_b=some R_):Fn Try.prog 45 [.agg (gO x_h),.int .i64 x_g,.agg (nQ x_b)] (.agg [.own 3 1 (List.length R_.Words) (fl (eI .i64) R_.Words),.own 64 17 (List.length R_.Guests) (fl gN R_.Guests)]):=kc (s45 x_h x_g x_b R_ hh)
noncomputable def iF (x_h:DHost)(x_g:Int):Option DBare:=grd ((0:Int)<=x_g/\x_g<((List.length x_h.Guests:Nat):Int)) (some (DBare.mk (DCore.mk ((List.getD x_h.Guests (Int.toNat x_g) default).C).Regs ((List.getD x_h.Guests (Int.toNat x_g) default).C).Pc ((List.getD x_h.Guests (Int.toNat x_g) default).C).Root ((List.getD x_h.Guests (Int.toNat x_g) default).C).Vector ((List.getD x_h.Guests (Int.toNat x_g) default).C).Saved ((List.getD x_h.Guests (Int.toNat x_g) default).C).SavedUser ((List.getD x_h.Guests (Int.toNat x_g) default).C).Cause ((List.getD x_h.Guests (Int.toNat x_g) default).C).Bad ((List.getD x_h.Guests (Int.toNat x_g) default).C).Timer ((List.getD x_h.Guests (Int.toNat x_g) default).C).Waits ((List.getD x_h.Guests (Int.toNat x_g) default).C).User ((List.getD x_h.Guests (Int.toNat x_g) default).C).On ((List.getD x_h.Guests (Int.toNat x_g) default).C).Stopped) ([]:List Int) (List.getD x_h.Guests (Int.toNat x_g) default).In (List.getD x_h.Guests (Int.toNat x_g) default).Out))
noncomputable def g46:Sg tG:=⟨[.st 26,.i .i64],.one (.sb 81),iF⟩
theorem s46:Sok 46 g46:=sgx [] trivial .o kr kr kr
theorem aEo{x_h:DHost}{x_g:Int}{R_:DBare}(hh:iF x_h x_g=some R_):Fn Try.prog 46 [.agg (gO x_h),.int .i64 x_g] (.agg [bo (eI .i64) R_.C.Regs,.int .i64 R_.C.Pc,.int .i64 R_.C.Root,.int .i64 R_.C.Vector,.int .i64 R_.C.Saved,.bool R_.C.SavedUser,.int .i64 R_.C.Cause,.int .i64 R_.C.Bad,.int .i64 R_.C.Timer,.bool R_.C.Waits,.bool R_.C.User,.bool R_.C.On,.bool R_.C.Stopped,bo (eI .i64) R_.Mem,bo (eI .i64) R_.In,bo (eI .i64) R_.Out]):=kc (s46 x_h x_g R_ hh)
noncomputable def aBh  (s1:Unit):Option Bool:=some true
noncomputable def iP (x_a:List Int)(x_b:List Int)(s2:Int):Option (LO Int (JO Unit Bool)):=
 cond (decide (s2<((List.length x_a:Nat):Int)))
  (grd ((0:Int)<=s2/\s2<((List.length x_a:Nat):Int)) (grd ((0:Int)<=s2/\s2<((List.length x_b:Nat):Int)) (cond (!decide ((List.getD x_a (Int.toNat s2) default)=(List.getD x_b (Int.toNat s2) default)))
   (some (.ret (.out false)))
   (some (.next (w64 (s2+(1:Int))))))))
  (some (.ret (.go ())))
noncomputable def kO (x_a:List Int)(x_b:List Int):Option Bool:=
 Option.bind (Option.bind (iter (iP x_a x_b) (0:Int)) LO.val) λj1=>
  JO.run j1 aBh
noncomputable def g77:Sg tG:=⟨[.row 3,.row 3],.one .b,kO⟩
theorem s77:Sok 77 g77:=sgx [] trivial (.s .o (.j ⟨[],[],[]⟩ (.s .o (.k (.l ⟨[1,7,8],[],[(.s 9,.i .i64)]⟩ .o))) .o)) kr kr kr
noncomputable def aEw  (s1:List Int):Option (List Int):=some s1
noncomputable def aEq (x_h:DHost)(x_g:Int)(x_page:Int)(s2:(List Int)×Int):Option (LO ((List Int)×Int) (JO (List Int) (List Int))):=
 cond (decide (s2.2<(8:Int)))
  (Option.bind (aAx x_h x_g (w64 ((w64 (x_page*(8:Int)))+s2.2))) λv3=>
  grd ((List.length s2.1+List.length ([v3]:List Int))*8<=2^47/\List.length s2.1+List.length ([v3]:List Int)<=2^47) (some (.next ((s2.1++([v3]:List Int)),w64 (s2.2+(1:Int))))))
  (some (.ret (.go s2.1)))
noncomputable def rE (x_h:DHost)(x_g:Int)(x_page:Int):Option (List Int):=
 Option.bind (Option.bind (iter (aEq x_h x_g x_page) (([]:List Int),(0:Int))) LO.val) λj1=>
  JO.run j1 aEw
noncomputable def g34:Sg tG:=⟨[.st 26,.i .i64,.i .i64],.one (.row 3),rE⟩
theorem s34:Sok 34 g34:=sgx [(80,.r g80)] ⟨s80,trivial⟩ (.s .o (.s .o (.j ⟨[],[],[(.s 7,.ro 3)]⟩ (.s .o (.k (.l ⟨[1,2,3],[],[(.s 7,.ro 3),(.s 8,.i .i64)]⟩ .o))) .o))) kr kr kr
noncomputable def oI (x_m:DMove)(x_page:Int):Option Bool:=
 grd ((0:Int)<=x_m.G/\x_m.G<((List.length x_m.From.Guests:Nat):Int)) (grd ((0:Int)<=x_page/\x_page<((List.length (List.getD x_m.From.Guests (Int.toNat x_m.G) default).Pages:Nat):Int)) (grd ((0:Int)<=x_m.N/\x_m.N<((List.length x_m.To.Guests:Nat):Int)) (grd ((0:Int)<=x_page/\x_page<((List.length (List.getD x_m.To.Guests (Int.toNat x_m.N) default).Pages:Nat):Int)) (Option.bind (eL x_m.From.Words (DSlot.mk (List.getD (List.getD x_m.From.Guests (Int.toNat x_m.G) default).Pages (Int.toNat x_page) default).Frame (List.getD (List.getD x_m.From.Guests (Int.toNat x_m.G) default).Pages (Int.toNat x_page) default).Write (List.getD (List.getD x_m.From.Guests (Int.toNat x_m.G) default).Pages (Int.toNat x_page) default).Dirty)) λv1=>
  Option.bind (eL x_m.To.Words (DSlot.mk (List.getD (List.getD x_m.To.Guests (Int.toNat x_m.N) default).Pages (Int.toNat x_page) default).Frame (List.getD (List.getD x_m.To.Guests (Int.toNat x_m.N) default).Pages (Int.toNat x_page) default).Write (List.getD (List.getD x_m.To.Guests (Int.toNat x_m.N) default).Pages (Int.toNat x_page) default).Dirty)) λv2=>
  Option.bind (kO v1 v2) λv3=>
  some v3))))
noncomputable def g32:Sg tG:=⟨[.st 29,.i .i64],.one .b,oI⟩
theorem s32:Sok 32 g32:=sgx [(78,.r g78),(77,.r g77)] ⟨s78,s77,trivial⟩ .o kr kr kr
noncomputable def aFw  (s3:Unit):Option Bool:=some true
noncomputable def oU (s4:Int)(s5:Unit):Option (LO Int (JO Unit Bool)):=some (.next (w64 (s4+(1:Int))))
noncomputable def kR (x_m:DMove)(s4:Int):Option (LO Int (JO Unit Bool)):=
 cond (decide (s4<((List.length (List.getD x_m.From.Guests (Int.toNat x_m.G) default).Pages:Nat):Int)))
  (Option.bind (grd ((0:Int)<=s4/\s4<((List.length (List.getD x_m.From.Guests (Int.toNat x_m.G) default).Pages:Nat):Int)) (cond (List.getD (List.getD x_m.From.Guests (Int.toNat x_m.G) default).Pages (Int.toNat s4) default).Dirty
   (some (.out (.ret (.out false))))
   (grd ((0:Int)<=s4/\s4<((List.length x_m.Left:Nat):Int)) (cond (!(List.getD x_m.Left (Int.toNat s4) default))
    (Option.bind (oI x_m s4) λv6=>
    cond (!v6)
     (some (.out (.ret (.out false))))
     (some (.go ())))
    (some (.go ())))))) λj5=>
   JO.run j5 (oU s4))
  (some (.ret (.go ())))
noncomputable def oF (x_m:DMove):Option Bool:=
 Option.bind (eD x_m.From x_m.G) λv1=>
 cond (!v1)
  (some false)
  (Option.bind (eD x_m.To x_m.N) λv2=>
  cond (!v2)
   (some false)
   (cond (!decide (((List.length x_m.Left:Nat):Int)=(8:Int)))
    (some false)
    (Option.bind (grd ((0:Int)<=x_m.G/\x_m.G<((List.length x_m.From.Guests:Nat):Int)) (Option.bind (iter (kR x_m) (0:Int)) LO.val)) λj3=>
     JO.run j3 aFw)))
noncomputable def g9:Sg tG:=⟨[.st 29],.one .b,oF⟩
theorem s9:Sok 9 g9:=sgx [(31,.r g31),(32,.r g32)] ⟨s31,s32,trivial⟩ (.s .o (.s .o (.j ⟨[],[],[]⟩ (.s .o (.k (.l ⟨[1,32,33],[],[(.s 34,.i .i64)]⟩ (.s .o (.s .o (.j ⟨[1,32,33,34],[],[]⟩ .o .o)))))) .o))) kr kr kr
noncomputable def aFv  (s3:Unit):Option Bool:=some true
noncomputable def aGy (s4:Int)(s5:Unit):Option (LO Int (JO Unit Bool)):=some (.next (w64 (s4+(1:Int))))
noncomputable def aGo (x_m:DMove)(s4:Int)(v6:List Int)(v7:List Int)(s8:Int):Option (LO Int (JO Unit (LO Int (JO Unit Bool)))):=
 cond (decide (s8<(8:Int)))
  (grd ((0:Int)<=s4/\s4<((List.length x_m.Left:Nat):Int)) (cond (!(List.getD x_m.Left (Int.toNat s4) default))
   (grd ((0:Int)<=s8/\s8<((List.length v6:Nat):Int)) (grd ((0:Int)<=s8/\s8<((List.length v7:Nat):Int)) (cond (!decide ((List.getD v6 (Int.toNat s8) default)=(List.getD v7 (Int.toNat s8) default)))
    (some (.ret (.out (.ret (.out false)))))
    (some (.next (w64 (s8+(1:Int))))))))
   (some (.ret (.go ())))))
  (some (.ret (.go ())))
noncomputable def aGb (x_m:DMove)(s4:Int):Option (LO Int (JO Unit Bool)):=
 cond (decide (s4<(8:Int)))
  (Option.bind (grd ((0:Int)<=x_m.G/\x_m.G<((List.length x_m.From.Guests:Nat):Int)) (grd ((0:Int)<=s4/\s4<((List.length (List.getD x_m.From.Guests (Int.toNat x_m.G) default).Pages:Nat):Int)) (cond (List.getD (List.getD x_m.From.Guests (Int.toNat x_m.G) default).Pages (Int.toNat s4) default).Dirty
   (some (.out (.ret (.out false))))
   (Option.bind (rE x_m.From x_m.G s4) λv6=>
   Option.bind (rE x_m.To x_m.N s4) λv7=>
   Option.bind (iter (aGo x_m s4 v6 v7) (0:Int)) LO.val)))) λj5=>
   JO.run j5 (aGy s4))
  (some (.ret (.go ())))
noncomputable def aNe (x_m:DMove):Option Bool:=
 Option.bind (iY x_m.From x_m.G) λv1=>
 cond (!v1)
  (some false)
  (Option.bind (iY x_m.To x_m.N) λv2=>
  cond (!v2)
   (some false)
   (cond (!decide (((List.length x_m.Left:Nat):Int)=(8:Int)))
    (some false)
    (Option.bind (Option.bind (iter (aGb x_m) (0:Int)) LO.val) λj3=>
     JO.run j3 aFv)))
noncomputable def g10:Sg tG:=⟨[.st 29],.one .b,aNe⟩
theorem s10:Sok 10 g10:=sgx [(33,.r g33),(34,.r g34)] ⟨s33,s34,trivial⟩ (.s .o (.s .o (.j ⟨[],[],[]⟩ (.s .o (.k (.l ⟨[1],[],[(.s 3,.i .i64)]⟩ (.s .o (.j ⟨[1,3],[],[]⟩ (.k (.s .o (.s .o (.s .o (.k (.l ⟨[1,3,4,5],[],[(.s 6,.i .i64)]⟩ .o)))))) .o))))) .o))) kr kr kr
noncomputable def qT  (s1:List DSlot):Option (List DSlot):=some s1
noncomputable def cO  (s2:(List DSlot)×Int):Option (LO ((List DSlot)×Int) (JO (List DSlot) (List DSlot))):=
 cond (decide (s2.2<((List.length (List.replicate (Int.toNat (8:Int)) (DSlot.mk (0:Int) false false)):Nat):Int)))
  (grd ((0:Int)<=s2.2/\s2.2<((List.length s2.1:Nat):Int)) (some (.next ((List.set s2.1 (Int.toNat s2.2) (DSlot.mk (-1:Int) false false)),w64 (s2.2+(1:Int))))))
  (some (.ret (.go s2.1)))
noncomputable def dL:Option (List DSlot):=
 Option.bind (Option.bind (iter cO ((List.replicate (Int.toNat (8:Int)) (DSlot.mk (0:Int) false false)),(0:Int))) LO.val) λj1=>
  JO.run j1 qT
noncomputable def g44:Sg tG:=⟨[],.one (.row 66),dL⟩
theorem s44:Sok 44 g44:=sgx [] trivial (.s .o (.s .o (.j ⟨[],[],[(.s 1,.ro 66)]⟩ (.s .o (.k (.l ⟨[5],[],[(.s 1,.ro 66),(.s 6,.i .i64)]⟩ .o))) .o))) kr kr kr
theorem tI{R_:(List DSlot)}(hh:dL=some R_):Fn Try.prog 44 [] (.own 66 3 (List.length R_) (fl eW R_)):=kc (s44  R_ hh)
noncomputable def aEp  (s1:List Bool):Option (List Bool):=some s1
noncomputable def gV  (s2:(List Bool)×Int):Option (LO ((List Bool)×Int) (JO (List Bool) (List Bool))):=
 cond (decide (s2.2<((List.length (List.replicate (Int.toNat (8:Int)) false):Nat):Int)))
  (grd ((0:Int)<=s2.2/\s2.2<((List.length s2.1:Nat):Int)) (some (.next ((List.set s2.1 (Int.toNat s2.2) true),w64 (s2.2+(1:Int))))))
  (some (.ret (.go s2.1)))
noncomputable def kG:Option (List Bool):=
 Option.bind (Option.bind (iter gV ((List.replicate (Int.toNat (8:Int)) false),(0:Int))) LO.val) λj1=>
  JO.run j1 aEp
noncomputable def g47:Sg tG:=⟨[],.one (.row 4),kG⟩
theorem s47:Sok 47 g47:=sgx [] trivial (.s .o (.s .o (.j ⟨[],[],[(.s 1,.ro 4)]⟩ (.s .o (.k (.l ⟨[5],[],[(.s 1,.ro 4),(.s 6,.i .i64)]⟩ .o))) .o))) kr kr kr
theorem aHy{R_:(List Bool)}(hh:kG=some R_):Fn Try.prog 47 [] (.own 4 1 (List.length R_) (fl eB R_)):=kc (s47  R_ hh)
theorem aBp:LW 13 ⟨61,[.cell 6 true 7,.tmp 7],.seq (.reg false (rg 13 0)) (.seq (.seq (.reg false (rg 13 1)) (.cond (.t 19) (.seq (.reg false (rg 13 2)) .ret) .skip)) (.seq (.reg false (rg 13 3)) (.seq (.seq (.reg false (rg 13 4)) (.cond (.t 25) (.seq (.reg false (rg 13 5)) .ret) .skip)) (.seq (.reg false (rg 13 6)) (.seq (.regd (rg 13 7) (rg 13 8)) (.seq (.regd (rg 13 9) (rg 13 10)) (.seq (.regd (rg 13 11) (rg 13 12)) .ret)))))))⟩:=kr
noncomputable def fO (x_from:DHost)(x_to:DHost)(x_g:Int):Option (DMove×Bool):=
 Option.bind (eD x_from x_g) λv1=>
 cond (!v1)
  (some ((DMove.mk (DHost.mk ([]:List Int) ([]:List DGuest)) (DHost.mk ([]:List Int) ([]:List DGuest)) (0:Int) (0:Int) ([]:List Bool)),false))
  (Option.bind (iV x_to) λv2=>
  cond (!v2)
   (some ((DMove.mk (DHost.mk ([]:List Int) ([]:List DGuest)) (DHost.mk ([]:List Int) ([]:List DGuest)) (0:Int) (0:Int) ([]:List Bool)),false))
   (Option.bind (iO x_to.Guests) λv3=>
   cond (decide (v3=(-1:Int)))
    (some ((DMove.mk (DHost.mk ([]:List Int) ([]:List DGuest)) (DHost.mk ([]:List Int) ([]:List DGuest)) (0:Int) (0:Int) ([]:List Bool)),false))
    (Option.bind (dG x_from) λv4=>
    grd ((0:Int)<=x_g/\x_g<((List.length x_from.Guests:Nat):Int)) (Option.bind (jD (List.getD x_from.Guests (Int.toNat x_g) default).Pages) λv5=>
     grd ((0:Int)<=x_g/\x_g<((List.length v4.Guests:Nat):Int)) (Option.bind dL  λv6=>
      Option.bind (iN x_to.Guests v3 (DGuest.mk true (DCore.mk ([]:List Int) (0:Int) (0:Int) (0:Int) (0:Int) false (0:Int) (0:Int) (0:Int) false false false false) v6 ([]:List Int) ([]:List Int))) λv7=>
      Option.bind (iF x_from x_g) λv8=>
      Option.bind (jF (DHost.mk x_to.Words v7) v3 v8) λv9=>
      Option.bind kG  λv10=>
      some ((DMove.mk (DHost.mk v4.Words (List.set v4.Guests (Int.toNat x_g) (DGuest.mk (List.getD v4.Guests (Int.toNat x_g) default).Live (DCore.mk ((List.getD v4.Guests (Int.toNat x_g) default).C).Regs ((List.getD v4.Guests (Int.toNat x_g) default).C).Pc ((List.getD v4.Guests (Int.toNat x_g) default).C).Root ((List.getD v4.Guests (Int.toNat x_g) default).C).Vector ((List.getD v4.Guests (Int.toNat x_g) default).C).Saved ((List.getD v4.Guests (Int.toNat x_g) default).C).SavedUser ((List.getD v4.Guests (Int.toNat x_g) default).C).Cause ((List.getD v4.Guests (Int.toNat x_g) default).C).Bad ((List.getD v4.Guests (Int.toNat x_g) default).C).Timer ((List.getD v4.Guests (Int.toNat x_g) default).C).Waits ((List.getD v4.Guests (Int.toNat x_g) default).C).User ((List.getD v4.Guests (Int.toNat x_g) default).C).On ((List.getD v4.Guests (Int.toNat x_g) default).C).Stopped) v5 (List.getD v4.Guests (Int.toNat x_g) default).In (List.getD v4.Guests (Int.toNat x_g) default).Out))) v9 x_g v3 v10),true))))))
theorem aEt{x_from:DHost}{x_to:DHost}{x_g:Int}{R_:DMove×Bool}(hh:fO x_from x_to x_g=some R_):Fn Try.prog 13 [.agg (gO x_from),.agg (gO x_to),.int .i64 x_g] (.tup [.agg [.own 3 1 (List.length R_.1.From.Words) (fl (eI .i64) R_.1.From.Words),.own 64 17 (List.length R_.1.From.Guests) (fl gN R_.1.From.Guests),.own 3 1 (List.length R_.1.To.Words) (fl (eI .i64) R_.1.To.Words),.own 64 17 (List.length R_.1.To.Guests) (fl gN R_.1.To.Guests),.int .i64 R_.1.G,.int .i64 R_.1.N,.own 4 1 (List.length R_.1.Left) (fl eB R_.1.Left)],.bool R_.2]):=by let z4:EH:=(0,some (rB26 x_from));let z5:EH:=(1,some (rB26 x_to));let z6:=(10,pp 13);let z7:=(2,ii x_g);let z8:EV:=(29,.ptr 5 [] 1);let z9:=(3,pp 0);let z10:=(31,ii x_g);let z11:EV:=(32,.ptr 0 [] 1);let z12:=(33,bo fE x_from.Guests);let z13:=(34,ii x_g);let z14:EV:=(35,.bptr (fl fE x_from.Guests) (Int.toNat x_g*17));let z15:EV:=(36,.bptr (fl fE x_from.Guests) (Int.toNat x_g*17+14));let z16:=(4,pp 1);let z17:=(42,bo (eI .i64) x_to.Words);let z18:=(44,bo fE x_to.Guests);let z19:EV:=(53,.agg (gO x_from));let z20:=(6,pp 2);let z21:=(9,pp 5);let z1:=List.getD x_from.Guests (Int.toNat x_g) default;unfold fO at hh;refine Fn.start aBp [0,1,2] (E:=sp 61 [(0,.agg (gO x_from)),(1,.agg (gO x_to)),z7]) kr (v:= .tup [.agg [sw 0 R_.1.From.Words,.sref 1 [] 0 (List.length R_.1.From.Guests) 17,sw 2 R_.1.To.Words,.sref 3 [] 0 (List.length R_.1.To.Guests) 17,ii R_.1.G,ii R_.1.N,sw 4 R_.1.Left],bb R_.2]) (Hr:=[(4,some (rT_4 R_.1.Left)),(3,some (rO64 R_.1.To.Guests)),(2,some (rI_3 R_.1.To.Words)),(1,some (rO64 R_.1.From.Guests)),(0,some (rI_3 R_.1.From.Words))]) (k:=5) kr (Aw.sreg [2,3,4,6] [0,1,2] ?_);let q1:Root:=⟨29,[.nil,.nil,.nil,.nil,ii 0,ii 0,.nil]⟩;let z22:=(2,some q1);refine yt (sp 61 [z7,z9,z16,z20]) [z4,z5,z22] 3 (Aw.seq (Aw.sreg [2,3,4,6,19] [0,1,2] (yj 2  (sp 61 [z7,z9,z16,z20,(11,.agg (gO x_from)),(12,ii x_g)]) [z4,z5,z22] 3 ?_)));obtain⟨v1,hv1,hh⟩:=bind_some hh;refine ys (.call 31 [.t 11,.t 12]) (some 13) (lO (r:=bb v1) (v:=bb v1) (Hr:=[]) (n':=3) (aHe hv1) (pV (vs:=[.agg (gO x_from),ii x_g]) kr (iS (aC (sP (uM _))) (cz1 kW))) rfl rfl kr ?_);refine yu 2 [(13,bb v1),(14,bb (!v1)),(15,bb (!v1))] [z4,z5,z22] 3 ?_;rcases wO hh with⟨hb,hh⟩|⟨hb,hh⟩;{refine yb 14 hb (yb 15 hb (yt (sp 61 [z7,z9,z16,z20,(19,bb true)]) [z4,z5,z22] 3 (cT rfl (sy [6,7] [2] (sp 61 [z20,(7,bb false)]) [z22] 3 (Aw.ret (aRt ?_))))));rw[dE hh];exact tZ (r':= .tup [.agg [.nil,.nil,.nil,.nil,ii 0,ii 0,.nil],bb false]) kr (Ent.list [none,none,none,none,none] rfl rfl (Nat.zero_le _) (oA (kE rz)) (kT dd rfl rfl (kT dd rfl rfl (kT dd rfl rfl (kT dd rfl rfl (kT dd rfl rfl eQ))))))};refine yb 14 hb (yb 15 hb (yu 1 [(14,bb false),(15,bb false),(16,.agg (gO x_to))] [z4,z5,z22] 3 ?_));obtain⟨v2,hv2,hh⟩:=bind_some hh;refine yg (.call 39 [.t 16]) (some 17) 15 false (lO (r:=bb v2) (v:=bb v2) (Hr:=[]) (n':=3) (aLm hv2) (pV (vs:=[.agg (gO x_to)]) kr (iS (aC (sP (uM _))) kW)) rfl rfl kr ?_);refine yt (sp 61 [z7,z9,z16,z20,(19,bb (!v2))]) [z4,z5,z22] 3 ?_;rcases wO hh with⟨hb,hh⟩|⟨hb,hh⟩;{refine cT hb (sy [6,7] [2] (sp 61 [z20,(7,bb false)]) [z22] 3 (Aw.ret (aRt ?_)));rw[dE hh];exact tZ (r':= .tup [.agg [.nil,.nil,.nil,.nil,ii 0,ii 0,.nil],bb false]) kr (Ent.list [none,none,none,none,none] rfl rfl (Nat.zero_le _) (oA (kE rz)) (kT dd rfl rfl (kT dd rfl rfl (kT dd rfl rfl (kT dd rfl rfl (kT dd rfl rfl eQ))))))};refine cF hb (Aw.xskip (λ_ _ _ hq=>aRc hq) (Aw.sreg [2,3,4,6,8] [0,1,2] (yj 2  (sp 61 [z7,z9,z16,z20,(19,bb (!v2)),(21,.ptr 1 [] 1),(22,bo fE x_to.Guests)]) [z4,z5,z22] 3 ?_)));obtain⟨v3,hv3,hh⟩:=bind_some hh;let z23:=(25,bb (decide (v3=(-1:Int))));let z24:=(8,ii v3);refine ys (.call 40 [.t 22]) (some 23) (lO (r:=ii v3) (v:=ii v3) (Hr:=[]) (n':=3) (aEr hv3) (pV (vs:=[bo fE x_to.Guests]) kr (iS (aC (rY (bG xQ))) kW)) rfl rfl kr ?_);refine yt (sp 61 [z7,z9,z16,z20,z24]) [z4,z5,z22] 3 (Aw.seq (sy [2,3,4,6,8,25] [0,1,2] (sp 61 [z7,z9,z16,z20,z24,z23]) [z4,z5,z22] 3 ?_));rcases wO hh with⟨hb,hh⟩|⟨hb,hh⟩;{refine cT hb (sy [6,7] [2] (sp 61 [z20,(7,bb false)]) [z22] 3 (Aw.ret (aRt ?_)));rw[dE hh];exact tZ (r':= .tup [.agg [.nil,.nil,.nil,.nil,ii 0,ii 0,.nil],bb false]) kr (Ent.list [none,none,none,none,none] rfl rfl (Nat.zero_le _) (oA (kE rz)) (kT dd rfl rfl (kT dd rfl rfl (kT dd rfl rfl (kT dd rfl rfl (kT dd rfl rfl eQ))))))};refine cF hb (Aw.xskip (λ_ _ _ hq=>aRc hq) (Aw.sreg [2,3,4,6,8,9] [0,1,2,3,4,5] (yj 1  (sp 61 [z7,z9,z16,z20,z24,z23,(27,.agg (gO x_from))]) [z4,z5,z22] 3 ?_)));obtain⟨v4,hv4,hh⟩:=bind_some hh;let z25:EV:=(30,.sref 4 [] 0 (List.length v4.Guests) 17);let z26:EV:=(50,.agg [sw 3 v4.Words,.sref 7 [] 0 (List.length v4.Guests) 17]);let z2:=List.getD v4.Guests (Int.toNat x_g) default;let q2:Root:=(rO64 v4.Guests);let z27:=(4,some q2);let q3:Root:=(rI_3 v4.Words);let z28:=(3,some q3);refine ys (.call 41 [.t 27]) (some 28) (lO (r:= .agg [.own 3 1 (List.length v4.Words) (fl (eI .i64) v4.Words),.own 64 17 (List.length v4.Guests) (fl gN v4.Guests)]) (v:= .agg [sw 3 v4.Words,.sref 4 [] 0 (List.length v4.Guests) 17]) (Hr:=[z27,z28]) (n':=5) (aCd hv4) (pV (vs:=[.agg (gO x_from)]) kr (iS (aC (sP (uM _))) kW)) nrr nrr kr ?_);let q4:Root:=⟨26,[sw 3 v4.Words,.sref 4 [] 0 (List.length v4.Guests) 17]⟩;let z29:=(5,some q4);refine yt (sp 61 [z7,z9,z16,z20,z24,z21]) [z4,z5,z22,z28,z27,z29] 6 (Aw.sregd [2,3,4,6,8,9] [0,1,2,3,4,5,6] [] kr (dj 6 (sp 61 [z7,z9,z16,z20,z24,z21,z8,z25,z10,z11,z12,z13]) [z4,z5,z22,z28,z27,z29] 6 ?_));obtain⟨hg3,hh⟩:=bW hh;refine ds (.iadr 17 (.t 33) (.t 34)) (some 35) (bGv rfl kr (aUs (kd:= .i64) (c:=fE) (xs:=x_from.Guests) aPj dd kr kr hg3 ?_));refine dj 1 (sp 61 [z7,z9,z16,z20,z24,z21,z8,z25,z10,z11,z12,z13,z14,z15]) [z4,z5,z22,z28,z27,z29] 6 (ds (.load false 1 (.t 36)) (some 37) (bGv rfl kr (bDs (c:=fE) (xs:=x_from.Guests) (o:=Int.toNat x_g*17+14) (i:=(Int.toNat x_g)) (off:=14) (v:=bo eW z1.Pages) aPj kr ltn ltn dd kr ?_)));obtain⟨v5,hv5,hh⟩:=bind_some hh;let z30:EV:=(38,.sref 6 [] 0 (List.length v5) 3);let z31:EH:=(6,some (rC66 v5));let z3:=DGuest.mk z2.Live z2.C v5 z2.In z2.Out;refine ds (.call 42 [.t 37]) (some 38) (zK rfl (lO (r:= .own 66 3 (List.length v5) (fl eW v5)) (v:= .sref 6 [] 0 (List.length v5) 3) (Hr:=[z31]) (n':=7) (aGk hv5) (pV (vs:=[bo eW z1.Pages]) kr (iS (aC (rY (bG xW))) kW)) nrr nrr kr ⟨⟨⟨by decide,qR (n:=6) (n0:=6) (r:= .own 66 3 (List.length v5) (fl eW v5)) (v:= .sref 6 [] 0 (List.length v5) 3) (Hr:=[z31]) (n':=7) kr dd⟩,Hld.un ?_⟩⟩));refine dt (sp 61 [z7,z9,z16,z20,z24,z21,z8,z25,z10,z11,z12,z13,z14,z15,(37,bo eW z1.Pages),z30]) [z31,z4,z5,z22,z28,z27,z29] 7 ?_;obtain⟨hg4,hh⟩:=bW hh;refine yjc 2 [(0:Int)<=x_g/\x_g<((List.length v4.Guests:Nat):Int)] (sp 61 [z7,z9,z16,z20,z24,z21,z8,z25,z10,z11,z12,z13,z14,z15,(37,bo eW z1.Pages),z30,(39,.ptr 4 [] (0+(Int.toNat x_g)*17)),(40,.ptr 4 [] (0+(Int.toNat x_g)*17+14))]) [z31,z4,z5,z22,z28,z27,z29] 7 (.cons hg4 .nil) (ys (.store 1 (.t 40) (.t 38)) none (bAt (c:=gN) (xs:=v4.Guests) (e:=64) (r:=4) (o:=0+(Int.toNat x_g)*17+14) (i:=(Int.toNat x_g)) (off:=14) (vs:=[.sref 6 [] 0 (List.length v5) 3]) aHo kr kr kr kr ltn ltn dd ?_));refine yt (sp 61 [z7,z9,z16,z20,z24,z21]) [z4,z5,z22,z28,(4,some ⟨64,aR (fl gN v4.Guests) (0+(Int.toNat x_g)*17+14) [.sref 6 [] 0 (List.length v5) 3]⟩),z29,z31] 7 ?_;let q5:Root:=⟨26,[sw 3 v4.Words,.sref 7 [] 0 (List.length v4.Guests) 17]⟩;let z32:=(5,some q5);refine Aw.ent (Ent.foldP (c:=gN) (xs:=v4.Guests) (i:=(Int.toNat x_g)) (off:=14) (o:=0+(Int.toNat x_g)*17+14) (y:=z3) (R:=4) (e:=64) (us2:=sp 61 [z7,z9,z16,z20,z24,z21]) (H2:=[z4,z5,z22,z28,z32]) (L:=[some (some 6)]) (ws:=[.own 66 3 (List.length v5) (fl eW v5)]) aHo kr ltn ltn (Nat.le_of_ble_eq_true rfl) kr (bNd kr eqn aXx) (by rfl) (by rfl) (aQv kr (wC (u:=ii x_g) kr (.same _) (wC (u:=pp 0) kr (.same _) (wC (u:=pp 1) kr (.same _) (wC (u:=pp 2) kr (.same _) (wC (u:=ii v3) kr (.same _) (wC (u:=pp 5) kr (.same _) aZe))))))) (yT (t:=(rB26 x_from)) rfl kr rfl rI (yT (t:=(rB26 x_to)) rfl kr rfl rI (yT (t:=q1) rfl kr rfl rI (yT (t:=q3) rfl kr rfl rI (yT (t:=q4) rfl kr rfl (aDj (.same _) (aDj (.sref _ _ _ _ eqn) aXu)) bDz)))))) (Aw.sregd [2,3,6,8,9,10] [0,2,3,5,7,12,13] [8,9,10,11] kr ?_);let q6:Root:=(rO64 (List.set v4.Guests (Int.toNat x_g) z3));let z33:=(7,some q6);refine dj 5 (sp 61 [z7,z9,z16,z20,z24,z21,(41,pp 1),z17,(43,.ptr 1 [] 1),z18,(45,ii v3)]) [z33,z4,z5,z22,z28,z32] 8 ?_;obtain⟨v6,hv6,hh⟩:=bind_some hh;let z34:EV:=(46,.sref 8 [] 0 (List.length v6) 3);let z35:EV:=(47,.agg (bb true:: .nil::nE [.sref 8 [] 0 (List.length v6) 3,.nil,.nil]));let z36:EH:=(8,some (rC66 v6));refine ds (.call 44 []) (some 46) (zK rfl (lO (r:= .own 66 3 (List.length v6) (fl eW v6)) (v:= .sref 8 [] 0 (List.length v6) 3) (Hr:=[z36]) (n':=9) (tI hv6) (pV (vs:=[]) kr kW) nrr nrr kr ⟨⟨⟨by decide,qR (n:=8) (n0:=8) (r:= .own 66 3 (List.length v6) (fl eW v6)) (v:= .sref 8 [] 0 (List.length v6) 3) (Hr:=[z36]) (n':=9) kr dd⟩,Hld.un ?_⟩⟩));refine dj 1 (sp 61 [z7,z9,z16,z20,z24,z21,(41,pp 1),z17,(43,.ptr 1 [] 1),z18,(45,ii v3),z34,z35]) [z36,z33,z4,z5,z22,z28,z32] 9 ?_;obtain⟨v7,hv7,hh⟩:=bind_some hh;let z37:EH:=(12,some (rO64 v7));let z38:EV:=(51,.agg [bo (eI .i64) x_to.Words,.sref 12 [] 0 (List.length v7) 17]);refine ds (.call 43 [.t 44,.t 45,.t 47]) (some 48) (zK rfl (bFl (args:=[bo fE x_to.Guests,ii v3,.agg (bb true:: .nil::nE [.sref 8 [] 0 (List.length v6) 3,.nil,.nil])]) (args2:=[bo fE x_to.Guests,ii v3,.agg (bb true:: .sref 9 [] 0 0 1::nE [.sref 8 [] 0 (List.length v6) 3,.sref 10 [] 0 0 1,.sref 11 [] 0 0 1])]) kr (Ent.trans (Ent.nils (n:=11) (e:=3) (xs2:=[bo fE x_to.Guests,ii v3,.agg (bb true:: .sref 9 [] 0 0 1::nE [.sref 8 [] 0 (List.length v6) 3,.sref 10 [] 0 0 1,.sref 11 [] 0 0 1])]) (bH (.same _) (bH (.same _) (bH (.agg _ _ (bH (.same _) (bH (.same _) (bH (.same _) (bH (.same _) (bH (.same _) (bH (.same _) (bH (.same _) (bH (.same _) (bH (.same _) (bH (.same _) (bH (.same _) (bH (.same _) (bH (.same _) (bH (.same _) (bH (.same _) (bH (.same _) (bH (.nil _) aKp)))))))))))))))))) aKp)))) (Ent.trans (Ent.nils (n:=10) (e:=3) (xs2:=[bo fE x_to.Guests,ii v3,.agg (bb true:: .sref 9 [] 0 0 1::nE [.sref 8 [] 0 (List.length v6) 3,.sref 10 [] 0 0 1,.nil])]) (bH (.same _) (bH (.same _) (bH (.agg _ _ (bH (.same _) (bH (.same _) (bH (.same _) (bH (.same _) (bH (.same _) (bH (.same _) (bH (.same _) (bH (.same _) (bH (.same _) (bH (.same _) (bH (.same _) (bH (.same _) (bH (.same _) (bH (.same _) (bH (.same _) (bH (.nil _) (bH (.same _) aKp)))))))))))))))))) aKp)))) (Ent.nils (n:=9) (e:=3) (xs2:=[bo fE x_to.Guests,ii v3,.agg (bb true:: .sref 9 [] 0 0 1::nE [.sref 8 [] 0 (List.length v6) 3,.nil,.nil])]) (bH (.same _) (bH (.same _) (bH (.agg _ _ (bH (.same _) (bH (.nil _) (bH (.same _) (bH (.same _) (bH (.same _) (bH (.same _) (bH (.same _) (bH (.same _) (bH (.same _) (bH (.same _) (bH (.same _) (bH (.same _) (bH (.same _) (bH (.same _) (bH (.same _) (bH (.same _) (bH (.same _) aKp)))))))))))))))))) aKp)))))) (Inl.frameB (v':= .sref 12 [] 0 (List.length v7) 17) (Hp':=[z37]) (n':=13) [9,8,10,11] (aEs hv7) rfl rfl rfl rz rfl (hq ⟨3,[]⟩ (aL rfl) (hq ⟨3,[]⟩ (aL rfl) (hn kF (hq ⟨3,[]⟩ (aL rfl) eQ)))) yD rfl (hn kD eQ) rfl) ⟨⟨⟨by decide,bHr (A:=[z37,(9,none),(8,none),(10,none),(11,none),(11,some ⟨3,[]⟩),(10,some ⟨3,[]⟩),(9,some ⟨3,[]⟩)]) kr kr⟩,Hld.un ?_⟩⟩));refine dt (sp 61 [z7,z9,z16,z20,z24,z21,z6,(41,pp 1),z17,(43,.ptr 1 [] 1),z18,(45,ii v3),z34,z35,(48,.sref 12 [] 0 (List.length v7) 17),(49,.agg [bo (eI .i64) x_to.Words,.sref 12 [] 0 (List.length v7) 17])]) [(13,some ⟨26,[.nil,.nil]⟩),z37,(9,none),(8,none),(10,none),(11,none),(11,some ⟨3,[]⟩),(10,some ⟨3,[]⟩),(9,some ⟨3,[]⟩),z36,z33,z4,z5,z22,z28,z32] 14 ?_;let q7:Root:=⟨26,[bo (eI .i64) x_to.Words,.sref 12 [] 0 (List.length v7) 17]⟩;let z39:=(13,some q7);refine yt (sp 61 [z7,z9,z20,z24,z21,z6]) [z4,z22,z28,z32,z33,z37,z39] 14 (Aw.sregd [6,7] [2,3,7,14,15,16] [] kr (dj 5 (sp 61 [z7,z9,z20,z24,z21,z6,z26,z38,(52,ii v3),z19,(54,ii x_g)]) [z4,z22,z28,z32,z33,z37,z39] 14 ?_));obtain⟨v8,hv8,hh⟩:=bind_some hh;refine ds (.call 46 [.t 53,.t 54]) (some 55) (zK rfl (aHm (r:= .agg (nQ v8)) (v:= .agg (nQ v8)) (Hr:=[]) (n':=14) (aEo hv8) (pV (vs:=[.agg (gO x_from),ii x_g]) kr (iS (aC (sP (uM _))) (cz1 kW))) nrr kr ⟨⟨⟨by decide,qR (n:=14) (n0:=14) (r:= .agg (nQ v8)) (v:= .agg (nQ v8)) (Hr:=[]) (n':=14) kr dd⟩,Hld.un ?_⟩⟩));obtain⟨v9,hv9,hh⟩:=bind_some hh;let z40:EV:=(56,.agg [sw 14 v9.Words,.sref 15 [] 0 (List.length v9.Guests) 17]);let q8:Root:=(rO64 v9.Guests);let z41:=(15,some q8);let q9:Root:=(rI_3 v9.Words);let z42:=(14,some q9);refine ds (.call 45 [.t 51,.t 52,.t 55]) (some 56) (zK rfl (lO (r:= .agg [.own 3 1 (List.length v9.Words) (fl (eI .i64) v9.Words),.own 64 17 (List.length v9.Guests) (fl gN v9.Guests)]) (v:= .agg [sw 14 v9.Words,.sref 15 [] 0 (List.length v9.Guests) 17]) (Hr:=[z41,z42]) (n':=16) (aBl hv9) (pV (vs:=[.agg [bo (eI .i64) x_to.Words,.sref 12 [] 0 (List.length v7) 17],ii v3,.agg (nQ v8)]) kr (iS (bIt (aI (aC (rY (bG cV))) (aI (aWu (B:=fE) (xs:=v7) (e:=64) aUo aHo eqn kr) vO))) (cz1 (iS (aC (sP (aLf _))) kW)))) nrr nrr kr ⟨⟨⟨by decide,qR (n:=14) (n0:=14) (r:= .agg [.own 3 1 (List.length v9.Words) (fl (eI .i64) v9.Words),.own 64 17 (List.length v9.Guests) (fl gN v9.Guests)]) (v:= .agg [sw 14 v9.Words,.sref 15 [] 0 (List.length v9.Guests) 17]) (Hr:=[z41,z42]) (n':=16) kr dd⟩,Hld.un ?_⟩⟩));refine dj 2 (sp 61 [z7,z9,z20,z24,z21,z6,z26,z38,(52,ii v3),z19,(54,ii x_g),(55,.agg (nQ v8)),z40,(57,ii x_g),(58,ii v3)]) [z41,z42,z4,z22,z28,z32,z33,z37,z39] 16 ?_;obtain⟨v10,hv10,hh⟩:=bind_some hh;let z43:EH:=(16,some (rT_4 v10));refine ds (.call 47 []) (some 59) (zK rfl (lO (r:= .own 4 1 (List.length v10) (fl eB v10)) (v:=sw 16 v10) (Hr:=[z43]) (n':=17) (aHy hv10) (pV (vs:=[]) kr kW) nrr nrr kr ⟨⟨⟨by decide,qR (n:=16) (n0:=16) (r:= .own 4 1 (List.length v10) (fl eB v10)) (v:=sw 16 v10) (Hr:=[z43]) (n':=17) kr dd⟩,Hld.un ?_⟩⟩));refine dt (sp 61 [z7,z9,z20,z24,z21,z6,z26,z38,(52,ii v3),z19,(54,ii x_g),(55,.agg (nQ v8)),z40,(57,ii x_g),(58,ii v3),(59,sw 16 v10)]) [z43,z41,z42,z4,z22,z28,z32,z33,z37,z39] 17 (yt (sp 61 [z20,(7,bb true)]) [(2,some ⟨29,[sw 3 v4.Words,.sref 7 [] 0 (List.length v4.Guests) 17,sw 14 v9.Words,.sref 15 [] 0 (List.length v9.Guests) 17,ii x_g,ii v3,sw 16 v10]⟩),z28,z33,z42,z41,z43] 17 (Aw.ret ?_));rw[dE hh];exact tZ (r':= .tup [.agg [sw 3 v4.Words,.sref 7 [] 0 (List.length v4.Guests) 17,sw 14 v9.Words,.sref 15 [] 0 (List.length v9.Guests) 17,ii x_g,ii v3,sw 16 v10],bb true]) kr (Ent.list [some 3,some 7,some 14,some 15,some 16] rfl rfl (Nat.zero_le _) (oA (kE rz)) (hn wP (hn kD (hn bU (hn kD (hn bU eQ))))))
noncomputable def g13:Sg tG:=⟨[.st 26,.st 26,.i .i64],.two (.st 2029) .b,fO⟩
theorem s13:Sok 13 g13:=λx_from x_to x_g R_ hh=>kc (aEt (x_from:=x_from) (x_to:=x_to) (x_g:=x_g) hh)
noncomputable def qN (x_g:Int)(s3:Int)(v4:DHost)(v5:DHost)(v6:DGuest)(s7:(List DGuest)×(List Bool)×(List DSlot)):Option (DMove×Bool):=grd ((0:Int)<=s3/\s3<((List.length v5.Guests:Nat):Int)) (some ((DMove.mk (DHost.mk v4.Words s7.1) (DHost.mk v5.Words (List.set v5.Guests (Int.toNat s3) (DGuest.mk v6.Live v6.C s7.2.2 v6.In v6.Out))) x_g s3 s7.2.1),true))
noncomputable def fG (x_g:Int)(s8:(List DGuest)×(List Bool)×(List DSlot)×Int):Option (LO ((List DGuest)×(List Bool)×(List DSlot)×Int) (JO ((List DGuest)×(List Bool)×(List DSlot)) (DMove×Bool))):=
 cond (decide (s8.2.2.2<(8:Int)))
  (grd ((0:Int)<=x_g/\x_g<((List.length s8.1:Nat):Int)) (grd ((0:Int)<=s8.2.2.2/\s8.2.2.2<((List.length (List.getD s8.1 (Int.toNat x_g) default).Pages:Nat):Int)) (grd ((0:Int)<=s8.2.2.2/\s8.2.2.2<((List.length s8.2.2.1:Nat):Int)) (grd ((List.length s8.2.1+List.length ([true]:List Bool))*1<=2^47/\List.length s8.2.1+List.length ([true]:List Bool)<=2^47) (some (.next ((List.set s8.1 (Int.toNat x_g) (DGuest.mk (List.getD s8.1 (Int.toNat x_g) default).Live (DCore.mk ((List.getD s8.1 (Int.toNat x_g) default).C).Regs ((List.getD s8.1 (Int.toNat x_g) default).C).Pc ((List.getD s8.1 (Int.toNat x_g) default).C).Root ((List.getD s8.1 (Int.toNat x_g) default).C).Vector ((List.getD s8.1 (Int.toNat x_g) default).C).Saved ((List.getD s8.1 (Int.toNat x_g) default).C).SavedUser ((List.getD s8.1 (Int.toNat x_g) default).C).Cause ((List.getD s8.1 (Int.toNat x_g) default).C).Bad ((List.getD s8.1 (Int.toNat x_g) default).C).Timer ((List.getD s8.1 (Int.toNat x_g) default).C).Waits ((List.getD s8.1 (Int.toNat x_g) default).C).User ((List.getD s8.1 (Int.toNat x_g) default).C).On ((List.getD s8.1 (Int.toNat x_g) default).C).Stopped) (List.set (List.getD s8.1 (Int.toNat x_g) default).Pages (Int.toNat s8.2.2.2) (DSlot.mk (List.getD (List.getD s8.1 (Int.toNat x_g) default).Pages (Int.toNat s8.2.2.2) default).Frame (List.getD (List.getD s8.1 (Int.toNat x_g) default).Pages (Int.toNat s8.2.2.2) default).Write false)) (List.getD s8.1 (Int.toNat x_g) default).In (List.getD s8.1 (Int.toNat x_g) default).Out)),s8.2.1++([true]:List Bool),List.set s8.2.2.1 (Int.toNat s8.2.2.2) (DSlot.mk (-1:Int) false false),w64 (s8.2.2.2+(1:Int)))))))))
  (some (.ret (.go (s8.1,s8.2.1,s8.2.2.1))))
noncomputable def qM (x_from:DHost)(x_to:DHost)(x_g:Int)(s3:Int):Option (DMove×Bool):=
 cond (decide (s3<(0:Int)))
  (some ((DMove.mk (DHost.mk ([]:List Int) ([]:List DGuest)) (DHost.mk ([]:List Int) ([]:List DGuest)) (0:Int) (0:Int) ([]:List Bool)),false))
  (Option.bind (iW x_from) λv4=>
  Option.bind (iW x_to) λv5=>
  grd ((0:Int)<=x_g/\x_g<((List.length x_from.Guests:Nat):Int)) (Option.bind (fN (DGuest.mk (List.getD x_from.Guests (Int.toNat x_g) default).Live (DCore.mk ((List.getD x_from.Guests (Int.toNat x_g) default).C).Regs ((List.getD x_from.Guests (Int.toNat x_g) default).C).Pc ((List.getD x_from.Guests (Int.toNat x_g) default).C).Root ((List.getD x_from.Guests (Int.toNat x_g) default).C).Vector ((List.getD x_from.Guests (Int.toNat x_g) default).C).Saved ((List.getD x_from.Guests (Int.toNat x_g) default).C).SavedUser ((List.getD x_from.Guests (Int.toNat x_g) default).C).Cause ((List.getD x_from.Guests (Int.toNat x_g) default).C).Bad ((List.getD x_from.Guests (Int.toNat x_g) default).C).Timer ((List.getD x_from.Guests (Int.toNat x_g) default).C).Waits ((List.getD x_from.Guests (Int.toNat x_g) default).C).User ((List.getD x_from.Guests (Int.toNat x_g) default).C).On ((List.getD x_from.Guests (Int.toNat x_g) default).C).Stopped) (List.getD x_from.Guests (Int.toNat x_g) default).Pages (List.getD x_from.Guests (Int.toNat x_g) default).In (List.getD x_from.Guests (Int.toNat x_g) default).Out)) λv6=>
   Option.bind (Option.bind (iter (fG x_g) (v4.Guests,([]:List Bool),v6.Pages,(0:Int))) LO.val) λj7=>
    JO.run j7 (qN x_g s3 v4 v5 v6)))
noncomputable def pZ (s9:Int×Int)(s10:Int):Option (LO (Int×Int) (JO Int (DMove×Bool))):=some (.next (s10,w64 (s9.2-(1:Int))))
noncomputable def eF (x_to:DHost)(s9:Int×Int):Option (LO (Int×Int) (JO Int (DMove×Bool))):=
 cond (decide ((0:Int)<=s9.2))
  (Option.bind (grd ((0:Int)<=s9.2/\s9.2<((List.length x_to.Guests:Nat):Int)) (cond (!(List.getD x_to.Guests (Int.toNat s9.2) default).Live)
   (some (.go s9.2))
   (some (.go s9.1)))) λj10=>
   JO.run j10 (pZ s9))
  (some (.ret (.go s9.1)))
noncomputable def kN (x_from:DHost)(x_to:DHost)(x_g:Int):Option (DMove×Bool):=
 Option.bind (iY x_from x_g) λv1=>
 cond (!v1)
  (some ((DMove.mk (DHost.mk ([]:List Int) ([]:List DGuest)) (DHost.mk ([]:List Int) ([]:List DGuest)) (0:Int) (0:Int) ([]:List Bool)),false))
  (Option.bind (gS x_to) λv2=>
  cond (!v2)
   (some ((DMove.mk (DHost.mk ([]:List Int) ([]:List DGuest)) (DHost.mk ([]:List Int) ([]:List DGuest)) (0:Int) (0:Int) ([]:List Bool)),false))
   (Option.bind (Option.bind (iter (eF x_to) ((-1:Int),(2:Int))) LO.val) λj3=>
    JO.run j3 (qM x_from x_to x_g)))
noncomputable def g14:Sg tG:=⟨[.st 26,.st 26,.i .i64],.two (.st 2029) .b,kN⟩
theorem s14:Sok 14 g14:=sgx [(33,.r g33),(48,.r g48),(49,.r g49),(50,.r g50)] ⟨s33,s48,s49,s50,trivial⟩ (.s .o (.s .o (.s .o (.j ⟨[2,3,4,6],[],[(.s 8,.i .i64)]⟩ (.s .o (.k (.l ⟨[2,3,4,6],[],[(.s 8,.i .i64),(.s 9,.i .i64)]⟩ (.s .o (.j ⟨[2,3,4,6,9],[],[(.s 8,.i .i64)]⟩ .o .o))))) (.s .o (.s .o (.s .o (.j ⟨[6,8,10,11],[],[(.c 10 1,.ro 1064),(.c 10 6,.ro 4),(.c 11 14,.ro 66)]⟩ (.s .o (.k (.l ⟨[2,6,8,10,11],[],[(.c 10 1,.ro 1064),(.c 10 6,.ro 4),(.c 11 14,.ro 66),(.s 12,.i .i64)]⟩ .o))) (.s (.g [] [] [.fo (.c 10 3) 0]) .o))))))))) kr kr kr
noncomputable def aCa  (s3:Unit):Option Bool:=some true
noncomputable def jH (x_a:DMove)(x_b:DMove)(s4:Int):Option (LO Int (JO Unit Bool)):=
 cond (decide (s4<((List.length x_a.Left:Nat):Int)))
  (grd ((0:Int)<=s4/\s4<((List.length x_a.Left:Nat):Int)) (grd ((0:Int)<=s4/\s4<((List.length x_b.Left:Nat):Int)) (cond (!((List.getD x_a.Left (Int.toNat s4) default)==(List.getD x_b.Left (Int.toNat s4) default)))
   (some (.ret (.out false)))
   (some (.next (w64 (s4+(1:Int))))))))
  (some (.ret (.go ())))
noncomputable def lT (x_a:DMove)(x_b:DMove):Option Bool:=
 cond (!decide (x_a.G=x_b.G))
  (some false)
  (cond (!decide (x_a.N=x_b.N))
   (some false)
   (cond (!decide (((List.length x_a.Left:Nat):Int)=((List.length x_b.Left:Nat):Int)))
    (some false)
    (Option.bind (jB x_a.From x_b.From) λv1=>
    cond (!v1)
     (some false)
     (Option.bind (jB x_a.To x_b.To) λv2=>
     cond (!v2)
      (some false)
      (Option.bind (Option.bind (iter (jH x_a x_b) (0:Int)) LO.val) λj3=>
       JO.run j3 aCa)))))
noncomputable def g15:Sg tG:=⟨[.st 29,.st 29],.one .b,lT⟩
theorem s15:Sok 15 g15:=sgx [(51,.r g51)] ⟨s51,trivial⟩ (.s .o (.s .o (.j ⟨[],[],[]⟩ (.s .o (.k (.l ⟨[2,3],[],[(.s 5,.i .i64)]⟩ .o))) .o))) kr kr kr
noncomputable def hU (x_code:List Int):Option (DHost×DHost×Int):=
 Option.bind (iB x_code) λv1=>
 Option.bind (jZ v1 (15:Int)) λv2=>
 Option.bind (oD v2.1) λv3=>
 Option.bind (qL v3.1 v2.2) λv4=>
 some (v2.2,v3.2,v4.2)
noncomputable def g12:Sg tG:=⟨[.row 5],.three (.sb 26) (.sb 26) (.i .i64),hU⟩
theorem s12:Sok 12 g12:=sgx [(30,.o g30),(36,.w g36),(37,.w g37),(38,.w g38)] ⟨s30,s36,s37,s38,trivial⟩ (.s .o (.s .o (.s .o (.s .o (.s (.g [.fr (.c 6 0) 0,.fr (.c 6 1) 0] [0,2] []) .o))))) kr kr kr
noncomputable def pK (v1:DHost×DHost×Int)(v2:DMove×Bool)(s6:Unit):Option Bool:=
 Option.bind (oF v2.1) λv7=>
 cond v7
  (Option.bind (iG v1.1 v2.1.From (-1:Int)) λv8=>
  cond v8
   (Option.bind (iG v1.2.1 v2.1.To v2.1.N) λv9=>
   some v9)
   (some false))
  (some false)
noncomputable def fU (v2:DMove×Bool)(s10:Int):Option (LO Int (JO Unit Bool)):=
 cond (decide (s10<((List.length v2.1.Left:Nat):Int)))
  (grd ((0:Int)<=s10/\s10<((List.length v2.1.Left:Nat):Int)) (cond (!(List.getD v2.1.Left (Int.toNat s10) default))
   (some (.ret (.out false)))
   (some (.next (w64 (s10+(1:Int)))))))
  (some (.ret (.go ())))
noncomputable def gF (x_code:List Int):Option Bool:=
 cond (decide ((1048576:Int)<((List.length x_code:Nat):Int)))
  (some true)
  (Option.bind (hU x_code) λv1=>
  Option.bind (fO v1.1 v1.2.1 v1.2.2) λv2=>
  Option.bind (kN v1.1 v1.2.1 v1.2.2) λv3=>
  cond (!(v2.2==v3.2))
   (some false)
   (Option.bind (lT v2.1 v3.1) λv4=>
   cond (!v4)
    (some false)
    (cond (!v2.2)
     (Option.bind mQ  λv5=>
     some v5)
     (Option.bind (Option.bind (iter (fU v2) (0:Int)) LO.val) λj6=>
      JO.run j6 (pK v1 v2)))))
noncomputable def g4:Sg tG:=⟨[.row 5],.one .b,gF⟩
theorem s4:Sok 4 g4:=sgx [(12,.r g12),(13,.r g13),(14,.r g14),(15,.r g15),(11,.r g11),(9,.r g9),(16,.r g16)] ⟨s12,s13,s14,s15,s11,s9,s16,trivial⟩ (.s .o (.s .o (.s .o (.s .o (.s .o (.s .o (.s .o (.j ⟨[3,4,6],[],[]⟩ (.s .o (.k (.l ⟨[3,4,6],[],[(.s 10,.i .i64)]⟩ .o))) .o)))))))) kr kr kr
theorem aBd{x_code:List Int}{R_:Bool}(hh:gF x_code=some R_):Fn Try.prog 4 [bo (eI .u8) x_code] (.bool R_):=kc (s4 x_code R_ hh)
end Go.Proofs.Ytcgggihjcelmhaa
