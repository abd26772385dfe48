/- Plain functions of the program, and that it hands back what they say. Made by program. -/
import Derived.Test.YtcgggihjcelmhaaWTD
import Derived.Test.YtcgggihjcelmhaaProg
namespace Go.Proofs.Ytcgggihjcelmhaa
open Go.RowKit
set_option maxRecDepth 100000
set_option linter.all false
set_option maxHeartbeats 0
noncomputable def cB (x_n:Int)(x_low:Int)(x_high:Int):Option Bool:=
 cond (decide (x_low<=x_n))
  (some (decide (x_n<=x_high)))
  (some false)
noncomputable def g79:Sg tG:=⟨[.i .i64,.i .i64,.i .i64],.one .b,cB⟩
theorem s79:Sok 79 g79:=sgx [] trivial .o kr kr kr
noncomputable def fI (x_n:Int):Option Bool:=
 Option.bind (cB x_n (0:Int) (4095:Int)) λv1=>
 some v1
noncomputable def aQd:Sg tG:=⟨[.i .i64],.one .b,fI⟩
theorem aVk:Sok 117 aQd:=sgx [(79,.r g79)] ⟨s79,trivial⟩ .o kr kr kr
noncomputable def pT (x_list:List Int)(x_most:Int)(s1:Unit):Option Bool:=some (decide (((List.length x_list:Nat):Int)<=x_most))
noncomputable def pV (x_list:List Int)(s2:Int):Option (LO Int (JO Unit Bool)):=
 cond (decide (s2<((List.length x_list:Nat):Int)))
  (grd ((0:Int)<=s2/\s2<((List.length x_list:Nat):Int)) (Option.bind (fI (List.getD x_list (Int.toNat s2) default)) λv3=>
   cond (!v3)
    (some (.ret (.out false)))
    (some (.next (w64 (s2+(1:Int)))))))
  (some (.ret (.go ())))
noncomputable def dX (x_list:List Int)(x_most:Int):Option Bool:=
 Option.bind (Option.bind (iter (pV x_list) (0:Int)) LO.val) λj1=>
  JO.run j1 (pT x_list x_most)
noncomputable def g92:Sg tG:=⟨[.row 3,.i .i64],.one .b,dX⟩
theorem s92:Sok 92 g92:=sgx [(117,.r aQd)] ⟨aVk,trivial⟩ (.s .o (.j ⟨[0,1],[],[]⟩ (.s .o (.k (.l ⟨[0,1],[],[(.s 5,.i .i64)]⟩ .o))) .o)) kr kr kr
noncomputable def yV (x_c:DCore)(s1:Unit):Option Bool:=
 cond (decide (((List.length x_c.Regs:Nat):Int)=(4:Int)))
  (Option.bind (cB x_c.Pc (0:Int) (63:Int)) λv2=>
  cond v2
   (Option.bind (cB x_c.Vector (0:Int) (63:Int)) λv3=>
   cond v3
    (Option.bind (cB x_c.Saved (0:Int) (63:Int)) λv4=>
    cond v4
     (Option.bind (cB x_c.Bad (0:Int) (63:Int)) λv5=>
     cond v5
      (Option.bind (cB x_c.Root (-1:Int) (7:Int)) λv6=>
      cond v6
       (Option.bind (cB x_c.Cause (0:Int) (4:Int)) λv7=>
       cond v7
        (Option.bind (fI x_c.Timer) λv8=>
        some v8)
        (some false))
       (some false))
      (some false))
     (some false))
    (some false))
   (some false))
  (some false)
noncomputable def yK (x_c:DCore)(s9:Int):Option (LO Int (JO Unit Bool)):=
 cond (decide (s9<((List.length x_c.Regs:Nat):Int)))
  (grd ((0:Int)<=s9/\s9<((List.length x_c.Regs:Nat):Int)) (Option.bind (fI (List.getD x_c.Regs (Int.toNat s9) default)) λv10=>
   cond (!v10)
    (some (.ret (.out false)))
    (some (.next (w64 (s9+(1:Int)))))))
  (some (.ret (.go ())))
noncomputable def kA (x_c:DCore):Option Bool:=
 Option.bind (Option.bind (iter (yK x_c) (0:Int)) LO.val) λj1=>
  JO.run j1 (yV x_c)
noncomputable def g94:Sg tG:=⟨[.st 61],.one .b,kA⟩
theorem s94:Sok 94 g94:=sgx [(117,.r aQd),(79,.r g79)] ⟨aVk,s79,trivial⟩ (.s .o (.j ⟨[1],[],[]⟩ (.s .o (.k (.l ⟨[1],[],[(.s 3,.i .i64)]⟩ .o))) .o)) kr kr kr
noncomputable def zV (x_mem:List Int)(s1:Unit):Option Bool:=some (decide (((List.length x_mem:Nat):Int)=(64:Int)))
noncomputable def aAf (x_mem:List Int)(s2:Int):Option (LO Int (JO Unit Bool)):=
 cond (decide (s2<((List.length x_mem:Nat):Int)))
  (grd ((0:Int)<=s2/\s2<((List.length x_mem:Nat):Int)) (Option.bind (fI (List.getD x_mem (Int.toNat s2) default)) λv3=>
   cond (!v3)
    (some (.ret (.out false)))
    (some (.next (w64 (s2+(1:Int)))))))
  (some (.ret (.go ())))
noncomputable def sL (x_mem:List Int):Option Bool:=
 Option.bind (Option.bind (iter (aAf x_mem) (0:Int)) LO.val) λj1=>
  JO.run j1 (zV x_mem)
noncomputable def bRt:Sg tG:=⟨[.row 3],.one .b,sL⟩
theorem bUd:Sok 138 bRt:=sgx [(117,.r aQd)] ⟨aVk,trivial⟩ (.s .o (.j ⟨[0],[],[]⟩ (.s .o (.k (.l ⟨[0],[],[(.s 3,.i .i64)]⟩ .o))) .o)) kr kr kr
noncomputable def qP (x_b:DBare):Option Bool:=
 Option.bind (kA x_b.C) λv1=>
 cond v1
  (Option.bind (sL x_b.Mem) λv2=>
  cond v2
   (Option.bind (dX x_b.In (30:Int)) λv3=>
   cond v3
    (Option.bind (dX x_b.Out (30:Int)) λv4=>
    some v4)
    (some false))
   (some false))
  (some false)
noncomputable def bQd:Sg tG:=⟨[.st 81],.one .b,qP⟩
theorem bUp:Sok 112 bQd:=sgx [(94,.r g94),(138,.r bRt),(92,.r g92)] ⟨s94,bUd,s92,trivial⟩ .o kr kr kr
noncomputable def iP (x_n:Int):Option Bool:=
 cond (decide ((0:Int)<=x_n))
  (some (decide (x_n<=(4095:Int))))
  (some false)
noncomputable def g35:Sg tG:=⟨[.i .i64],.one .b,iP⟩
theorem s35:Sok 35 g35:=sgx [] trivial .o kr kr kr
noncomputable def aJc  (s1:Unit):Option Bool:=some true
noncomputable def xC (x_list:List Int)(s2:Int):Option (LO Int (JO Unit Bool)):=
 cond (decide (s2<((List.length x_list:Nat):Int)))
  (grd ((0:Int)<=s2/\s2<((List.length x_list:Nat):Int)) (Option.bind (iP (List.getD x_list (Int.toNat s2) default)) λv3=>
   cond (!v3)
    (some (.ret (.out false)))
    (some (.next (w64 (s2+(1:Int)))))))
  (some (.ret (.go ())))
noncomputable def jP (x_list:List Int):Option Bool:=
 Option.bind (Option.bind (iter (xC x_list) (0:Int)) LO.val) λj1=>
  JO.run j1 aJc
noncomputable def g85:Sg tG:=⟨[.row 3],.one .b,jP⟩
theorem s85:Sok 85 g85:=sgx [(35,.r g35)] ⟨s35,trivial⟩ (.s .o (.j ⟨[],[],[]⟩ (.s .o (.k (.l ⟨[5,6],[],[(.s 7,.i .i64)]⟩ .o))) .o)) kr kr kr
noncomputable def cV (x_addr:Int):Option Bool:=
 cond (decide ((0:Int)<=x_addr))
  (some (decide (x_addr<(64:Int))))
  (some false)
noncomputable def bPd:Sg tG:=⟨[.i .i64],.one .b,cV⟩
theorem bUt:Sok 150 bPd:=sgx [] trivial .o kr kr kr
noncomputable def qO (x_page:Int):Option Bool:=
 cond (decide ((0:Int)<=x_page))
  (some (decide (x_page<(8:Int))))
  (some false)
noncomputable def bPh:Sg tG:=⟨[.i .i64],.one .b,qO⟩
theorem bTv:Sok 154 bPh:=sgx [] trivial .o kr kr kr
noncomputable def mO (x_root:Int):Option Bool:=
 cond (decide (x_root=(-1:Int)))
  (some true)
  (Option.bind (qO x_root) λv1=>
  some v1)
noncomputable def bQx:Sg tG:=⟨[.i .i64],.one .b,mO⟩
theorem bUq:Sok 151 bQx:=sgx [(154,.r bPh)] ⟨bTv,trivial⟩ .o kr kr kr
noncomputable def qL (x_c:DCore):Option Bool:=
 cond (decide (((List.length x_c.Regs:Nat):Int)=(4:Int)))
  (Option.bind (jP x_c.Regs) λv1=>
  Option.bind (cV x_c.Pc) λv2=>
  cond v2
   (Option.bind (cV x_c.Vector) λv3=>
   cond v3
    (Option.bind (cV x_c.Saved) λv4=>
    cond v4
     (Option.bind (cV x_c.Bad) λv5=>
     cond (decide ((0:Int)<=x_c.Cause))
      (cond v1
       (cond v5
        (Option.bind (mO x_c.Root) λv6=>
        cond v6
         (cond (decide (x_c.Cause<=(4:Int)))
          (Option.bind (iP x_c.Timer) λv7=>
          some v7)
          (some false))
         (some false))
        (some false))
       (some false))
      (cond v1
       (cond v5
        (Option.bind (mO x_c.Root) λv8=>
        cond v8
         (some false)
         (some false))
        (some false))
       (some false)))
     (cond (decide ((0:Int)<=x_c.Cause))
      (cond v1
       (some false)
       (some false))
      (cond v1
       (some false)
       (some false))))
    (cond (decide ((0:Int)<=x_c.Cause))
     (cond v1
      (some false)
      (some false))
     (cond v1
      (some false)
      (some false))))
   (cond (decide ((0:Int)<=x_c.Cause))
    (cond v1
     (some false)
     (some false))
    (cond v1
     (some false)
     (some false))))
  (Option.bind (cV x_c.Pc) λv9=>
  cond v9
   (Option.bind (cV x_c.Vector) λv10=>
   cond v10
    (Option.bind (cV x_c.Saved) λv11=>
    cond v11
     (Option.bind (cV x_c.Bad) λv12=>
     cond (decide ((0:Int)<=x_c.Cause))
      (some false)
      (some false))
     (cond (decide ((0:Int)<=x_c.Cause))
      (some false)
      (some false)))
    (cond (decide ((0:Int)<=x_c.Cause))
     (some false)
     (some false)))
   (cond (decide ((0:Int)<=x_c.Cause))
    (some false)
    (some false)))
noncomputable def bSg:Sg tG:=⟨[.st 61],.one .b,qL⟩
theorem bUi:Sok 140 bSg:=sgx [(85,.r g85),(150,.r bPd),(151,.r bQx),(35,.r g35)] ⟨s85,bUt,bUq,s35,trivial⟩ .o kr kr kr
noncomputable def oD (x_words:List Int):Option Bool:=
 cond (decide (((List.length x_words:Nat):Int)<=(30:Int)))
  (Option.bind (jP x_words) λv1=>
  some v1)
  (some false)
noncomputable def bRn:Sg tG:=⟨[.row 3],.one .b,oD⟩
theorem bTo:Sok 142 bRn:=sgx [(85,.r g85)] ⟨s85,trivial⟩ .o kr kr kr
noncomputable def nI (x_c:DCore):Option Bool:=
 cond (decide (x_c.Pc=(0:Int)))
  (cond (decide (x_c.Root=(0:Int)))
   (cond (decide (x_c.Vector=(0:Int)))
    (cond (decide (x_c.Saved=(0:Int)))
     (cond x_c.SavedUser
      (cond (decide (((List.length x_c.Regs:Nat):Int)=(0:Int)))
       (cond (decide (x_c.Bad=(0:Int)))
        (cond (decide (x_c.Cause=(0:Int)))
         (cond (decide (x_c.Timer=(0:Int)))
          (some false)
          (some false))
         (some false))
        (some false))
       (some false))
      (cond x_c.Waits
       (cond (decide (((List.length x_c.Regs:Nat):Int)=(0:Int)))
        (cond (decide (x_c.Bad=(0:Int)))
         (cond (decide (x_c.Cause=(0:Int)))
          (cond (decide (x_c.Timer=(0:Int)))
           (some false)
           (some false))
          (some false))
         (some false))
        (some false))
       (cond x_c.User
        (cond (decide (((List.length x_c.Regs:Nat):Int)=(0:Int)))
         (cond (decide (x_c.Bad=(0:Int)))
          (cond (decide (x_c.Cause=(0:Int)))
           (cond (decide (x_c.Timer=(0:Int)))
            (some false)
            (some false))
           (some false))
          (some false))
         (some false))
        (cond x_c.On
         (cond (decide (((List.length x_c.Regs:Nat):Int)=(0:Int)))
          (cond (decide (x_c.Bad=(0:Int)))
           (cond (decide (x_c.Cause=(0:Int)))
            (cond (decide (x_c.Timer=(0:Int)))
             (some false)
             (some false))
            (some false))
           (some false))
          (some false))
         (cond (decide (((List.length x_c.Regs:Nat):Int)=(0:Int)))
          (cond (decide (x_c.Bad=(0:Int)))
           (cond (decide (x_c.Cause=(0:Int)))
            (cond (decide (x_c.Timer=(0:Int)))
             (some (!x_c.Stopped))
             (some false))
            (some false))
           (some false))
          (some false))))))
     (cond x_c.SavedUser
      (cond (decide (((List.length x_c.Regs:Nat):Int)=(0:Int)))
       (some false)
       (some false))
      (cond x_c.Waits
       (cond (decide (((List.length x_c.Regs:Nat):Int)=(0:Int)))
        (some false)
        (some false))
       (cond x_c.User
        (cond (decide (((List.length x_c.Regs:Nat):Int)=(0:Int)))
         (some false)
         (some false))
        (cond x_c.On
         (cond (decide (((List.length x_c.Regs:Nat):Int)=(0:Int)))
          (some false)
          (some false))
         (cond (decide (((List.length x_c.Regs:Nat):Int)=(0:Int)))
          (some false)
          (some false)))))))
    (cond x_c.SavedUser
     (cond (decide (((List.length x_c.Regs:Nat):Int)=(0:Int)))
      (some false)
      (some false))
     (cond x_c.Waits
      (cond (decide (((List.length x_c.Regs:Nat):Int)=(0:Int)))
       (some false)
       (some false))
      (cond x_c.User
       (cond (decide (((List.length x_c.Regs:Nat):Int)=(0:Int)))
        (some false)
        (some false))
       (cond x_c.On
        (cond (decide (((List.length x_c.Regs:Nat):Int)=(0:Int)))
         (some false)
         (some false))
        (cond (decide (((List.length x_c.Regs:Nat):Int)=(0:Int)))
         (some false)
         (some false)))))))
   (cond x_c.SavedUser
    (cond (decide (((List.length x_c.Regs:Nat):Int)=(0:Int)))
     (some false)
     (some false))
    (cond x_c.Waits
     (cond (decide (((List.length x_c.Regs:Nat):Int)=(0:Int)))
      (some false)
      (some false))
     (cond x_c.User
      (cond (decide (((List.length x_c.Regs:Nat):Int)=(0:Int)))
       (some false)
       (some false))
      (cond x_c.On
       (cond (decide (((List.length x_c.Regs:Nat):Int)=(0:Int)))
        (some false)
        (some false))
       (cond (decide (((List.length x_c.Regs:Nat):Int)=(0:Int)))
        (some false)
        (some false)))))))
  (cond x_c.SavedUser
   (cond (decide (((List.length x_c.Regs:Nat):Int)=(0:Int)))
    (some false)
    (some false))
   (cond x_c.Waits
    (cond (decide (((List.length x_c.Regs:Nat):Int)=(0:Int)))
     (some false)
     (some false))
    (cond x_c.User
     (cond (decide (((List.length x_c.Regs:Nat):Int)=(0:Int)))
      (some false)
      (some false))
     (cond x_c.On
      (cond (decide (((List.length x_c.Regs:Nat):Int)=(0:Int)))
       (some false)
       (some false))
      (cond (decide (((List.length x_c.Regs:Nat):Int)=(0:Int)))
       (some false)
       (some false))))))
noncomputable def bRx:Sg tG:=⟨[.st 61],.one .b,nI⟩
theorem bUo:Sok 149 bRx:=sgx [] trivial .o kr kr kr
noncomputable def lE (x_guest:DGuest):Option Bool:=
 Option.bind (nI x_guest.C) λv1=>
 cond v1
  (cond (decide (((List.length x_guest.Pages:Nat):Int)=(0:Int)))
   (cond (decide (((List.length x_guest.In:Nat):Int)=(0:Int)))
    (some (decide (((List.length x_guest.Out:Nat):Int)=(0:Int))))
    (some false))
   (some false))
  (some false)
noncomputable def bRb:Sg tG:=⟨[.st 64],.one .b,lE⟩
theorem bUj:Sok 139 bRb:=sgx [(149,.r bRx)] ⟨bUo,trivial⟩ .o kr kr kr
noncomputable def qM (x_s:DSlot):Option Bool:=
 cond (decide (x_s.Frame=(-1:Int)))
  (cond (!x_s.Write)
   (some (!x_s.Dirty))
   (some false))
  (cond (decide ((0:Int)<=x_s.Frame))
   (some (decide (x_s.Frame<(20:Int))))
   (some false))
noncomputable def bRf:Sg tG:=⟨[.st 66],.one .b,qM⟩
theorem bTw:Sok 152 bRf:=sgx [] trivial .o kr kr kr
noncomputable def aJa  (s1:Unit):Option Bool:=some true
noncomputable def wZ (x_pages:List DSlot)(s2:Int):Option (LO Int (JO Unit Bool)):=
 cond (decide (s2<((List.length x_pages:Nat):Int)))
  (grd ((0:Int)<=s2/\s2<((List.length x_pages:Nat):Int)) (Option.bind (qM (DSlot.mk (List.getD x_pages (Int.toNat s2) default).Frame (List.getD x_pages (Int.toNat s2) default).Write (List.getD x_pages (Int.toNat s2) default).Dirty)) λv3=>
   cond (!v3)
    (some (.ret (.out false)))
    (some (.next (w64 (s2+(1:Int)))))))
  (some (.ret (.go ())))
noncomputable def oV (x_pages:List DSlot):Option Bool:=
 cond (!decide (((List.length x_pages:Nat):Int)=(8:Int)))
  (some false)
  (Option.bind (Option.bind (iter (wZ x_pages) (0:Int)) LO.val) λj1=>
   JO.run j1 aJa)
noncomputable def bQb:Sg tG:=⟨[.row 66],.one .b,oV⟩
theorem bUm:Sok 141 bQb:=sgx [(152,.r bRf)] ⟨bTw,trivial⟩ (.s .o (.s .o (.j ⟨[],[],[]⟩ (.s .o (.k (.l ⟨[8,9],[],[(.s 10,.i .i64)]⟩ .o))) .o))) kr kr kr
noncomputable def lI (x_guest:DGuest):Option Bool:=
 cond (!x_guest.Live)
  (Option.bind (lE x_guest) λv1=>
  some v1)
  (Option.bind (qL x_guest.C) λv2=>
  cond v2
   (Option.bind (oV x_guest.Pages) λv3=>
   cond v3
    (Option.bind (oD x_guest.In) λv4=>
    cond v4
     (Option.bind (oD x_guest.Out) λv5=>
     some v5)
     (some false))
    (some false))
   (some false))
noncomputable def bRh:Sg tG:=⟨[.st 64],.one .b,lI⟩
theorem bUx:Sok 114 bRh:=sgx [(139,.r bRb),(140,.r bSg),(141,.r bQb),(142,.r bRn)] ⟨bUj,bUi,bUm,bTo,trivial⟩ .o kr kr kr
noncomputable def aFu  (s1:Unit):Option Bool:=some true
noncomputable def kK (x_guests:List DGuest)(s2:Int):Option (LO Int (JO Unit Bool)):=
 cond (decide (s2<((List.length x_guests:Nat):Int)))
  (grd ((0:Int)<=s2/\s2<((List.length x_guests:Nat):Int)) (Option.bind (lI (DGuest.mk (List.getD x_guests (Int.toNat s2) default).Live (DCore.mk ((List.getD x_guests (Int.toNat s2) default).C).Regs ((List.getD x_guests (Int.toNat s2) default).C).Pc ((List.getD x_guests (Int.toNat s2) default).C).Root ((List.getD x_guests (Int.toNat s2) default).C).Vector ((List.getD x_guests (Int.toNat s2) default).C).Saved ((List.getD x_guests (Int.toNat s2) default).C).SavedUser ((List.getD x_guests (Int.toNat s2) default).C).Cause ((List.getD x_guests (Int.toNat s2) default).C).Bad ((List.getD x_guests (Int.toNat s2) default).C).Timer ((List.getD x_guests (Int.toNat s2) default).C).Waits ((List.getD x_guests (Int.toNat s2) default).C).User ((List.getD x_guests (Int.toNat s2) default).C).On ((List.getD x_guests (Int.toNat s2) default).C).Stopped) (List.getD x_guests (Int.toNat s2) default).Pages (List.getD x_guests (Int.toNat s2) default).In (List.getD x_guests (Int.toNat s2) default).Out)) λv3=>
   cond (!v3)
    (some (.ret (.out false)))
    (some (.next (w64 (s2+(1:Int)))))))
  (some (.ret (.go ())))
noncomputable def nG (x_guests:List DGuest):Option Bool:=
 cond (!decide (((List.length x_guests:Nat):Int)=(3:Int)))
  (some false)
  (Option.bind (Option.bind (iter (kK x_guests) (0:Int)) LO.val) λj1=>
   JO.run j1 aFu)
noncomputable def g86:Sg tG:=⟨[.row 64],.one .b,nG⟩
theorem s86:Sok 86 g86:=sgx [(114,.r bRh)] ⟨bUx,trivial⟩ (.s .o (.s .o (.j ⟨[],[],[]⟩ (.s .o (.k (.l ⟨[8,9],[],[(.s 10,.i .i64)]⟩ .o))) .o))) kr kr kr
noncomputable def rU  (s1:List Int):Option (List Int):=some s1
noncomputable def rY (s2:(List Int)×Int)(s3:List Int):Option (LO ((List Int)×Int) (JO (List Int) (List Int))):=some (.next (s3,w64 (s2.2+(1:Int))))
noncomputable def rP (s4:(List Int)×Int)(s5:List Int):Option (LO ((List Int)×Int) (JO (List Int) (LO ((List Int)×Int) (JO (List Int) (List Int))))):=some (.next (s5,w64 (s4.2+(1:Int))))
noncomputable def fQ (x_guests:List DGuest)(s2:(List Int)×Int)(s4:(List Int)×Int):Option (LO ((List Int)×Int) (JO (List Int) (LO ((List Int)×Int) (JO (List Int) (List Int))))):=
 cond (decide (s4.2<((List.length (List.getD x_guests (Int.toNat s2.2) default).Pages:Nat):Int)))
  (Option.bind (grd ((0:Int)<=s4.2/\s4.2<((List.length (List.getD x_guests (Int.toNat s2.2) default).Pages:Nat):Int)) (cond (!decide ((List.getD (List.getD x_guests (Int.toNat s2.2) default).Pages (Int.toNat s4.2) default).Frame=(-1:Int)))
   (grd ((0:Int)<=(List.getD (List.getD x_guests (Int.toNat s2.2) default).Pages (Int.toNat s4.2) default).Frame/\(List.getD (List.getD x_guests (Int.toNat s2.2) default).Pages (Int.toNat s4.2) default).Frame<((List.length s4.1:Nat):Int)) (grd ((0:Int)<=(List.getD (List.getD x_guests (Int.toNat s2.2) default).Pages (Int.toNat s4.2) default).Frame/\(List.getD (List.getD x_guests (Int.toNat s2.2) default).Pages (Int.toNat s4.2) default).Frame<((List.length s4.1:Nat):Int)) (some (.go (List.set s4.1 (Int.toNat (List.getD (List.getD x_guests (Int.toNat s2.2) default).Pages (Int.toNat s4.2) default).Frame) (w64 ((List.getD s4.1 (Int.toNat (List.getD (List.getD x_guests (Int.toNat s2.2) default).Pages (Int.toNat s4.2) default).Frame) default)+(1:Int))))))))
   (some (.go s4.1)))) λj5=>
   JO.run j5 (rP s4))
  (some (.ret (.go s4.1)))
noncomputable def iK (x_guests:List DGuest)(s2:(List Int)×Int):Option (LO ((List Int)×Int) (JO (List Int) (List Int))):=
 cond (decide (s2.2<((List.length x_guests:Nat):Int)))
  (Option.bind (grd ((0:Int)<=s2.2/\s2.2<((List.length x_guests:Nat):Int)) (Option.bind (iter (fQ x_guests s2) (s2.1,(0:Int))) LO.val)) λj3=>
   JO.run j3 (rY s2))
  (some (.ret (.go s2.1)))
noncomputable def kP (x_guests:List DGuest):Option (List Int):=
 Option.bind (Option.bind (iter (iK x_guests) ((List.replicate (Int.toNat (20:Int)) (0:Int)),(0:Int))) LO.val) λj1=>
  JO.run j1 rU
noncomputable def bRk:Sg tG:=⟨[.row 64],.one (.row 3),kP⟩
theorem bTm:Sok 115 bRk:=sgx [] trivial (.s .o (.s .o (.j ⟨[],[],[(.s 3,.ro 3)]⟩ (.s .o (.k (.l ⟨[9,10],[],[(.s 3,.ro 3),(.s 11,.i .i64)]⟩ (.s .o (.s .o (.j ⟨[9,10,11],[],[(.s 3,.ro 3)]⟩ (.k (.s .o (.s .o (.k (.l ⟨[9,10,11,16,17],[],[(.s 3,.ro 3),(.s 18,.i .i64)]⟩ (.s .o (.s .o (.j ⟨[9,10,11,16,17,18],[],[(.s 3,.ro 3)]⟩ .o .o)))))))) .o)))))) .o))) kr kr kr
noncomputable def xS  (s2:Unit):Option Bool:=some true
noncomputable def nH (s3:Int)(s4:Unit):Option (LO Int (JO Unit Bool)):=some (.next (w64 (s3+(1:Int))))
noncomputable def jF (s5:Int)(s6:Unit):Option (LO Int (JO Unit (LO Int (JO Unit Bool)))):=some (.next (w64 (s5+(1:Int))))
noncomputable def eH (x_guests:List DGuest)(v1:List Int)(s3:Int)(s5:Int):Option (LO Int (JO Unit (LO Int (JO Unit Bool)))):=
 cond (decide (s5<((List.length (List.getD x_guests (Int.toNat s3) default).Pages:Nat):Int)))
  (Option.bind (grd ((0:Int)<=s5/\s5<((List.length (List.getD x_guests (Int.toNat s3) default).Pages:Nat):Int)) (cond (List.getD (List.getD x_guests (Int.toNat s3) default).Pages (Int.toNat s5) default).Write
   (grd ((0:Int)<=(List.getD (List.getD x_guests (Int.toNat s3) default).Pages (Int.toNat s5) default).Frame/\(List.getD (List.getD x_guests (Int.toNat s3) default).Pages (Int.toNat s5) default).Frame<((List.length v1:Nat):Int)) (cond (decide ((1:Int)<(List.getD v1 (Int.toNat (List.getD (List.getD x_guests (Int.toNat s3) default).Pages (Int.toNat s5) default).Frame) default)))
    (some (.out (.ret (.out (.ret (.out false))))))
    (some (.go ()))))
   (some (.go ())))) λj6=>
   JO.run j6 (jF s5))
  (some (.ret (.go ())))
noncomputable def fT (x_guests:List DGuest)(v1:List Int)(s3:Int):Option (LO Int (JO Unit Bool)):=
 cond (decide (s3<((List.length x_guests:Nat):Int)))
  (Option.bind (grd ((0:Int)<=s3/\s3<((List.length x_guests:Nat):Int)) (Option.bind (iter (eH x_guests v1 s3) (0:Int)) LO.val)) λj4=>
   JO.run j4 (nH s3))
  (some (.ret (.go ())))
noncomputable def hU (x_guests:List DGuest):Option Bool:=
 Option.bind (kP x_guests) λv1=>
 Option.bind (Option.bind (iter (fT x_guests v1) (0:Int)) LO.val) λj2=>
  JO.run j2 xS
noncomputable def g87:Sg tG:=⟨[.row 64],.one .b,hU⟩
theorem s87:Sok 87 g87:=sgx [(115,.r bRk)] ⟨bTm,trivial⟩ (.s .o (.s .o (.j ⟨[],[],[]⟩ (.s .o (.k (.l ⟨[3,10,11],[],[(.s 12,.i .i64)]⟩ (.s .o (.s .o (.j ⟨[3,10,11,12],[],[]⟩ (.k (.s .o (.s .o (.k (.l ⟨[3,10,11,12,17,18],[],[(.s 19,.i .i64)]⟩ (.s .o (.s .o (.j ⟨[3,10,11,12,17,18,19],[],[]⟩ .o .o)))))))) .o)))))) .o))) kr kr kr
noncomputable def kB (x_h:DHost):Option Bool:=
 cond (decide (((List.length x_h.Words:Nat):Int)=(160:Int)))
  (Option.bind (jP x_h.Words) λv1=>
  cond v1
   (Option.bind (nG x_h.Guests) λv2=>
   cond v2
    (Option.bind (hU x_h.Guests) λv3=>
    some v3)
    (some false))
   (some false))
  (some false)
noncomputable def g39:Sg tG:=⟨[.st 26],.one .b,kB⟩
theorem s39:Sok 39 g39:=sgx [(85,.r g85),(86,.r g86),(87,.r g87)] ⟨s85,s86,s87,trivial⟩ .o kr kr kr
theorem aQc{x_h:DHost}{R_:Bool}(hh:kB x_h=some R_):Fn Try.prog 39 [.agg (eD x_h)] (.bool R_):=kc (s39 x_h R_ hh)
noncomputable def mM (x_g:DGuest):Option Bool:=
 cond (decide (((List.length x_g.C.Regs:Nat):Int)=(0:Int)))
  (cond (decide (x_g.C.Pc=(0:Int)))
   (cond (decide (x_g.C.Root=(0:Int)))
    (cond (decide (x_g.C.Vector=(0:Int)))
     (cond (decide (x_g.C.Saved=(0:Int)))
      (cond (!x_g.C.SavedUser)
       (cond (decide (x_g.C.Cause=(0:Int)))
        (cond (decide (x_g.C.Bad=(0:Int)))
         (cond (decide (x_g.C.Timer=(0:Int)))
          (cond (!x_g.C.Waits)
           (cond (!x_g.C.User)
            (cond (!x_g.C.On)
             (cond (!x_g.C.Stopped)
              (cond (decide (((List.length x_g.Pages:Nat):Int)=(0:Int)))
               (cond (decide (((List.length x_g.In:Nat):Int)=(0:Int)))
                (some (decide (((List.length x_g.Out:Nat):Int)=(0:Int))))
                (some false))
               (some false))
              (some false))
             (some false))
            (some false))
           (some false))
          (some false))
         (some false))
        (some false))
       (some false))
      (some false))
     (some false))
    (some false))
   (some false))
  (some false)
noncomputable def g93:Sg tG:=⟨[.st 64],.one .b,mM⟩
theorem s93:Sok 93 g93:=sgx [] trivial .o kr kr kr
noncomputable def aKk  (s3:Unit):Option Bool:=some true
noncomputable def rA (s4:Int)(s5:Unit):Option (LO Int (JO Unit Bool)):=some (.next (w64 (s4+(1:Int))))
noncomputable def mF (s2:(List Int)×(List Bool))(s4:Int):Option (LO Int (JO Unit Bool)):=
 cond (decide (s4<(20:Int)))
  (Option.bind (grd ((0:Int)<=s4/\s4<((List.length s2.1:Nat):Int)) (cond (decide ((1:Int)<(List.getD s2.1 (Int.toNat s4) default)))
   (grd ((0:Int)<=s4/\s4<((List.length s2.2:Nat):Int)) (cond (List.getD s2.2 (Int.toNat s4) default)
    (some (.out (.ret (.out false))))
    (some (.go ()))))
   (some (.go ())))) λj5=>
   JO.run j5 (rA s4))
  (some (.ret (.go ())))
noncomputable def yM  (s2:(List Int)×(List Bool)):Option Bool:=
 Option.bind (Option.bind (iter (mF s2) (0:Int)) LO.val) λj3=>
  JO.run j3 aKk
noncomputable def rB (s6:(List Int)×(List Bool)×Int)(s7:(List Int)×(List Bool)):Option (LO ((List Int)×(List Bool)×Int) (JO ((List Int)×(List Bool)) Bool)):=some (.next (s7.1,s7.2,w64 (s6.2.2+(1:Int))))
noncomputable def pP (s12:(List Int)×(List Bool)×Int)(s13:(List Bool)×(List Int)):Option (LO ((List Int)×(List Bool)×Int) (JO ((List Int)×(List Bool)) (LO ((List Int)×(List Bool)×Int) (JO ((List Int)×(List Bool)) Bool)))):=some (.next (s13.2,s13.1,w64 (s12.2.2+(1:Int))))
noncomputable def pW (x_h:DHost)(s6:(List Int)×(List Bool)×Int)(s12:(List Int)×(List Bool)×Int)(s14:Unit):Option (JO ((List Bool)×(List Int)) (LO ((List Int)×(List Bool)×Int) (JO ((List Int)×(List Bool)) (LO ((List Int)×(List Bool)×Int) (JO ((List Int)×(List Bool)) Bool))))):=
 cond (decide ((0:Int)<=(List.getD (List.getD x_h.Guests (Int.toNat s6.2.2) default).Pages (Int.toNat s12.2.2) default).Frame))
  (grd ((0:Int)<=(List.getD (List.getD x_h.Guests (Int.toNat s6.2.2) default).Pages (Int.toNat s12.2.2) default).Frame/\(List.getD (List.getD x_h.Guests (Int.toNat s6.2.2) default).Pages (Int.toNat s12.2.2) default).Frame<((List.length s12.1:Nat):Int)) (grd ((0:Int)<=(List.getD (List.getD x_h.Guests (Int.toNat s6.2.2) default).Pages (Int.toNat s12.2.2) default).Frame/\(List.getD (List.getD x_h.Guests (Int.toNat s6.2.2) default).Pages (Int.toNat s12.2.2) default).Frame<((List.length s12.1:Nat):Int)) (grd ((0:Int)<=(List.getD (List.getD x_h.Guests (Int.toNat s6.2.2) default).Pages (Int.toNat s12.2.2) default).Frame/\(List.getD (List.getD x_h.Guests (Int.toNat s6.2.2) default).Pages (Int.toNat s12.2.2) default).Frame<((List.length s12.2.1:Nat):Int)) (cond (List.getD s12.2.1 (Int.toNat (List.getD (List.getD x_h.Guests (Int.toNat s6.2.2) default).Pages (Int.toNat s12.2.2) default).Frame) default)
   (grd ((0:Int)<=(List.getD (List.getD x_h.Guests (Int.toNat s6.2.2) default).Pages (Int.toNat s12.2.2) default).Frame/\(List.getD (List.getD x_h.Guests (Int.toNat s6.2.2) default).Pages (Int.toNat s12.2.2) default).Frame<((List.length s12.2.1:Nat):Int)) (some (.go ((List.set s12.2.1 (Int.toNat (List.getD (List.getD x_h.Guests (Int.toNat s6.2.2) default).Pages (Int.toNat s12.2.2) default).Frame) true),List.set s12.1 (Int.toNat (List.getD (List.getD x_h.Guests (Int.toNat s6.2.2) default).Pages (Int.toNat s12.2.2) default).Frame) (w64 ((List.getD s12.1 (Int.toNat (List.getD (List.getD x_h.Guests (Int.toNat s6.2.2) default).Pages (Int.toNat s12.2.2) default).Frame) default)+(1:Int)))))))
   (grd ((0:Int)<=(List.getD (List.getD x_h.Guests (Int.toNat s6.2.2) default).Pages (Int.toNat s12.2.2) default).Frame/\(List.getD (List.getD x_h.Guests (Int.toNat s6.2.2) default).Pages (Int.toNat s12.2.2) default).Frame<((List.length s12.2.1:Nat):Int)) (some (.go ((List.set s12.2.1 (Int.toNat (List.getD (List.getD x_h.Guests (Int.toNat s6.2.2) default).Pages (Int.toNat s12.2.2) default).Frame) (List.getD (List.getD x_h.Guests (Int.toNat s6.2.2) default).Pages (Int.toNat s12.2.2) default).Write),List.set s12.1 (Int.toNat (List.getD (List.getD x_h.Guests (Int.toNat s6.2.2) default).Pages (Int.toNat s12.2.2) default).Frame) (w64 ((List.getD s12.1 (Int.toNat (List.getD (List.getD x_h.Guests (Int.toNat s6.2.2) default).Pages (Int.toNat s12.2.2) default).Frame) default)+(1:Int)))))))))))
  (some (.go (s12.2.1,s12.1)))
noncomputable def iV (x_h:DHost)(s6:(List Int)×(List Bool)×Int)(s12:(List Int)×(List Bool)×Int):Option (LO ((List Int)×(List Bool)×Int) (JO ((List Int)×(List Bool)) (LO ((List Int)×(List Bool)×Int) (JO ((List Int)×(List Bool)) Bool)))):=
 cond (decide (s12.2.2<((List.length (List.getD x_h.Guests (Int.toNat s6.2.2) default).Pages:Nat):Int)))
  (Option.bind (grd ((0:Int)<=s12.2.2/\s12.2.2<((List.length (List.getD x_h.Guests (Int.toNat s6.2.2) default).Pages:Nat):Int)) (Option.bind (Option.bind (cB (List.getD (List.getD x_h.Guests (Int.toNat s6.2.2) default).Pages (Int.toNat s12.2.2) default).Frame (-1:Int) (19:Int)) λv15=>
   cond (!v15)
    (some (.out (.out (.ret (.out (.ret (.out false)))))))
    (cond (decide ((List.getD (List.getD x_h.Guests (Int.toNat s6.2.2) default).Pages (Int.toNat s12.2.2) default).Frame=(-1:Int)))
     (cond (List.getD (List.getD x_h.Guests (Int.toNat s6.2.2) default).Pages (Int.toNat s12.2.2) default).Write
      (some (.out (.out (.ret (.out (.ret (.out false)))))))
      (cond (List.getD (List.getD x_h.Guests (Int.toNat s6.2.2) default).Pages (Int.toNat s12.2.2) default).Dirty
       (some (.out (.out (.ret (.out (.ret (.out false)))))))
       (some (.go ()))))
     (some (.go ())))) λj14=>
   JO.run j14 (pW x_h s6 s12))) λj13=>
   JO.run j13 (pP s12))
  (some (.ret (.go (s12.1,s12.2.1))))
noncomputable def jV (x_h:DHost)(s6:(List Int)×(List Bool)×Int):Option (LO ((List Int)×(List Bool)×Int) (JO ((List Int)×(List Bool)) Bool)):=
 cond (decide (s6.2.2<((List.length x_h.Guests:Nat):Int)))
  (Option.bind (grd ((0:Int)<=s6.2.2/\s6.2.2<((List.length x_h.Guests:Nat):Int)) (cond (!(List.getD x_h.Guests (Int.toNat s6.2.2) default).Live)
   (Option.bind (mM (DGuest.mk (List.getD x_h.Guests (Int.toNat s6.2.2) default).Live (DCore.mk ((List.getD x_h.Guests (Int.toNat s6.2.2) default).C).Regs ((List.getD x_h.Guests (Int.toNat s6.2.2) default).C).Pc ((List.getD x_h.Guests (Int.toNat s6.2.2) default).C).Root ((List.getD x_h.Guests (Int.toNat s6.2.2) default).C).Vector ((List.getD x_h.Guests (Int.toNat s6.2.2) default).C).Saved ((List.getD x_h.Guests (Int.toNat s6.2.2) default).C).SavedUser ((List.getD x_h.Guests (Int.toNat s6.2.2) default).C).Cause ((List.getD x_h.Guests (Int.toNat s6.2.2) default).C).Bad ((List.getD x_h.Guests (Int.toNat s6.2.2) default).C).Timer ((List.getD x_h.Guests (Int.toNat s6.2.2) default).C).Waits ((List.getD x_h.Guests (Int.toNat s6.2.2) default).C).User ((List.getD x_h.Guests (Int.toNat s6.2.2) default).C).On ((List.getD x_h.Guests (Int.toNat s6.2.2) default).C).Stopped) (List.getD x_h.Guests (Int.toNat s6.2.2) default).Pages (List.getD x_h.Guests (Int.toNat s6.2.2) default).In (List.getD x_h.Guests (Int.toNat s6.2.2) default).Out)) λv8=>
   cond (!v8)
    (some (.out (.ret (.out false))))
    (some (.go (s6.1,s6.2.1))))
   (Option.bind (kA (DCore.mk ((List.getD x_h.Guests (Int.toNat s6.2.2) default).C).Regs ((List.getD x_h.Guests (Int.toNat s6.2.2) default).C).Pc ((List.getD x_h.Guests (Int.toNat s6.2.2) default).C).Root ((List.getD x_h.Guests (Int.toNat s6.2.2) default).C).Vector ((List.getD x_h.Guests (Int.toNat s6.2.2) default).C).Saved ((List.getD x_h.Guests (Int.toNat s6.2.2) default).C).SavedUser ((List.getD x_h.Guests (Int.toNat s6.2.2) default).C).Cause ((List.getD x_h.Guests (Int.toNat s6.2.2) default).C).Bad ((List.getD x_h.Guests (Int.toNat s6.2.2) default).C).Timer ((List.getD x_h.Guests (Int.toNat s6.2.2) default).C).Waits ((List.getD x_h.Guests (Int.toNat s6.2.2) default).C).User ((List.getD x_h.Guests (Int.toNat s6.2.2) default).C).On ((List.getD x_h.Guests (Int.toNat s6.2.2) default).C).Stopped)) λv9=>
   cond (!v9)
    (some (.out (.ret (.out false))))
    (cond (!decide (((List.length (List.getD x_h.Guests (Int.toNat s6.2.2) default).Pages:Nat):Int)=(8:Int)))
     (some (.out (.ret (.out false))))
     (Option.bind (dX (List.getD x_h.Guests (Int.toNat s6.2.2) default).In (30:Int)) λv10=>
     cond (!v10)
      (some (.out (.ret (.out false))))
      (Option.bind (dX (List.getD x_h.Guests (Int.toNat s6.2.2) default).Out (30:Int)) λv11=>
      cond (!v11)
       (some (.out (.ret (.out false))))
       (Option.bind (iter (iV x_h s6) (s6.1,s6.2.1,(0:Int))) LO.val))))))) λj7=>
   JO.run j7 (rB s6))
  (some (.ret (.go (s6.1,s6.2.1))))
noncomputable def iO (x_h:DHost):Option Bool:=
 Option.bind (dX x_h.Words (160:Int)) λv1=>
 cond (!v1)
  (some false)
  (cond (!decide (((List.length x_h.Words:Nat):Int)=(160:Int)))
   (some false)
   (cond (!decide (((List.length x_h.Guests:Nat):Int)=(3:Int)))
    (some false)
    (Option.bind (Option.bind (iter (jV x_h) ((List.replicate (Int.toNat (20:Int)) (0:Int)),List.replicate (Int.toNat (20:Int)) false,(0:Int))) LO.val) λj2=>
     JO.run j2 yM)))
noncomputable def g48:Sg tG:=⟨[.st 26],.one .b,iO⟩
theorem s48:Sok 48 g48:=sgx [(92,.r g92),(93,.r g93),(94,.r g94),(79,.r g79)] ⟨s92,s93,s94,s79,trivial⟩ (.s .o (.s .o (.s .o (.s .o (.j ⟨[],[],[(.s 3,.ro 3),(.s 4,.ro 4)]⟩ (.s .o (.k (.l ⟨[1],[],[(.s 3,.ro 3),(.s 4,.ro 4),(.s 5,.i .i64)]⟩ (.s .o (.j ⟨[1,5],[],[(.s 3,.ro 3),(.s 4,.ro 4)]⟩ (.k (.s .o (.s .o (.s .o (.s .o (.k (.l ⟨[1,5,6],[],[(.s 3,.ro 3),(.s 4,.ro 4),(.s 7,.i .i64)]⟩ (.s .o (.j ⟨[1,5,6,7],[],[(.s 4,.ro 4),(.s 3,.ro 3)]⟩ (.k (.s .o (.j ⟨[1,3,4,5,6,7,8],[],[]⟩ .o .o))) .o))))))))) .o))))) (.j ⟨[],[],[]⟩ (.s .o (.k (.l ⟨[3,4],[],[(.s 9,.i .i64)]⟩ (.s .o (.j ⟨[3,4,9],[],[]⟩ .o .o))))) .o)))))) kr kr kr
noncomputable def zO  (s1:List Int):Option (List Int):=some s1
noncomputable def yT (s2:(List Int)×Int)(s3:List Int):Option (LO ((List Int)×Int) (JO (List Int) (List Int))):=some (.next (s3,w64 (s2.2+(1:Int))))
noncomputable def rF (s4:(List Int)×Int)(s5:List Int):Option (LO ((List Int)×Int) (JO (List Int) (LO ((List Int)×Int) (JO (List Int) (List Int))))):=some (.next (s5,w64 (s4.2+(1:Int))))
noncomputable def jT (x_h:DHost)(s2:(List Int)×Int)(s4:(List Int)×Int):Option (LO ((List Int)×Int) (JO (List Int) (LO ((List Int)×Int) (JO (List Int) (List Int))))):=
 grd ((0:Int)<=s2.2/\s2.2<((List.length x_h.Guests:Nat):Int)) (cond (decide (s4.2<((List.length (List.getD x_h.Guests (Int.toNat s2.2) default).Pages:Nat):Int)))
  (Option.bind (grd ((0:Int)<=s2.2/\s2.2<((List.length x_h.Guests:Nat):Int)) (grd ((0:Int)<=s4.2/\s4.2<((List.length (List.getD x_h.Guests (Int.toNat s2.2) default).Pages:Nat):Int)) (cond (decide ((0:Int)<=(List.getD (List.getD x_h.Guests (Int.toNat s2.2) default).Pages (Int.toNat s4.2) default).Frame))
   (grd ((0:Int)<=(List.getD (List.getD x_h.Guests (Int.toNat s2.2) default).Pages (Int.toNat s4.2) default).Frame/\(List.getD (List.getD x_h.Guests (Int.toNat s2.2) default).Pages (Int.toNat s4.2) default).Frame<((List.length s4.1:Nat):Int)) (grd ((0:Int)<=(List.getD (List.getD x_h.Guests (Int.toNat s2.2) default).Pages (Int.toNat s4.2) default).Frame/\(List.getD (List.getD x_h.Guests (Int.toNat s2.2) default).Pages (Int.toNat s4.2) default).Frame<((List.length s4.1:Nat):Int)) (some (.go (List.set s4.1 (Int.toNat (List.getD (List.getD x_h.Guests (Int.toNat s2.2) default).Pages (Int.toNat s4.2) default).Frame) (w64 ((List.getD s4.1 (Int.toNat (List.getD (List.getD x_h.Guests (Int.toNat s2.2) default).Pages (Int.toNat s4.2) default).Frame) default)+(1:Int))))))))
   (some (.go s4.1))))) λj5=>
   JO.run j5 (rF s4))
  (some (.ret (.go s4.1))))
noncomputable def mK (x_h:DHost)(s2:(List Int)×Int):Option (LO ((List Int)×Int) (JO (List Int) (List Int))):=
 cond (decide (s2.2<((List.length x_h.Guests:Nat):Int)))
  (Option.bind (Option.bind (iter (jT x_h s2) (s2.1,(0:Int))) LO.val) λj3=>
   JO.run j3 (yT s2))
  (some (.ret (.go s2.1)))
noncomputable def kE (x_h:DHost):Option (List Int):=
 Option.bind (Option.bind (iter (mK x_h) ((List.replicate (Int.toNat (20:Int)) (0:Int)),(0:Int))) LO.val) λj1=>
  JO.run j1 zO
noncomputable def bJg:Sg tG:=⟨[.st 26],.one (.row 3),kE⟩
theorem bRc:Sok 134 bJg:=sgx [] trivial (.s .o (.s .o (.j ⟨[],[],[(.s 3,.ro 3)]⟩ (.s .o (.k (.l ⟨[1],[],[(.s 3,.ro 3),(.s 4,.i .i64)]⟩ (.s .o (.j ⟨[1,4],[],[(.s 3,.ro 3)]⟩ (.k (.s .o (.k (.l ⟨[1,4],[],[(.s 3,.ro 3),(.s 5,.i .i64)]⟩ (.s .o (.j ⟨[1,4,5],[],[(.s 3,.ro 3)]⟩ .o .o)))))) .o))))) .o))) kr kr kr
noncomputable def aHp  (s3:List Int):Option (List Int):=some s3
noncomputable def vP (s4:(List Int)×Int)(s5:List Int):Option (LO ((List Int)×Int) (JO (List Int) (List Int))):=some (.next (s5,w64 (s4.2+(1:Int))))
noncomputable def kS (v2:List Int)(s4:(List Int)×Int):Option (LO ((List Int)×Int) (JO (List Int) (List Int))):=
 cond (decide (s4.2<(20:Int)))
  (Option.bind (grd ((0:Int)<=s4.2/\s4.2<((List.length v2:Nat):Int)) (cond (decide ((List.getD v2 (Int.toNat s4.2) default)=(0:Int)))
   (grd ((List.length s4.1+List.length ([s4.2]:List Int))*8<=2^47/\List.length s4.1+List.length ([s4.2]:List Int)<=2^47) (some (.go (s4.1++([s4.2]:List Int)))))
   (some (.go s4.1)))) λj5=>
   JO.run j5 (vP s4))
  (some (.ret (.go s4.1)))
noncomputable def iL (x_h:DHost):Option (List Int):=
 Option.bind (iO x_h) λv1=>
 cond (!v1)
  (some ([]:List Int))
  (Option.bind (kE x_h) λv2=>
  Option.bind (Option.bind (iter (kS v2) (([]:List Int),(0:Int))) LO.val) λj3=>
   JO.run j3 aHp)
noncomputable def bDj:Sg tG:=⟨[.st 26],.one (.row 3),iL⟩
theorem bJl:Sok 113 bDj:=sgx [(48,.r g48),(134,.r bJg)] ⟨s48,bRc,trivial⟩ (.s .o (.s .o (.s .o (.s .o (.j ⟨[],[],[(.s 3,.ro 3)]⟩ (.s .o (.k (.l ⟨[4],[],[(.s 3,.ro 3),(.s 5,.i .i64)]⟩ (.s .o (.j ⟨[4,5],[],[(.s 3,.ro 3)]⟩ .o .o))))) .o))))) kr kr kr
noncomputable def fF (x_list:List Int):Option (List Int):=grd ((0:Int)<=((List.length x_list:Nat):Int)/\((List.length x_list:Nat):Int)*8<=2^47/\((List.length x_list:Nat):Int)<=2^47) (some (over (List.replicate (Int.toNat ((List.length x_list:Nat):Int)) (0:Int)) 0 (List.length (List.replicate (Int.toNat ((List.length x_list:Nat):Int)) (0:Int))) x_list))
noncomputable def g88:Sg tG:=⟨[.row 3],.one (.row 3),fF⟩
theorem s88:Sok 88 g88:=sgx [] trivial .o kr kr kr
noncomputable def iR (x_c:DCore):Option DCore:=grd ((List.length ([]:List Int)+List.length x_c.Regs)*8<=2^47/\List.length ([]:List Int)+List.length x_c.Regs<=2^47) (some (DCore.mk (([]:List Int)++x_c.Regs) x_c.Pc x_c.Root x_c.Vector x_c.Saved x_c.SavedUser x_c.Cause x_c.Bad x_c.Timer x_c.Waits x_c.User x_c.On x_c.Stopped))
noncomputable def g95:Sg tG:=⟨[.st 61],.one (.st 61),iR⟩
theorem s95:Sok 95 g95:=sgx [] trivial .o kr kr kr
noncomputable def oW (x_guests:List DGuest)(x_g:Int):Option Bool:=
 cond (decide ((0:Int)<=x_g))
  (cond (decide (x_g<(3:Int)))
   (grd ((0:Int)<=x_g/\x_g<((List.length x_guests:Nat):Int)) (some (List.getD x_guests (Int.toNat x_g) default).Live))
   (some false))
  (some false)
noncomputable def g76:Sg tG:=⟨[.row 64,.i .i64],.one .b,oW⟩
theorem s76:Sok 76 g76:=sgx [] trivial .o kr kr kr
noncomputable def fA (x_h:DHost)(x_g:Int):Option Bool:=
 Option.bind (kB x_h) λv1=>
 cond v1
  (Option.bind (oW x_h.Guests x_g) λv2=>
  some v2)
  (some false)
noncomputable def g31:Sg tG:=⟨[.st 26,.i .i64],.one .b,fA⟩
theorem s31:Sok 31 g31:=sgx [(39,.r g39),(76,.r g76)] ⟨s39,s76,trivial⟩ .o kr kr kr
theorem aLk{x_h:DHost}{x_g:Int}{R_:Bool}(hh:fA x_h x_g=some R_):Fn Try.prog 31 [.agg (eD x_h),.int .i64 x_g] (.bool R_):=kc (s31 x_h x_g R_ hh)
noncomputable def cZ (x_h:DHost)(x_g:Int):Option Bool:=
 Option.bind (iO x_h) λv1=>
 cond v1
  (Option.bind (cB x_g (0:Int) (2:Int)) λv2=>
  cond v2
   (grd ((0:Int)<=x_g/\x_g<((List.length x_h.Guests:Nat):Int)) (some (List.getD x_h.Guests (Int.toNat x_g) default).Live))
   (some false))
  (some false)
noncomputable def g33:Sg tG:=⟨[.st 26,.i .i64],.one .b,cZ⟩
theorem s33:Sok 33 g33:=sgx [(48,.r g48),(79,.r g79)] ⟨s48,s79,trivial⟩ .o kr kr kr
theorem aQn{x_h:DHost}{x_g:Int}{R_:Bool}(hh:cZ x_h x_g=some R_):Fn Try.prog 33 [.agg (eD x_h),.int .i64 x_g] (.bool R_):=kc (s33 x_h x_g R_ hh)
noncomputable def pX (x_b:DBare):Option DBare:=
 Option.bind (fF x_b.C.Regs) λv1=>
 Option.bind (fF x_b.Mem) λv2=>
 Option.bind (fF x_b.In) λv3=>
 Option.bind (fF x_b.Out) λv4=>
 some (DBare.mk (DCore.mk v1 x_b.C.Pc x_b.C.Root x_b.C.Vector x_b.C.Saved x_b.C.SavedUser x_b.C.Cause x_b.C.Bad x_b.C.Timer x_b.C.Waits x_b.C.User x_b.C.On x_b.C.Stopped) v2 v3 v4)
noncomputable def g91:Sg tG:=⟨[.st 81],.one (.st 81),pX⟩
theorem s91:Sok 91 g91:=sgx [(88,.r g88)] ⟨s88,trivial⟩ .o kr kr kr
theorem aOc:LW 108 ⟨12,[.tmp 4],.seq (.reg false (rg 108 0)) (.seq (.reg false (rg 108 1)) .ret)⟩:=kr
noncomputable def kD (x_words:List Int)(x_page:Int):Option (List Int):=grd ((0:Int)<=(w64 (x_page*(8:Int)))/\(w64 (x_page*(8:Int)))<=(w64 ((w64 (x_page+(1:Int)))*(8:Int)))/\(w64 ((w64 (x_page+(1:Int)))*(8:Int)))<=((List.length x_words:Nat):Int)) (some (List.take (Int.toNat (w64 ((w64 (x_page+(1:Int)))*(8:Int)))-Int.toNat (w64 (x_page*(8:Int)))) (List.drop (Int.toNat (w64 (x_page*(8:Int)))) x_words)))
noncomputable def bQp:Sg tG:=⟨[.row 3,.i .i64],.one (.rb 3),kD⟩
theorem bRw:Sok 108 bQp:=sgx [] trivial .o kr kr kr
theorem aPo{x_words:List Int}{x_page:Int}{R_:(List Int)}(hh:kD x_words x_page=some R_):Fn Try.prog 108 [bo (eI .i64) x_words,.int .i64 x_page] (bo (eI .i64) R_):=kc (bRw x_words x_page R_ hh)
noncomputable def sK (x_words:List Int)(x_page:Int):Option ((List Int)×(Nat×Nat)):=grd ((0:Int)<=(w64 (x_page*(8:Int)))/\(w64 (x_page*(8:Int)))<=(w64 ((w64 (x_page+(1:Int)))*(8:Int)))/\(w64 ((w64 (x_page+(1:Int)))*(8:Int)))<=((List.length x_words:Nat):Int)) (some (x_words,((Int.toNat (w64 (x_page*(8:Int)))),(Int.toNat (w64 ((w64 (x_page+(1:Int)))*(8:Int)))-Int.toNat (w64 (x_page*(8:Int)))))))
theorem aKm{x_words:List Int}{x_page:Int}{R_:(List Int)×(Nat×Nat)}(hh:sK x_words x_page=some R_):Inl Try.prog 108 [.sref 0 [] 0 (List.length x_words) 1,.int .i64 x_page] [(0,some (rI_3 x_words))] 1 (.sref 0 [] (0+R_.2.1*1) R_.2.2 1) [(0,some (rI_3 R_.1))] 1:=by unfold sK at hh;let q1:Root:=(rI_3 x_words);refine Inl.start aOc [0,1] [0] (E:=sp 12 [(0,sw 0 x_words),(1,ii x_page)]) (H1:=[(0,some q1)]) kr kr (sy [0,1] [0] (sp 12 [(0,sw 0 x_words),(1,ii x_page)]) [(0,some q1)] 1 (Aw.sreg [4] [0] (yu 6 [(5,sw 0 x_words),(6,ii x_page),(7,ii (w64 (x_page*(8:Int)))),(8,ii x_page),(9,ii (w64 (x_page+(1:Int)))),(10,ii (w64 ((w64 (x_page+(1:Int)))*(8:Int))))] [(0,some q1)] 1 ?_)));obtain⟨hg2,hh⟩:=aU hh;refine ys (.slc 1 (.t 5) (some (.t 7)) (some (.t 10))) (some 11) (aVc (r:=0) (π:=[]) (o:=0) (k:=(List.length x_words)) (sz:=1) (l:=(w64 (x_page*(8:Int)))) (h:=(w64 ((w64 (x_page+(1:Int)))*(8:Int)))) kr kr kr hg2 ?_);refine yt (sp 12 [(4,.sref 0 [] (0+Int.toNat (w64 (x_page*(8:Int)))*1) (Int.toNat (w64 ((w64 (x_page+(1:Int)))*(8:Int)))-Int.toNat (w64 (x_page*(8:Int)))) 1)]) [(0,some q1)] 1 (Aw.ret ?_);rw[bB hh];exact hY (r':= .sref 0 [] (0+Int.toNat (w64 (x_page*(8:Int)))*1) (Int.toNat (w64 ((w64 (x_page+(1:Int)))*(8:Int)))-Int.toNat (w64 (x_page*(8:Int)))) 1) kr (el [some 0] (eU aCl) (hn aW bE))
theorem aKy:LW 118 ⟨29,[.tmp 4],.seq (.reg false (rg 118 0)) (.seq (.reg false (rg 118 1)) (.seq (.seq (.reg false (rg 118 2)) (.block 0 (.loop (.seq (.reg false (rg 118 3)) (.seq (.cond (.t 12) .skip (.exit 0)) (.seq (.block 1 (.seq (.reg false (rg 118 4)) (.seq (.reg false (rg 118 5)) (.cond (.t 18) (.regd (rg 118 6) (rg 118 7)) .skip)))) (.reg false (rg 118 8)))))))) (.seq (.reg false (rg 118 10)) .ret)))⟩:=kr
noncomputable def pY  (s1:List Int):Option (List Int):=some s1
noncomputable def pU (s2:(List Int)×Int)(s3:List Int):Option (LO ((List Int)×Int) (JO (List Int) (List Int))):=some (.next (s3,w64 (s2.2+(1:Int))))
noncomputable def wV (x_words:List Int)(x_pages:List DSlot)(s2:(List Int)×Int):Option (LO ((List Int)×Int) (JO (List Int) (List Int))):=
 cond (decide (s2.2<((List.length x_pages:Nat):Int)))
  (Option.bind (grd ((0:Int)<=s2.2/\s2.2<((List.length x_pages:Nat):Int)) (cond (!decide ((List.getD x_pages (Int.toNat s2.2) default).Frame=(-1:Int)))
   (Option.bind (sK s2.1 s2.2) λv4=>
   grd (List.length v4.1=(List.length s2.1)) (grd (v4.2.1+v4.2.2<=List.length v4.1) (Option.bind (kD x_words (List.getD x_pages (Int.toNat s2.2) default).Frame) λv5=>
    some (.go (over v4.1 v4.2.1 v4.2.2 v5)))))
   (some (.go s2.1)))) λj3=>
   JO.run j3 (pU s2))
  (some (.ret (.go s2.1)))
noncomputable def pD (x_words:List Int)(x_pages:List DSlot):Option (List Int):=
 Option.bind (Option.bind (iter (wV x_words x_pages) ((List.replicate (Int.toNat (64:Int)) (0:Int)),(0:Int))) LO.val) λj1=>
  JO.run j1 pY
theorem aOw{x_words:List Int}{x_pages:List DSlot}{R_:(List Int)}(hh:pD x_words x_pages=some R_):Fn Try.prog 118 [bo (eI .i64) x_words,bo eV x_pages] (.own 3 1 (List.length R_) (fl (eI .i64) R_)):=by let z2:=(0,bo (eI .i64) x_words);let z3:=(1,bo eV x_pages);let z4:=(10,ii ((List.length x_pages:Nat):Int));let z5:EV:=(5,.sref 0 [] 0 (List.length (List.replicate (Int.toNat (64:Int)) (0:Int))) 1);let z6:=(9,bo eV x_pages);unfold pD at hh;refine Fn.start aKy [0,1] (E:=sp 29 [z2,z3]) kr (v:=sw 0 R_) (Hr:=[(0,some (rI_3 R_))]) (k:=1) kr (sy [0,1] [] (sp 29 [z2,z3]) [] 0 (Aw.sreg [0,1,5] [0] (ys (.mk 3 1 8 [ii 0] (.c (ii 64))) (some 8) (aSt (c:=(eI .i64)) (d:=(0:Int)) (k:=(64:Int)) kr dd kr ?_))));let q1:Root:=(rI_3 (List.replicate (Int.toNat (64:Int)) (0:Int)));refine yt (sp 29 [z2,z3,z5]) [(0,some q1)] 1 ?_;obtain⟨j1,hh,hk1⟩:=bind_some hh;refine Aw.join (S:=(List Int)) (λs1=>sp 29 [(5,sw 0 s1)]) (λs1=>[(0,some (rI_3 s1))]) 1 (λs1=>pY s1=some R_) ?_ ?_;{intro s1 hh;unfold pY at hh;refine sy [4] [0] (sp 29 [(4,sw 0 s1)]) [(0,some (rI_3 s1))] 1 (Aw.ret ?_);rw[bB hh];exact hY (r':=sw 0 s1) kr (Ent.list [some 0] rfl rfl (Nat.zero_le _) (eU aCl) (hn aW bE))};intro Q1 hN1 hR1 hE1;refine sy [0,5,9,10,11] [0] (sp 29 [z2,z5,z6,z4,(11,ii 0)]) [(0,some q1)] 1 (Aw.block ?_);obtain⟨o2,hi2,hk2⟩:=bind_some hh;refine Aw.iter (λ(s2:(List Int)×Int)=>sp 29 [(0,bo (eI .i64) x_words),(5,sw 0 s2.1),(9,bo eV x_pages),(10,ii ((List.length x_pages:Nat):Int)),(11,ii s2.2)]) (λ(s2:(List Int)×Int)=>[(0,some (rI_3 s2.1))]) 1 hi2 (el [some 0] (jL kr (ro aW (rs (.sref 0 [] 0 (List.length (List.replicate (Int.toNat (64:Int)) (0:Int))) 1) (ro lN (ri (ri uP)))))) (hn aW bE)) ?_;intro s2 u2 Q2 hh hN2 hX2 hR2;let z7:EH:=(0,some (rI_3 s2.1));let z8:=(11,ii s2.2);let z9:=(12,bb (decide (s2.2<((List.length x_pages:Nat):Int))));let z10:=(5,sw 0 s2.1);let z11:=(6,ii s2.2);let z1:=List.getD x_pages (Int.toNat s2.2) default;let z12:=(18,bb (!decide (z1.Frame=(-1:Int))));unfold wV at hh;refine sy [0,5,9,10,11,12] [0] (sp 29 [z2,z10,z6,z4,z8,z9]) [z7] 1 (Aw.seq ?_);rcases rN hh with⟨hb,hh⟩|⟨hb,hh⟩;{refine cF hb (Aw.exit (bRp (hX2 _ _ _ _ _ (bB hh) ?_)));intro hout;rw[hout]at hk2;refine bMg ?_;obtain rfl:=bB hk2;exact hN1 s2.1 _ _ _ hk1 (el [some 0] (jL kr (rs (sw 0 s2.1) uP)) (hn aW bE))};refine cT hb (Aw.xskip (λ_ _ _ hq=>tA hq) ?_);obtain⟨j3,hh,hk3⟩:=bind_some hh;refine Aw.join (S:=(List Int)) (λs3=>sp 29 [(0,bo (eI .i64) x_words),(5,sw 0 s3),(9,bo eV x_pages),(10,ii ((List.length x_pages:Nat):Int)),(11,ii s2.2)]) (λs3=>[(0,some (rI_3 s3))]) 1 (λs3=>pU s2 s3=some u2) ?_ ?_;{intro s3 hh;unfold pU at hh;exact Aw.oreg (ye (sp 29 [z2,(5,sw 0 s3),z6,z4,(11,ii (w64 (s2.2+(1:Int)))),(27,ii (w64 (s2.2+(1:Int))))]) [(0,some (rI_3 s3))] 1 (hN2 (s3,w64 (s2.2+(1:Int))) _ _ _ (bB hh) (el [some 0] (jL kr (ro aW (rs (sw 0 s3) (ro lN (ri (ri uP)))))) (hn aW bE))))};intro Q3 hN3 hR3 hE3;refine Aw.block (Aw.sreg [0,5,6,7,9,10,11] [0,1] (yj 1  (sp 29 [z2,z10,z6,z4,z8,z9,(13,ii s2.2)]) [z7] 1 ?_));obtain⟨hg104,hh⟩:=aU hh;refine ys (.iadr 3 (.t 9) (.t 11)) (some 14) (bAw (kd:= .i64) (c:=eV) (xs:=x_pages) zQ dd kr kr hg104 ?_);refine ys (.load true 3 (.t 14)) (some 15) (bGx (c:=eV) (xs:=x_pages) (o:=Int.toNat s2.2*3) (i:=(Int.toNat s2.2)) (off:=0) (v:= .agg [ii z1.Frame,bb z1.Write,bb z1.Dirty]) zQ kr ltn ltn dd kr ?_);let q2:Root:=⟨66,[ii z1.Frame,bb z1.Write,bb z1.Dirty]⟩;let z13:=(1,some q2);refine yt (sp 29 [z2,z10,z11,(7,pp 1),z6,z4,z8]) [z7,z13] 2 (sy [0,5,6,7,9,10,11,18] [0,1] (sp 29 [z2,z10,z11,(7,pp 1),z6,z4,z8,z12]) [z7,z13] 2 ?_);rcases rN hh with⟨hb,hh⟩|⟨hb,hh⟩;{refine cF hb (Aw.skip (aEu ?_));obtain rfl:=bB hh;exact hN3 s2.1 _ _ _ hk3 (el [some 0] (jL kr (ro aW (rs (sw 0 s2.1) (ro lN (ri (ri uP)))))) (hn aW bE))};refine cT hb (Aw.oregd [0] kr (dj 2 (sp 29 [z2,z10,z11,(7,pp 1),z6,z4,z8,z12,(19,sw 0 s2.1),(20,ii s2.2)]) [z7,z13] 2 ?_));obtain⟨v4,hv4,hh⟩:=bind_some hh;let z14:EH:=(0,some (rI_3 v4.1));let z15:EV:=(21,.sref 0 [] (0+v4.2.1*1) v4.2.2 1);obtain⟨hg107,hh⟩:=aU hh;obtain⟨hg108,hh⟩:=aU hh;refine ds (.call 108 [.t 19,.t 20]) (some 21) (qN rfl (cf (.sref 0 [] (0+v4.2.1*1) v4.2.2 1) [z14] 2 [0] (aKm hv4) [sw 0 s2.1,ii s2.2] rz (hn aW bE) aCl (hn aW bE) ⟨⟨⟨by decide,rM rfl rfl⟩,Hld.un ?_⟩⟩));refine dt (sp 29 [z2,z10,z11,(7,pp 1),z6,z4,z8,z12,(19,sw 0 s2.1),(20,ii s2.2),z15,(22,bo (eI .i64) x_words),(23,pp 1),(24,ii z1.Frame)]) [z14,(0,none),z7,z13] 2 ?_;obtain⟨v5,hv5,hh⟩:=bind_some hh;refine ys (.call 108 [.t 22,.t 24]) (some 25) (aMm (r:=bo (eI .i64) v5) (v:=bo (eI .i64) v5) (Hr:=[]) (n':=2) (aPo hv5) (jG (vs:=[bo (eI .i64) x_words,ii z1.Frame]) kr (eY (aE (vL (bV dC))) (cz1 gE))) nrr kr ?_);let q3:Root:=(rI_3 (over v4.1 v4.2.1 v4.2.2 v5));refine ys (.cpy 1 (.t 21) (.t 25)) (some 26) (aVi (c:=(eI .i64)) (xs:=v4.1) (ys:=v5) (e:=3) (r:=0) (π:=[]) (o:=0+v4.2.1*1) (k:=v4.2.2) (i:=v4.2.1) (H':=[(0,some q3),z14,(0,none),z7,z13]) cH (rpv kr (bFd (c:=(eI .i64)) (xs:=v5) cH)) kr kr ltn ltn kr ?_);refine ye (sp 29 [z2,z10,z11,(7,pp 1),z6,z4,z8,z12,(19,sw 0 s2.1),(20,ii s2.2),z15,(22,bo (eI .i64) x_words),(23,pp 1),(24,ii z1.Frame),(25,bo (eI .i64) v5),(26,ii ((min v4.2.2 (List.length v5):Nat):Int))]) [(0,some q3),z14,(0,none),z7,z13] 2 (aEu ?_);obtain rfl:=bB hh;exact hN3 (over v4.1 v4.2.1 v4.2.2 v5) _ _ _ hk3 (el [some 0] (jL kr (ro aW (rs (sw 0 s2.1) (ro lN (ri (ri uP)))))) (hn aW bE))
noncomputable def bSc:Sg tG:=⟨[.row 3,.row 66],.one (.row 3),pD⟩
theorem bUk:Sok 118 bSc:=λx_words x_pages R_ hh=>kc (aOw (x_words:=x_words) (x_pages:=x_pages) hh)
noncomputable def aFd (x_h:DHost)(x_g:Int):Option DBare:=
 grd ((0:Int)<=x_g/\x_g<((List.length x_h.Guests:Nat):Int)) (Option.bind (pD x_h.Words (List.getD x_h.Guests (Int.toNat x_g) default).Pages) λv1=>
  some (DBare.mk (DCore.mk ((List.getD x_h.Guests (Int.toNat x_g) default).C).Regs ((List.getD x_h.Guests (Int.toNat x_g) default).C).Pc ((List.getD x_h.Guests (Int.toNat x_g) default).C).Root ((List.getD x_h.Guests (Int.toNat x_g) default).C).Vector ((List.getD x_h.Guests (Int.toNat x_g) default).C).Saved ((List.getD x_h.Guests (Int.toNat x_g) default).C).SavedUser ((List.getD x_h.Guests (Int.toNat x_g) default).C).Cause ((List.getD x_h.Guests (Int.toNat x_g) default).C).Bad ((List.getD x_h.Guests (Int.toNat x_g) default).C).Timer ((List.getD x_h.Guests (Int.toNat x_g) default).C).Waits ((List.getD x_h.Guests (Int.toNat x_g) default).C).User ((List.getD x_h.Guests (Int.toNat x_g) default).C).On ((List.getD x_h.Guests (Int.toNat x_g) default).C).Stopped) v1 (List.getD x_h.Guests (Int.toNat x_g) default).In (List.getD x_h.Guests (Int.toNat x_g) default).Out))
noncomputable def g98:Sg tG:=⟨[.st 26,.i .i64],.one (.sb 81),aFd⟩
theorem s98:Sok 98 g98:=sgx [(118,.r bSc)] ⟨bUk,trivial⟩ .o kr kr kr
noncomputable def tB (x_h:DHost)(x_g:Int):Option (DBare×Bool):=
 Option.bind (fA x_h x_g) λv1=>
 cond (!v1)
  (some ((DBare.mk (DCore.mk ([]:List Int) (0:Int) (0:Int) (0:Int) (0:Int) false (0:Int) (0:Int) (0:Int) false false false false) ([]:List Int) ([]:List Int) ([]:List Int)),false))
  (Option.bind (aFd x_h x_g) λv2=>
  Option.bind (pX v2) λv3=>
  some (v3,true))
noncomputable def g52:Sg tG:=⟨[.st 26,.i .i64],.two (.st 81) .b,tB⟩
theorem s52:Sok 52 g52:=sgx [(31,.r g31),(98,.r g98),(91,.r g91)] ⟨s31,s98,s91,trivial⟩ .o kr kr kr
noncomputable def aKo  (s1:List Int):Option (List Int):=some s1
noncomputable def aKn (x_a:List Int)(s2:(List Int)×Int):Option (LO ((List Int)×Int) (JO (List Int) (List Int))):=
 cond (decide (s2.2<((List.length x_a:Nat):Int)))
  (grd ((0:Int)<=s2.2/\s2.2<((List.length x_a:Nat):Int)) (grd ((0:Int)<=s2.2/\s2.2<((List.length s2.1:Nat):Int)) (some (.next ((List.set s2.1 (Int.toNat s2.2) (List.getD x_a (Int.toNat s2.2) default)),w64 (s2.2+(1:Int)))))))
  (some (.ret (.go s2.1)))
noncomputable def mN (x_a:List Int):Option (List Int):=
 grd ((0:Int)<=((List.length x_a:Nat):Int)/\((List.length x_a:Nat):Int)*8<=2^47/\((List.length x_a:Nat):Int)<=2^47) (Option.bind (Option.bind (iter (aKn x_a) ((List.replicate (Int.toNat ((List.length x_a:Nat):Int)) (0:Int)),(0:Int))) LO.val) λj1=>
  JO.run j1 aKo)
noncomputable def g59:Sg tG:=⟨[.row 3],.one (.row 3),mN⟩
theorem s59:Sok 59 g59:=sgx [] trivial (.s .o (.s .o (.j ⟨[],[],[(.s 3,.ro 3)]⟩ (.s .o (.k (.l ⟨[0],[],[(.s 3,.ro 3),(.s 4,.i .i64)]⟩ .o))) .o))) kr kr kr
noncomputable def aFa (x_a:DCore):Option DCore:=
 Option.bind (mN x_a.Regs) λv1=>
 some (DCore.mk v1 x_a.Pc x_a.Root x_a.Vector x_a.Saved x_a.SavedUser x_a.Cause x_a.Bad x_a.Timer x_a.Waits x_a.User x_a.On x_a.Stopped)
noncomputable def bRu:Sg tG:=⟨[.st 130],.one (.st 61),aFa⟩
theorem bTz:Sok 121 bRu:=sgx [(59,.r g59)] ⟨s59,trivial⟩ .o kr kr kr
noncomputable def aHi  (s1:Int):Option Int:=some s1
noncomputable def aGs (x_a:List Int)(s2:Int×Int):Option (LO (Int×Int) (JO Int Int)):=
 cond (decide (s2.2<((List.length x_a:Nat):Int)))
  (grd ((0:Int)<=s2.2/\s2.2<((List.length x_a:Nat):Int)) (cond (!decide ((List.getD x_a (Int.toNat s2.2) default)=s2.1))
   (some (.ret (.out (-1:Int))))
   (some (.next ((w64 (s2.1+(1:Int))),w64 (s2.2+(1:Int)))))))
  (some (.ret (.go s2.1)))
noncomputable def kM (x_a:List Int)(x_k:Int):Option Int:=
 Option.bind (Option.bind (iter (aGs x_a) (x_k,(0:Int))) LO.val) λj1=>
  JO.run j1 aHi
noncomputable def g70:Sg tG:=⟨[.row 3,.i .i64],.one (.i .i64),kM⟩
theorem s70:Sok 70 g70:=sgx [] trivial (.s .o (.j ⟨[],[],[(.s 1,.i .i64)]⟩ (.s .o (.k (.l ⟨[0],[],[(.s 1,.i .i64),(.s 5,.i .i64)]⟩ .o))) .o)) kr kr kr
noncomputable def oK (x_pages:List DSlot):Option (List DSlot):=grd ((0:Int)<=((List.length x_pages:Nat):Int)/\((List.length x_pages:Nat):Int)*16<=2^47/\((List.length x_pages:Nat):Int)<=2^47) (some (over (List.replicate (Int.toNat ((List.length x_pages:Nat):Int)) (DSlot.mk (0:Int) false false)) 0 (List.length (List.replicate (Int.toNat ((List.length x_pages:Nat):Int)) (DSlot.mk (0:Int) false false))) x_pages))
noncomputable def g90:Sg tG:=⟨[.row 66],.one (.row 66),oK⟩
theorem s90:Sok 90 g90:=sgx [] trivial .o kr kr kr
noncomputable def vB (x_guest:DGuest):Option DGuest:=
 cond (!x_guest.Live)
  (some (DGuest.mk false (DCore.mk ([]:List Int) (0:Int) (0:Int) (0:Int) (0:Int) false (0:Int) (0:Int) (0:Int) false false false false) ([]:List DSlot) ([]:List Int) ([]:List Int)))
  (Option.bind (fF x_guest.C.Regs) λv1=>
  Option.bind (oK x_guest.Pages) λv2=>
  Option.bind (fF x_guest.In) λv3=>
  Option.bind (fF x_guest.Out) λv4=>
  some (DGuest.mk x_guest.Live (DCore.mk v1 x_guest.C.Pc x_guest.C.Root x_guest.C.Vector x_guest.C.Saved x_guest.C.SavedUser x_guest.C.Cause x_guest.C.Bad x_guest.C.Timer x_guest.C.Waits x_guest.C.User x_guest.C.On x_guest.C.Stopped) v2 v3 v4))
noncomputable def bQm:Sg tG:=⟨[.st 64],.one (.st 64),vB⟩
theorem bUe:Sok 116 bQm:=sgx [(88,.r g88),(90,.r g90)] ⟨s88,s90,trivial⟩ .o kr kr kr
noncomputable def aAv  (s1:List DGuest):Option (List DGuest):=some s1
noncomputable def aBb (x_guests:List DGuest)(s2:(List DGuest)×Int):Option (LO ((List DGuest)×Int) (JO (List DGuest) (List DGuest))):=
 cond (decide (s2.2<((List.length x_guests:Nat):Int)))
  (grd ((0:Int)<=s2.2/\s2.2<((List.length x_guests:Nat):Int)) (Option.bind (vB (DGuest.mk (List.getD x_guests (Int.toNat s2.2) default).Live (DCore.mk ((List.getD x_guests (Int.toNat s2.2) default).C).Regs ((List.getD x_guests (Int.toNat s2.2) default).C).Pc ((List.getD x_guests (Int.toNat s2.2) default).C).Root ((List.getD x_guests (Int.toNat s2.2) default).C).Vector ((List.getD x_guests (Int.toNat s2.2) default).C).Saved ((List.getD x_guests (Int.toNat s2.2) default).C).SavedUser ((List.getD x_guests (Int.toNat s2.2) default).C).Cause ((List.getD x_guests (Int.toNat s2.2) default).C).Bad ((List.getD x_guests (Int.toNat s2.2) default).C).Timer ((List.getD x_guests (Int.toNat s2.2) default).C).Waits ((List.getD x_guests (Int.toNat s2.2) default).C).User ((List.getD x_guests (Int.toNat s2.2) default).C).On ((List.getD x_guests (Int.toNat s2.2) default).C).Stopped) (List.getD x_guests (Int.toNat s2.2) default).Pages (List.getD x_guests (Int.toNat s2.2) default).In (List.getD x_guests (Int.toNat s2.2) default).Out)) λv3=>
   grd ((0:Int)<=s2.2/\s2.2<((List.length s2.1:Nat):Int)) (some (.next ((List.set s2.1 (Int.toNat s2.2) v3),w64 (s2.2+(1:Int)))))))
  (some (.ret (.go s2.1)))
noncomputable def nC (x_guests:List DGuest):Option (List DGuest):=
 grd ((0:Int)<=((List.length x_guests:Nat):Int)/\((List.length x_guests:Nat):Int)*176<=2^47/\((List.length x_guests:Nat):Int)<=2^47) (Option.bind (Option.bind (iter (aBb x_guests) ((List.replicate (Int.toNat ((List.length x_guests:Nat):Int)) (DGuest.mk false (DCore.mk ([]:List Int) (0:Int) (0:Int) (0:Int) (0:Int) false (0:Int) (0:Int) (0:Int) false false false false) ([]:List DSlot) ([]:List Int) ([]:List Int))),(0:Int))) LO.val) λj1=>
  JO.run j1 aAv)
noncomputable def g89:Sg tG:=⟨[.row 64],.one (.row 1064),nC⟩
theorem s89:Sok 89 g89:=sgx [(116,.r bQm)] ⟨bUe,trivial⟩ (.s .o (.s (.g [] [] [.fo (.s 3) 0]) (.j ⟨[],[],[(.s 3,.ro 1064)]⟩ (.s .o (.k (.l ⟨[9,10],[],[(.s 3,.ro 1064),(.s 11,.i .i64)]⟩ (.s .o (.s .o (.s (.k (.s .o (.g [] [] [.fo (.s 3) 0]))) .o)))))) .o))) kr kr kr
noncomputable def rH (x_guests:List DGuest)(x_g:Int)(x_guest:DGuest):Option (List DGuest):=
 Option.bind (nC x_guests) λv1=>
 grd ((0:Int)<=x_g/\x_g<((List.length v1:Nat):Int)) (some (List.set v1 (Int.toNat x_g) x_guest))
noncomputable def g43:Sw tG:=⟨[.v (.row 64),.v (.i .i64),.os 64],.one (.row 1064),rH⟩
theorem s43:Sjk 43 g43:=sgy [(89,.r g89)] ⟨s89,trivial⟩ (.s .o (.s .o (.s (.g [] [] [.fo (.s 7) 0]) .o))) kr kr kr
theorem aIv{x_guests:List DGuest}{x_g:Int}{x_guest:DGuest}{R_:(List DGuest)}(hh:rH x_guests x_g x_guest=some R_):Inl Try.prog 43 [bo fM x_guests,.int .i64 x_g,.agg [.bool x_guest.Live,.sref 0 [] 0 (List.length x_guest.C.Regs) 1,.int .i64 x_guest.C.Pc,.int .i64 x_guest.C.Root,.int .i64 x_guest.C.Vector,.int .i64 x_guest.C.Saved,.bool x_guest.C.SavedUser,.int .i64 x_guest.C.Cause,.int .i64 x_guest.C.Bad,.int .i64 x_guest.C.Timer,.bool x_guest.C.Waits,.bool x_guest.C.User,.bool x_guest.C.On,.bool x_guest.C.Stopped,.sref 1 [] 0 (List.length x_guest.Pages) 3,.sref 2 [] 0 (List.length x_guest.In) 1,.sref 3 [] 0 (List.length x_guest.Out) 1]] [(3,some (rI_3 x_guest.Out)),(2,some (rI_3 x_guest.In)),(1,some (rC66 x_guest.Pages)),(0,some (rI_3 x_guest.C.Regs))] 4 (.sref 4 [] 0 (List.length R_) 17) [(4,some (rO64 R_))] 5:=kc (s43 x_guests x_g x_guest R_ hh)
noncomputable def gW (x_g:DGuest):Option DGuest:=
 cond (!x_g.Live)
  (some (DGuest.mk false (DCore.mk ([]:List Int) (0:Int) (0:Int) (0:Int) (0:Int) false (0:Int) (0:Int) (0:Int) false false false false) ([]:List DSlot) ([]:List Int) ([]:List Int)))
  (Option.bind (iR x_g.C) λv1=>
  grd (List.length x_g.Pages*16<=2^47/\List.length x_g.Pages<=2^47) (grd (List.length x_g.In*8<=2^47/\List.length x_g.In<=2^47) (grd (List.length x_g.Out*8<=2^47/\List.length x_g.Out<=2^47) (some (DGuest.mk true v1 x_g.Pages x_g.In x_g.Out)))))
noncomputable def g50:Sg tG:=⟨[.st 64],.one (.st 64),gW⟩
theorem s50:Sok 50 g50:=sgx [(95,.r g95)] ⟨s95,trivial⟩ .o kr kr kr
noncomputable def aKr (x_h:DHost)(s1:List DGuest):Option DHost:=some (DHost.mk (([]:List Int)++x_h.Words) s1)
noncomputable def mH (x_h:DHost)(s2:(List DGuest)×Int):Option (LO ((List DGuest)×Int) (JO (List DGuest) DHost)):=
 cond (decide (s2.2<((List.length x_h.Guests:Nat):Int)))
  (grd ((0:Int)<=s2.2/\s2.2<((List.length x_h.Guests:Nat):Int)) (Option.bind (gW (DGuest.mk (List.getD x_h.Guests (Int.toNat s2.2) default).Live (DCore.mk ((List.getD x_h.Guests (Int.toNat s2.2) default).C).Regs ((List.getD x_h.Guests (Int.toNat s2.2) default).C).Pc ((List.getD x_h.Guests (Int.toNat s2.2) default).C).Root ((List.getD x_h.Guests (Int.toNat s2.2) default).C).Vector ((List.getD x_h.Guests (Int.toNat s2.2) default).C).Saved ((List.getD x_h.Guests (Int.toNat s2.2) default).C).SavedUser ((List.getD x_h.Guests (Int.toNat s2.2) default).C).Cause ((List.getD x_h.Guests (Int.toNat s2.2) default).C).Bad ((List.getD x_h.Guests (Int.toNat s2.2) default).C).Timer ((List.getD x_h.Guests (Int.toNat s2.2) default).C).Waits ((List.getD x_h.Guests (Int.toNat s2.2) default).C).User ((List.getD x_h.Guests (Int.toNat s2.2) default).C).On ((List.getD x_h.Guests (Int.toNat s2.2) default).C).Stopped) (List.getD x_h.Guests (Int.toNat s2.2) default).Pages (List.getD x_h.Guests (Int.toNat s2.2) default).In (List.getD x_h.Guests (Int.toNat s2.2) default).Out)) λv3=>
   grd ((List.length s2.1+1)*176<=2^47/\List.length s2.1+1<=2^47) (some (.next ((s2.1++([v3]:List DGuest)),w64 (s2.2+(1:Int)))))))
  (some (.ret (.go s2.1)))
noncomputable def cU (x_h:DHost):Option DHost:=
 grd ((List.length ([]:List Int)+List.length x_h.Words)*8<=2^47/\List.length ([]:List Int)+List.length x_h.Words<=2^47) (Option.bind (Option.bind (iter (mH x_h) (([]:List DGuest),(0:Int))) LO.val) λj1=>
  JO.run j1 (aKr x_h))
noncomputable def g49:Sg tG:=⟨[.st 26],.one (.st 2026),cU⟩
theorem s49:Sok 49 g49:=sgx [(50,.r g50)] ⟨s50,trivial⟩ (.s .o (.s .o (.j ⟨[2,3],[],[(.c 3 1,.ro 1064)]⟩ (.s .o (.k (.l ⟨[1,2,3],[],[(.c 3 1,.ro 1064),(.s 4,.i .i64)]⟩ (.s .o (.s (.k (.g [] [] [.fo (.c 3 1) 0])) .o))))) .o))) kr kr kr
theorem aCc{x_h:DHost}{R_:DHost}(hh:cU x_h=some R_):Fn Try.prog 49 [.agg (eD x_h)] (.agg [.own 3 1 (List.length R_.Words) (fl (eI .i64) R_.Words),.own 64 17 (List.length R_.Guests) (fl bG R_.Guests)]):=kc (s49 x_h R_ hh)
noncomputable def vO (x_b:DBare)(v3:DHost)(s4:Int)(v6:DCore)(s7:(List Int)×(List DSlot)):Option (DHost×Int×Bool):=
 cond (decide (s4<(0:Int)))
  (some ((DHost.mk ([]:List Int) ([]:List DGuest)),(-1:Int),false))
  (grd ((0:Int)<=s4/\s4<((List.length v3.Guests:Nat):Int)) (some ((DHost.mk s7.1 (List.set v3.Guests (Int.toNat s4) (DGuest.mk true v6 s7.2 x_b.In x_b.Out))),s4,true)))
noncomputable def nT (s8:(List Int)×(List Int)×(List DSlot)×Int)(s9:(List Int)×(List Int)×(List DSlot)):Option (LO ((List Int)×(List Int)×(List DSlot)×Int) (JO ((List Int)×(List DSlot)) (DHost×Int×Bool))):=some (.next (s9.1,s9.2.1,s9.2.2,w64 (s8.2.2.2+(1:Int))))
noncomputable def tM (x_b:DBare)(s8:(List Int)×(List Int)×(List DSlot)×Int)(s10:Bool):Option (JO ((List Int)×(List Int)×(List DSlot)) (LO ((List Int)×(List Int)×(List DSlot)×Int) (JO ((List Int)×(List DSlot)) (DHost×Int×Bool)))):=
 cond s10
  (grd ((List.length s8.2.2.1+List.length ([DSlot.mk (-1:Int) false false]:List DSlot))*16<=2^47/\List.length s8.2.2.1+List.length ([DSlot.mk (-1:Int) false false]:List DSlot)<=2^47) (some (.go (s8.1,s8.2.1,s8.2.2.1++([DSlot.mk (-1:Int) false false]:List DSlot)))))
  (cond (decide (((List.length s8.2.1:Nat):Int)=(0:Int)))
   (some (.out (.ret (.out ((DHost.mk ([]:List Int) ([]:List DGuest)),(-1:Int),false)))))
   (grd ((0:Int)<=(0:Int)/\(0:Int)<((List.length s8.2.1:Nat):Int)) (grd ((0:Int)<=(w64 ((List.getD s8.2.1 (Int.toNat (0:Int)) default)*(8:Int)))/\(w64 ((List.getD s8.2.1 (Int.toNat (0:Int)) default)*(8:Int)))<=((List.length s8.1:Nat):Int)/\((List.length s8.1:Nat):Int)<=((List.length s8.1:Nat):Int)) (grd ((0:Int)<=(0:Int)/\(0:Int)<((List.length s8.2.1:Nat):Int)) (grd ((List.length s8.2.2.1+List.length ([DSlot.mk (List.getD s8.2.1 (Int.toNat (0:Int)) default) true false]:List DSlot))*16<=2^47/\List.length s8.2.2.1+List.length ([DSlot.mk (List.getD s8.2.1 (Int.toNat (0:Int)) default) true false]:List DSlot)<=2^47) (grd ((0:Int)<=(1:Int)/\(1:Int)<=((List.length s8.2.1:Nat):Int)/\((List.length s8.2.1:Nat):Int)<=((List.length s8.2.1:Nat):Int)) (some (.go ((over s8.1 (Int.toNat (w64 ((List.getD s8.2.1 (Int.toNat (0:Int)) default)*(8:Int)))) (Int.toNat ((List.length s8.1:Nat):Int)-Int.toNat (w64 ((List.getD s8.2.1 (Int.toNat (0:Int)) default)*(8:Int)))) (List.take (Int.toNat (w64 ((w64 (s8.2.2.2+(1:Int)))*(8:Int)))-Int.toNat (w64 (s8.2.2.2*(8:Int)))) (List.drop (Int.toNat (w64 (s8.2.2.2*(8:Int)))) x_b.Mem))),List.take (Int.toNat ((List.length s8.2.1:Nat):Int)-Int.toNat (1:Int)) (List.drop (Int.toNat (1:Int)) s8.2.1),s8.2.2.1++([DSlot.mk (List.getD s8.2.1 (Int.toNat (0:Int)) default) true false]:List DSlot))))))))))
noncomputable def nB (s11:Bool×Int)(s12:Bool):Option (LO (Bool×Int) (JO Bool (JO ((List Int)×(List Int)×(List DSlot)) (LO ((List Int)×(List Int)×(List DSlot)×Int) (JO ((List Int)×(List DSlot)) (DHost×Int×Bool)))))):=some (.next (s12,w64 (s11.2+(1:Int))))
noncomputable def gT (x_b:DBare)(s8:(List Int)×(List Int)×(List DSlot)×Int)(s11:Bool×Int):Option (LO (Bool×Int) (JO Bool (JO ((List Int)×(List Int)×(List DSlot)) (LO ((List Int)×(List Int)×(List DSlot)×Int) (JO ((List Int)×(List DSlot)) (DHost×Int×Bool)))))):=
 cond (decide (s11.2<(8:Int)))
  (Option.bind (cond s11.1
   (grd ((0:Int)<=s11.2/\s11.2<((List.length (List.take (Int.toNat (w64 ((w64 (s8.2.2.2+(1:Int)))*(8:Int)))-Int.toNat (w64 (s8.2.2.2*(8:Int)))) (List.drop (Int.toNat (w64 (s8.2.2.2*(8:Int)))) x_b.Mem)):Nat):Int)) (some (.go (decide ((List.getD (List.take (Int.toNat (w64 ((w64 (s8.2.2.2+(1:Int)))*(8:Int)))-Int.toNat (w64 (s8.2.2.2*(8:Int)))) (List.drop (Int.toNat (w64 (s8.2.2.2*(8:Int)))) x_b.Mem)) (Int.toNat s11.2) default)=(0:Int))))))
   (some (.go false))) λj12=>
   JO.run j12 (nB s11))
  (some (.ret (.go s11.1)))
noncomputable def fR (x_b:DBare)(s4:Int)(s8:(List Int)×(List Int)×(List DSlot)×Int):Option (LO ((List Int)×(List Int)×(List DSlot)×Int) (JO ((List Int)×(List DSlot)) (DHost×Int×Bool))):=
 cond (decide (s8.2.2.2<(8:Int)))
  (cond (decide ((0:Int)<=s4))
   (Option.bind (grd ((0:Int)<=(w64 (s8.2.2.2*(8:Int)))/\(w64 (s8.2.2.2*(8:Int)))<=(w64 ((w64 (s8.2.2.2+(1:Int)))*(8:Int)))/\(w64 ((w64 (s8.2.2.2+(1:Int)))*(8:Int)))<=((List.length x_b.Mem:Nat):Int)) (Option.bind (Option.bind (iter (gT x_b s8) (true,(0:Int))) LO.val) λj10=>
    JO.run j10 (tM x_b s8))) λj9=>
    JO.run j9 (nT s8))
   (some (.ret (.go (s8.1,s8.2.2.1)))))
  (some (.ret (.go (s8.1,s8.2.2.1))))
noncomputable def uZ (x_h:DHost)(x_b:DBare)(v3:DHost)(s4:Int):Option (DHost×Int×Bool):=
 Option.bind (iL x_h) λv5=>
 Option.bind (iR x_b.C) λv6=>
 grd (List.length x_b.In*8<=2^47/\List.length x_b.In<=2^47) (grd (List.length x_b.Out*8<=2^47/\List.length x_b.Out<=2^47) (Option.bind (Option.bind (iter (fR x_b s4) (v3.Words,v5,([]:List DSlot),(0:Int))) LO.val) λj7=>
  JO.run j7 (vO x_b v3 s4 v6)))
noncomputable def tO (s13:Int×Int)(s14:Int):Option (LO (Int×Int) (JO Int (DHost×Int×Bool))):=some (.next (s14,w64 (s13.2-(1:Int))))
noncomputable def fD (x_h:DHost)(s13:Int×Int):Option (LO (Int×Int) (JO Int (DHost×Int×Bool))):=
 cond (decide ((0:Int)<=s13.2))
  (Option.bind (grd ((0:Int)<=s13.2/\s13.2<((List.length x_h.Guests:Nat):Int)) (cond (!(List.getD x_h.Guests (Int.toNat s13.2) default).Live)
   (some (.go s13.2))
   (some (.go s13.1)))) λj14=>
   JO.run j14 (tO s13))
  (some (.ret (.go s13.1)))
noncomputable def nF (x_h:DHost)(x_b:DBare):Option (DHost×Int×Bool):=
 Option.bind (iO x_h) λv1=>
 cond (!v1)
  (some ((DHost.mk ([]:List Int) ([]:List DGuest)),(-1:Int),false))
  (Option.bind (qP x_b) λv2=>
  cond (!v2)
   (some ((DHost.mk ([]:List Int) ([]:List DGuest)),(-1:Int),false))
   (Option.bind (cU x_h) λv3=>
   Option.bind (Option.bind (iter (fD x_h) ((-1:Int),(2:Int))) LO.val) λj4=>
    JO.run j4 (uZ x_h x_b v3)))
noncomputable def g84:Sg tG:=⟨[.st 26,.st 81],.three (.st 2026) (.i .i64) .b,nF⟩
theorem s84:Sok 84 g84:=sgx [(48,.r g48),(112,.r bQd),(49,.r g49),(113,.r bDj),(95,.r g95)] ⟨s48,bUp,s49,bJl,s95,trivial⟩ (.s .o (.s .o (.s .o (.s .o (.j ⟨[2,3,4,7],[],[(.s 8,.i .i64)]⟩ (.s .o (.k (.l ⟨[2,3,4,7],[],[(.s 8,.i .i64),(.s 9,.i .i64)]⟩ (.s .o (.j ⟨[2,3,4,7,9],[],[(.s 8,.i .i64)]⟩ .o .o))))) (.s .o (.s (.g [.fr (.s 10) 0] [] []) (.j ⟨[4,7,8,11],[],[(.c 7 0,.ro 3),(.c 11 14,.ro 66)]⟩ (.s .o (.k (.l ⟨[3,4,7,8,11],[],[(.c 7 0,.ro 3),(.s 10,.rb 3),(.c 11 14,.ro 66),(.s 12,.i .i64)]⟩ (.s .o (.j ⟨[3,4,7,8,11,12],[],[(.c 7 0,.ro 3),(.s 10,.rb 3),(.c 11 14,.ro 66)]⟩ (.k (.s .o (.s .o (.j ⟨[3,4,7,8,10,11,12,13],[],[(.s 14,.b)]⟩ (.s .o (.k (.l ⟨[3,4,7,8,10,11,12,13],[],[(.s 14,.b),(.s 15,.i .i64)]⟩ (.s .o (.j ⟨[3,4,7,8,10,11,12,13,15],[],[(.s 14,.b)]⟩ .o .o))))) .o)))) .o))))) (.s .o (.s (.g [] [] [.fo (.c 7 1) 0]) .o)))))))))) kr kr kr
noncomputable def aFl  (s1:Unit):Option Int:=some (-1:Int)
noncomputable def aFk (x_guests:List DGuest)(s2:Int):Option (LO Int (JO Unit Int)):=
 cond (decide (s2<((List.length x_guests:Nat):Int)))
  (grd ((0:Int)<=s2/\s2<((List.length x_guests:Nat):Int)) (cond (!(List.getD x_guests (Int.toNat s2) default).Live)
   (some (.ret (.out s2)))
   (some (.next (w64 (s2+(1:Int)))))))
  (some (.ret (.go ())))
noncomputable def rK (x_guests:List DGuest):Option Int:=
 Option.bind (Option.bind (iter (aFk x_guests) (0:Int)) LO.val) λj1=>
  JO.run j1 aFl
noncomputable def g40:Sg tG:=⟨[.row 64],.one (.i .i64),rK⟩
theorem s40:Sok 40 g40:=sgx [] trivial (.s .o (.j ⟨[],[],[]⟩ (.s .o (.k (.l ⟨[5,6],[],[(.s 7,.i .i64)]⟩ .o))) .o)) kr kr kr
theorem aIx{x_guests:List DGuest}{R_:Int}(hh:rK x_guests=some R_):Fn Try.prog 40 [bo fM x_guests] (.int .i64 R_):=kc (s40 x_guests R_ hh)
theorem aLp:LW 30 ⟨11,[.tmp 2],.seq (.reg false (rg 30 0)) (.seq (.seq (.reg false (rg 30 1)) (.cond (.t 5) (.reg false (rg 30 2)) .skip)) (.seq (.reg false (rg 30 3)) .ret))⟩:=kr
noncomputable def pI  (s1:List Int):Option Dl20Rd:=some (Dl20Rd.mk s1 (0:Int))
noncomputable def jM (x_code:List Int):Option Dl20Rd:=
 Option.bind (cond (decide ((2000:Int)<((List.length x_code:Nat):Int)))
  (grd ((0:Int)<=(0:Int)/\(0:Int)<=(2000:Int)/\(2000:Int)<=((List.length x_code:Nat):Int)) (some (.go (List.take (Int.toNat (2000:Int)-Int.toNat (0:Int)) (List.drop (Int.toNat (0:Int)) x_code)))))
  (some (.go x_code))) λj1=>
  JO.run j1 pI
theorem aOv{x_code:List Int}{R_:Dl20Rd}(hh:jM x_code=some R_):Inl Try.prog 30 [bo (eI .u8) x_code] [] 0 (pp 0) [(0,some ⟨109,[bo (eI .u8) R_.b,.int .i64 R_.p]⟩)] 1:=by let z3:=(0,bo (eI .u8) x_code);let z4:=(5,bb (decide ((2000:Int)<((List.length x_code:Nat):Int))));let z1:=List.drop (Int.toNat (0:Int)) x_code;let z2:=List.take (Int.toNat (2000:Int)-Int.toNat (0:Int)) z1;unfold jM at hh;refine Inl.start aLp [0] [] (E:=sp 11 [z3]) (H1:=[]) kr kr (sy [0] [] (sp 11 [z3]) [] 0 ?_);obtain⟨j1,hh,hk1⟩:=bind_some hh;refine Aw.join (S:=(List Int)) (λs1=>sp 11 [(0,bo (eI .u8) s1)]) (λs1=>[]) 0 (λs1=>pI s1=some R_) ?_ ?_;{intro s1 hh;unfold pI at hh;refine Aw.sreg [2] [0] ?_;let q1:Root:=⟨109,[bo (eI .u8) s1,ii 0]⟩;refine yt (sp 11 [(2,pp 0)]) [(0,some q1)] 1 (Aw.ret ?_);rw[bB hh];exact hY (r':=pp 0) kr (el [some 0] (eU (aEl dd rfl)) (hq q1 rz bE))};intro Q1 hN1 hR1 hE1;refine sy [0,5] [] (sp 11 [z3,z4]) [] 0 ?_;rcases rN hh with⟨hb,hh⟩|⟨hb,hh⟩;{refine cF hb (Aw.skip ?_);obtain rfl:=bB hh;exact hN1 x_code _ _ _ hk1 (el [] (jL kr (ro aW uP)) bE)};refine cT hb (Aw.oreg (yu 1 [(6,bo (eI .u8) x_code)] [] 0 ?_));obtain⟨hg6,hh⟩:=aU hh;refine ys (.slc 1 (.t 6) none (some (.c (ii 2000)))) (some 7) (bEk (c:=(eI .u8)) (xs:=x_code) (l:=(0:Int)) (h:=(2000:Int)) cH kr kr kr hg6 ?_);refine ye (sp 11 [(0,bo (eI .u8) z2),z4,(6,bo (eI .u8) x_code),(7,bo (eI .u8) z2)]) [] 0 ?_;obtain rfl:=bB hh;exact hN1 z2 _ _ _ hk1 (el [] (jL kr (ro aW uP)) bE)
noncomputable def g30:So tG:=⟨[.row 5],109,jM⟩
theorem s30:Sop 30 g30:=λx_code R_ hh=>kc (aOv (x_code:=x_code) hh)
noncomputable def aA (x_r:Dl20Rd)(x_n:Int):Option (Dl20Rd×Int):=
 cond (decide (x_n<(1:Int)))
  (some ((Dl20Rd.mk x_r.b (w64 (x_r.p+(1:Int)))),(0:Int)))
  (cond (decide (((List.length x_r.b:Nat):Int)=(0:Int)))
   (some ((Dl20Rd.mk x_r.b (w64 (x_r.p+(1:Int)))),(0:Int)))
   (cond (decide ((w64 ((w64 (x_r.p+(1:Int)))-(1:Int)))<((List.length x_r.b:Nat):Int)))
    (grd ((0:Int)<=(w64 ((w64 (x_r.p+(1:Int)))-(1:Int)))/\(w64 ((w64 (x_r.p+(1:Int)))-(1:Int)))<((List.length x_r.b:Nat):Int)) (grd (x_n≠0) (some ((Dl20Rd.mk x_r.b (w64 (x_r.p+(1:Int)))),Int.tmod (IntKind.wrap .i64 (List.getD x_r.b (Int.toNat (w64 ((w64 (x_r.p+(1:Int)))-(1:Int)))) default)) x_n))))
    (grd (((List.length x_r.b:Nat):Int)≠0) (grd ((0:Int)<=(Int.tmod (w64 ((w64 (x_r.p+(1:Int)))-(1:Int))) ((List.length x_r.b:Nat):Int))/\(Int.tmod (w64 ((w64 (x_r.p+(1:Int)))-(1:Int))) ((List.length x_r.b:Nat):Int))<((List.length x_r.b:Nat):Int)) (grd (((List.length x_r.b:Nat):Int)≠0) (grd ((0:Int)<=(Int.tmod (w64 ((w64 ((w64 ((w64 (x_r.p+(1:Int)))-(1:Int)))*(7:Int)))+(3:Int))) ((List.length x_r.b:Nat):Int))/\(Int.tmod (w64 ((w64 ((w64 ((w64 (x_r.p+(1:Int)))-(1:Int)))*(7:Int)))+(3:Int))) ((List.length x_r.b:Nat):Int))<((List.length x_r.b:Nat):Int)) (grd (((List.length x_r.b:Nat):Int)≠0) (grd (x_n≠0) (some ((Dl20Rd.mk x_r.b (w64 (x_r.p+(1:Int)))),Int.tmod (bits .xor .i64 (w64 ((w64 ((w64 ((w64 ((IntKind.wrap .i64 (List.getD x_r.b (Int.toNat (Int.tmod (w64 ((w64 (x_r.p+(1:Int)))-(1:Int))) ((List.length x_r.b:Nat):Int))) default))*(131:Int)))+(w64 ((IntKind.wrap .i64 (List.getD x_r.b (Int.toNat (Int.tmod (w64 ((w64 ((w64 ((w64 (x_r.p+(1:Int)))-(1:Int)))*(7:Int)))+(3:Int))) ((List.length x_r.b:Nat):Int))) default))*(1117:Int)))))+(w64 ((w64 ((w64 (x_r.p+(1:Int)))-(1:Int)))*(29:Int)))))+(w64 ((w64 (Int.tdiv (w64 ((w64 (x_r.p+(1:Int)))-(1:Int))) ((List.length x_r.b:Nat):Int)))*(53:Int))))) (w64 (Int.tdiv (w64 ((w64 ((w64 ((w64 ((IntKind.wrap .i64 (List.getD x_r.b (Int.toNat (Int.tmod (w64 ((w64 (x_r.p+(1:Int)))-(1:Int))) ((List.length x_r.b:Nat):Int))) default))*(131:Int)))+(w64 ((IntKind.wrap .i64 (List.getD x_r.b (Int.toNat (Int.tmod (w64 ((w64 ((w64 ((w64 (x_r.p+(1:Int)))-(1:Int)))*(7:Int)))+(3:Int))) ((List.length x_r.b:Nat):Int))) default))*(1117:Int)))))+(w64 ((w64 ((w64 (x_r.p+(1:Int)))-(1:Int)))*(29:Int)))))+(w64 ((w64 (Int.tdiv (w64 ((w64 (x_r.p+(1:Int)))-(1:Int))) ((List.length x_r.b:Nat):Int)))*(53:Int))))) (64:Int)))) x_n))))))))))
noncomputable def g72:Sw tG:=⟨[.pt 109,.v (.i .i64)],.one (.i .i64),aA⟩
theorem s72:Sjk 72 g72:=sgy [] trivial .o kr kr kr
noncomputable def bY (x_r:Dl20Rd)(x_n:Int):Option (Dl20Rd×Bool):=
 cond (decide ((0:Int)<x_n))
  (Option.bind (aA x_r x_n) λv1=>
  some (v1.1,decide (v1.2=(w64 (x_n-(1:Int))))))
  (some (x_r,false))
noncomputable def g75:Sw tG:=⟨[.pt 109,.v (.i .i64)],.one .b,bY⟩
theorem s75:Sjk 75 g75:=sgy [(72,.w g72)] ⟨s72,trivial⟩ .o kr kr kr
noncomputable def dA (x_r:Dl20Rd):Option (Dl20Rd×Int):=
 Option.bind (aA x_r (16:Int)) λv1=>
 Option.bind (aA v1.1 (256:Int)) λv2=>
 some (v2.1,w64 ((w64 (v1.2*(256:Int)))+v2.2))
noncomputable def g82:Sw tG:=⟨[.pt 109],.one (.i .i64),dA⟩
theorem s82:Sjk 82 g82:=sgy [(72,.w g72)] ⟨s72,trivial⟩ .o kr kr kr
noncomputable def aFo  (s4:Int):Option Int:=some s4
noncomputable def aFj (x_e:DEntry)(s3:Int):Option Int:=
 Option.bind (cond x_e.User
  (some (.go (w64 (s3+(4:Int)))))
  (some (.go s3))) λj4=>
  JO.run j4 aFo
noncomputable def aFf (x_e:DEntry)(s2:Int):Option Int:=
 Option.bind (cond x_e.Write
  (some (.go (w64 (s2+(2:Int)))))
  (some (.go s2))) λj3=>
  JO.run j3 (aFj x_e)
noncomputable def dR (x_e:DEntry):Option Int:=
 Option.bind (cB x_e.Page (0:Int) (7:Int)) λv1=>
 cond (!v1)
  (some (-1:Int))
  (Option.bind (cond x_e.There
   (some (.go (w64 ((w64 (x_e.Page*(8:Int)))+(1:Int)))))
   (some (.go (w64 (x_e.Page*(8:Int)))))) λj2=>
   JO.run j2 (aFf x_e))
noncomputable def bJv:Sg tG:=⟨[.st 167],.one (.i .i64),dR⟩
theorem bPw:Sok 135 bJv:=sgx [(79,.r g79)] ⟨s79,trivial⟩ (.s .o (.s .o (.s .o (.j ⟨[1],[],[(.s 3,.i .i64)]⟩ .o (.j ⟨[1],[],[(.s 3,.i .i64)]⟩ .o (.j ⟨[],[],[(.s 3,.i .i64)]⟩ .o .o)))))) kr kr kr
noncomputable def aKt  (s2:(List Int)×Int×(List Int)):Option (Dl20Rd×(List Int)):=some ((Dl20Rd.mk s2.1 s2.2.1),s2.2.2)
noncomputable def yN (x_n:Int)(s1:(List Int)×Int×(List Int)):Option (Dl20Rd×(List Int)):=
 Option.bind (Option.bind (bY (Dl20Rd.mk s1.1 s1.2.1) x_n) λv3=>
  cond v3.2
   (Option.bind (aA v3.1 (2:Int)) λv4=>
   cond (decide (v4.2=(0:Int)))
    (grd ((0:Int)<=(0:Int)/\(0:Int)<=(63:Int)/\(63:Int)<=((List.length s1.2.2:Nat):Int)) (some (.go (v4.1.b,v4.1.p,List.take (Int.toNat (63:Int)-Int.toNat (0:Int)) s1.2.2))))
    (Option.bind (aA v4.1 (64:Int)) λv5=>
    Option.bind (aA v5.1 (2:Int)) λv6=>
    grd ((0:Int)<=v5.2/\v5.2<((List.length s1.2.2:Nat):Int)) (some (.go (v6.1.b,v6.1.p,List.set s1.2.2 (Int.toNat v5.2) (w64 ((4096:Int)-(w64 (v6.2*(4097:Int))))))))))
   (some (.go (v3.1.b,v3.1.p,s1.2.2)))) λj2=>
  JO.run j2 aKt
noncomputable def zB (s7:(List Int)×Int×(List Int)×Int)(s9:(List Int)×Int×Int):Option (LO ((List Int)×Int×(List Int)×Int) (JO ((List Int)×Int×(List Int)) (Dl20Rd×(List Int)))):=grd ((List.length s7.2.2.1+List.length ([s9.2.2]:List Int))*8<=2^47/\List.length s7.2.2.1+List.length ([s9.2.2]:List Int)<=2^47) (some (.next (s9.1,s9.2.1,s7.2.2.1++([s9.2.2]:List Int),w64 (s7.2.2.2+(1:Int)))))
noncomputable def yO (s7:(List Int)×Int×(List Int)×Int)(s8:(List Int)×Int×Int):Option (LO ((List Int)×Int×(List Int)×Int) (JO ((List Int)×Int×(List Int)) (Dl20Rd×(List Int)))):=
 Option.bind (cond (decide ((w64 (Int.tdiv s7.2.2.2 (8:Int)))=(1:Int)))
  (Option.bind (aA (Dl20Rd.mk s8.1 s8.2.1) (5:Int)) λv10=>
  Option.bind (aA v10.1 (4:Int)) λv11=>
  Option.bind (aA v11.1 (3:Int)) λv12=>
  Option.bind (aA v12.1 (8:Int)) λv13=>
  Option.bind (dR (DEntry.mk (decide ((0:Int)<v10.2)) (decide ((0:Int)<v11.2)) (decide ((0:Int)<v12.2)) v13.2)) λv14=>
  some (.go (v13.1.b,v13.1.p,v14)))
  (cond (decide ((w64 (Int.tdiv s7.2.2.2 (8:Int)))=(2:Int)))
   (Option.bind (aA (Dl20Rd.mk s8.1 s8.2.1) (5:Int)) λv15=>
   Option.bind (aA v15.1 (4:Int)) λv16=>
   Option.bind (aA v16.1 (3:Int)) λv17=>
   Option.bind (aA v17.1 (8:Int)) λv18=>
   Option.bind (dR (DEntry.mk (decide ((0:Int)<v15.2)) (decide ((0:Int)<v16.2)) (decide ((0:Int)<v17.2)) v18.2)) λv19=>
   some (.go (v18.1.b,v18.1.p,v19)))
   (some (.go (s8.1,s8.2.1,s8.2.2))))) λj9=>
  JO.run j9 (zB s7)
noncomputable def rC  (s7:(List Int)×Int×(List Int)×Int):Option (LO ((List Int)×Int×(List Int)×Int) (JO ((List Int)×Int×(List Int)) (Dl20Rd×(List Int)))):=
 cond (decide (s7.2.2.2<(64:Int)))
  (Option.bind (Option.bind (aA (Dl20Rd.mk s7.1 s7.2.1) (2:Int)) λv20=>
   cond (decide (v20.2=(0:Int)))
    (Option.bind (dA v20.1) λv21=>
    some (.go (v21.1.b,v21.1.p,v21.2)))
    (some (.go (v20.1.b,v20.1.p,(0:Int))))) λj8=>
   JO.run j8 (yO s7))
  (some (.ret (.go (s7.1,s7.2.1,s7.2.2.1))))
noncomputable def mQ (x_r:Dl20Rd)(x_n:Int):Option (Dl20Rd×(List Int)):=
 Option.bind (Option.bind (iter rC (x_r.b,x_r.p,([]:List Int),(0:Int))) LO.val) λj1=>
  JO.run j1 (yN x_n)
noncomputable def bJs:Sw tG:=⟨[.pt 109,.v (.i .i64)],.one (.row 3),mQ⟩
theorem bRm:Sjk 111 bJs:=sgy [(72,.w g72),(82,.w g82),(135,.r bJv),(75,.w g75)] ⟨s72,s82,bPw,s75,trivial⟩ (.s .o (.s .o (.j ⟨[0,1],[],[(.c 0 0,.rb 5),(.c 0 1,.i .i64),(.s 5,.ro 3)]⟩ (.s .o (.k (.l ⟨[0,1],[],[(.c 0 0,.rb 5),(.c 0 1,.i .i64),(.s 5,.ro 3),(.s 6,.i .i64)]⟩ (.s .o (.s (.k (.s .o (.j ⟨[0,1,5,6],[],[(.c 0 0,.rb 5),(.c 0 1,.i .i64),(.s 7,.i .i64)]⟩ .o (.j ⟨[0,1,5,6],[],[(.c 0 0,.rb 5),(.c 0 1,.i .i64),(.s 7,.i .i64)]⟩ .o .o)))) .o))))) (.j ⟨[],[0],[(.d 0 0,.rb 5),(.d 0 1,.i .i64),(.s 5,.ro 3)]⟩ .o .o)))) kr kr kr
noncomputable def lK:Option Bool:=
 Option.bind (iP (5:Int)) λv1=>
 cond v1
  (Option.bind (iP (-1:Int)) λv2=>
  some (!v2))
  (some false)
noncomputable def g11:Sg tG:=⟨[],.one .b,lK⟩
theorem s11:Sok 11 g11:=sgx [(35,.r g35)] ⟨s35,trivial⟩ .o kr kr kr
noncomputable def nN (x_i:DIns):Option Bool:=
 Option.bind (cB x_i.Op (0:Int) (15:Int)) λv1=>
 cond v1
  (Option.bind (cB x_i.A (0:Int) (3:Int)) λv2=>
  cond v2
   (Option.bind (cB x_i.N (0:Int) (63:Int)) λv3=>
   some v3)
   (some false))
  (some false)
noncomputable def bIh:Sg tG:=⟨[.st 158],.one .b,nN⟩
theorem bSl:Sok 147 bIh:=sgx [(79,.r g79)] ⟨s79,trivial⟩ .o kr kr kr
noncomputable def aGq (v3:Dl20Rd×Int)(v4:Dl20Rd×Int)(v5:Dl20Rd×Int)(v6:Dl20Rd×Int)(v7:Dl20Rd×Int)(v8:Dl20Rd×Int)(v9:Dl20Rd×Int)(v10:Dl20Rd×Int)(v11:Dl20Rd×Int)(v12:Dl20Rd×Int)(v13:Dl20Rd×Int)(s15:(List Int)×Int×(List Int)×Int×Int):Option (Dl20Rd×DCore):=some ((Dl20Rd.mk s15.1 s15.2.1),DCore.mk s15.2.2.1 s15.2.2.2.1 s15.2.2.2.2 (w64 ((24:Int)+v3.2)) v4.2 (decide (v9.2=(0:Int))) v5.2 v6.2 (w64 (v7.2*v8.2)) (decide (v10.2=(0:Int))) (decide (v11.2=(0:Int))) (decide (v12.2=(0:Int))) (decide (v13.2=(0:Int))))
noncomputable def vI (x_n:Int)(v1:Dl20Rd×Int)(v2:Dl20Rd×Int)(v3:Dl20Rd×Int)(v4:Dl20Rd×Int)(v5:Dl20Rd×Int)(v6:Dl20Rd×Int)(v7:Dl20Rd×Int)(v8:Dl20Rd×Int)(v9:Dl20Rd×Int)(v10:Dl20Rd×Int)(v11:Dl20Rd×Int)(v12:Dl20Rd×Int)(v13:Dl20Rd×Int)(s14:(List Int)×Int×(List Int)):Option (Dl20Rd×DCore):=
 Option.bind (Option.bind (bY (Dl20Rd.mk s14.1 s14.2.1) x_n) λv16=>
  cond v16.2
   (Option.bind (aA v16.1 (4:Int)) λv17=>
   cond (decide (v17.2=(0:Int)))
    (grd ((0:Int)<=(0:Int)/\(0:Int)<=(3:Int)/\(3:Int)<=((List.length s14.2.2:Nat):Int)) (some (.go (v17.1.b,v17.1.p,List.take (Int.toNat (3:Int)-Int.toNat (0:Int)) s14.2.2,v1.2,List.getD ([(-1:Int),(1:Int),(2:Int)]:List Int) (Int.toNat v2.2) default))))
    (cond (decide (v17.2=(1:Int)))
     (Option.bind (aA v17.1 (2:Int)) λv18=>
     some (.go (v18.1.b,v18.1.p,s14.2.2,w64 ((64:Int)-(w64 (v18.2*(65:Int)))),List.getD ([(-1:Int),(1:Int),(2:Int)]:List Int) (Int.toNat v2.2) default)))
     (cond (decide (v17.2=(2:Int)))
      (Option.bind (aA v17.1 (2:Int)) λv19=>
      some (.go (v19.1.b,v19.1.p,s14.2.2,v1.2,w64 ((8:Int)-(w64 (v19.2*(10:Int)))))))
      (Option.bind (aA v17.1 (4:Int)) λv20=>
      grd ((0:Int)<=v20.2/\v20.2<((List.length s14.2.2:Nat):Int)) (some (.go (v20.1.b,v20.1.p,List.set s14.2.2 (Int.toNat v20.2) (-1:Int),v1.2,List.getD ([(-1:Int),(1:Int),(2:Int)]:List Int) (Int.toNat v2.2) default)))))))
   (some (.go (v16.1.b,v16.1.p,s14.2.2,v1.2,List.getD ([(-1:Int),(1:Int),(2:Int)]:List Int) (Int.toNat v2.2) default)))) λj15=>
  JO.run j15 (aGq v3 v4 v5 v6 v7 v8 v9 v10 v11 v12 v13)
noncomputable def oF  (s21:(List Int)×Int×(List Int)×Int):Option (LO ((List Int)×Int×(List Int)×Int) (JO ((List Int)×Int×(List Int)) (Dl20Rd×DCore))):=
 cond (decide (s21.2.2.2<(4:Int)))
  (Option.bind (aA (Dl20Rd.mk s21.1 s21.2.1) (64:Int)) λv22=>
  Option.bind (aA v22.1 (16:Int)) λv23=>
  Option.bind (dA v23.1) λv24=>
  Option.bind (aA v24.1 (3:Int)) λv25=>
  grd ((0:Int)<=v25.2/\v25.2<((List.length ([v22.2,v23.2,v24.2]:List Int):Nat):Int)) (grd ((List.length s21.2.2.1+List.length ([List.getD ([v22.2,v23.2,v24.2]:List Int) (Int.toNat v25.2) default]:List Int))*8<=2^47/\List.length s21.2.2.1+List.length ([List.getD ([v22.2,v23.2,v24.2]:List Int) (Int.toNat v25.2) default]:List Int)<=2^47) (some (.next (v25.1.b,v25.1.p,s21.2.2.1++([List.getD ([v22.2,v23.2,v24.2]:List Int) (Int.toNat v25.2) default]:List Int),w64 (s21.2.2.2+(1:Int)))))))
  (some (.ret (.go (s21.1,s21.2.1,s21.2.2.1))))
noncomputable def lJ (x_r:Dl20Rd)(x_n:Int):Option (Dl20Rd×DCore):=
 Option.bind (aA x_r (64:Int)) λv1=>
 Option.bind (aA v1.1 (3:Int)) λv2=>
 grd ((0:Int)<=v2.2/\v2.2<((List.length ([(-1:Int),(1:Int),(2:Int)]:List Int):Nat):Int)) (Option.bind (aA v2.1 (4:Int)) λv3=>
  Option.bind (aA v3.1 (64:Int)) λv4=>
  Option.bind (aA v4.1 (5:Int)) λv5=>
  Option.bind (aA v5.1 (64:Int)) λv6=>
  Option.bind (aA v6.1 (4:Int)) λv7=>
  Option.bind (aA v7.1 (6:Int)) λv8=>
  Option.bind (aA v8.1 (2:Int)) λv9=>
  Option.bind (aA v9.1 (6:Int)) λv10=>
  Option.bind (aA v10.1 (3:Int)) λv11=>
  Option.bind (aA v11.1 (2:Int)) λv12=>
  Option.bind (aA v12.1 (25:Int)) λv13=>
  Option.bind (Option.bind (iter oF (v13.1.b,v13.1.p,([]:List Int),(0:Int))) LO.val) λj14=>
   JO.run j14 (vI x_n v1 v2 v3 v4 v5 v6 v7 v8 v9 v10 v11 v12 v13))
noncomputable def bRl:Sw tG:=⟨[.pt 109,.v (.i .i64)],.one (.st 61),lJ⟩
theorem bUg:Sjk 109 bRl:=sgy [(72,.w g72),(82,.w g82),(75,.w g75)] ⟨s72,s82,s75,trivial⟩ (.s .o (.s (.m [0]) (.s .o (.s .o (.s .o (.s .o (.s .o (.j ⟨[0,1,4,5],[],[(.c 0 0,.rb 5),(.c 0 1,.i .i64),(.c 5 0,.ro 3)]⟩ (.s .o (.k (.l ⟨[0,1,4,5],[],[(.c 0 0,.rb 5),(.c 0 1,.i .i64),(.c 5 0,.ro 3),(.s 6,.i .i64)]⟩ (.s .o (.s (.k (.m [0])) .o))))) (.j ⟨[4,5],[0],[(.d 0 0,.rb 5),(.d 0 1,.i .i64),(.c 5 0,.ro 3),(.c 5 1,.i .i64),(.c 5 2,.i .i64)]⟩ (.s .o (.c (.s .o (.k (.s .o (.c .o (.s .o (.c .o (.s .o (.c .o (.m [0]))))))))) .o)) .o))))))))) kr kr kr
noncomputable def aLb  (s4:Int×(List Int)×Int×Int×Int):Option (Dl20Rd×DIns):=some ((Dl20Rd.mk s4.2.1 s4.2.2.1),DIns.mk s4.1 s4.2.2.2.1 s4.2.2.2.2)
noncomputable def qI (x_r:Dl20Rd)(x_n:Int):Option (Dl20Rd×DIns):=
 Option.bind (aA x_r (16:Int)) λv1=>
 Option.bind (aA v1.1 (4:Int)) λv2=>
 Option.bind (aA v2.1 (64:Int)) λv3=>
 Option.bind (Option.bind (bY v3.1 x_n) λv5=>
  cond v5.2
   (Option.bind (aA v5.1 (3:Int)) λv6=>
   cond (decide (v6.2=(0:Int)))
    (Option.bind (aA v6.1 (2:Int)) λv7=>
    some (.go ((w64 ((16:Int)-(w64 (v7.2*(17:Int))))),v7.1.b,v7.1.p,v2.2,v3.2)))
    (cond (decide (v6.2=(1:Int)))
     (some (.go (v1.2,v6.1.b,v6.1.p,(4:Int),v3.2)))
     (Option.bind (aA v6.1 (2:Int)) λv8=>
     some (.go (v1.2,v8.1.b,v8.1.p,v2.2,w64 ((64:Int)-(w64 (v8.2*(65:Int)))))))))
   (some (.go (v1.2,v5.1.b,v5.1.p,v2.2,v3.2)))) λj4=>
  JO.run j4 aLb
noncomputable def bQe:Sw tG:=⟨[.pt 109,.v (.i .i64)],.one (.st 158),qI⟩
theorem bUb:Sjk 136 bQe:=sgy [(72,.w g72),(75,.w g75)] ⟨s72,s75,trivial⟩ (.s .o (.s .o (.j ⟨[4,5],[0],[(.c 5 0,.i .i64),(.d 0 0,.rb 5),(.d 0 1,.i .i64),(.c 5 1,.i .i64),(.c 5 2,.i .i64)]⟩ .o .o))) kr kr kr
noncomputable def oS (x_i:DIns):Option Int:=
 Option.bind (nN x_i) λv1=>
 cond (!v1)
  (some (-1:Int))
  (some (w64 ((w64 ((w64 (x_i.Op*(256:Int)))+(w64 (x_i.A*(64:Int)))))+x_i.N)))
noncomputable def bQf:Sg tG:=⟨[.st 158],.one (.i .i64),oS⟩
theorem bTp:Sok 137 bQf:=sgx [(147,.r bIh)] ⟨bSl,trivial⟩ .o kr kr kr
noncomputable def wU  (s2:(List Int)×(List Int)×Int):Option (Dl20Rd×(List Int)):=some ((Dl20Rd.mk s2.2.1 s2.2.2),s2.1)
noncomputable def wY (s3:(List Int)×Int×(List Int)×Int)(s4:(List Int)×Int×(List Int)):Option (LO ((List Int)×Int×(List Int)×Int) (JO ((List Int)×(List Int)×Int) (Dl20Rd×(List Int)))):=some (.next (s4.1,s4.2.1,s4.2.2,w64 (s3.2.2.2+(1:Int))))
noncomputable def wC (s3:(List Int)×Int×(List Int)×Int)(v11:Dl20Rd×DIns)(s13:(List Int)×Int×Int):Option (JO ((List Int)×Int×(List Int)) (LO ((List Int)×Int×(List Int)×Int) (JO ((List Int)×(List Int)×Int) (Dl20Rd×(List Int))))):=
 Option.bind (oS (DIns.mk s13.2.2 v11.2.A v11.2.N)) λv14=>
 grd ((0:Int)<=s3.2.2.2/\s3.2.2.2<((List.length s3.2.2.1:Nat):Int)) (some (.go (s13.1,s13.2.1,List.set s3.2.2.1 (Int.toNat s3.2.2.2) v14)))
noncomputable def wE (s3:(List Int)×Int×(List Int)×Int)(v11:Dl20Rd×DIns)(s12:(List Int)×Int×Int):Option (JO ((List Int)×Int×(List Int)) (LO ((List Int)×Int×(List Int)×Int) (JO ((List Int)×(List Int)×Int) (Dl20Rd×(List Int))))):=
 Option.bind (cond (decide (s12.2.2=(0:Int)))
  (Option.bind (aA (Dl20Rd.mk s12.1 s12.2.1) (4:Int)) λv15=>
  cond (decide ((0:Int)<v15.2))
   (some (.go (v15.1.b,v15.1.p,(1:Int))))
   (some (.go (v15.1.b,v15.1.p,s12.2.2))))
  (some (.go (s12.1,s12.2.1,s12.2.2)))) λj13=>
  JO.run j13 (wC s3 v11)
noncomputable def xD (s3:(List Int)×Int×(List Int)×Int)(s5:Bool):Option (JO ((List Int)×Int×(List Int)) (LO ((List Int)×Int×(List Int)×Int) (JO ((List Int)×(List Int)×Int) (Dl20Rd×(List Int))))):=
 cond s5
  (Option.bind (aA (Dl20Rd.mk s3.1 s3.2.1) (3:Int)) λv6=>
  cond (decide ((0:Int)<v6.2))
   (Option.bind (aA v6.1 (8:Int)) λv7=>
   Option.bind (aA v7.1 (4:Int)) λv8=>
   Option.bind (aA v8.1 (3:Int)) λv9=>
   Option.bind (dR (DEntry.mk (decide ((0:Int)<v7.2)) (decide ((0:Int)<v8.2)) (decide ((0:Int)<v9.2)) (Int.tmod s3.2.2.2 (8:Int)))) λv10=>
   grd ((0:Int)<=s3.2.2.2/\s3.2.2.2<((List.length s3.2.2.1:Nat):Int)) (some (.go (v9.1.b,v9.1.p,List.set s3.2.2.1 (Int.toNat s3.2.2.2) v10))))
   (some (.go (v6.1.b,v6.1.p,s3.2.2.1))))
  (Option.bind (qI (Dl20Rd.mk s3.1 s3.2.1) (0:Int)) λv11=>
  Option.bind (Option.bind (aA v11.1 (2:Int)) λv16=>
   cond (decide (v16.2=(0:Int)))
    (Option.bind (aA v16.1 (10:Int)) λv17=>
    grd ((0:Int)<=v17.2/\v17.2<((10:Nat):Int)) (some (.go (v17.1.b,v17.1.p,List.getD ([(1:Int),(2:Int),(3:Int),(4:Int),(3:Int),(4:Int),(6:Int),(7:Int),(11:Int),(15:Int)]:List Int) (Int.toNat v17.2) default))))
    (some (.go (v16.1.b,v16.1.p,v11.2.Op)))) λj12=>
   JO.run j12 (wE s3 v11))
noncomputable def pH  (s3:(List Int)×Int×(List Int)×Int):Option (LO ((List Int)×Int×(List Int)×Int) (JO ((List Int)×(List Int)×Int) (Dl20Rd×(List Int)))):=
 cond (decide (s3.2.2.2<((List.length s3.2.2.1:Nat):Int)))
  (Option.bind (Option.bind (cond (decide ((w64 (Int.tdiv s3.2.2.2 (8:Int)))=(1:Int)))
   (some (.go (decide ((w64 (Int.tdiv s3.2.2.2 (8:Int)))=(1:Int)))))
   (some (.go (decide ((w64 (Int.tdiv s3.2.2.2 (8:Int)))=(2:Int)))))) λj5=>
   JO.run j5 (xD s3)) λj4=>
   JO.run j4 (wY s3))
  (some (.ret (.go (s3.2.2.1,s3.1,s3.2.1))))
noncomputable def oP (x_r:Dl20Rd):Option (Dl20Rd×(List Int)):=
 Option.bind (mQ x_r (0:Int)) λv1=>
 Option.bind (Option.bind (iter pH (v1.1.b,v1.1.p,v1.2,(0:Int))) LO.val) λj2=>
  JO.run j2 wU
noncomputable def bPk:Sw tG:=⟨[.pt 109],.one (.row 3),oP⟩
theorem bTs:Sjk 110 bPk:=sgy [(111,.w bJs),(72,.w g72),(135,.r bJv),(136,.w bQe),(137,.r bQf)] ⟨bRm,s72,bPw,bUb,bTp,trivial⟩ (.s .o (.s .o (.j ⟨[],[0],[(.s 3,.ro 3),(.d 0 0,.rb 5),(.d 0 1,.i .i64)]⟩ (.s .o (.k (.l ⟨[0],[],[(.c 0 0,.rb 5),(.c 0 1,.i .i64),(.s 3,.ro 3),(.s 4,.i .i64)]⟩ (.s .o (.j ⟨[0,4],[],[(.c 0 0,.rb 5),(.c 0 1,.i .i64),(.s 3,.ro 3)]⟩ (.k (.s .o (.k (.j ⟨[0,3,4],[],[(.s 41,.b)]⟩ .o (.c .o (.s .o (.j ⟨[0,3,4,5],[],[(.c 0 0,.rb 5),(.c 0 1,.i .i64),(.c 5 0,.i .i64)]⟩ .o (.j ⟨[0,3,4,5],[],[(.c 0 0,.rb 5),(.c 0 1,.i .i64),(.c 5 0,.i .i64)]⟩ .o .o)))))))) .o))))) .o))) kr kr kr
noncomputable def aIz (s4:(List Int)×Int×(List Int))(s5:(List Int)×Int×Int×Int×Int×Bool×Int×Int×Int×Bool×Bool×Bool×Bool×(List Int)×Int×(List Int)×(List Int)):Option (Dl20Rd×DBare):=some ((Dl20Rd.mk s5.2.2.2.2.2.2.2.2.2.2.2.2.2.1 s5.2.2.2.2.2.2.2.2.2.2.2.2.2.2.1),DBare.mk (DCore.mk s5.1 s5.2.1 s5.2.2.1 s5.2.2.2.1 s5.2.2.2.2.1 s5.2.2.2.2.2.1 s5.2.2.2.2.2.2.1 s5.2.2.2.2.2.2.2.1 s5.2.2.2.2.2.2.2.2.1 s5.2.2.2.2.2.2.2.2.2.1 s5.2.2.2.2.2.2.2.2.2.2.1 s5.2.2.2.2.2.2.2.2.2.2.2.1 s5.2.2.2.2.2.2.2.2.2.2.2.2.1) s5.2.2.2.2.2.2.2.2.2.2.2.2.2.2.2.1 s5.2.2.2.2.2.2.2.2.2.2.2.2.2.2.2.2 s4.2.2)
noncomputable def xG (x_n:Int)(v1:Dl20Rd×DCore)(v2:Dl20Rd×(List Int))(s3:(List Int)×Int×(List Int))(s4:(List Int)×Int×(List Int)):Option (Dl20Rd×DBare):=
 Option.bind (Option.bind (bY (Dl20Rd.mk s4.1 s4.2.1) x_n) λv6=>
  cond v6.2
   (Option.bind (aA v6.1 (3:Int)) λv7=>
   cond (decide (v7.2=(0:Int)))
    (Option.bind (lJ v7.1 (1:Int)) λv8=>
    some (.go (v8.2.Regs,v8.2.Pc,v8.2.Root,v8.2.Vector,v8.2.Saved,v8.2.SavedUser,v8.2.Cause,v8.2.Bad,v8.2.Timer,v8.2.Waits,v8.2.User,v8.2.On,v8.2.Stopped,v8.1.b,v8.1.p,v2.2,s3.2.2)))
    (cond (decide (v7.2=(1:Int)))
     (Option.bind (mQ v7.1 (1:Int)) λv9=>
     some (.go (v1.2.Regs,v1.2.Pc,v1.2.Root,v1.2.Vector,v1.2.Saved,v1.2.SavedUser,v1.2.Cause,v1.2.Bad,v1.2.Timer,v1.2.Waits,v1.2.User,v1.2.On,v1.2.Stopped,v9.1.b,v9.1.p,v9.2,s3.2.2)))
     (some (.go (v1.2.Regs,v1.2.Pc,v1.2.Root,v1.2.Vector,v1.2.Saved,v1.2.SavedUser,v1.2.Cause,v1.2.Bad,v1.2.Timer,v1.2.Waits,v1.2.User,v1.2.On,v1.2.Stopped,v7.1.b,v7.1.p,v2.2,List.replicate (Int.toNat (31:Int)) (0:Int))))))
   (some (.go (v1.2.Regs,v1.2.Pc,v1.2.Root,v1.2.Vector,v1.2.Saved,v1.2.SavedUser,v1.2.Cause,v1.2.Bad,v1.2.Timer,v1.2.Waits,v1.2.User,v1.2.On,v1.2.Stopped,v6.1.b,v6.1.p,v2.2,s3.2.2)))) λj5=>
  JO.run j5 (aIz s4)
noncomputable def wG  (s11:(List Int)×Int×(List Int)×Int):Option (LO ((List Int)×Int×(List Int)×Int) (JO ((List Int)×Int×(List Int)) (Dl20Rd×DBare))):=
 cond (decide ((0:Int)<s11.2.2.2))
  (Option.bind (dA (Dl20Rd.mk s11.1 s11.2.1)) λv12=>
  grd ((List.length s11.2.2.1+List.length ([v12.2]:List Int))*8<=2^47/\List.length s11.2.2.1+List.length ([v12.2]:List Int)<=2^47) (some (.next (v12.1.b,v12.1.p,s11.2.2.1++([v12.2]:List Int),w64 (s11.2.2.2-(1:Int))))))
  (some (.ret (.go (s11.1,s11.2.1,s11.2.2.1))))
noncomputable def xA (x_n:Int)(v1:Dl20Rd×DCore)(v2:Dl20Rd×(List Int))(s3:(List Int)×Int×(List Int)):Option (Dl20Rd×DBare):=
 Option.bind (Option.bind (aA (Dl20Rd.mk s3.1 s3.2.1) (3:Int)) λv10=>
  Option.bind (iter wG (v10.1.b,v10.1.p,([]:List Int),v10.2)) LO.val) λj4=>
  JO.run j4 (xG x_n v1 v2 s3)
noncomputable def kV  (s14:(List Int)×Int×(List Int)×Int):Option (LO ((List Int)×Int×(List Int)×Int) (JO ((List Int)×Int×(List Int)) (Dl20Rd×DBare))):=
 cond (decide ((0:Int)<s14.2.2.2))
  (Option.bind (dA (Dl20Rd.mk s14.1 s14.2.1)) λv15=>
  grd ((List.length s14.2.2.1+List.length ([v15.2]:List Int))*8<=2^47/\List.length s14.2.2.1+List.length ([v15.2]:List Int)<=2^47) (some (.next (v15.1.b,v15.1.p,s14.2.2.1++([v15.2]:List Int),w64 (s14.2.2.2-(1:Int))))))
  (some (.ret (.go (s14.1,s14.2.1,s14.2.2.1))))
noncomputable def oQ (x_r:Dl20Rd)(x_n:Int):Option (Dl20Rd×DBare):=
 Option.bind (lJ x_r (0:Int)) λv1=>
 Option.bind (oP v1.1) λv2=>
 Option.bind (Option.bind (aA v2.1 (4:Int)) λv13=>
  Option.bind (iter kV (v13.1.b,v13.1.p,([]:List Int),v13.2)) LO.val) λj3=>
  JO.run j3 (xA x_n v1 v2)
noncomputable def g83:Sw tG:=⟨[.pt 109,.v (.i .i64)],.one (.st 81),oQ⟩
theorem s83:Sjk 83 g83:=sgy [(109,.w bRl),(110,.w bPk),(72,.w g72),(82,.w g82),(75,.w g75),(111,.w bJs)] ⟨bUg,bTs,s72,s82,s75,bRm,trivial⟩ (.s .o (.s .o (.j ⟨[0,1,4,5],[],[(.c 0 0,.rb 5),(.c 0 1,.i .i64),(.c 5 14,.ro 3)]⟩ (.s .o (.k (.l ⟨[0,1,4,5],[],[(.c 0 0,.rb 5),(.c 0 1,.i .i64),(.c 5 14,.ro 3),(.s 6,.i .i64)]⟩ (.s .o (.s (.k (.m [0])) .o))))) (.j ⟨[0,1,4,5],[],[(.c 0 0,.rb 5),(.c 0 1,.i .i64),(.c 5 15,.ro 3)]⟩ (.s .o (.k (.l ⟨[0,1,4,5],[],[(.c 0 0,.rb 5),(.c 0 1,.i .i64),(.c 5 15,.ro 3),(.s 7,.i .i64)]⟩ (.s .o (.s (.k (.m [0])) .o))))) (.j ⟨[4,5],[0],[(.c 5 0,.ro 3),(.c 5 1,.i .i64),(.c 5 2,.i .i64),(.c 5 3,.i .i64),(.c 5 4,.i .i64),(.c 5 5,.b),(.c 5 6,.i .i64),(.c 5 7,.i .i64),(.c 5 8,.i .i64),(.c 5 9,.b),(.c 5 10,.b),(.c 5 11,.b),(.c 5 12,.b),(.d 0 0,.rb 5),(.d 0 1,.i .i64),(.c 5 13,.ro 3),(.c 5 14,.ro 3)]⟩ .o .o))))) kr kr kr
theorem aKz:LW 81 ⟨6,[.cell 2 true 2],.seq (.reg false (rg 81 0)) (.seq (.rega [rg 81 1,rg 81 2]) .ret)⟩:=kr
noncomputable def oY (x_none:Int):Option DHost:=some (DHost.mk (List.replicate (Int.toNat (160:Int)) (0:Int)) (List.replicate (Int.toNat (3:Int)) (DGuest.mk false (DCore.mk ([]:List Int) (0:Int) (0:Int) (0:Int) (0:Int) false (0:Int) (0:Int) (0:Int) false false false false) ([]:List DSlot) ([]:List Int) ([]:List Int))))
theorem aNx{x_none:Int}{R_:DHost}(hh:oY x_none=some R_):Fn Try.prog 81 [.int .i64 x_none] (.agg [.own 3 1 (List.length R_.Words) (fl (eI .i64) R_.Words),.own 64 17 (List.length R_.Guests) (fl bG R_.Guests)]):=by let z1:=DCore.mk ([]:List Int) (0:Int) (0:Int) (0:Int) (0:Int) false (0:Int) (0:Int) (0:Int) false false false false;let z2:=DGuest.mk false z1 ([]:List DSlot) ([]:List Int) ([]:List Int);unfold oY at hh;refine Fn.start aKz [] (E:=sp 6 []) kr (v:= .agg [sw 0 R_.Words,.sref 1 [] 0 (List.length R_.Guests) 17]) (Hr:=[(1,some (rO64 R_.Guests)),(0,some (rI_3 R_.Words))]) (k:=2) kr (sy [2] [0] (sp 6 [(2,pp 0)]) [(0,some ⟨26,[.nil,.nil]⟩)] 1 (Aw.srega [2] [0,1,2] (bHw ?_ (bHw ?_ bSk))));{refine ys (.mk 3 1 8 [ii 0] (.c (ii 160))) (some 3) (aSt (c:=(eI .i64)) (d:=(0:Int)) (k:=(160:Int)) kr dd kr ?_);refine ys (.mk 64 17 176 zc0 (.c (ii 3))) (some 4) (aUw (z:=(bb false:: .nil::oT [.nil,.nil,.nil])) (k:=(3:Int)) kr dd ?_);let q1:Root:=⟨26,[.sref 1 [] 0 (List.length (List.replicate (Int.toNat (160:Int)) (0:Int))) 1,.sref 2 [] 0 (Int.toNat (3:Int)) 17]⟩;let q2:Root:=(rI_3 (List.replicate (Int.toNat (160:Int)) (0:Int)));let q3:Root:=⟨64,aV (bb false:: .nil::oT [.nil,.nil,.nil]) (Int.toNat (3:Int))⟩;refine yt (sp 6 [(2,pp 0)]) [(0,some q1),(1,some q2),(2,some q3)] 3 (Aw.ent (Ent.foldM (c:=bG) (k:=Int.toNat (3:Int)) (d:=z2) (R:=2) (e:=64) (us2:=sp 6 [(2,pp 0)]) (H2:=[(0,some ⟨26,[.sref 1 [] 0 (List.length (List.replicate (Int.toNat (160:Int)) (0:Int))) 1,.sref 3 [] 0 (List.length (List.replicate (Int.toNat (3:Int)) z2)) 17]⟩),(1,some q2)]) (L:=[none,some none,none,none,none,none,none,none,none,none,none,none,none,none,some none,some none,some none]) (ws:=(bb false:: .own 3 1 0 []::oT [.own 66 3 0 [],.own 3 1 0 [],.own 3 1 0 []])) dd kr kr (aH (zT (aH (aH (aH (aH (aH (aH (aH (aH (aH (aH (aH (aH (zT (zT (zT uR))))))))))))))))) rfl (qC kr (fH (u:=pp 0) kr (.same _) uT)) (fN (t:=q1) rfl kr rfl (dG (.same _) (dG (.sref _ _ _ _ eqn) tH)) (fN (t:=q2) rfl kr rfl dL aBc))) (Aw.ret ?_));rw[bB hh];let q4:Root:=(rO64 (List.replicate (Int.toNat (3:Int)) z2));exact hY (r':= .agg [.sref 1 [] 0 (List.length (List.replicate (Int.toNat (160:Int)) (0:Int))) 1,.sref 3 [] 0 (List.length (List.replicate (Int.toNat (3:Int)) z2)) 17]) kr (Ent.list [some 1,some 3] rfl rfl (Nat.zero_le _) (eU (gY rz)) (hn cL (hn aW bE)))};refine ys (.mk 64 17 176 zc0 (.c (ii 3))) (some 4) (aUw (z:=(bb false:: .nil::oT [.nil,.nil,.nil])) (k:=(3:Int)) kr dd ?_);refine ys (.mk 3 1 8 [ii 0] (.c (ii 160))) (some 3) (aSt (c:=(eI .i64)) (d:=(0:Int)) (k:=(160:Int)) kr dd kr ?_);let q5:Root:=⟨26,[.sref 2 [] 0 (List.length (List.replicate (Int.toNat (160:Int)) (0:Int))) 1,.sref 1 [] 0 (Int.toNat (3:Int)) 17]⟩;let q6:Root:=⟨64,aV (bb false:: .nil::oT [.nil,.nil,.nil]) (Int.toNat (3:Int))⟩;let q7:Root:=(rI_3 (List.replicate (Int.toNat (160:Int)) (0:Int)));refine yt (sp 6 [(2,pp 0)]) [(0,some q5),(1,some q6),(2,some q7)] 3 (Aw.ent (Ent.foldM (c:=bG) (k:=Int.toNat (3:Int)) (d:=z2) (R:=1) (e:=64) (us2:=sp 6 [(2,pp 0)]) (H2:=[(0,some ⟨26,[.sref 2 [] 0 (List.length (List.replicate (Int.toNat (160:Int)) (0:Int))) 1,.sref 3 [] 0 (List.length (List.replicate (Int.toNat (3:Int)) z2)) 17]⟩),(2,some q7)]) (L:=[none,some none,none,none,none,none,none,none,none,none,none,none,none,none,some none,some none,some none]) (ws:=(bb false:: .own 3 1 0 []::oT [.own 66 3 0 [],.own 3 1 0 [],.own 3 1 0 []])) dd kr kr (aH (zT (aH (aH (aH (aH (aH (aH (aH (aH (aH (aH (aH (aH (zT (zT (zT uR))))))))))))))))) rfl (qC kr (fH (u:=pp 0) kr (.same _) uT)) (fN (t:=q5) rfl kr rfl (dG (.same _) (dG (.sref _ _ _ _ eqn) tH)) (fN (t:=q7) rfl kr rfl dL aBc))) (Aw.ret ?_));rw[bB hh];let q8:Root:=(rO64 (List.replicate (Int.toNat (3:Int)) z2));exact hY (r':= .agg [.sref 2 [] 0 (List.length (List.replicate (Int.toNat (160:Int)) (0:Int))) 1,.sref 3 [] 0 (List.length (List.replicate (Int.toNat (3:Int)) z2)) 17]) kr (Ent.list [some 2,some 3] rfl rfl (Nat.zero_le _) (eU (gY rz)) (hn cL (hn aW bE)))
noncomputable def g81:Sg tG:=⟨[.i .i64],.one (.st 2026),oY⟩
theorem s81:Sok 81 g81:=λx_none R_ hh=>kc (aNx (x_none:=x_none) hh)
noncomputable def aIw  (s5:(List Int)×(List Int)×Int×(List DGuest)):Option (Dl20Rd×DHost):=some ((Dl20Rd.mk s5.2.1 s5.2.2.1),DHost.mk s5.1 s5.2.2.2)
noncomputable def wW (x_n:Int)(s3:(List Int)×Int×(List Int)×(List DGuest))(s4:(List Int)×Int×(List DGuest)):Option (Dl20Rd×DHost):=
 Option.bind (Option.bind (bY (Dl20Rd.mk s4.1 s4.2.1) x_n) λv6=>
  cond v6.2
   (Option.bind (aA v6.1 (4:Int)) λv7=>
   cond (decide (v7.2=(0:Int)))
    (Option.bind (aA v7.1 (9:Int)) λv8=>
    grd ((0:Int)<=v8.2/\v8.2<((List.length s3.2.2.1:Nat):Int)) (some (.go ((List.set s3.2.2.1 (Int.toNat v8.2) (4096:Int)),v8.1.b,v8.1.p,s4.2.2))))
    (cond (decide (v7.2=(1:Int)))
     (grd ((0:Int)<=(0:Int)/\(0:Int)<=(2:Int)/\(2:Int)<=((List.length s4.2.2:Nat):Int)) (some (.go (s3.2.2.1,v7.1.b,v7.1.p,List.take (Int.toNat (2:Int)-Int.toNat (0:Int)) s4.2.2))))
     (cond (decide (v7.2=(2:Int)))
      (grd ((0:Int)<=(2:Int)/\(2:Int)<((List.length s4.2.2:Nat):Int)) (some (.go (s3.2.2.1,v7.1.b,v7.1.p,List.set s4.2.2 2 (DGuest.mk false (DCore.mk ([]:List Int) (0:Int) (0:Int) (0:Int) (0:Int) false (0:Int) (0:Int) (0:Int) false false false false) ([]:List DSlot) ([(1:Int)]:List Int) ([]:List Int))))))
      (grd ((0:Int)<=(0:Int)/\(0:Int)<((List.length s4.2.2:Nat):Int)) (some (.go (s3.2.2.1,v7.1.b,v7.1.p,List.set s4.2.2 0 (DGuest.mk (List.getD s4.2.2 0 default).Live (List.getD s4.2.2 0 default).C ([DSlot.mk (3:Int) true false,DSlot.mk (3:Int) false false]:List DSlot) (List.getD s4.2.2 0 default).In (List.getD s4.2.2 0 default).Out))))))))
   (some (.go (s3.2.2.1,v6.1.b,v6.1.p,s4.2.2)))) λj5=>
  JO.run j5 aIw
noncomputable def wF (s10:(List Int)×Int×(List DGuest)×Int)(s11:(List Int)×Int×(List DGuest)):Option (LO ((List Int)×Int×(List DGuest)×Int) (JO ((List Int)×Int×(List DGuest)) (Dl20Rd×DHost))):=some (.next (s11.1,s11.2.1,s11.2.2,w64 (s10.2.2.2-(1:Int))))
noncomputable def oG  (s10:(List Int)×Int×(List DGuest)×Int):Option (LO ((List Int)×Int×(List DGuest)×Int) (JO ((List Int)×Int×(List DGuest)) (Dl20Rd×DHost))):=
 cond (decide ((0:Int)<s10.2.2.2))
  (Option.bind (Option.bind (aA (Dl20Rd.mk s10.1 s10.2.1) (3:Int)) λv12=>
   Option.bind (aA v12.1 (3:Int)) λv13=>
   Option.bind (aA v13.1 (8:Int)) λv14=>
   grd ((0:Int)<=v12.2/\v12.2<((List.length s10.2.2.1:Nat):Int)) (cond (List.getD s10.2.2.1 (Int.toNat v12.2) default).Live
    (grd ((0:Int)<=v13.2/\v13.2<((List.length s10.2.2.1:Nat):Int)) (cond (List.getD s10.2.2.1 (Int.toNat v13.2) default).Live
     (grd ((0:Int)<=v12.2/\v12.2<((List.length s10.2.2.1:Nat):Int)) (grd ((0:Int)<=v14.2/\v14.2<((List.length (List.getD s10.2.2.1 (Int.toNat v12.2) default).Pages:Nat):Int)) (cond (decide ((0:Int)<=(List.getD (List.getD s10.2.2.1 (Int.toNat v12.2) default).Pages (Int.toNat v14.2) default).Frame))
      (grd ((0:Int)<=v12.2/\v12.2<((List.length s10.2.2.1:Nat):Int)) (grd ((0:Int)<=v14.2/\v14.2<((List.length (List.getD s10.2.2.1 (Int.toNat v12.2) default).Pages:Nat):Int)) (grd ((0:Int)<=v13.2/\v13.2<((List.length s10.2.2.1:Nat):Int)) (Option.bind (aA v14.1 (8:Int)) λv15=>
       grd ((0:Int)<=v12.2/\v12.2<((List.length s10.2.2.1:Nat):Int)) (grd ((0:Int)<=v14.2/\v14.2<((List.length (List.getD (List.set s10.2.2.1 (Int.toNat v12.2) (DGuest.mk (List.getD s10.2.2.1 (Int.toNat v12.2) default).Live (List.getD s10.2.2.1 (Int.toNat v12.2) default).C (List.set (List.getD s10.2.2.1 (Int.toNat v12.2) default).Pages (Int.toNat v14.2) (DSlot.mk (List.getD (List.getD s10.2.2.1 (Int.toNat v12.2) default).Pages (Int.toNat v14.2) default).Frame false (List.getD (List.getD s10.2.2.1 (Int.toNat v12.2) default).Pages (Int.toNat v14.2) default).Dirty)) (List.getD s10.2.2.1 (Int.toNat v12.2) default).In (List.getD s10.2.2.1 (Int.toNat v12.2) default).Out)) (Int.toNat v12.2) default).Pages:Nat):Int)) (Option.bind (aA v15.1 (2:Int)) λv16=>
        grd ((0:Int)<=v15.2/\v15.2<((List.length (List.getD (List.set s10.2.2.1 (Int.toNat v12.2) (DGuest.mk (List.getD s10.2.2.1 (Int.toNat v12.2) default).Live (List.getD s10.2.2.1 (Int.toNat v12.2) default).C (List.set (List.getD s10.2.2.1 (Int.toNat v12.2) default).Pages (Int.toNat v14.2) (DSlot.mk (List.getD (List.getD s10.2.2.1 (Int.toNat v12.2) default).Pages (Int.toNat v14.2) default).Frame false (List.getD (List.getD s10.2.2.1 (Int.toNat v12.2) default).Pages (Int.toNat v14.2) default).Dirty)) (List.getD s10.2.2.1 (Int.toNat v12.2) default).In (List.getD s10.2.2.1 (Int.toNat v12.2) default).Out)) (Int.toNat v13.2) default).Pages:Nat):Int)) (some (.go (v16.1.b,v16.1.p,List.set (List.set s10.2.2.1 (Int.toNat v12.2) (DGuest.mk (List.getD s10.2.2.1 (Int.toNat v12.2) default).Live (List.getD s10.2.2.1 (Int.toNat v12.2) default).C (List.set (List.getD s10.2.2.1 (Int.toNat v12.2) default).Pages (Int.toNat v14.2) (DSlot.mk (List.getD (List.getD s10.2.2.1 (Int.toNat v12.2) default).Pages (Int.toNat v14.2) default).Frame false (List.getD (List.getD s10.2.2.1 (Int.toNat v12.2) default).Pages (Int.toNat v14.2) default).Dirty)) (List.getD s10.2.2.1 (Int.toNat v12.2) default).In (List.getD s10.2.2.1 (Int.toNat v12.2) default).Out)) (Int.toNat v13.2) (DGuest.mk (List.getD (List.set s10.2.2.1 (Int.toNat v12.2) (DGuest.mk (List.getD s10.2.2.1 (Int.toNat v12.2) default).Live (List.getD s10.2.2.1 (Int.toNat v12.2) default).C (List.set (List.getD s10.2.2.1 (Int.toNat v12.2) default).Pages (Int.toNat v14.2) (DSlot.mk (List.getD (List.getD s10.2.2.1 (Int.toNat v12.2) default).Pages (Int.toNat v14.2) default).Frame false (List.getD (List.getD s10.2.2.1 (Int.toNat v12.2) default).Pages (Int.toNat v14.2) default).Dirty)) (List.getD s10.2.2.1 (Int.toNat v12.2) default).In (List.getD s10.2.2.1 (Int.toNat v12.2) default).Out)) (Int.toNat v13.2) default).Live (List.getD (List.set s10.2.2.1 (Int.toNat v12.2) (DGuest.mk (List.getD s10.2.2.1 (Int.toNat v12.2) default).Live (List.getD s10.2.2.1 (Int.toNat v12.2) default).C (List.set (List.getD s10.2.2.1 (Int.toNat v12.2) default).Pages (Int.toNat v14.2) (DSlot.mk (List.getD (List.getD s10.2.2.1 (Int.toNat v12.2) default).Pages (Int.toNat v14.2) default).Frame false (List.getD (List.getD s10.2.2.1 (Int.toNat v12.2) default).Pages (Int.toNat v14.2) default).Dirty)) (List.getD s10.2.2.1 (Int.toNat v12.2) default).In (List.getD s10.2.2.1 (Int.toNat v12.2) default).Out)) (Int.toNat v13.2) default).C (List.set (List.getD (List.set s10.2.2.1 (Int.toNat v12.2) (DGuest.mk (List.getD s10.2.2.1 (Int.toNat v12.2) default).Live (List.getD s10.2.2.1 (Int.toNat v12.2) default).C (List.set (List.getD s10.2.2.1 (Int.toNat v12.2) default).Pages (Int.toNat v14.2) (DSlot.mk (List.getD (List.getD s10.2.2.1 (Int.toNat v12.2) default).Pages (Int.toNat v14.2) default).Frame false (List.getD (List.getD s10.2.2.1 (Int.toNat v12.2) default).Pages (Int.toNat v14.2) default).Dirty)) (List.getD s10.2.2.1 (Int.toNat v12.2) default).In (List.getD s10.2.2.1 (Int.toNat v12.2) default).Out)) (Int.toNat v13.2) default).Pages (Int.toNat v15.2) (DSlot.mk (List.getD (List.getD (List.set s10.2.2.1 (Int.toNat v12.2) (DGuest.mk (List.getD s10.2.2.1 (Int.toNat v12.2) default).Live (List.getD s10.2.2.1 (Int.toNat v12.2) default).C (List.set (List.getD s10.2.2.1 (Int.toNat v12.2) default).Pages (Int.toNat v14.2) (DSlot.mk (List.getD (List.getD s10.2.2.1 (Int.toNat v12.2) default).Pages (Int.toNat v14.2) default).Frame false (List.getD (List.getD s10.2.2.1 (Int.toNat v12.2) default).Pages (Int.toNat v14.2) default).Dirty)) (List.getD s10.2.2.1 (Int.toNat v12.2) default).In (List.getD s10.2.2.1 (Int.toNat v12.2) default).Out)) (Int.toNat v12.2) default).Pages (Int.toNat v14.2) default).Frame false (decide (v16.2=(0:Int))))) (List.getD (List.set s10.2.2.1 (Int.toNat v12.2) (DGuest.mk (List.getD s10.2.2.1 (Int.toNat v12.2) default).Live (List.getD s10.2.2.1 (Int.toNat v12.2) default).C (List.set (List.getD s10.2.2.1 (Int.toNat v12.2) default).Pages (Int.toNat v14.2) (DSlot.mk (List.getD (List.getD s10.2.2.1 (Int.toNat v12.2) default).Pages (Int.toNat v14.2) default).Frame false (List.getD (List.getD s10.2.2.1 (Int.toNat v12.2) default).Pages (Int.toNat v14.2) default).Dirty)) (List.getD s10.2.2.1 (Int.toNat v12.2) default).In (List.getD s10.2.2.1 (Int.toNat v12.2) default).Out)) (Int.toNat v13.2) default).In (List.getD (List.set s10.2.2.1 (Int.toNat v12.2) (DGuest.mk (List.getD s10.2.2.1 (Int.toNat v12.2) default).Live (List.getD s10.2.2.1 (Int.toNat v12.2) default).C (List.set (List.getD s10.2.2.1 (Int.toNat v12.2) default).Pages (Int.toNat v14.2) (DSlot.mk (List.getD (List.getD s10.2.2.1 (Int.toNat v12.2) default).Pages (Int.toNat v14.2) default).Frame false (List.getD (List.getD s10.2.2.1 (Int.toNat v12.2) default).Pages (Int.toNat v14.2) default).Dirty)) (List.getD s10.2.2.1 (Int.toNat v12.2) default).In (List.getD s10.2.2.1 (Int.toNat v12.2) default).Out)) (Int.toNat v13.2) default).Out))))))))))
      (some (.go (v14.1.b,v14.1.p,s10.2.2.1))))))
     (some (.go (v14.1.b,v14.1.p,s10.2.2.1)))))
    (some (.go (v14.1.b,v14.1.p,s10.2.2.1))))) λj11=>
   JO.run j11 (wF s10))
  (some (.ret (.go (s10.1,s10.2.1,s10.2.2.1))))
noncomputable def wX (x_n:Int)(s3:(List Int)×Int×(List Int)×(List DGuest)):Option (Dl20Rd×DHost):=
 Option.bind (Option.bind (aA (Dl20Rd.mk s3.1 s3.2.1) (4:Int)) λv9=>
  Option.bind (iter oG (v9.1.b,v9.1.p,s3.2.2.2,v9.2)) LO.val) λj4=>
  JO.run j4 (wW x_n s3)
noncomputable def vH (s18:(List Int)×Int×(List Int)×(List DGuest)×(List Int)×Int×Int×Int×Int×Bool×Int×Int×Int×Bool×Bool×Bool×Bool×(List Int)×(List Int)×(List Int)×Int)(s19:(List Int)×Int×(List Int)×(List DGuest)×(List Int)×Int×Int×Int×Int×Bool×Int×Int×Int×Bool×Bool×Bool×Bool×(List Int)×(List Int)×(List Int)):Option (LO ((List Int)×Int×(List Int)×(List DGuest)×(List Int)×Int×Int×Int×Int×Bool×Int×Int×Int×Bool×Bool×Bool×Bool×(List Int)×(List Int)×(List Int)×Int) (JO ((List Int)×Int×(List Int)×(List DGuest)) (Dl20Rd×DHost))):=some (.next (s19.1,s19.2.1,s19.2.2.1,s19.2.2.2.1,s19.2.2.2.2.1,s19.2.2.2.2.2.1,s19.2.2.2.2.2.2.1,s19.2.2.2.2.2.2.2.1,s19.2.2.2.2.2.2.2.2.1,s19.2.2.2.2.2.2.2.2.2.1,s19.2.2.2.2.2.2.2.2.2.2.1,s19.2.2.2.2.2.2.2.2.2.2.2.1,s19.2.2.2.2.2.2.2.2.2.2.2.2.1,s19.2.2.2.2.2.2.2.2.2.2.2.2.2.1,s19.2.2.2.2.2.2.2.2.2.2.2.2.2.2.1,s19.2.2.2.2.2.2.2.2.2.2.2.2.2.2.2.1,s19.2.2.2.2.2.2.2.2.2.2.2.2.2.2.2.2.1,s19.2.2.2.2.2.2.2.2.2.2.2.2.2.2.2.2.2.1,s19.2.2.2.2.2.2.2.2.2.2.2.2.2.2.2.2.2.2.1,s19.2.2.2.2.2.2.2.2.2.2.2.2.2.2.2.2.2.2.2,w64 (s18.2.2.2.2.2.2.2.2.2.2.2.2.2.2.2.2.2.2.2.2-(1:Int))))
noncomputable def vS (s18:(List Int)×Int×(List Int)×(List DGuest)×(List Int)×Int×Int×Int×Int×Bool×Int×Int×Int×Bool×Bool×Bool×Bool×(List Int)×(List Int)×(List Int)×Int)(v20:Dl20Rd×DBare)(s21:(List Int)×Int×(List Int)):Option (JO ((List Int)×Int×(List Int)×(List DGuest)×(List Int)×Int×Int×Int×Int×Bool×Int×Int×Int×Bool×Bool×Bool×Bool×(List Int)×(List Int)×(List Int)) (LO ((List Int)×Int×(List Int)×(List DGuest)×(List Int)×Int×Int×Int×Int×Bool×Int×Int×Int×Bool×Bool×Bool×Bool×(List Int)×(List Int)×(List Int)×Int) (JO ((List Int)×Int×(List Int)×(List DGuest)) (Dl20Rd×DHost)))):=
 Option.bind (nF (DHost.mk s18.2.2.1 s18.2.2.2.1) (DBare.mk v20.2.C s21.2.2 v20.2.In v20.2.Out)) λv22=>
 cond v22.2.2
  (some (.go (s21.1,s21.2.1,v22.1.Words,v22.1.Guests,v20.2.C.Regs,v20.2.C.Pc,v20.2.C.Root,v20.2.C.Vector,v20.2.C.Saved,v20.2.C.SavedUser,v20.2.C.Cause,v20.2.C.Bad,v20.2.C.Timer,v20.2.C.Waits,v20.2.C.User,v20.2.C.On,v20.2.C.Stopped,s21.2.2,v20.2.In,v20.2.Out)))
  (some (.go (s21.1,s21.2.1,s18.2.2.1,s18.2.2.2.1,v20.2.C.Regs,v20.2.C.Pc,v20.2.C.Root,v20.2.C.Vector,v20.2.C.Saved,v20.2.C.SavedUser,v20.2.C.Cause,v20.2.C.Bad,v20.2.C.Timer,v20.2.C.Waits,v20.2.C.User,v20.2.C.On,v20.2.C.Stopped,s21.2.2,v20.2.In,v20.2.Out)))
noncomputable def vV (s23:(List Int)×Int×(List Int)×Int)(s24:(List Int)×Int×(List Int)):Option (LO ((List Int)×Int×(List Int)×Int) (JO ((List Int)×Int×(List Int)) (JO ((List Int)×Int×(List Int)×(List DGuest)×(List Int)×Int×Int×Int×Int×Bool×Int×Int×Int×Bool×Bool×Bool×Bool×(List Int)×(List Int)×(List Int)) (LO ((List Int)×Int×(List Int)×(List DGuest)×(List Int)×Int×Int×Int×Int×Bool×Int×Int×Int×Bool×Bool×Bool×Bool×(List Int)×(List Int)×(List Int)×Int) (JO ((List Int)×Int×(List Int)×(List DGuest)) (Dl20Rd×DHost)))))):=some (.next (s24.1,s24.2.1,s24.2.2,w64 (s23.2.2.2+(1:Int))))
noncomputable def vM (s18:(List Int)×Int×(List Int)×(List DGuest)×(List Int)×Int×Int×Int×Int×Bool×Int×Int×Int×Bool×Bool×Bool×Bool×(List Int)×(List Int)×(List Int)×Int)(s23:(List Int)×Int×(List Int)×Int)(s25:(List Int)×Int×(List Int)):Option (JO ((List Int)×Int×(List Int)) (LO ((List Int)×Int×(List Int)×Int) (JO ((List Int)×Int×(List Int)) (JO ((List Int)×Int×(List Int)×(List DGuest)×(List Int)×Int×Int×Int×Int×Bool×Int×Int×Int×Bool×Bool×Bool×Bool×(List Int)×(List Int)×(List Int)) (LO ((List Int)×Int×(List Int)×(List DGuest)×(List Int)×Int×Int×Int×Int×Bool×Int×Int×Int×Bool×Bool×Bool×Bool×(List Int)×(List Int)×(List Int)×Int) (JO ((List Int)×Int×(List Int)×(List DGuest)) (Dl20Rd×DHost))))))):=
 cond (decide ((0:Int)<((List.length s18.2.2.2.2.2.2.2.2.2.2.2.2.2.2.2.2.2.1:Nat):Int)))
  (Option.bind (aA (Dl20Rd.mk s25.1 s25.2.1) (3:Int)) λv26=>
  cond (decide (v26.2=(0:Int)))
   (grd ((0:Int)<=(w64 (s23.2.2.2*(8:Int)))/\(w64 (s23.2.2.2*(8:Int)))<=(w64 ((w64 (s23.2.2.2+(1:Int)))*(8:Int)))/\(w64 ((w64 (s23.2.2.2+(1:Int)))*(8:Int)))<=((List.length s25.2.2:Nat):Int)) (grd ((0:Int)<=(w64 (s23.2.2.2*(8:Int)))/\(w64 (s23.2.2.2*(8:Int)))<=((List.length s18.2.2.2.2.2.2.2.2.2.2.2.2.2.2.2.2.2.1:Nat):Int)/\((List.length s18.2.2.2.2.2.2.2.2.2.2.2.2.2.2.2.2.2.1:Nat):Int)<=((List.length s18.2.2.2.2.2.2.2.2.2.2.2.2.2.2.2.2.2.1:Nat):Int)) (some (.go (v26.1.b,v26.1.p,over s25.2.2 (Int.toNat (w64 (s23.2.2.2*(8:Int)))) (Int.toNat (w64 ((w64 (s23.2.2.2+(1:Int)))*(8:Int)))-Int.toNat (w64 (s23.2.2.2*(8:Int)))) (List.take (Int.toNat ((List.length s18.2.2.2.2.2.2.2.2.2.2.2.2.2.2.2.2.2.1:Nat):Int)-Int.toNat (w64 (s23.2.2.2*(8:Int)))) (List.drop (Int.toNat (w64 (s23.2.2.2*(8:Int)))) s18.2.2.2.2.2.2.2.2.2.2.2.2.2.2.2.2.2.1)))))))
   (some (.go (v26.1.b,v26.1.p,s25.2.2))))
  (some (.go (s25.1,s25.2.1,s25.2.2)))
noncomputable def nY (s18:(List Int)×Int×(List Int)×(List DGuest)×(List Int)×Int×Int×Int×Int×Bool×Int×Int×Int×Bool×Bool×Bool×Bool×(List Int)×(List Int)×(List Int)×Int)(s23:(List Int)×Int×(List Int)×Int):Option (LO ((List Int)×Int×(List Int)×Int) (JO ((List Int)×Int×(List Int)) (JO ((List Int)×Int×(List Int)×(List DGuest)×(List Int)×Int×Int×Int×Int×Bool×Int×Int×Int×Bool×Bool×Bool×Bool×(List Int)×(List Int)×(List Int)) (LO ((List Int)×Int×(List Int)×(List DGuest)×(List Int)×Int×Int×Int×Int×Bool×Int×Int×Int×Bool×Bool×Bool×Bool×(List Int)×(List Int)×(List Int)×Int) (JO ((List Int)×Int×(List Int)×(List DGuest)) (Dl20Rd×DHost)))))):=
 cond (decide (s23.2.2.2<(8:Int)))
  (Option.bind (Option.bind (cond (decide ((3:Int)<s23.2.2.2))
   (Option.bind (aA (Dl20Rd.mk s23.1 s23.2.1) (2:Int)) λv27=>
   cond (decide (v27.2=(0:Int)))
    (grd ((0:Int)<=(w64 (s23.2.2.2*(8:Int)))/\(w64 (s23.2.2.2*(8:Int)))<=((List.length s23.2.2.1:Nat):Int)/\((List.length s23.2.2.1:Nat):Int)<=((List.length s23.2.2.1:Nat):Int)) (some (.go (v27.1.b,v27.1.p,over s23.2.2.1 (Int.toNat (w64 (s23.2.2.2*(8:Int)))) (Int.toNat ((List.length s23.2.2.1:Nat):Int)-Int.toNat (w64 (s23.2.2.2*(8:Int)))) (List.replicate (Int.toNat (8:Int)) (0:Int))))))
    (some (.go (v27.1.b,v27.1.p,s23.2.2.1))))
   (some (.go (s23.1,s23.2.1,s23.2.2.1)))) λj25=>
   JO.run j25 (vM s18 s23)) λj24=>
   JO.run j24 (vV s23))
  (some (.ret (.go (s23.1,s23.2.1,s23.2.2.1))))
noncomputable def nZ  (s18:(List Int)×Int×(List Int)×(List DGuest)×(List Int)×Int×Int×Int×Int×Bool×Int×Int×Int×Bool×Bool×Bool×Bool×(List Int)×(List Int)×(List Int)×Int):Option (LO ((List Int)×Int×(List Int)×(List DGuest)×(List Int)×Int×Int×Int×Int×Bool×Int×Int×Int×Bool×Bool×Bool×Bool×(List Int)×(List Int)×(List Int)×Int) (JO ((List Int)×Int×(List Int)×(List DGuest)) (Dl20Rd×DHost))):=
 cond (decide ((0:Int)<s18.2.2.2.2.2.2.2.2.2.2.2.2.2.2.2.2.2.2.2.2))
  (Option.bind (Option.bind (oQ (Dl20Rd.mk s18.1 s18.2.1) (0:Int)) λv20=>
   Option.bind (Option.bind (iter (nY s18) (v20.1.b,v20.1.p,v20.2.Mem,(0:Int))) LO.val) λj21=>
    JO.run j21 (vS s18 v20)) λj19=>
   JO.run j19 (vH s18))
  (some (.ret (.go (s18.1,s18.2.1,s18.2.2.1,s18.2.2.2.1))))
noncomputable def xH (x_n:Int)(v1:DHost)(s2:(List Int)×Int×(List Int)):Option (Dl20Rd×DHost):=
 Option.bind (Option.bind (aA (Dl20Rd.mk s2.1 s2.2.1) (3:Int)) λv17=>
  Option.bind (iter nZ (v17.1.b,v17.1.p,s2.2.2,v1.Guests,([]:List Int),(0:Int),(0:Int),(0:Int),(0:Int),false,(0:Int),(0:Int),(0:Int),false,false,false,false,([]:List Int),([]:List Int),([]:List Int),w64 ((1:Int)+v17.2))) LO.val) λj3=>
  JO.run j3 (wX x_n)
noncomputable def vN (s28:(List Int)×Int×(List Int)×Int)(s29:(List Int)×Int×(List Int)):Option (LO ((List Int)×Int×(List Int)×Int) (JO ((List Int)×Int×(List Int)) (Dl20Rd×DHost))):=some (.next (s29.1,s29.2.1,s29.2.2,w64 (s28.2.2.2+(1:Int))))
noncomputable def nP  (s28:(List Int)×Int×(List Int)×Int):Option (LO ((List Int)×Int×(List Int)×Int) (JO ((List Int)×Int×(List Int)) (Dl20Rd×DHost))):=
 cond (decide (s28.2.2.2<((List.length s28.2.2.1:Nat):Int)))
  (Option.bind (Option.bind (aA (Dl20Rd.mk s28.1 s28.2.1) (4:Int)) λv30=>
   cond (decide (v30.2=(0:Int)))
    (Option.bind (dA v30.1) λv31=>
    grd ((0:Int)<=s28.2.2.2/\s28.2.2.2<((List.length s28.2.2.1:Nat):Int)) (some (.go (v31.1.b,v31.1.p,List.set s28.2.2.1 (Int.toNat s28.2.2.2) v31.2))))
    (some (.go (v30.1.b,v30.1.p,s28.2.2.1)))) λj29=>
   JO.run j29 (vN s28))
  (some (.ret (.go (s28.1,s28.2.1,s28.2.2.1))))
noncomputable def lQ (x_r:Dl20Rd)(x_n:Int):Option (Dl20Rd×DHost):=
 Option.bind (oY (0:Int)) λv1=>
 Option.bind (Option.bind (iter nP (x_r.b,x_r.p,v1.Words,(0:Int))) LO.val) λj2=>
  JO.run j2 (xH x_n v1)
noncomputable def g36:Sw tG:=⟨[.pt 109,.v (.i .i64)],.one (.st 2026),lQ⟩
theorem s36:Sjk 36 g36:=sgy [(81,.r g81),(72,.w g72),(82,.w g82),(83,.w g83),(84,.r g84),(75,.w g75)] ⟨s81,s72,s82,s83,s84,s75,trivial⟩ (.s .o (.s .o (.j ⟨[0,1,4,5],[],[(.c 0 0,.rb 5),(.c 0 1,.i .i64),(.c 5 0,.ro 3)]⟩ (.s .o (.k (.l ⟨[0,1,4,5],[],[(.c 0 0,.rb 5),(.c 0 1,.i .i64),(.c 5 0,.ro 3),(.s 6,.i .i64)]⟩ (.s .o (.j ⟨[0,1,4,5,6],[],[(.c 0 0,.rb 5),(.c 0 1,.i .i64),(.c 5 0,.ro 3)]⟩ (.k (.s .o (.c (.m [0]) .o))) .o))))) (.s .o (.j ⟨[0,1,4,5],[],[(.c 0 0,.rb 5),(.c 0 1,.i .i64),(.c 5 0,.ro 3),(.c 5 1,.ro 1064)]⟩ (.s .o (.k (.l ⟨[0,1,4,5,7],[],[(.c 0 0,.rb 5),(.c 0 1,.i .i64),(.c 5 0,.ro 3),(.c 5 1,.ro 1064),(.c 7 0,.ro 3),(.c 7 1,.i .i64),(.c 7 2,.i .i64),(.c 7 3,.i .i64),(.c 7 4,.i .i64),(.c 7 5,.b),(.c 7 6,.i .i64),(.c 7 7,.i .i64),(.c 7 8,.i .i64),(.c 7 9,.b),(.c 7 10,.b),(.c 7 11,.b),(.c 7 12,.b),(.c 7 13,.ro 3),(.c 7 14,.ro 3),(.c 7 15,.ro 3),(.s 8,.i .i64)]⟩ (.s .o (.j ⟨[0,1,4,5,7,8],[],[(.c 0 0,.rb 5),(.c 0 1,.i .i64),(.c 5 0,.ro 3),(.c 5 1,.ro 1064),(.c 7 0,.ro 3),(.c 7 1,.i .i64),(.c 7 2,.i .i64),(.c 7 3,.i .i64),(.c 7 4,.i .i64),(.c 7 5,.b),(.c 7 6,.i .i64),(.c 7 7,.i .i64),(.c 7 8,.i .i64),(.c 7 9,.b),(.c 7 10,.b),(.c 7 11,.b),(.c 7 12,.b),(.c 7 13,.ro 3),(.c 7 14,.ro 3),(.c 7 15,.ro 3)]⟩ (.k (.s .o (.j ⟨[0,1,4,5,7,8,9],[],[(.c 0 0,.rb 5),(.c 0 1,.i .i64),(.c 9 13,.ro 3)]⟩ (.s .o (.k (.l ⟨[0,1,4,5,7,8,9],[],[(.c 0 0,.rb 5),(.c 0 1,.i .i64),(.c 9 13,.ro 3),(.s 10,.i .i64)]⟩ (.s .o (.j ⟨[0,1,4,5,7,8,9,10],[],[(.c 0 0,.rb 5),(.c 0 1,.i .i64),(.c 9 13,.ro 3)]⟩ (.k (.j ⟨[0,1,4,5,7,8,9,10],[],[(.c 0 0,.rb 5),(.c 0 1,.i .i64),(.c 9 13,.ro 3)]⟩ .o .o)) .o))))) .o))) .o))))) (.j ⟨[0,1,4,5],[],[(.c 0 0,.rb 5),(.c 0 1,.i .i64),(.c 5 1,.ro 1064)]⟩ (.s .o (.k (.l ⟨[0,1,4,5],[],[(.c 0 0,.rb 5),(.c 0 1,.i .i64),(.c 5 1,.ro 1064),(.s 14,.i .i64)]⟩ (.s .o (.j ⟨[0,1,4,5,14],[],[(.c 0 0,.rb 5),(.c 0 1,.i .i64),(.c 5 1,.ro 1064)]⟩ (.k (.s .o (.s .o (.s .o (.s .o (.c (.s .o (.m [0])) .o)))))) .o))))) (.j ⟨[4,5],[0],[(.c 5 0,.ro 3),(.d 0 0,.rb 5),(.d 0 1,.i .i64),(.c 5 1,.ro 1064)]⟩ (.s .o (.c (.s .o (.k (.s .o (.c (.m [0]) (.s .o (.c .o (.s .o (.c (.g [] [] [.fo (.c 5 1) 0]) (.g [] [] [.fo (.c 5 1) 0]))))))))) .o)) .o))))))) kr kr kr
noncomputable def aGh  (s1:Unit):Option Bool:=some true
noncomputable def aHb (x_a:List Int)(x_b:List Int)(s2:Int):Option (LO Int (JO Unit Bool)):=
 cond (decide (s2<((List.length x_a:Nat):Int)))
  (grd ((0:Int)<=s2/\s2<((List.length x_a:Nat):Int)) (grd ((0:Int)<=s2/\s2<((List.length x_b:Nat):Int)) (cond (!decide ((List.getD x_a (Int.toNat s2) default)=(List.getD x_b (Int.toNat s2) default)))
   (some (.ret (.out false)))
   (some (.next (w64 (s2+(1:Int))))))))
  (some (.ret (.go ())))
noncomputable def kU (x_a:List Int)(x_b:List Int):Option Bool:=
 cond (!decide (((List.length x_a:Nat):Int)=((List.length x_b:Nat):Int)))
  (some false)
  (Option.bind (Option.bind (iter (aHb x_a x_b) (0:Int)) LO.val) λj1=>
   JO.run j1 aGh)
noncomputable def g96:Sg tG:=⟨[.row 3,.row 3],.one .b,kU⟩
theorem s96:Sok 96 g96:=sgx [] trivial (.s .o (.s .o (.j ⟨[],[],[]⟩ (.s .o (.k (.l ⟨[0,1],[],[(.s 5,.i .i64)]⟩ .o))) .o))) kr kr kr
noncomputable def zW (x_a:DCore)(x_b:DCore):Option Bool:=
 Option.bind (kU x_a.Regs x_b.Regs) λv1=>
 cond (!v1)
  (some false)
  (cond (!decide (x_a.Pc=x_b.Pc))
   (some false)
   (cond (!decide (x_a.Root=x_b.Root))
    (some false)
    (cond (!decide (x_a.Vector=x_b.Vector))
     (some false)
     (cond (!decide (x_a.Saved=x_b.Saved))
      (some false)
      (cond (!(x_a.SavedUser==x_b.SavedUser))
       (some false)
       (cond (decide (x_a.Cause=x_b.Cause))
        (cond (decide (x_a.Bad=x_b.Bad))
         (cond (decide (x_a.Timer=x_b.Timer))
          (cond (x_a.Waits==x_b.Waits)
           (cond (x_a.User==x_b.User)
            (cond (x_a.On==x_b.On)
             (some (x_a.Stopped==x_b.Stopped))
             (some false))
            (some false))
           (some false))
          (some false))
         (some false))
        (some false)))))))
noncomputable def g99:Sg tG:=⟨[.st 61,.st 61],.one .b,zW⟩
theorem s99:Sok 99 g99:=sgx [(96,.r g96)] ⟨s96,trivial⟩ .o kr kr kr
noncomputable def aAn (x_a:DBare)(x_b:DBare):Option Bool:=
 Option.bind (zW x_a.C x_b.C) λv1=>
 cond v1
  (Option.bind (kU x_a.Mem x_b.Mem) λv2=>
  cond v2
   (Option.bind (kU x_a.In x_b.In) λv3=>
   cond v3
    (Option.bind (kU x_a.Out x_b.Out) λv4=>
    some v4)
    (some false))
   (some false))
  (some false)
noncomputable def g53:Sg tG:=⟨[.st 81,.st 81],.one .b,aAn⟩
theorem s53:Sok 53 g53:=sgx [(99,.r g99),(96,.r g96)] ⟨s99,s96,trivial⟩ .o kr kr kr
noncomputable def aFp  (s1:Unit):Option Bool:=some true
noncomputable def aFr (s2:Int)(s3:Unit):Option (LO Int (JO Unit Bool)):=some (.next (w64 (s2+(1:Int))))
noncomputable def aFe (x_a:DHost)(x_b:DHost)(x_but:Int)(s2:Int):Option (LO Int (JO Unit Bool)):=
 cond (decide (s2<(3:Int)))
  (Option.bind (Option.bind (tB x_a s2) λv4=>
   Option.bind (tB x_b s2) λv5=>
   cond (!decide (s2=x_but))
    (cond (!(v4.2==v5.2))
     (some (.out (.ret (.out false))))
     (Option.bind (aAn v4.1 v5.1) λv6=>
     cond (!v6)
      (some (.out (.ret (.out false))))
      (some (.go ()))))
    (some (.go ()))) λj3=>
   JO.run j3 (aFr s2))
  (some (.ret (.go ())))
noncomputable def aLg (x_a:DHost)(x_b:DHost)(x_but:Int):Option Bool:=
 Option.bind (Option.bind (iter (aFe x_a x_b x_but) (0:Int)) LO.val) λj1=>
  JO.run j1 aFp
noncomputable def g16:Sg tG:=⟨[.st 26,.st 26,.i .i64],.one .b,aLg⟩
theorem s16:Sok 16 g16:=sgx [(52,.r g52),(53,.r g53)] ⟨s52,s53,trivial⟩ (.s .o (.j ⟨[],[],[]⟩ (.s .o (.k (.l ⟨[2,3,4],[],[(.s 7,.i .i64)]⟩ (.s .o (.j ⟨[2,3,4,7],[],[]⟩ .o .o))))) .o)) kr kr kr
noncomputable def aKq (v1:Dl20Rd×DHost)(s2:(List Int)×Int×(List DGuest)):Option (Dl20Rd×DHost):=some ((Dl20Rd.mk s2.1 s2.2.1),DHost.mk v1.2.Words s2.2.2)
noncomputable def qF (x_r:Dl20Rd):Option (Dl20Rd×DHost):=
 Option.bind (lQ x_r (25:Int)) λv1=>
 Option.bind (cond (decide (((List.length v1.2.Guests:Nat):Int)=(3:Int)))
  (grd ((0:Int)<=(2:Int)/\(2:Int)<((List.length v1.2.Guests:Nat):Int)) (cond (List.getD v1.2.Guests 2 default).Live
   (Option.bind (aA v1.1 (5:Int)) λv3=>
   cond (decide ((0:Int)<v3.2))
    (grd ((0:Int)<=(2:Int)/\(2:Int)<((List.length v1.2.Guests:Nat):Int)) (some (.go (v3.1.b,v3.1.p,List.set v1.2.Guests 2 (DGuest.mk false (DCore.mk ([]:List Int) (0:Int) (0:Int) (0:Int) (0:Int) false (0:Int) (0:Int) (0:Int) false false false false) ([]:List DSlot) ([]:List Int) ([]:List Int))))))
    (some (.go (v3.1.b,v3.1.p,v1.2.Guests))))
   (some (.go (v1.1.b,v1.1.p,v1.2.Guests)))))
  (some (.go (v1.1.b,v1.1.p,v1.2.Guests)))) λj2=>
  JO.run j2 (aKq v1)
noncomputable def g37:Sw tG:=⟨[.pt 109],.one (.st 2026),qF⟩
theorem s37:Sjk 37 g37:=sgy [(36,.w g36),(72,.w g72)] ⟨s36,s72,trivial⟩ (.s .o (.s .o (.j ⟨[2,3],[0],[(.d 0 0,.rb 5),(.d 0 1,.i .i64),(.c 3 1,.ro 1064)]⟩ (.s .o (.c (.g [] [] [.fo (.c 3 1) 0]) .o)) .o))) kr kr kr
noncomputable def aAc  (s2:(List Int)×Int×Int):Option (Dl20Rd×Int):=
 Option.bind (aA (Dl20Rd.mk s2.1 s2.2.1) (25:Int)) λv3=>
 some (v3.1,w64 (s2.2.2-(w64 (Int.tdiv v3.2 (24:Int)))))
noncomputable def sY (x_r:Dl20Rd)(x_h:DHost):Option (Dl20Rd×Int):=
 Option.bind (aA x_r (3:Int)) λv1=>
 Option.bind (cond (decide (((List.length x_h.Guests:Nat):Int)=(3:Int)))
  (grd ((0:Int)<=v1.2/\v1.2<((List.length x_h.Guests:Nat):Int)) (cond (!(List.getD x_h.Guests (Int.toNat v1.2) default).Live)
   (Option.bind (aA v1.1 (6:Int)) λv4=>
   cond (decide ((0:Int)<v4.2))
    (some (.go (v4.1.b,v4.1.p,(0:Int))))
    (some (.go (v4.1.b,v4.1.p,v1.2))))
   (some (.go (v1.1.b,v1.1.p,v1.2)))))
  (some (.go (v1.1.b,v1.1.p,v1.2)))) λj2=>
  JO.run j2 aAc
noncomputable def g38:Sw tG:=⟨[.pt 109,.v (.st 26)],.one (.i .i64),sY⟩
theorem s38:Sjk 38 g38:=sgy [(72,.w g72)] ⟨s72,trivial⟩ (.s .o (.s .o (.j ⟨[0],[],[(.c 0 0,.rb 5),(.c 0 1,.i .i64),(.s 5,.i .i64)]⟩ .o .o))) kr kr kr
noncomputable def aGn  (s2:List DSlot):Option (List DSlot):=some s2
noncomputable def aGz (v1:List DSlot)(s3:(List DSlot)×Int):Option (LO ((List DSlot)×Int) (JO (List DSlot) (List DSlot))):=
 cond (decide (s3.2<((List.length v1:Nat):Int)))
  (grd ((0:Int)<=s3.2/\s3.2<((List.length s3.1:Nat):Int)) (some (.next ((List.set s3.1 (Int.toNat s3.2) (DSlot.mk (List.getD s3.1 (Int.toNat s3.2) default).Frame (List.getD s3.1 (Int.toNat s3.2) default).Write false)),w64 (s3.2+(1:Int))))))
  (some (.ret (.go s3.1)))
noncomputable def sX (x_pages:List DSlot):Option (List DSlot):=
 Option.bind (oK x_pages) λv1=>
 Option.bind (Option.bind (iter (aGz v1) (v1,(0:Int))) LO.val) λj2=>
  JO.run j2 aGn
noncomputable def g42:Sg tG:=⟨[.row 66],.one (.row 66),sX⟩
theorem s42:Sok 42 g42:=sgx [(90,.r g90)] ⟨s90,trivial⟩ (.s .o (.s .o (.j ⟨[],[],[(.s 3,.ro 66)]⟩ (.s .o (.k (.l ⟨[8],[],[(.s 3,.ro 66),(.s 9,.i .i64)]⟩ .o))) .o))) kr kr kr
theorem aMg{x_pages:List DSlot}{R_:(List DSlot)}(hh:sX x_pages=some R_):Fn Try.prog 42 [bo eV x_pages] (.own 66 3 (List.length R_) (fl eV R_)):=kc (s42 x_pages R_ hh)
noncomputable def mS (x_h:DHost)(x_g:Int)(x_at:Int):Option Int:=
 grd ((0:Int)<=x_g/\x_g<((List.length x_h.Guests:Nat):Int)) (grd ((0:Int)<=(w64 (Int.tdiv x_at (8:Int)))/\(w64 (Int.tdiv x_at (8:Int)))<((List.length (List.getD x_h.Guests (Int.toNat x_g) default).Pages:Nat):Int)) (cond (decide ((List.getD (List.getD x_h.Guests (Int.toNat x_g) default).Pages (Int.toNat (w64 (Int.tdiv x_at (8:Int)))) default).Frame<(0:Int)))
  (some (0:Int))
  (grd ((0:Int)<=(w64 ((w64 ((List.getD (List.getD x_h.Guests (Int.toNat x_g) default).Pages (Int.toNat (w64 (Int.tdiv x_at (8:Int)))) default).Frame*(8:Int)))+(Int.tmod x_at (8:Int))))/\(w64 ((w64 ((List.getD (List.getD x_h.Guests (Int.toNat x_g) default).Pages (Int.toNat (w64 (Int.tdiv x_at (8:Int)))) default).Frame*(8:Int)))+(Int.tmod x_at (8:Int))))<((List.length x_h.Words:Nat):Int)) (some (List.getD x_h.Words (Int.toNat (w64 ((w64 ((List.getD (List.getD x_h.Guests (Int.toNat x_g) default).Pages (Int.toNat (w64 (Int.tdiv x_at (8:Int)))) default).Frame*(8:Int)))+(Int.tmod x_at (8:Int))))) default)))))
noncomputable def g80:Sg tG:=⟨[.st 26,.i .i64,.i .i64],.one (.i .i64),mS⟩
theorem s80:Sok 80 g80:=sgx [] trivial .o kr kr kr
noncomputable def mD (x_w:Int):Option DEntry:=
 Option.bind (fI x_w) λv1=>
 cond (!v1)
  (some (DEntry.mk false false false (0:Int)))
  (some (DEntry.mk (decide ((Int.tmod x_w (2:Int))=(1:Int))) (decide ((Int.tmod (w64 (Int.tdiv x_w (2:Int))) (2:Int))=(1:Int))) (decide ((Int.tmod (w64 (Int.tdiv x_w (4:Int))) (2:Int))=(1:Int))) (Int.tmod (w64 (Int.tdiv x_w (8:Int))) (8:Int))))
noncomputable def bPe:Sg tG:=⟨[.i .i64],.one (.st 167),mD⟩
theorem bTu:Sok 146 bPe:=sgx [(117,.r aQd)] ⟨aVk,trivial⟩ .o kr kr kr
noncomputable def aHs  (s2:List DShade):Option (List DShade):=some s2
noncomputable def oC (x_h:DHost)(x_g:Int)(s3:(List DShade)×Int)(s4:Bool×Bool×Bool×Int):Option (LO ((List DShade)×Int) (JO (List DShade) (List DShade))):=grd ((0:Int)<=x_g/\x_g<((List.length x_h.Guests:Nat):Int)) (grd ((0:Int)<=s4.2.2.2/\s4.2.2.2<((List.length (List.getD x_h.Guests (Int.toNat x_g) default).Pages:Nat):Int)) (grd ((List.length s3.1+List.length ([DShade.mk s4.1 s4.2.1 s4.2.2.1 s4.2.2.2 (List.getD (List.getD x_h.Guests (Int.toNat x_g) default).Pages (Int.toNat s4.2.2.2) default).Frame (List.getD (List.getD x_h.Guests (Int.toNat x_g) default).Pages (Int.toNat s4.2.2.2) default).Write]:List DShade))*32<=2^47/\List.length s3.1+List.length ([DShade.mk s4.1 s4.2.1 s4.2.2.1 s4.2.2.2 (List.getD (List.getD x_h.Guests (Int.toNat x_g) default).Pages (Int.toNat s4.2.2.2) default).Frame (List.getD (List.getD x_h.Guests (Int.toNat x_g) default).Pages (Int.toNat s4.2.2.2) default).Write]:List DShade)<=2^47) (some (.next ((s3.1++([DShade.mk s4.1 s4.2.1 s4.2.2.1 s4.2.2.2 (List.getD (List.getD x_h.Guests (Int.toNat x_g) default).Pages (Int.toNat s4.2.2.2) default).Frame (List.getD (List.getD x_h.Guests (Int.toNat x_g) default).Pages (Int.toNat s4.2.2.2) default).Write]:List DShade)),w64 (s3.2+(1:Int)))))))
noncomputable def kO (x_h:DHost)(x_g:Int)(s3:(List DShade)×Int):Option (LO ((List DShade)×Int) (JO (List DShade) (List DShade))):=
 cond (decide (s3.2<(8:Int)))
  (Option.bind (grd ((0:Int)<=x_g/\x_g<((List.length x_h.Guests:Nat):Int)) (cond (decide ((0:Int)<=((List.getD x_h.Guests (Int.toNat x_g) default).C).Root))
   (Option.bind (mS x_h x_g (w64 ((w64 (((List.getD x_h.Guests (Int.toNat x_g) default).C).Root*(8:Int)))+s3.2))) λv5=>
   Option.bind (mD v5) λv6=>
   some (.go (v6.There,v6.Write,v6.User,v6.Page)))
   (some (.go (true,true,true,s3.2))))) λj4=>
   JO.run j4 (oC x_h x_g s3))
  (some (.ret (.go s3.1)))
noncomputable def fX (x_h:DHost)(x_g:Int):Option (List DShade):=
 Option.bind (cZ x_h x_g) λv1=>
 cond (!v1)
  (some ([]:List DShade))
  (Option.bind (Option.bind (iter (kO x_h x_g) (([]:List DShade),(0:Int))) LO.val) λj2=>
   JO.run j2 aHs)
noncomputable def bRj:Sg tG:=⟨[.st 26,.i .i64],.one (.row 164),fX⟩
theorem bSi:Sok 127 bRj:=sgx [(33,.r g33),(80,.r g80),(146,.r bPe)] ⟨s33,s80,bTu,trivial⟩ (.s .o (.s .o (.s .o (.j ⟨[],[],[(.s 5,.ro 164)]⟩ (.s .o (.k (.l ⟨[1,2],[],[(.s 5,.ro 164),(.s 6,.i .i64)]⟩ (.s .o (.s (.k (.s .o (.j ⟨[1,2,5,6,7],[],[(.c 7 0,.b),(.c 7 1,.b),(.c 7 2,.b),(.c 7 3,.i .i64)]⟩ .o .o))) .o))))) .o)))) kr kr kr
theorem aLy{x_h:DHost}{x_g:Int}{R_:(List DShade)}(hh:fX x_h x_g=some R_):Fn Try.prog 127 [.agg (eD x_h),.int .i64 x_g] (.own 164 6 (List.length R_) (fl nE R_)):=kc (bSi x_h x_g R_ hh)
noncomputable def fL (x_words:List Int)(x_s:DSlot):Option (List Int):=
 cond (decide (x_s.Frame=(-1:Int)))
  (some (List.replicate (Int.toNat (8:Int)) (0:Int)))
  (Option.bind (kD x_words x_s.Frame) λv1=>
  some v1)
noncomputable def g78:Sg tG:=⟨[.row 3,.st 66],.one (.rb 3),fL⟩
theorem s78:Sok 78 g78:=sgx [(108,.r bQp)] ⟨bRw,trivial⟩ .o kr kr kr
noncomputable def lG (x_h:DHost):Option DHost:=
 Option.bind (fF x_h.Words) λv1=>
 Option.bind (nC x_h.Guests) λv2=>
 some (DHost.mk v1 v2)
noncomputable def g41:Sg tG:=⟨[.st 26],.one (.st 2026),lG⟩
theorem s41:Sok 41 g41:=sgx [(88,.r g88),(89,.r g89)] ⟨s88,s89,trivial⟩ .o kr kr kr
theorem aGv{x_h:DHost}{R_:DHost}(hh:lG x_h=some R_):Fn Try.prog 41 [.agg (eD x_h)] (.agg [.own 3 1 (List.length R_.Words) (fl (eI .i64) R_.Words),.own 64 17 (List.length R_.Guests) (fl bG R_.Guests)]):=kc (s41 x_h R_ hh)
noncomputable def kQ (x_h:DHost)(x_g:Int)(x_page:Int)(v3:DHost)(s4:(List Int)×Int):Option (DHost×Bool):=grd ((0:Int)<=x_g/\x_g<((List.length v3.Guests:Nat):Int)) (grd ((0:Int)<=x_page/\x_page<((List.length (List.getD v3.Guests (Int.toNat x_g) default).Pages:Nat):Int)) (some ((DHost.mk s4.1 (List.set v3.Guests (Int.toNat x_g) (DGuest.mk (List.getD v3.Guests (Int.toNat x_g) default).Live (DCore.mk ((List.getD v3.Guests (Int.toNat x_g) default).C).Regs ((List.getD v3.Guests (Int.toNat x_g) default).C).Pc ((List.getD v3.Guests (Int.toNat x_g) default).C).Root ((List.getD v3.Guests (Int.toNat x_g) default).C).Vector ((List.getD v3.Guests (Int.toNat x_g) default).C).Saved ((List.getD v3.Guests (Int.toNat x_g) default).C).SavedUser ((List.getD v3.Guests (Int.toNat x_g) default).C).Cause ((List.getD v3.Guests (Int.toNat x_g) default).C).Bad ((List.getD v3.Guests (Int.toNat x_g) default).C).Timer ((List.getD v3.Guests (Int.toNat x_g) default).C).Waits ((List.getD v3.Guests (Int.toNat x_g) default).C).User ((List.getD v3.Guests (Int.toNat x_g) default).C).On ((List.getD v3.Guests (Int.toNat x_g) default).C).Stopped) (List.set (List.getD v3.Guests (Int.toNat x_g) default).Pages (Int.toNat x_page) (DSlot.mk s4.2 true (List.getD (List.getD x_h.Guests (Int.toNat x_g) default).Pages (Int.toNat x_page) default).Dirty)) (List.getD v3.Guests (Int.toNat x_g) default).In (List.getD v3.Guests (Int.toNat x_g) default).Out))),true)))
noncomputable def gG (x_h:DHost)(x_g:Int)(x_page:Int):Option (DHost×Bool):=
 Option.bind (cZ x_h x_g) λv1=>
 cond (!v1)
  (some ((DHost.mk ([]:List Int) ([]:List DGuest)),false))
  (Option.bind (cB x_page (0:Int) (7:Int)) λv2=>
  cond (!v2)
   (some ((DHost.mk ([]:List Int) ([]:List DGuest)),false))
   (grd ((0:Int)<=x_g/\x_g<((List.length x_h.Guests:Nat):Int)) (grd ((0:Int)<=x_page/\x_page<((List.length (List.getD x_h.Guests (Int.toNat x_g) default).Pages:Nat):Int)) (cond (decide ((List.getD (List.getD x_h.Guests (Int.toNat x_g) default).Pages (Int.toNat x_page) default).Frame<(0:Int)))
    (some ((DHost.mk ([]:List Int) ([]:List DGuest)),false))
    (Option.bind (cU x_h) λv3=>
    grd ((0:Int)<=x_g/\x_g<((List.length x_h.Guests:Nat):Int)) (grd ((0:Int)<=x_page/\x_page<((List.length (List.getD x_h.Guests (Int.toNat x_g) default).Pages:Nat):Int)) (Option.bind (cond (!(List.getD (List.getD x_h.Guests (Int.toNat x_g) default).Pages (Int.toNat x_page) default).Write)
     (Option.bind (kE x_h) λv5=>
     grd ((0:Int)<=(List.getD (List.getD x_h.Guests (Int.toNat x_g) default).Pages (Int.toNat x_page) default).Frame/\(List.getD (List.getD x_h.Guests (Int.toNat x_g) default).Pages (Int.toNat x_page) default).Frame<((List.length v5:Nat):Int)) (cond (decide ((1:Int)<(List.getD v5 (Int.toNat (List.getD (List.getD x_h.Guests (Int.toNat x_g) default).Pages (Int.toNat x_page) default).Frame) default)))
      (Option.bind (iL x_h) λv6=>
      cond (decide (((List.length v6:Nat):Int)=(0:Int)))
       (some (.out ((DHost.mk ([]:List Int) ([]:List DGuest)),false)))
       (grd ((0:Int)<=(0:Int)/\(0:Int)<((List.length v6:Nat):Int)) (grd ((0:Int)<=(0:Int)/\(0:Int)<((List.length v6:Nat):Int)) (grd ((0:Int)<=(w64 ((List.getD v6 0 default)*(8:Int)))/\(w64 ((List.getD v6 0 default)*(8:Int)))<=(w64 ((w64 ((List.getD v6 0 default)+(1:Int)))*(8:Int)))/\(w64 ((w64 ((List.getD v6 0 default)+(1:Int)))*(8:Int)))<=((List.length v3.Words:Nat):Int)) (grd ((0:Int)<=(w64 ((List.getD (List.getD x_h.Guests (Int.toNat x_g) default).Pages (Int.toNat x_page) default).Frame*(8:Int)))/\(w64 ((List.getD (List.getD x_h.Guests (Int.toNat x_g) default).Pages (Int.toNat x_page) default).Frame*(8:Int)))<=((List.length x_h.Words:Nat):Int)/\((List.length x_h.Words:Nat):Int)<=((List.length x_h.Words:Nat):Int)) (grd ((0:Int)<=(0:Int)/\(0:Int)<((List.length v6:Nat):Int)) (some (.go ((over v3.Words (Int.toNat (w64 ((List.getD v6 0 default)*(8:Int)))) (Int.toNat (w64 ((w64 ((List.getD v6 0 default)+(1:Int)))*(8:Int)))-Int.toNat (w64 ((List.getD v6 0 default)*(8:Int)))) (List.take (Int.toNat ((List.length x_h.Words:Nat):Int)-Int.toNat (w64 ((List.getD (List.getD x_h.Guests (Int.toNat x_g) default).Pages (Int.toNat x_page) default).Frame*(8:Int)))) (List.drop (Int.toNat (w64 ((List.getD (List.getD x_h.Guests (Int.toNat x_g) default).Pages (Int.toNat x_page) default).Frame*(8:Int)))) x_h.Words))),List.getD v6 0 default)))))))))
      (some (.go (v3.Words,(List.getD (List.getD x_h.Guests (Int.toNat x_g) default).Pages (Int.toNat x_page) default).Frame)))))
     (some (.go (v3.Words,(List.getD (List.getD x_h.Guests (Int.toNat x_g) default).Pages (Int.toNat x_page) default).Frame)))) λj4=>
     JO.run j4 (kQ x_h x_g x_page v3))))))))
noncomputable def bKb:Sg tG:=⟨[.st 26,.i .i64,.i .i64],.two (.st 2026) .b,gG⟩
theorem bQc:Sok 107 bKb:=sgx [(33,.r g33),(79,.r g79),(49,.r g49),(134,.r bJg),(113,.r bDj)] ⟨s33,s79,s49,bRc,bJl,trivial⟩ (.s .o (.s .o (.s .o (.s .o (.j ⟨[1,2,6,8,9],[],[(.c 8 0,.ro 3),(.c 9 0,.i .i64)]⟩ .o .o))))) kr kr kr
noncomputable def vF (x_g:Int)(x_page:Int)(v3:DHost)(v4:List Int)(s5:List Int):Option (DHost×Bool):=grd ((0:Int)<=x_g/\x_g<((List.length v3.Guests:Nat):Int)) (grd ((0:Int)<=(0:Int)/\(0:Int)<((List.length v4:Nat):Int)) (grd ((0:Int)<=x_page/\x_page<((List.length (List.getD v3.Guests (Int.toNat x_g) default).Pages:Nat):Int)) (some ((DHost.mk s5 (List.set v3.Guests (Int.toNat x_g) (DGuest.mk (List.getD v3.Guests (Int.toNat x_g) default).Live (DCore.mk ((List.getD v3.Guests (Int.toNat x_g) default).C).Regs ((List.getD v3.Guests (Int.toNat x_g) default).C).Pc ((List.getD v3.Guests (Int.toNat x_g) default).C).Root ((List.getD v3.Guests (Int.toNat x_g) default).C).Vector ((List.getD v3.Guests (Int.toNat x_g) default).C).Saved ((List.getD v3.Guests (Int.toNat x_g) default).C).SavedUser ((List.getD v3.Guests (Int.toNat x_g) default).C).Cause ((List.getD v3.Guests (Int.toNat x_g) default).C).Bad ((List.getD v3.Guests (Int.toNat x_g) default).C).Timer ((List.getD v3.Guests (Int.toNat x_g) default).C).Waits ((List.getD v3.Guests (Int.toNat x_g) default).C).User ((List.getD v3.Guests (Int.toNat x_g) default).C).On ((List.getD v3.Guests (Int.toNat x_g) default).C).Stopped) (List.set (List.getD v3.Guests (Int.toNat x_g) default).Pages (Int.toNat x_page) (DSlot.mk (List.getD v4 0 default) true false)) (List.getD v3.Guests (Int.toNat x_g) default).In (List.getD v3.Guests (Int.toNat x_g) default).Out))),true))))
noncomputable def iG (v4:List Int)(s6:(List Int)×Int):Option (LO ((List Int)×Int) (JO (List Int) (DHost×Bool))):=
 cond (decide (s6.2<(8:Int)))
  (grd ((0:Int)<=(0:Int)/\(0:Int)<((List.length v4:Nat):Int)) (grd ((0:Int)<=(w64 ((w64 ((List.getD v4 0 default)*(8:Int)))+s6.2))/\(w64 ((w64 ((List.getD v4 0 default)*(8:Int)))+s6.2))<((List.length s6.1:Nat):Int)) (some (.next ((List.set s6.1 (Int.toNat (w64 ((w64 ((List.getD v4 0 default)*(8:Int)))+s6.2))) (0:Int)),w64 (s6.2+(1:Int)))))))
  (some (.ret (.go s6.1)))
noncomputable def gC (x_h:DHost)(x_g:Int)(x_page:Int):Option (DHost×Bool):=
 Option.bind (cZ x_h x_g) λv1=>
 cond (!v1)
  (some ((DHost.mk ([]:List Int) ([]:List DGuest)),false))
  (Option.bind (cB x_page (0:Int) (7:Int)) λv2=>
  cond (!v2)
   (some ((DHost.mk ([]:List Int) ([]:List DGuest)),false))
   (Option.bind (cU x_h) λv3=>
   grd ((0:Int)<=x_g/\x_g<((List.length x_h.Guests:Nat):Int)) (grd ((0:Int)<=x_page/\x_page<((List.length (List.getD x_h.Guests (Int.toNat x_g) default).Pages:Nat):Int)) (cond (decide ((0:Int)<=(List.getD (List.getD x_h.Guests (Int.toNat x_g) default).Pages (Int.toNat x_page) default).Frame))
    (some (v3,true))
    (Option.bind (iL x_h) λv4=>
    cond (decide (((List.length v4:Nat):Int)=(0:Int)))
     (some ((DHost.mk ([]:List Int) ([]:List DGuest)),false))
     (Option.bind (Option.bind (iter (iG v4) (v3.Words,(0:Int))) LO.val) λj5=>
      JO.run j5 (vF x_g x_page v3 v4)))))))
noncomputable def bIx:Sg tG:=⟨[.st 26,.i .i64,.i .i64],.two (.st 2026) .b,gC⟩
theorem bPl:Sok 106 bIx:=sgx [(33,.r g33),(79,.r g79),(49,.r g49),(113,.r bDj)] ⟨s33,s79,s49,bJl,trivial⟩ (.s .o (.s .o (.s .o (.s .o (.s .o (.s .o (.j ⟨[1,2,6,8,9],[],[(.c 8 0,.ro 3)]⟩ (.s .o (.k (.l ⟨[1,2,6,8,9],[],[(.c 8 0,.ro 3),(.s 10,.i .i64)]⟩ .o))) .o))))))) kr kr kr
noncomputable def aFc (x_a:DSlot):Option DSlot:=some x_a
noncomputable def bSp:Sg tG:=⟨[.st 172],.one (.st 66),aFc⟩
theorem bUl:Sok 143 bSp:=sgx [] trivial .o kr kr kr
noncomputable def aJb  (s1:List DSlot):Option (List DSlot):=some s1
noncomputable def aJf (x_a:List DSlot)(s2:(List DSlot)×Int):Option (LO ((List DSlot)×Int) (JO (List DSlot) (List DSlot))):=
 cond (decide (s2.2<((List.length x_a:Nat):Int)))
  (grd ((0:Int)<=s2.2/\s2.2<((List.length x_a:Nat):Int)) (Option.bind (aFc (DSlot.mk (List.getD x_a (Int.toNat s2.2) default).Frame (List.getD x_a (Int.toNat s2.2) default).Write (List.getD x_a (Int.toNat s2.2) default).Dirty)) λv3=>
   grd ((0:Int)<=s2.2/\s2.2<((List.length s2.1:Nat):Int)) (some (.next ((List.set s2.1 (Int.toNat s2.2) v3),w64 (s2.2+(1:Int)))))))
  (some (.ret (.go s2.1)))
noncomputable def aCm (x_a:List DSlot):Option (List DSlot):=
 grd ((0:Int)<=((List.length x_a:Nat):Int)/\((List.length x_a:Nat):Int)*16<=2^47/\((List.length x_a:Nat):Int)<=2^47) (Option.bind (Option.bind (iter (aJf x_a) ((List.replicate (Int.toNat ((List.length x_a:Nat):Int)) (DSlot.mk (0:Int) false false)),(0:Int))) LO.val) λj1=>
  JO.run j1 aJb)
noncomputable def bSo:Sg tG:=⟨[.row 172],.one (.row 66),aCm⟩
theorem bTy:Sok 122 bSo:=sgx [(143,.r bSp)] ⟨bUl,trivial⟩ (.s .o (.s .o (.j ⟨[],[],[(.s 3,.ro 66)]⟩ (.s .o (.k (.l ⟨[0],[],[(.s 3,.ro 66),(.s 4,.i .i64)]⟩ .o))) .o))) kr kr kr
noncomputable def aCf (x_a:DGuest):Option DGuest:=
 Option.bind (aFa x_a.C) λv1=>
 Option.bind (aCm x_a.Pages) λv2=>
 Option.bind (mN x_a.In) λv3=>
 Option.bind (mN x_a.Out) λv4=>
 some (DGuest.mk x_a.Live v1 v2 v3 v4)
noncomputable def bPo:Sg tG:=⟨[.st 133],.one (.st 64),aCf⟩
theorem bUw:Sok 101 bPo:=sgx [(121,.r bRu),(122,.r bSo),(59,.r g59)] ⟨bTz,bTy,s59,trivial⟩ .o kr kr kr
noncomputable def aHk  (s1:List DGuest):Option (List DGuest):=some s1
noncomputable def aHf (x_a:List DGuest)(s2:(List DGuest)×Int):Option (LO ((List DGuest)×Int) (JO (List DGuest) (List DGuest))):=
 cond (decide (s2.2<((List.length x_a:Nat):Int)))
  (grd ((0:Int)<=s2.2/\s2.2<((List.length x_a:Nat):Int)) (Option.bind (aCf (DGuest.mk (List.getD x_a (Int.toNat s2.2) default).Live (DCore.mk ((List.getD x_a (Int.toNat s2.2) default).C).Regs ((List.getD x_a (Int.toNat s2.2) default).C).Pc ((List.getD x_a (Int.toNat s2.2) default).C).Root ((List.getD x_a (Int.toNat s2.2) default).C).Vector ((List.getD x_a (Int.toNat s2.2) default).C).Saved ((List.getD x_a (Int.toNat s2.2) default).C).SavedUser ((List.getD x_a (Int.toNat s2.2) default).C).Cause ((List.getD x_a (Int.toNat s2.2) default).C).Bad ((List.getD x_a (Int.toNat s2.2) default).C).Timer ((List.getD x_a (Int.toNat s2.2) default).C).Waits ((List.getD x_a (Int.toNat s2.2) default).C).User ((List.getD x_a (Int.toNat s2.2) default).C).On ((List.getD x_a (Int.toNat s2.2) default).C).Stopped) (List.getD x_a (Int.toNat s2.2) default).Pages (List.getD x_a (Int.toNat s2.2) default).In (List.getD x_a (Int.toNat s2.2) default).Out)) λv3=>
   grd ((0:Int)<=s2.2/\s2.2<((List.length s2.1:Nat):Int)) (some (.next ((List.set s2.1 (Int.toNat s2.2) v3),w64 (s2.2+(1:Int)))))))
  (some (.ret (.go s2.1)))
noncomputable def aAb (x_a:List DGuest):Option (List DGuest):=
 grd ((0:Int)<=((List.length x_a:Nat):Int)/\((List.length x_a:Nat):Int)*176<=2^47/\((List.length x_a:Nat):Int)<=2^47) (Option.bind (Option.bind (iter (aHf x_a) ((List.replicate (Int.toNat ((List.length x_a:Nat):Int)) (DGuest.mk false (DCore.mk ([]:List Int) (0:Int) (0:Int) (0:Int) (0:Int) false (0:Int) (0:Int) (0:Int) false false false false) ([]:List DSlot) ([]:List Int) ([]:List Int))),(0:Int))) LO.val) λj1=>
  JO.run j1 aHk)
noncomputable def g60:Sg tG:=⟨[.row 133],.one (.row 1064),aAb⟩
theorem s60:Sok 60 g60:=sgx [(101,.r bPo)] ⟨bUw,trivial⟩ (.s .o (.s (.g [] [] [.fo (.s 3) 0]) (.j ⟨[],[],[(.s 3,.ro 1064)]⟩ (.s .o (.k (.l ⟨[0],[],[(.s 3,.ro 1064),(.s 4,.i .i64)]⟩ (.s .o (.s (.k (.g [] [] [.fo (.s 3) 0])) .o))))) .o))) kr kr kr
noncomputable def aSf (x_a:DHost):Option DHost:=
 Option.bind (mN x_a.Words) λv1=>
 Option.bind (aAb x_a.Guests) λv2=>
 some (DHost.mk v1 v2)
noncomputable def g21:Sg tG:=⟨[.st 42],.one (.st 2026),aSf⟩
theorem s21:Sok 21 g21:=sgx [(59,.r g59),(60,.r g60)] ⟨s59,s60,trivial⟩ .o kr kr kr
noncomputable def aFh  (s1:Int):Option Int:=some s1
noncomputable def aFi (x_a:List DSlot)(s2:Int×Int):Option (LO (Int×Int) (JO Int Int)):=
 cond (decide (s2.2<((List.length x_a:Nat):Int)))
  (grd ((0:Int)<=s2.2/\s2.2<((List.length x_a:Nat):Int)) (cond (!decide ((List.getD x_a (Int.toNat s2.2) default).Frame=s2.1))
   (some (.ret (.out (-1:Int))))
   (grd ((0:Int)<=s2.2/\s2.2<((List.length x_a:Nat):Int)) (cond (!((List.getD x_a (Int.toNat s2.2) default).Write==(decide ((Int.tmod (w64 (s2.1+(1:Int))) (3:Int))=(0:Int)))))
    (some (.ret (.out (-1:Int))))
    (grd ((0:Int)<=s2.2/\s2.2<((List.length x_a:Nat):Int)) (cond (!((List.getD x_a (Int.toNat s2.2) default).Dirty==(decide ((Int.tmod (w64 ((w64 (s2.1+(1:Int)))+(1:Int))) (3:Int))=(0:Int)))))
     (some (.ret (.out (-1:Int))))
     (some (.next ((w64 ((w64 ((w64 (s2.1+(1:Int)))+(1:Int)))+(1:Int))),w64 (s2.2+(1:Int)))))))))))
  (some (.ret (.go s2.1)))
noncomputable def yW (x_a:List DSlot)(x_k:Int):Option Int:=
 Option.bind (Option.bind (iter (aFi x_a) (x_k,(0:Int))) LO.val) λj1=>
  JO.run j1 aFh
noncomputable def bPg:Sg tG:=⟨[.row 66,.i .i64],.one (.i .i64),yW⟩
theorem bUu:Sok 104 bPg:=sgx [] trivial (.s .o (.j ⟨[],[],[(.s 1,.i .i64)]⟩ (.s .o (.k (.l ⟨[0],[],[(.s 1,.i .i64),(.s 5,.i .i64)]⟩ .o))) .o)) kr kr kr
noncomputable def aCv  (s1:Int):Option Int:=some s1
noncomputable def aEe (x_a:List DGuest)(s2:Int×Int):Option (LO (Int×Int) (JO Int Int)):=
 cond (decide (s2.2<((List.length x_a:Nat):Int)))
  (grd ((0:Int)<=s2.2/\s2.2<((List.length x_a:Nat):Int)) (cond (!((List.getD x_a (Int.toNat s2.2) default).Live==(decide ((Int.tmod s2.1 (3:Int))=(0:Int)))))
   (some (.ret (.out (-1:Int))))
   (grd ((0:Int)<=s2.2/\s2.2<((List.length x_a:Nat):Int)) (Option.bind (kM ((List.getD x_a (Int.toNat s2.2) default).C).Regs (w64 (s2.1+(1:Int)))) λv3=>
    cond (decide (v3<(0:Int)))
     (some (.ret (.out (-1:Int))))
     (grd ((0:Int)<=s2.2/\s2.2<((List.length x_a:Nat):Int)) (cond (!decide (((List.getD x_a (Int.toNat s2.2) default).C).Pc=v3))
      (some (.ret (.out (-1:Int))))
      (grd ((0:Int)<=s2.2/\s2.2<((List.length x_a:Nat):Int)) (cond (!decide (((List.getD x_a (Int.toNat s2.2) default).C).Root=(w64 (v3+(1:Int)))))
       (some (.ret (.out (-1:Int))))
       (grd ((0:Int)<=s2.2/\s2.2<((List.length x_a:Nat):Int)) (cond (!decide (((List.getD x_a (Int.toNat s2.2) default).C).Vector=(w64 ((w64 (v3+(1:Int)))+(1:Int)))))
        (some (.ret (.out (-1:Int))))
        (grd ((0:Int)<=s2.2/\s2.2<((List.length x_a:Nat):Int)) (cond (!decide (((List.getD x_a (Int.toNat s2.2) default).C).Saved=(w64 ((w64 ((w64 (v3+(1:Int)))+(1:Int)))+(1:Int)))))
         (some (.ret (.out (-1:Int))))
         (grd ((0:Int)<=s2.2/\s2.2<((List.length x_a:Nat):Int)) (cond (!(((List.getD x_a (Int.toNat s2.2) default).C).SavedUser==(decide ((Int.tmod (w64 ((w64 ((w64 ((w64 (v3+(1:Int)))+(1:Int)))+(1:Int)))+(1:Int))) (3:Int))=(0:Int)))))
          (some (.ret (.out (-1:Int))))
          (grd ((0:Int)<=s2.2/\s2.2<((List.length x_a:Nat):Int)) (cond (!decide (((List.getD x_a (Int.toNat s2.2) default).C).Cause=(w64 ((w64 ((w64 ((w64 ((w64 (v3+(1:Int)))+(1:Int)))+(1:Int)))+(1:Int)))+(1:Int)))))
           (some (.ret (.out (-1:Int))))
           (grd ((0:Int)<=s2.2/\s2.2<((List.length x_a:Nat):Int)) (cond (!decide (((List.getD x_a (Int.toNat s2.2) default).C).Bad=(w64 ((w64 ((w64 ((w64 ((w64 ((w64 (v3+(1:Int)))+(1:Int)))+(1:Int)))+(1:Int)))+(1:Int)))+(1:Int)))))
            (some (.ret (.out (-1:Int))))
            (grd ((0:Int)<=s2.2/\s2.2<((List.length x_a:Nat):Int)) (cond (!decide (((List.getD x_a (Int.toNat s2.2) default).C).Timer=(w64 ((w64 ((w64 ((w64 ((w64 ((w64 ((w64 (v3+(1:Int)))+(1:Int)))+(1:Int)))+(1:Int)))+(1:Int)))+(1:Int)))+(1:Int)))))
             (some (.ret (.out (-1:Int))))
             (grd ((0:Int)<=s2.2/\s2.2<((List.length x_a:Nat):Int)) (cond (!(((List.getD x_a (Int.toNat s2.2) default).C).Waits==(decide ((Int.tmod (w64 ((w64 ((w64 ((w64 ((w64 ((w64 ((w64 ((w64 (v3+(1:Int)))+(1:Int)))+(1:Int)))+(1:Int)))+(1:Int)))+(1:Int)))+(1:Int)))+(1:Int))) (3:Int))=(0:Int)))))
              (some (.ret (.out (-1:Int))))
              (grd ((0:Int)<=s2.2/\s2.2<((List.length x_a:Nat):Int)) (cond (!(((List.getD x_a (Int.toNat s2.2) default).C).User==(decide ((Int.tmod (w64 ((w64 ((w64 ((w64 ((w64 ((w64 ((w64 ((w64 ((w64 (v3+(1:Int)))+(1:Int)))+(1:Int)))+(1:Int)))+(1:Int)))+(1:Int)))+(1:Int)))+(1:Int)))+(1:Int))) (3:Int))=(0:Int)))))
               (some (.ret (.out (-1:Int))))
               (grd ((0:Int)<=s2.2/\s2.2<((List.length x_a:Nat):Int)) (cond (!(((List.getD x_a (Int.toNat s2.2) default).C).On==(decide ((Int.tmod (w64 ((w64 ((w64 ((w64 ((w64 ((w64 ((w64 ((w64 ((w64 ((w64 (v3+(1:Int)))+(1:Int)))+(1:Int)))+(1:Int)))+(1:Int)))+(1:Int)))+(1:Int)))+(1:Int)))+(1:Int)))+(1:Int))) (3:Int))=(0:Int)))))
                (some (.ret (.out (-1:Int))))
                (grd ((0:Int)<=s2.2/\s2.2<((List.length x_a:Nat):Int)) (cond (!(((List.getD x_a (Int.toNat s2.2) default).C).Stopped==(decide ((Int.tmod (w64 ((w64 ((w64 ((w64 ((w64 ((w64 ((w64 ((w64 ((w64 ((w64 ((w64 (v3+(1:Int)))+(1:Int)))+(1:Int)))+(1:Int)))+(1:Int)))+(1:Int)))+(1:Int)))+(1:Int)))+(1:Int)))+(1:Int)))+(1:Int))) (3:Int))=(0:Int)))))
                 (some (.ret (.out (-1:Int))))
                 (grd ((0:Int)<=s2.2/\s2.2<((List.length x_a:Nat):Int)) (Option.bind (yW (List.getD x_a (Int.toNat s2.2) default).Pages (w64 ((w64 ((w64 ((w64 ((w64 ((w64 ((w64 ((w64 ((w64 ((w64 ((w64 ((w64 (v3+(1:Int)))+(1:Int)))+(1:Int)))+(1:Int)))+(1:Int)))+(1:Int)))+(1:Int)))+(1:Int)))+(1:Int)))+(1:Int)))+(1:Int)))+(1:Int)))) λv4=>
                  cond (decide (v4<(0:Int)))
                   (some (.ret (.out (-1:Int))))
                   (grd ((0:Int)<=s2.2/\s2.2<((List.length x_a:Nat):Int)) (Option.bind (kM (List.getD x_a (Int.toNat s2.2) default).In v4) λv5=>
                    cond (decide (v5<(0:Int)))
                     (some (.ret (.out (-1:Int))))
                     (grd ((0:Int)<=s2.2/\s2.2<((List.length x_a:Nat):Int)) (Option.bind (kM (List.getD x_a (Int.toNat s2.2) default).Out v5) λv6=>
                      cond (decide (v6<(0:Int)))
                       (some (.ret (.out (-1:Int))))
                       (some (.next (v6,w64 (s2.2+(1:Int)))))))))))))))))))))))))))))))))))))))
  (some (.ret (.go s2.1)))
noncomputable def xF (x_a:List DGuest)(x_k:Int):Option Int:=
 Option.bind (Option.bind (iter (aEe x_a) (x_k,(0:Int))) LO.val) λj1=>
  JO.run j1 aCv
noncomputable def g71:Sg tG:=⟨[.row 64,.i .i64],.one (.i .i64),xF⟩
theorem s71:Sok 71 g71:=sgx [(70,.r g70),(104,.r bPg)] ⟨s70,bUu,trivial⟩ (.s .o (.j ⟨[],[],[(.s 1,.i .i64)]⟩ (.s .o (.k (.l ⟨[0],[],[(.s 1,.i .i64),(.s 5,.i .i64)]⟩ .o))) .o)) kr kr kr
noncomputable def aOh (x_a:DHost)(x_k:Int):Option Int:=
 Option.bind (kM x_a.Words x_k) λv1=>
 cond (decide (v1<(0:Int)))
  (some (-1:Int))
  (Option.bind (xF x_a.Guests v1) λv2=>
  cond (decide (v2<(0:Int)))
   (some (-1:Int))
   (some v2))
noncomputable def g28:Sg tG:=⟨[.st 26,.i .i64],.one (.i .i64),aOh⟩
theorem s28:Sok 28 g28:=sgx [(70,.r g70),(71,.r g71)] ⟨s70,s71,trivial⟩ .o kr kr kr
noncomputable def cN (x_i:DIns):Option Bool:=
 Option.bind (nN x_i) λv1=>
 cond v1
  (cond (decide (x_i.Op=(0:Int)))
   (some true)
   (Option.bind (cB x_i.Op (8:Int) (14:Int)) λv2=>
   some v2))
  (some false)
noncomputable def bJr:Sg tG:=⟨[.st 158],.one .b,cN⟩
theorem bLf:Sok 131 bJr:=sgx [(147,.r bIh),(79,.r g79)] ⟨bSl,s79,trivial⟩ .o kr kr kr
theorem pK{x_i:DIns}{R_:Bool}(hh:cN x_i=some R_):Fn Try.prog 131 [.agg (dV x_i)] (.bool R_):=kc (bLf x_i R_ hh)
noncomputable def jQ (x_w:Int):Option DIns:=
 Option.bind (fI x_w) λv1=>
 cond (!v1)
  (some (DIns.mk (0:Int) (0:Int) (0:Int)))
  (some (DIns.mk (w64 (Int.tdiv x_w (256:Int))) (Int.tmod (w64 (Int.tdiv x_w (64:Int))) (4:Int)) (Int.tmod x_w (64:Int))))
noncomputable def bPm:Sg tG:=⟨[.i .i64],.one (.st 158),jQ⟩
theorem bSa:Sok 130 bPm:=sgx [(117,.r aQd)] ⟨aVk,trivial⟩ .o kr kr kr
theorem aNe{x_w:Int}{R_:DIns}(hh:jQ x_w=some R_):Fn Try.prog 130 [.int .i64 x_w] (.agg [.int .i64 R_.Op,.int .i64 R_.A,.int .i64 R_.N]):=kc (bSa x_w R_ hh)
noncomputable def gH (x_c:DCore)(x_from:Int)(x_cause:Int)(x_bad:Int):Option DCore:=some (DCore.mk x_c.Regs x_c.Vector x_c.Root x_c.Vector x_from x_c.User x_cause x_bad x_c.Timer x_c.Waits false false x_c.Stopped)
noncomputable def bKt:Sw tG:=⟨[.os 61,.v (.i .i64),.v (.i .i64),.v (.i .i64)],.one (.st 61),gH⟩
theorem bKy:Sjk 129 bKt:=sgy [] trivial .o kr kr kr
theorem uF{x_c:DCore}{x_from:Int}{x_cause:Int}{x_bad:Int}{R_:DCore}(hh:gH x_c x_from x_cause x_bad=some R_):Inl Try.prog 129 [.agg [.sref 0 [] 0 (List.length x_c.Regs) 1,.int .i64 x_c.Pc,.int .i64 x_c.Root,.int .i64 x_c.Vector,.int .i64 x_c.Saved,.bool x_c.SavedUser,.int .i64 x_c.Cause,.int .i64 x_c.Bad,.int .i64 x_c.Timer,.bool x_c.Waits,.bool x_c.User,.bool x_c.On,.bool x_c.Stopped],.int .i64 x_from,.int .i64 x_cause,.int .i64 x_bad] [(0,some (rI_3 x_c.Regs))] 1 (.agg [.sref 1 [] 0 (List.length R_.Regs) 1,.int .i64 R_.Pc,.int .i64 R_.Root,.int .i64 R_.Vector,.int .i64 R_.Saved,.bool R_.SavedUser,.int .i64 R_.Cause,.int .i64 R_.Bad,.int .i64 R_.Timer,.bool R_.Waits,.bool R_.User,.bool R_.On,.bool R_.Stopped]) [(1,some (rI_3 R_.Regs))] 2:=kc (bKy x_c x_from x_cause x_bad R_ hh)
noncomputable def uY (x_c:DCore)(s1:Bool×Int)(s2:Unit):Option (DCore×Bool):=some ((DCore.mk x_c.Regs x_c.Pc x_c.Root x_c.Vector x_c.Saved x_c.SavedUser x_c.Cause x_c.Bad s1.2 s1.1 x_c.User x_c.On x_c.Stopped),false)
noncomputable def vK (x_c:DCore)(s1:Bool×Int):Option (DCore×Bool):=
 Option.bind (cond s1.1
  (cond x_c.On
   (Option.bind (gH (DCore.mk x_c.Regs x_c.Pc x_c.Root x_c.Vector x_c.Saved x_c.SavedUser x_c.Cause x_c.Bad s1.2 false x_c.User x_c.On x_c.Stopped) x_c.Pc (4:Int) (0:Int)) λv3=>
   some (.out (v3,true)))
   (some (.go ())))
  (some (.go ()))) λj2=>
  JO.run j2 (uY x_c s1)
noncomputable def fU (x_c:DCore):Option (DCore×Bool):=
 Option.bind (cond (decide ((0:Int)<x_c.Timer))
  (cond (decide ((w64 (x_c.Timer-(1:Int)))=(0:Int)))
   (some (.go (true,w64 (x_c.Timer-(1:Int)))))
   (some (.go (x_c.Waits,w64 (x_c.Timer-(1:Int))))))
  (some (.go (x_c.Waits,x_c.Timer)))) λj1=>
  JO.run j1 (vK x_c)
noncomputable def bRo:Sw tG:=⟨[.os 61],.two (.st 61) .b,fU⟩
theorem bRz:Sjk 126 bRo:=sgy [(129,.w bKt)] ⟨bKy,trivial⟩ (.s .o (.j ⟨[1,2],[],[(.c 1 9,.b),(.c 1 8,.i .i64)]⟩ .o (.j ⟨[1,2],[],[]⟩ .o .o))) kr kr kr
theorem aMf{x_c:DCore}{R_:DCore×Bool}(hh:fU x_c=some R_):Inl Try.prog 126 [.agg [.sref 0 [] 0 (List.length x_c.Regs) 1,.int .i64 x_c.Pc,.int .i64 x_c.Root,.int .i64 x_c.Vector,.int .i64 x_c.Saved,.bool x_c.SavedUser,.int .i64 x_c.Cause,.int .i64 x_c.Bad,.int .i64 x_c.Timer,.bool x_c.Waits,.bool x_c.User,.bool x_c.On,.bool x_c.Stopped]] [(0,some (rI_3 x_c.Regs))] 1 (.tup [.agg [.sref 1 [] 0 (List.length R_.1.Regs) 1,.int .i64 R_.1.Pc,.int .i64 R_.1.Root,.int .i64 R_.1.Vector,.int .i64 R_.1.Saved,.bool R_.1.SavedUser,.int .i64 R_.1.Cause,.int .i64 R_.1.Bad,.int .i64 R_.1.Timer,.bool R_.1.Waits,.bool R_.1.User,.bool R_.1.On,.bool R_.1.Stopped],.bool R_.2]) [(1,some (rI_3 R_.1.Regs))] 2:=kc (bRz x_c R_ hh)
noncomputable def xB (x_table:List DShade)(x_addr:Int)(s1:Unit):Option (Int×Int):=some ((w64 ((w64 ((List.getD x_table (Int.toNat (w64 (Int.tdiv x_addr (8:Int)))) default).Frame*(8:Int)))+(Int.tmod x_addr (8:Int)))),(0:Int))
noncomputable def cS (x_table:List DShade)(x_addr:Int)(x_user:Bool)(x_write:Bool):Option (Int×Int):=
 grd ((0:Int)<=(w64 (Int.tdiv x_addr (8:Int)))/\(w64 (Int.tdiv x_addr (8:Int)))<((List.length x_table:Nat):Int)) (Option.bind (cond (!(List.getD x_table (Int.toNat (w64 (Int.tdiv x_addr (8:Int)))) default).There)
  (some (.out ((-1:Int),(1:Int))))
  (cond x_write
   (cond (!(List.getD x_table (Int.toNat (w64 (Int.tdiv x_addr (8:Int)))) default).Write)
    (some (.out ((-1:Int),(1:Int))))
    (cond x_user
     (cond (!(List.getD x_table (Int.toNat (w64 (Int.tdiv x_addr (8:Int)))) default).User)
      (some (.out ((-1:Int),(1:Int))))
      (cond (decide ((List.getD x_table (Int.toNat (w64 (Int.tdiv x_addr (8:Int)))) default).Frame<(0:Int)))
       (some (.out ((-1:Int),(2:Int))))
       (cond x_write
        (cond (!(List.getD x_table (Int.toNat (w64 (Int.tdiv x_addr (8:Int)))) default).Ready)
         (some (.out ((-1:Int),(3:Int))))
         (some (.go ())))
        (some (.go ())))))
     (cond (decide ((List.getD x_table (Int.toNat (w64 (Int.tdiv x_addr (8:Int)))) default).Frame<(0:Int)))
      (some (.out ((-1:Int),(2:Int))))
      (cond x_write
       (cond (!(List.getD x_table (Int.toNat (w64 (Int.tdiv x_addr (8:Int)))) default).Ready)
        (some (.out ((-1:Int),(3:Int))))
        (some (.go ())))
       (some (.go ()))))))
   (cond x_user
    (cond (!(List.getD x_table (Int.toNat (w64 (Int.tdiv x_addr (8:Int)))) default).User)
     (some (.out ((-1:Int),(1:Int))))
     (cond (decide ((List.getD x_table (Int.toNat (w64 (Int.tdiv x_addr (8:Int)))) default).Frame<(0:Int)))
      (some (.out ((-1:Int),(2:Int))))
      (cond x_write
       (cond (!(List.getD x_table (Int.toNat (w64 (Int.tdiv x_addr (8:Int)))) default).Ready)
        (some (.out ((-1:Int),(3:Int))))
        (some (.go ())))
       (some (.go ())))))
    (cond (decide ((List.getD x_table (Int.toNat (w64 (Int.tdiv x_addr (8:Int)))) default).Frame<(0:Int)))
     (some (.out ((-1:Int),(2:Int))))
     (cond x_write
      (cond (!(List.getD x_table (Int.toNat (w64 (Int.tdiv x_addr (8:Int)))) default).Ready)
       (some (.out ((-1:Int),(3:Int))))
       (some (.go ())))
      (some (.go ()))))))) λj1=>
  JO.run j1 (xB x_table x_addr))
noncomputable def bQa:Sg tG:=⟨[.row 164,.i .i64,.b,.b],.two (.i .i64) (.i .i64),cS⟩
theorem bPx:Sok 128 bQa:=sgx [] trivial (.s .o (.s .o (.j ⟨[1,10],[],[]⟩ .o .o))) kr kr kr
theorem zY{x_table:List DShade}{x_addr:Int}{x_user:Bool}{x_write:Bool}{R_:Int×Int}(hh:cS x_table x_addr x_user x_write=some R_):Fn Try.prog 128 [bo nE x_table,.int .i64 x_addr,.bool x_user,.bool x_write] (.tup [.int .i64 R_.1,.int .i64 R_.2]):=kc (bPx x_table x_addr x_user x_write R_ hh)
noncomputable def zP (x_table:List DShade)(x_addr:Int)(s1:Int):Option DExit:=some (DExit.mk s1 (List.getD x_table (Int.toNat (w64 (Int.tdiv x_addr (8:Int)))) default).Page (DIns.mk (0:Int) (0:Int) (0:Int)))
noncomputable def fK (x_table:List DShade)(x_addr:Int)(x_why:Int):Option DExit:=
 grd ((0:Int)<=(w64 (Int.tdiv x_addr (8:Int)))/\(w64 (Int.tdiv x_addr (8:Int)))<((List.length x_table:Nat):Int)) (Option.bind (cond (decide (x_why=(2:Int)))
  (some (.go (2:Int)))
  (cond (decide (x_why=(3:Int)))
   (some (.go (3:Int)))
   (some (.out (DExit.mk (0:Int) (0:Int) (DIns.mk (0:Int) (0:Int) (0:Int))))))) λj1=>
  JO.run j1 (zP x_table x_addr))
noncomputable def bPy:Sg tG:=⟨[.row 164,.i .i64,.i .i64],.one (.st 175),fK⟩
theorem bUz:Sok 153 bPy:=sgx [] trivial (.s .o (.s .o (.j ⟨[6,7],[],[(.c 7 0,.i .i64)]⟩ .o .o))) kr kr kr
noncomputable def aFq  (s8:Unit):Option DExit:=some (DExit.mk (0:Int) (0:Int) (DIns.mk (0:Int) (0:Int) (0:Int)))
noncomputable def jR (x_h:DHost)(x_g:Int):Option DExit:=
 Option.bind (cZ x_h x_g) λv1=>
 cond (!v1)
  (some (DExit.mk (0:Int) (0:Int) (DIns.mk (0:Int) (0:Int) (0:Int))))
  (grd ((0:Int)<=x_g/\x_g<((List.length x_h.Guests:Nat):Int)) (cond ((List.getD x_h.Guests (Int.toNat x_g) default).C).Stopped
   (some (DExit.mk (0:Int) (0:Int) (DIns.mk (0:Int) (0:Int) (0:Int))))
   (grd ((0:Int)<=x_g/\x_g<((List.length x_h.Guests:Nat):Int)) (Option.bind (iR (DCore.mk ((List.getD x_h.Guests (Int.toNat x_g) default).C).Regs ((List.getD x_h.Guests (Int.toNat x_g) default).C).Pc ((List.getD x_h.Guests (Int.toNat x_g) default).C).Root ((List.getD x_h.Guests (Int.toNat x_g) default).C).Vector ((List.getD x_h.Guests (Int.toNat x_g) default).C).Saved ((List.getD x_h.Guests (Int.toNat x_g) default).C).SavedUser ((List.getD x_h.Guests (Int.toNat x_g) default).C).Cause ((List.getD x_h.Guests (Int.toNat x_g) default).C).Bad ((List.getD x_h.Guests (Int.toNat x_g) default).C).Timer ((List.getD x_h.Guests (Int.toNat x_g) default).C).Waits ((List.getD x_h.Guests (Int.toNat x_g) default).C).User ((List.getD x_h.Guests (Int.toNat x_g) default).C).On ((List.getD x_h.Guests (Int.toNat x_g) default).C).Stopped)) λv2=>
    Option.bind (fU v2) λv3=>
    cond v3.2
     (some (DExit.mk (0:Int) (0:Int) (DIns.mk (0:Int) (0:Int) (0:Int))))
     (Option.bind (fX x_h x_g) λv4=>
     Option.bind (cS v4 v3.1.Pc v3.1.User false) λv5=>
     cond (!decide (v5.2=(0:Int)))
      (Option.bind (fK v4 v3.1.Pc v5.2) λv6=>
      some v6)
      (grd ((0:Int)<=v5.1/\v5.1<((List.length x_h.Words:Nat):Int)) (Option.bind (jQ (List.getD x_h.Words (Int.toNat v5.1) default)) λv7=>
       Option.bind (Option.bind (cN v7) λv9=>
        cond v9
         (cond (!v3.1.User)
          (some (.out (DExit.mk (1:Int) (0:Int) v7)))
          (cond (decide (v7.Op=(3:Int)))
           (grd ((0:Int)<=(Int.tmod v7.N (4:Int))/\(Int.tmod v7.N (4:Int))<((List.length v3.1.Regs:Nat):Int)) (Option.bind (cS v4 (Int.tmod (List.getD v3.1.Regs (Int.toNat (Int.tmod v7.N (4:Int))) default) (64:Int)) v3.1.User (decide (v7.Op=(4:Int)))) λv10=>
            Option.bind (fK v4 (Int.tmod (List.getD v3.1.Regs (Int.toNat (Int.tmod v7.N (4:Int))) default) (64:Int)) v10.2) λv11=>
            some (.out v11)))
           (cond (decide (v7.Op=(4:Int)))
            (grd ((0:Int)<=(Int.tmod v7.N (4:Int))/\(Int.tmod v7.N (4:Int))<((List.length v3.1.Regs:Nat):Int)) (Option.bind (cS v4 (Int.tmod (List.getD v3.1.Regs (Int.toNat (Int.tmod v7.N (4:Int))) default) (64:Int)) v3.1.User (decide (v7.Op=(4:Int)))) λv12=>
             Option.bind (fK v4 (Int.tmod (List.getD v3.1.Regs (Int.toNat (Int.tmod v7.N (4:Int))) default) (64:Int)) v12.2) λv13=>
             some (.out v13)))
            (some (.go ())))))
         (cond (decide (v7.Op=(3:Int)))
          (grd ((0:Int)<=(Int.tmod v7.N (4:Int))/\(Int.tmod v7.N (4:Int))<((List.length v3.1.Regs:Nat):Int)) (Option.bind (cS v4 (Int.tmod (List.getD v3.1.Regs (Int.toNat (Int.tmod v7.N (4:Int))) default) (64:Int)) v3.1.User (decide (v7.Op=(4:Int)))) λv14=>
           Option.bind (fK v4 (Int.tmod (List.getD v3.1.Regs (Int.toNat (Int.tmod v7.N (4:Int))) default) (64:Int)) v14.2) λv15=>
           some (.out v15)))
          (cond (decide (v7.Op=(4:Int)))
           (grd ((0:Int)<=(Int.tmod v7.N (4:Int))/\(Int.tmod v7.N (4:Int))<((List.length v3.1.Regs:Nat):Int)) (Option.bind (cS v4 (Int.tmod (List.getD v3.1.Regs (Int.toNat (Int.tmod v7.N (4:Int))) default) (64:Int)) v3.1.User (decide (v7.Op=(4:Int)))) λv16=>
            Option.bind (fK v4 (Int.tmod (List.getD v3.1.Regs (Int.toNat (Int.tmod v7.N (4:Int))) default) (64:Int)) v16.2) λv17=>
            some (.out v17)))
           (some (.go ()))))) λj8=>
        JO.run j8 aFq)))))))
noncomputable def bSm:Sg tG:=⟨[.st 26,.i .i64],.one (.st 175),jR⟩
theorem bUf:Sok 145 bSm:=sgx [(33,.r g33),(95,.r g95),(126,.w bRo),(127,.r bRj),(128,.r bQa),(153,.r bPy),(130,.r bPm),(131,.r bJr)] ⟨s33,s95,bRz,bSi,bPx,bUz,bSa,bLf,trivial⟩ (.s .o (.s .o (.s .o (.s .o (.s .o (.s .o (.s .o (.s .o (.j ⟨[4],[],[]⟩ .o .o))))))))) kr kr kr
noncomputable def vT (x_c:DCore)(s1:Int×Int×Int×Bool×Bool×Int×(List Int)×(List Int)×(List Int)):Option (DCore×(List Int)×(List Int)):=some ((DCore.mk s1.2.2.2.2.2.2.2.2 s1.2.2.2.2.2.1 s1.1 s1.2.1 x_c.Saved x_c.SavedUser x_c.Cause x_c.Bad s1.2.2.1 x_c.Waits s1.2.2.2.1 s1.2.2.2.2.1 x_c.Stopped),s1.2.2.2.2.2.2.2.1,s1.2.2.2.2.2.2.1)
noncomputable def vY (x_c:DCore)(x_out:List Int)(x_i:DIns)(s2:(List Int)×Int):Option (JO (Int×Int×Int×Bool×Bool×Int×(List Int)×(List Int)×(List Int)) (DCore×(List Int)×(List Int))):=grd ((0:Int)<=x_i.A/\x_i.A<((List.length x_c.Regs:Nat):Int)) (some (.go (x_c.Root,x_c.Vector,x_c.Timer,x_c.User,x_c.On,Int.tmod (w64 (x_c.Pc+(1:Int))) (64:Int),x_out,s2.1,List.set x_c.Regs (Int.toNat x_i.A) s2.2)))
noncomputable def kI (x_c:DCore)(x_in:List Int)(x_out:List Int)(x_i:DIns):Option (DCore×(List Int)×(List Int)):=
 Option.bind (cond (decide (x_i.Op=(0:Int)))
  (some (.out ((DCore.mk x_c.Regs x_c.Pc x_c.Root x_c.Vector x_c.Saved x_c.SavedUser x_c.Cause x_c.Bad x_c.Timer x_c.Waits x_c.User x_c.On true),x_in,x_out)))
  (cond (decide (x_i.Op=(8:Int)))
   (grd ((0:Int)<=x_i.A/\x_i.A<((List.length x_c.Regs:Nat):Int)) (cond (decide ((Int.tmod (List.getD x_c.Regs (Int.toNat x_i.A) default) (16:Int))<(8:Int)))
    (grd ((0:Int)<=x_i.A/\x_i.A<((List.length x_c.Regs:Nat):Int)) (some (.go ((Int.tmod (List.getD x_c.Regs (Int.toNat x_i.A) default) (16:Int)),x_c.Vector,x_c.Timer,x_c.User,x_c.On,Int.tmod (w64 (x_c.Pc+(1:Int))) (64:Int),x_out,x_in,x_c.Regs))))
    (some (.go ((-1:Int),x_c.Vector,x_c.Timer,x_c.User,x_c.On,Int.tmod (w64 (x_c.Pc+(1:Int))) (64:Int),x_out,x_in,x_c.Regs)))))
   (cond (decide (x_i.Op=(9:Int)))
    (grd ((0:Int)<=x_i.A/\x_i.A<((List.length x_c.Regs:Nat):Int)) (some (.go (x_c.Root,Int.tmod (List.getD x_c.Regs (Int.toNat x_i.A) default) (64:Int),x_c.Timer,x_c.User,x_c.On,Int.tmod (w64 (x_c.Pc+(1:Int))) (64:Int),x_out,x_in,x_c.Regs))))
    (cond (decide (x_i.Op=(10:Int)))
     (grd ((0:Int)<=x_i.A/\x_i.A<((List.length x_c.Regs:Nat):Int)) (some (.go (x_c.Root,x_c.Vector,List.getD x_c.Regs (Int.toNat x_i.A) default,x_c.User,x_c.On,Int.tmod (w64 (x_c.Pc+(1:Int))) (64:Int),x_out,x_in,x_c.Regs))))
     (cond (decide (x_i.Op=(11:Int)))
      (some (.go (x_c.Root,x_c.Vector,x_c.Timer,x_c.SavedUser,true,x_c.Saved,x_out,x_in,x_c.Regs)))
      (cond (decide (x_i.Op=(12:Int)))
       (some (.go (x_c.Root,x_c.Vector,x_c.Timer,x_c.User,decide ((Int.tmod x_i.N (2:Int))=(1:Int)),Int.tmod (w64 (x_c.Pc+(1:Int))) (64:Int),x_out,x_in,x_c.Regs)))
       (cond (decide (x_i.Op=(13:Int)))
        (cond (decide (((List.length x_out:Nat):Int)<(30:Int)))
         (grd ((0:Int)<=x_i.A/\x_i.A<((List.length x_c.Regs:Nat):Int)) (grd ((List.length x_out+List.length ([List.getD x_c.Regs (Int.toNat x_i.A) default]:List Int))*8<=2^47/\List.length x_out+List.length ([List.getD x_c.Regs (Int.toNat x_i.A) default]:List Int)<=2^47) (some (.go (x_c.Root,x_c.Vector,x_c.Timer,x_c.User,x_c.On,Int.tmod (w64 (x_c.Pc+(1:Int))) (64:Int),x_out++([List.getD x_c.Regs (Int.toNat x_i.A) default]:List Int),x_in,x_c.Regs)))))
         (some (.go (x_c.Root,x_c.Vector,x_c.Timer,x_c.User,x_c.On,Int.tmod (w64 (x_c.Pc+(1:Int))) (64:Int),x_out,x_in,x_c.Regs))))
        (cond (decide (x_i.Op=(14:Int)))
         (grd ((0:Int)<=(Int.tmod x_i.N (4:Int))/\(Int.tmod x_i.N (4:Int))<((4:Nat):Int)) (Option.bind (cond (decide ((Int.tmod x_i.N (4:Int))=(0:Int)))
          (cond (decide ((0:Int)<((List.length x_in:Nat):Int)))
           (grd ((0:Int)<=(0:Int)/\(0:Int)<((List.length x_in:Nat):Int)) (grd ((0:Int)<=(1:Int)/\(1:Int)<=((List.length x_in:Nat):Int)/\((List.length x_in:Nat):Int)<=((List.length x_in:Nat):Int)) (some (.go ((List.take (Int.toNat ((List.length x_in:Nat):Int)-Int.toNat (1:Int)) (List.drop 1 x_in)),List.getD x_in 0 default)))))
           (some (.go (x_in,List.getD ([(0:Int),x_c.Cause,x_c.Bad,x_c.Saved]:List Int) (Int.toNat (Int.tmod x_i.N (4:Int))) default))))
          (some (.go (x_in,List.getD ([(0:Int),x_c.Cause,x_c.Bad,x_c.Saved]:List Int) (Int.toNat (Int.tmod x_i.N (4:Int))) default)))) λj2=>
          JO.run j2 (vY x_c x_out x_i)))
         (some (.go (x_c.Root,x_c.Vector,x_c.Timer,x_c.User,x_c.On,Int.tmod (w64 (x_c.Pc+(1:Int))) (64:Int),x_out,x_in,x_c.Regs))))))))))) λj1=>
  JO.run j1 (vT x_c)
noncomputable def bQr:Sw tG:=⟨[.os 61,.ow 3,.ow 3,.v (.st 158)],.three (.st 61) (.row 3) (.row 3),kI⟩
theorem bUc:Sjk 148 bQr:=sgy [] trivial (.s .o (.s .o (.j ⟨[4,8],[],[(.c 4 2,.i .i64),(.c 4 3,.i .i64),(.c 4 8,.i .i64),(.c 4 10,.b),(.c 4 11,.b),(.s 11,.i .i64),(.s 2,.ro 3),(.s 1,.ro 3),(.c 4 0,.ro 3)]⟩ (.s .o (.k (.s .o (.c .o (.s .o (.c .o (.s .o (.c .o (.s .o (.c .o (.s .o (.c .o (.s .o (.c .o (.s .o (.c .o (.s .o (.c (.s .o (.j ⟨[2,4,7,8,11],[],[(.s 1,.ro 3),(.s 12,.i .i64)]⟩ (.s .o (.c (.s .o (.g [] [] [.ct 1])) .o)) .o)) .o)))))))))))))))))) .o))) kr kr kr
noncomputable def nV (x_h:DHost)(x_g:Int)(x_b:DBare):Option DHost:=
 Option.bind (lG x_h) λv1=>
 Option.bind (pX x_b) λv2=>
 grd ((0:Int)<=x_g/\x_g<((List.length v1.Guests:Nat):Int)) (grd ((0:Int)<=x_g/\x_g<((List.length v1.Guests:Nat):Int)) (grd ((0:Int)<=x_g/\x_g<((List.length v1.Guests:Nat):Int)) (some (DHost.mk v1.Words (let z0:=List.set v1.Guests (Int.toNat x_g) (DGuest.mk (List.getD v1.Guests (Int.toNat x_g) default).Live v2.C (List.getD v1.Guests (Int.toNat x_g) default).Pages (List.getD v1.Guests (Int.toNat x_g) default).In (List.getD v1.Guests (Int.toNat x_g) default).Out);let z1:=List.set z0 (Int.toNat x_g) (DGuest.mk (List.getD z0 (Int.toNat x_g) default).Live (DCore.mk ((List.getD z0 (Int.toNat x_g) default).C).Regs ((List.getD z0 (Int.toNat x_g) default).C).Pc ((List.getD z0 (Int.toNat x_g) default).C).Root ((List.getD z0 (Int.toNat x_g) default).C).Vector ((List.getD z0 (Int.toNat x_g) default).C).Saved ((List.getD z0 (Int.toNat x_g) default).C).SavedUser ((List.getD z0 (Int.toNat x_g) default).C).Cause ((List.getD z0 (Int.toNat x_g) default).C).Bad ((List.getD z0 (Int.toNat x_g) default).C).Timer ((List.getD z0 (Int.toNat x_g) default).C).Waits ((List.getD z0 (Int.toNat x_g) default).C).User ((List.getD z0 (Int.toNat x_g) default).C).On ((List.getD z0 (Int.toNat x_g) default).C).Stopped) (List.getD z0 (Int.toNat x_g) default).Pages v2.In (List.getD z0 (Int.toNat x_g) default).Out);List.set z1 (Int.toNat x_g) (DGuest.mk (List.getD z1 (Int.toNat x_g) default).Live (DCore.mk ((List.getD z1 (Int.toNat x_g) default).C).Regs ((List.getD z1 (Int.toNat x_g) default).C).Pc ((List.getD z1 (Int.toNat x_g) default).C).Root ((List.getD z1 (Int.toNat x_g) default).C).Vector ((List.getD z1 (Int.toNat x_g) default).C).Saved ((List.getD z1 (Int.toNat x_g) default).C).SavedUser ((List.getD z1 (Int.toNat x_g) default).C).Cause ((List.getD z1 (Int.toNat x_g) default).C).Bad ((List.getD z1 (Int.toNat x_g) default).C).Timer ((List.getD z1 (Int.toNat x_g) default).C).Waits ((List.getD z1 (Int.toNat x_g) default).C).User ((List.getD z1 (Int.toNat x_g) default).C).On ((List.getD z1 (Int.toNat x_g) default).C).Stopped) (List.getD z1 (Int.toNat x_g) default).Pages (List.getD z1 (Int.toNat x_g) default).In v2.Out))))))
noncomputable def g45:Sg tG:=⟨[.st 26,.i .i64,.st 81],.one (.st 2026),nV⟩
theorem s45:Sok 45 g45:=sgx [(41,.r g41),(91,.r g91)] ⟨s41,s91,trivial⟩ (.s .o (.s .o (.s .o (.s (.g [] [] [.fo (.c 7 1) 0]) (.s (.g [] [] [.fo (.c 7 1) 0]) (.s (.g [] [] [.fo (.c 7 1) 0]) .o)))))) kr kr kr
theorem aFm{x_h:DHost}{x_g:Int}{x_b:DBare}{R_:DHost}(hh:nV x_h x_g x_b=some R_):Fn Try.prog 45 [.agg (eD x_h),.int .i64 x_g,.agg (pQ x_b)] (.agg [.own 3 1 (List.length R_.Words) (fl (eI .i64) R_.Words),.own 64 17 (List.length R_.Guests) (fl bG R_.Guests)]):=kc (s45 x_h x_g x_b R_ hh)
noncomputable def rD (x_h:DHost)(x_g:Int):Option DBare:=grd ((0:Int)<=x_g/\x_g<((List.length x_h.Guests:Nat):Int)) (some (DBare.mk (DCore.mk ((List.getD x_h.Guests (Int.toNat x_g) default).C).Regs ((List.getD x_h.Guests (Int.toNat x_g) default).C).Pc ((List.getD x_h.Guests (Int.toNat x_g) default).C).Root ((List.getD x_h.Guests (Int.toNat x_g) default).C).Vector ((List.getD x_h.Guests (Int.toNat x_g) default).C).Saved ((List.getD x_h.Guests (Int.toNat x_g) default).C).SavedUser ((List.getD x_h.Guests (Int.toNat x_g) default).C).Cause ((List.getD x_h.Guests (Int.toNat x_g) default).C).Bad ((List.getD x_h.Guests (Int.toNat x_g) default).C).Timer ((List.getD x_h.Guests (Int.toNat x_g) default).C).Waits ((List.getD x_h.Guests (Int.toNat x_g) default).C).User ((List.getD x_h.Guests (Int.toNat x_g) default).C).On ((List.getD x_h.Guests (Int.toNat x_g) default).C).Stopped) ([]:List Int) (List.getD x_h.Guests (Int.toNat x_g) default).In (List.getD x_h.Guests (Int.toNat x_g) default).Out))
noncomputable def g46:Sg tG:=⟨[.st 26,.i .i64],.one (.sb 81),rD⟩
theorem s46:Sok 46 g46:=sgx [] trivial .o kr kr kr
theorem aJi{x_h:DHost}{x_g:Int}{R_:DBare}(hh:rD x_h x_g=some R_):Fn Try.prog 46 [.agg (eD x_h),.int .i64 x_g] (.agg [bo (eI .i64) R_.C.Regs,.int .i64 R_.C.Pc,.int .i64 R_.C.Root,.int .i64 R_.C.Vector,.int .i64 R_.C.Saved,.bool R_.C.SavedUser,.int .i64 R_.C.Cause,.int .i64 R_.C.Bad,.int .i64 R_.C.Timer,.bool R_.C.Waits,.bool R_.C.User,.bool R_.C.On,.bool R_.C.Stopped,bo (eI .i64) R_.Mem,bo (eI .i64) R_.In,bo (eI .i64) R_.Out]):=kc (s46 x_h x_g R_ hh)
noncomputable def eM (x_h:DHost)(x_g:Int)(x_i:DIns):Option (DHost×Bool):=
 Option.bind (cZ x_h x_g) λv1=>
 cond (!v1)
  (some ((DHost.mk ([]:List Int) ([]:List DGuest)),false))
  (Option.bind (cN x_i) λv2=>
  cond (!v2)
   (some ((DHost.mk ([]:List Int) ([]:List DGuest)),false))
   (Option.bind (cU x_h) λv3=>
   grd ((0:Int)<=x_g/\x_g<((List.length v3.Guests:Nat):Int)) (Option.bind (kI (DCore.mk ((List.getD v3.Guests (Int.toNat x_g) default).C).Regs ((List.getD v3.Guests (Int.toNat x_g) default).C).Pc ((List.getD v3.Guests (Int.toNat x_g) default).C).Root ((List.getD v3.Guests (Int.toNat x_g) default).C).Vector ((List.getD v3.Guests (Int.toNat x_g) default).C).Saved ((List.getD v3.Guests (Int.toNat x_g) default).C).SavedUser ((List.getD v3.Guests (Int.toNat x_g) default).C).Cause ((List.getD v3.Guests (Int.toNat x_g) default).C).Bad ((List.getD v3.Guests (Int.toNat x_g) default).C).Timer ((List.getD v3.Guests (Int.toNat x_g) default).C).Waits ((List.getD v3.Guests (Int.toNat x_g) default).C).User ((List.getD v3.Guests (Int.toNat x_g) default).C).On ((List.getD v3.Guests (Int.toNat x_g) default).C).Stopped) (List.getD v3.Guests (Int.toNat x_g) default).In (List.getD v3.Guests (Int.toNat x_g) default).Out x_i) λv4=>
    grd ((0:Int)<=x_g/\x_g<((List.length v3.Guests:Nat):Int)) (grd ((Int.toNat x_g)=(Int.toNat x_g)) (grd ((Int.toNat x_g)=(Int.toNat x_g)) (grd ((Int.toNat x_g)=(Int.toNat x_g)) (grd ((Int.toNat x_g)=(Int.toNat x_g)) (some ((DHost.mk v3.Words (List.set v3.Guests (Int.toNat x_g) (DGuest.mk (List.getD v3.Guests (Int.toNat x_g) default).Live v4.1 (List.getD v3.Guests (Int.toNat x_g) default).Pages v4.2.1 v4.2.2))),true)))))))))
noncomputable def bTr:Sg tG:=⟨[.st 26,.i .i64,.st 158],.two (.st 2026) .b,eM⟩
theorem bTq:Sok 132 bTr:=sgx [(33,.r g33),(131,.r bJr),(49,.r g49),(148,.w bQr)] ⟨s33,bLf,s49,bUc,trivial⟩ (.s .o (.s .o (.s .o (.s .o (.s (.g [.uf (.c 9 1) 0 1,.uf (.c 9 15) 0 15,.uf (.c 9 16) 0 16] [] []) (.s (.g [.uf (.c 9 14) 0 14] [] [.fo (.c 8 1) 0]) .o)))))) kr kr kr
theorem tQ{x_h:DHost}{x_g:Int}{x_i:DIns}{R_:DHost×Bool}(hh:eM x_h x_g x_i=some R_):Fn Try.prog 132 [.agg (eD x_h),.int .i64 x_g,.agg (dV x_i)] (.tup [.agg [.own 3 1 (List.length R_.1.Words) (fl (eI .i64) R_.1.Words),.own 64 17 (List.length R_.1.Guests) (fl bG R_.1.Guests)],.bool R_.2]):=kc (bTq x_h x_g x_i R_ hh)
noncomputable def xE (x_c:DCore)(s1:(List Int)×Int):Option DCore:=some (DCore.mk s1.1 s1.2 x_c.Root x_c.Vector x_c.Saved x_c.SavedUser x_c.Cause x_c.Bad x_c.Timer x_c.Waits x_c.User x_c.On x_c.Stopped)
noncomputable def hT (x_c:DCore)(x_i:DIns):Option DCore:=
 Option.bind (cond (decide (x_i.Op=(1:Int)))
  (grd ((0:Int)<=x_i.A/\x_i.A<((List.length x_c.Regs:Nat):Int)) (some (.go ((List.set x_c.Regs (Int.toNat x_i.A) x_i.N),Int.tmod (w64 (x_c.Pc+(1:Int))) (64:Int)))))
  (cond (decide (x_i.Op=(2:Int)))
   (grd ((0:Int)<=x_i.A/\x_i.A<((List.length x_c.Regs:Nat):Int)) (grd ((0:Int)<=(Int.tmod x_i.N (4:Int))/\(Int.tmod x_i.N (4:Int))<((List.length x_c.Regs:Nat):Int)) (grd ((0:Int)<=x_i.A/\x_i.A<((List.length x_c.Regs:Nat):Int)) (some (.go ((List.set x_c.Regs (Int.toNat x_i.A) (Int.tmod (w64 ((List.getD x_c.Regs (Int.toNat x_i.A) default)+(List.getD x_c.Regs (Int.toNat (Int.tmod x_i.N (4:Int))) default))) (4096:Int))),Int.tmod (w64 (x_c.Pc+(1:Int))) (64:Int)))))))
   (cond (decide (x_i.Op=(15:Int)))
    (grd ((0:Int)<=x_i.A/\x_i.A<((List.length x_c.Regs:Nat):Int)) (grd ((0:Int)<=(Int.tmod x_i.N (4:Int))/\(Int.tmod x_i.N (4:Int))<((List.length x_c.Regs:Nat):Int)) (grd ((0:Int)<=x_i.A/\x_i.A<((List.length x_c.Regs:Nat):Int)) (some (.go ((List.set x_c.Regs (Int.toNat x_i.A) (Int.tmod (w64 ((w64 ((List.getD x_c.Regs (Int.toNat x_i.A) default)+(4096:Int)))-(List.getD x_c.Regs (Int.toNat (Int.tmod x_i.N (4:Int))) default))) (4096:Int))),Int.tmod (w64 (x_c.Pc+(1:Int))) (64:Int)))))))
    (cond (decide (x_i.Op=(5:Int)))
     (some (.go (x_c.Regs,x_i.N)))
     (cond (decide (x_i.Op=(6:Int)))
      (grd ((0:Int)<=x_i.A/\x_i.A<((List.length x_c.Regs:Nat):Int)) (cond (!decide ((List.getD x_c.Regs (Int.toNat x_i.A) default)=(0:Int)))
       (some (.go (x_c.Regs,x_i.N)))
       (some (.go (x_c.Regs,Int.tmod (w64 (x_c.Pc+(1:Int))) (64:Int))))))
      (cond (decide (x_i.Op=(7:Int)))
       (Option.bind (gH x_c (Int.tmod (w64 (x_c.Pc+(1:Int))) (64:Int)) (1:Int) (0:Int)) λv2=>
       some (.out v2))
       (some (.go (x_c.Regs,Int.tmod (w64 (x_c.Pc+(1:Int))) (64:Int)))))))))) λj1=>
  JO.run j1 (xE x_c)
noncomputable def bUh:Sw tG:=⟨[.os 61,.v (.st 158)],.one (.st 61),hT⟩
theorem bUr:Sjk 133 bUh:=sgy [(129,.w bKt)] ⟨bKy,trivial⟩ (.s .o (.s .o (.j ⟨[2,4],[],[(.c 2 0,.ro 3),(.s 5,.i .i64)]⟩ .o .o))) kr kr kr
theorem aAg{x_c:DCore}{x_i:DIns}{R_:DCore}(hh:hT x_c x_i=some R_):Inl Try.prog 133 [.agg [.sref 0 [] 0 (List.length x_c.Regs) 1,.int .i64 x_c.Pc,.int .i64 x_c.Root,.int .i64 x_c.Vector,.int .i64 x_c.Saved,.bool x_c.SavedUser,.int .i64 x_c.Cause,.int .i64 x_c.Bad,.int .i64 x_c.Timer,.bool x_c.Waits,.bool x_c.User,.bool x_c.On,.bool x_c.Stopped],.agg (dV x_i)] [(0,some (rI_3 x_c.Regs))] 1 (.agg [.sref 1 [] 0 (List.length R_.Regs) 1,.int .i64 R_.Pc,.int .i64 R_.Root,.int .i64 R_.Vector,.int .i64 R_.Saved,.bool R_.SavedUser,.int .i64 R_.Cause,.int .i64 R_.Bad,.int .i64 R_.Timer,.bool R_.Waits,.bool R_.User,.bool R_.On,.bool R_.Stopped]) [(1,some (rI_3 R_.Regs))] 2:=kc (bUr x_c x_i R_ hh)
end Go.Proofs.Ytcgggihjcelmhaa
