/- Plain functions of the program, and that it hands back what they say. Made by program. -/
import Derived.Test.YtkjabgefacfpfaaWTD
import Derived.Test.YtkjabgefacfpfaaProg
namespace Go.Proofs.Ytkjabgefacfpfaa
open Go.RowKit
set_option maxRecDepth 100000
set_option linter.all false
set_option maxHeartbeats 0
noncomputable def cS (x_n:Int)(x_low:Int)(x_high:Int):Option Bool:=
 cond (decide (x_low<=x_n))
  (some (decide (x_n<=x_high)))
  (some false)
noncomputable def g73:Sg tG:=⟨[.i .i64,.i .i64,.i .i64],.one .b,cS⟩
theorem s73:Sok 73 g73:=sgx [] trivial .o kr kr kr
noncomputable def iT (x_n:Int):Option Bool:=
 Option.bind (cS x_n (0:Int) (4095:Int)) λv1=>
 some v1
noncomputable def aYx:Sg tG:=⟨[.i .i64],.one .b,iT⟩
theorem bFb:Sok 117 aYx:=sgx [(73,.r g73)] ⟨s73,trivial⟩ .o kr kr kr
noncomputable def qY (x_list:List Int)(x_most:Int)(s1:Unit):Option Bool:=some (decide (((List.length x_list:Nat):Int)<=x_most))
noncomputable def qZ (x_list:List Int)(s2:Int):Option (LO Int (JO Unit Bool)):=
 cond (decide (s2<((List.length x_list:Nat):Int)))
  (grd ((0:Int)<=s2/\s2<((List.length x_list:Nat):Int)) (Option.bind (iT (List.getD x_list (Int.toNat s2) default)) λv3=>
   cond (!v3)
    (some (.ret (.out false)))
    (some (.next (w64 (s2+(1:Int)))))))
  (some (.ret (.go ())))
noncomputable def dW (x_list:List Int)(x_most:Int):Option Bool:=
 Option.bind (Option.bind (iter (qZ x_list) (0:Int)) LO.val) λj1=>
  JO.run j1 (qY x_list x_most)
noncomputable def g90:Sg tG:=⟨[.row 3,.i .i64],.one .b,dW⟩
theorem s90:Sok 90 g90:=sgx [(117,.r aYx)] ⟨bFb,trivial⟩ (.s .o (.j ⟨[0,1],[],[]⟩ (.s .o (.k (.l ⟨[0,1],[],[(.s 5,.i .i64)]⟩ .o))) .o)) kr kr kr
noncomputable def zN (x_c:DCore)(s1:Unit):Option Bool:=
 cond (decide (((List.length x_c.Regs:Nat):Int)=(4:Int)))
  (Option.bind (cS x_c.Pc (0:Int) (63:Int)) λv2=>
  cond v2
   (Option.bind (cS x_c.Vector (0:Int) (63:Int)) λv3=>
   cond v3
    (Option.bind (cS x_c.Saved (0:Int) (63:Int)) λv4=>
    cond v4
     (Option.bind (cS x_c.Bad (0:Int) (63:Int)) λv5=>
     cond v5
      (Option.bind (cS x_c.Root (-1:Int) (7:Int)) λv6=>
      cond v6
       (Option.bind (cS x_c.Cause (0:Int) (4:Int)) λv7=>
       cond v7
        (Option.bind (iT x_c.Timer) λv8=>
        some v8)
        (some false))
       (some false))
      (some false))
     (some false))
    (some false))
   (some false))
  (some false)
noncomputable def zQ (x_c:DCore)(s9:Int):Option (LO Int (JO Unit Bool)):=
 cond (decide (s9<((List.length x_c.Regs:Nat):Int)))
  (grd ((0:Int)<=s9/\s9<((List.length x_c.Regs:Nat):Int)) (Option.bind (iT (List.getD x_c.Regs (Int.toNat s9) default)) λv10=>
   cond (!v10)
    (some (.ret (.out false)))
    (some (.next (w64 (s9+(1:Int)))))))
  (some (.ret (.go ())))
noncomputable def kZ (x_c:DCore):Option Bool:=
 Option.bind (Option.bind (iter (zQ x_c) (0:Int)) LO.val) λj1=>
  JO.run j1 (zN x_c)
noncomputable def g92:Sg tG:=⟨[.st 38],.one .b,kZ⟩
theorem s92:Sok 92 g92:=sgx [(117,.r aYx),(73,.r g73)] ⟨bFb,s73,trivial⟩ (.s .o (.j ⟨[1],[],[]⟩ (.s .o (.k (.l ⟨[1],[],[(.s 3,.i .i64)]⟩ .o))) .o)) kr kr kr
noncomputable def aAq (x_mem:List Int)(s1:Unit):Option Bool:=some (decide (((List.length x_mem:Nat):Int)=(64:Int)))
noncomputable def aAu (x_mem:List Int)(s2:Int):Option (LO Int (JO Unit Bool)):=
 cond (decide (s2<((List.length x_mem:Nat):Int)))
  (grd ((0:Int)<=s2/\s2<((List.length x_mem:Nat):Int)) (Option.bind (iT (List.getD x_mem (Int.toNat s2) default)) λv3=>
   cond (!v3)
    (some (.ret (.out false)))
    (some (.next (w64 (s2+(1:Int)))))))
  (some (.ret (.go ())))
noncomputable def tL (x_mem:List Int):Option Bool:=
 Option.bind (Option.bind (iter (aAu x_mem) (0:Int)) LO.val) λj1=>
  JO.run j1 (aAq x_mem)
noncomputable def bKq:Sg tG:=⟨[.row 3],.one .b,tL⟩
theorem bOb:Sok 144 bKq:=sgx [(117,.r aYx)] ⟨bFb,trivial⟩ (.s .o (.j ⟨[0],[],[]⟩ (.s .o (.k (.l ⟨[0],[],[(.s 3,.i .i64)]⟩ .o))) .o)) kr kr kr
noncomputable def rW (x_b:DBare):Option Bool:=
 Option.bind (kZ x_b.C) λv1=>
 cond v1
  (Option.bind (tL x_b.Mem) λv2=>
  cond v2
   (Option.bind (dW x_b.In (30:Int)) λv3=>
   cond v3
    (Option.bind (dW x_b.Out (30:Int)) λv4=>
    some v4)
    (some false))
   (some false))
  (some false)
noncomputable def bKg:Sg tG:=⟨[.st 82],.one .b,rW⟩
theorem bOx:Sok 133 bKg:=sgx [(92,.r g92),(144,.r bKq),(90,.r g90)] ⟨s92,bOb,s90,trivial⟩ .o kr kr kr
noncomputable def iU (x_n:Int):Option Bool:=
 cond (decide ((0:Int)<=x_n))
  (some (decide (x_n<=(4095:Int))))
  (some false)
noncomputable def g52:Sg tG:=⟨[.i .i64],.one .b,iU⟩
theorem s52:Sok 52 g52:=sgx [] trivial .o kr kr kr
noncomputable def aIr  (s1:Unit):Option Bool:=some true
noncomputable def xA (x_list:List Int)(s2:Int):Option (LO Int (JO Unit Bool)):=
 cond (decide (s2<((List.length x_list:Nat):Int)))
  (grd ((0:Int)<=s2/\s2<((List.length x_list:Nat):Int)) (Option.bind (iU (List.getD x_list (Int.toNat s2) default)) λv3=>
   cond (!v3)
    (some (.ret (.out false)))
    (some (.next (w64 (s2+(1:Int)))))))
  (some (.ret (.go ())))
noncomputable def jW (x_list:List Int):Option Bool:=
 Option.bind (Option.bind (iter (xA x_list) (0:Int)) LO.val) λj1=>
  JO.run j1 aIr
noncomputable def g49:Sg tG:=⟨[.row 3],.one .b,jW⟩
theorem s49:Sok 49 g49:=sgx [(52,.r g52)] ⟨s52,trivial⟩ (.s .o (.j ⟨[],[],[]⟩ (.s .o (.k (.l ⟨[5,6],[],[(.s 7,.i .i64)]⟩ .o))) .o)) kr kr kr
noncomputable def cP (x_addr:Int):Option Bool:=
 cond (decide ((0:Int)<=x_addr))
  (some (decide (x_addr<(64:Int))))
  (some false)
noncomputable def g78:Sg tG:=⟨[.i .i64],.one .b,cP⟩
theorem s78:Sok 78 g78:=sgx [] trivial .o kr kr kr
noncomputable def rT (x_page:Int):Option Bool:=
 cond (decide ((0:Int)<=x_page))
  (some (decide (x_page<(8:Int))))
  (some false)
noncomputable def bNd:Sg tG:=⟨[.i .i64],.one .b,rT⟩
theorem bPk:Sok 109 bNd:=sgx [] trivial .o kr kr kr
noncomputable def nQ (x_root:Int):Option Bool:=
 cond (decide (x_root=(-1:Int)))
  (some true)
  (Option.bind (rT x_root) λv1=>
  some v1)
noncomputable def bMl:Sg tG:=⟨[.i .i64],.one .b,nQ⟩
theorem bPd:Sok 137 bMl:=sgx [(109,.r bNd)] ⟨bPk,trivial⟩ .o kr kr kr
noncomputable def rV (x_c:DCore):Option Bool:=
 cond (decide (((List.length x_c.Regs:Nat):Int)=(4:Int)))
  (Option.bind (jW x_c.Regs) λv1=>
  Option.bind (cP x_c.Pc) λv2=>
  cond v2
   (Option.bind (cP x_c.Vector) λv3=>
   cond v3
    (Option.bind (cP x_c.Saved) λv4=>
    cond v4
     (Option.bind (cP x_c.Bad) λv5=>
     cond (decide ((0:Int)<=x_c.Cause))
      (cond v1
       (cond v5
        (Option.bind (nQ x_c.Root) λv6=>
        cond v6
         (cond (decide (x_c.Cause<=(4:Int)))
          (Option.bind (iU x_c.Timer) λv7=>
          some v7)
          (some false))
         (some false))
        (some false))
       (some false))
      (cond v1
       (cond v5
        (Option.bind (nQ x_c.Root) λv8=>
        cond v8
         (some false)
         (some false))
        (some false))
       (some false)))
     (cond (decide ((0:Int)<=x_c.Cause))
      (cond v1
       (some false)
       (some false))
      (cond v1
       (some false)
       (some false))))
    (cond (decide ((0:Int)<=x_c.Cause))
     (cond v1
      (some false)
      (some false))
     (cond v1
      (some false)
      (some false))))
   (cond (decide ((0:Int)<=x_c.Cause))
    (cond v1
     (some false)
     (some false))
    (cond v1
     (some false)
     (some false))))
  (Option.bind (cP x_c.Pc) λv9=>
  cond v9
   (Option.bind (cP x_c.Vector) λv10=>
   cond v10
    (Option.bind (cP x_c.Saved) λv11=>
    cond v11
     (Option.bind (cP x_c.Bad) λv12=>
     cond (decide ((0:Int)<=x_c.Cause))
      (some false)
      (some false))
     (cond (decide ((0:Int)<=x_c.Cause))
      (some false)
      (some false)))
    (cond (decide ((0:Int)<=x_c.Cause))
     (some false)
     (some false)))
   (cond (decide ((0:Int)<=x_c.Cause))
    (some false)
    (some false)))
noncomputable def bNb:Sg tG:=⟨[.st 38],.one .b,rV⟩
theorem bOm:Sok 120 bNb:=sgx [(49,.r g49),(78,.r g78),(137,.r bMl),(52,.r g52)] ⟨s49,s78,bPd,s52,trivial⟩ .o kr kr kr
noncomputable def pR (x_words:List Int):Option Bool:=
 cond (decide (((List.length x_words:Nat):Int)<=(30:Int)))
  (Option.bind (jW x_words) λv1=>
  some v1)
  (some false)
noncomputable def bMy:Sg tG:=⟨[.row 3],.one .b,pR⟩
theorem bOo:Sok 122 bMy:=sgx [(49,.r g49)] ⟨s49,trivial⟩ .o kr kr kr
end Go.Proofs.Ytkjabgefacfpfaa
