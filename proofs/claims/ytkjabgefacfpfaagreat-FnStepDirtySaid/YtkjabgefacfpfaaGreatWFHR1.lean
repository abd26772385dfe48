/- Plain functions of the program, and that it hands back what they say. Made by program. -/
import Derived.Test.YtkjabgefacfpfaaGreatWTD
import Derived.Test.YtkjabgefacfpfaaGreatProg
import Derived.Test.YtkjabgefacfpfaaGreatWGS1
import Derived.Test.YtkjabgefacfpfaaGreatWT5
namespace Go.Proofs.YtkjabgefacfpfaaGreat
open Go.RowKit
set_option maxRecDepth 100000
set_option linter.all false
set_option maxHeartbeats 0
noncomputable def hZ (x_h:DHost)(x_g:Int)(x_addr:Int):Option DShade:=
 Option.bind (sJ x_h x_g (w64 (Int.tdiv x_addr (8:Int)))) λv1=>
 some v1
noncomputable def bIs:Sg tG:=⟨[.st 26,.i .i64,.i .i64],.one (.st 103),hZ⟩
theorem bPs:Sok 152 bIs:=sgx [(139,.r bUw)] ⟨cAe,trivial⟩ .o kr kr kr
noncomputable def dS (x_h:DHost)(x_g:Int)(x_addr:Int)(x_write:Bool):Option (Int×Int):=
 Option.bind (hZ x_h x_g x_addr) λv1=>
 grd ((0:Int)<=x_g/\x_g<((List.length x_h.Guests:Nat):Int)) (Option.bind (nP v1 x_addr ((List.getD x_h.Guests (Int.toNat x_g) default).C).User x_write) λv2=>
  some (v2.1,v2.2))
noncomputable def aUh:Sg tG:=⟨[.st 26,.i .i64,.i .i64,.b],.two (.i .i64) (.i .i64),dS⟩
theorem aYr:Sok 111 aUh:=sgx [(152,.r bIs),(151,.r bWq)] ⟨bPs,cAi,trivial⟩ .o kr kr kr
noncomputable def jO (x_h:DHost)(x_g:Int)(x_addr:Int)(x_why:Int):Option DExit:=
 Option.bind (hZ x_h x_g x_addr) λv1=>
 cond (decide (x_why=(2:Int)))
  (some (DExit.mk (2:Int) v1.Page (DIns.mk (0:Int) (0:Int) (0:Int))))
  (cond (decide (x_why=(3:Int)))
   (some (DExit.mk (3:Int) v1.Page (DIns.mk (0:Int) (0:Int) (0:Int))))
   (some (DExit.mk (0:Int) (0:Int) (DIns.mk (0:Int) (0:Int) (0:Int)))))
noncomputable def bPy:Sg tG:=⟨[.st 26,.i .i64,.i .i64,.i .i64],.one (.st 129),jO⟩
theorem bTu:Sok 146 bPy:=sgx [(152,.r bIs)] ⟨bPs,trivial⟩ .o kr kr kr
noncomputable def tB (x_h:DHost)(x_g:Int)(x_i:DIns)(s2:Unit):Option DExit:=
 Option.bind (cZ (DCore.mk ((List.getD x_h.Guests (Int.toNat x_g) default).C).Regs ((List.getD x_h.Guests (Int.toNat x_g) default).C).Pc ((List.getD x_h.Guests (Int.toNat x_g) default).C).Root ((List.getD x_h.Guests (Int.toNat x_g) default).C).Vector ((List.getD x_h.Guests (Int.toNat x_g) default).C).Saved ((List.getD x_h.Guests (Int.toNat x_g) default).C).SavedUser ((List.getD x_h.Guests (Int.toNat x_g) default).C).Cause ((List.getD x_h.Guests (Int.toNat x_g) default).C).Bad ((List.getD x_h.Guests (Int.toNat x_g) default).C).Timer ((List.getD x_h.Guests (Int.toNat x_g) default).C).Waits ((List.getD x_h.Guests (Int.toNat x_g) default).C).User ((List.getD x_h.Guests (Int.toNat x_g) default).C).On ((List.getD x_h.Guests (Int.toNat x_g) default).C).Stopped) x_i) λv3=>
 Option.bind (dS x_h x_g v3 (decide (x_i.Op=(4:Int)))) λv4=>
 Option.bind (jO x_h x_g v3 v4.2) λv5=>
 some v5
noncomputable def sW (x_h:DHost)(x_g:Int)(x_i:DIns)(s1:Unit):Option DExit:=
 Option.bind (cond (!decide (x_i.Op=(3:Int)))
  (cond (!decide (x_i.Op=(4:Int)))
   (some (.out (DExit.mk (0:Int) (0:Int) (DIns.mk (0:Int) (0:Int) (0:Int)))))
   (some (.go ())))
  (some (.go ()))) λj2=>
  JO.run j2 (tB x_h x_g x_i)
noncomputable def rU (x_h:DHost)(x_g:Int)(x_i:DIns):Option DExit:=
 grd ((0:Int)<=x_g/\x_g<((List.length x_h.Guests:Nat):Int)) (Option.bind (Option.bind (mB x_i) λv6=>
  cond v6
   (cond (!((List.getD x_h.Guests (Int.toNat x_g) default).C).User)
    (some (.out (DExit.mk (1:Int) (0:Int) x_i)))
    (some (.go ())))
   (some (.go ()))) λj1=>
  JO.run j1 (sW x_h x_g x_i))
noncomputable def bUl:Sg tG:=⟨[.st 26,.i .i64,.st 89],.one (.st 129),rU⟩
theorem bZw:Sok 147 bUl:=sgx [(178,.r bNt),(179,.r aUs),(111,.r aUh),(146,.r bPy)] ⟨bVz,bAv,aYr,bTu,trivial⟩ (.s .o (.s .o (.j ⟨[1,3,5,6,7],[],[]⟩ .o (.j ⟨[1,3,5,6,7],[],[]⟩ .o .o)))) kr kr kr
noncomputable def pJ (x_h:DHost)(x_g:Int):Option DExit:=
 grd ((0:Int)<=x_g/\x_g<((List.length x_h.Guests:Nat):Int)) (cond ((List.getD x_h.Guests (Int.toNat x_g) default).C).Stopped
  (some (DExit.mk (0:Int) (0:Int) (DIns.mk (0:Int) (0:Int) (0:Int))))
  (Option.bind (iC (DCore.mk ((List.getD x_h.Guests (Int.toNat x_g) default).C).Regs ((List.getD x_h.Guests (Int.toNat x_g) default).C).Pc ((List.getD x_h.Guests (Int.toNat x_g) default).C).Root ((List.getD x_h.Guests (Int.toNat x_g) default).C).Vector ((List.getD x_h.Guests (Int.toNat x_g) default).C).Saved ((List.getD x_h.Guests (Int.toNat x_g) default).C).SavedUser ((List.getD x_h.Guests (Int.toNat x_g) default).C).Cause ((List.getD x_h.Guests (Int.toNat x_g) default).C).Bad ((List.getD x_h.Guests (Int.toNat x_g) default).C).Timer ((List.getD x_h.Guests (Int.toNat x_g) default).C).Waits ((List.getD x_h.Guests (Int.toNat x_g) default).C).User ((List.getD x_h.Guests (Int.toNat x_g) default).C).On ((List.getD x_h.Guests (Int.toNat x_g) default).C).Stopped)) λv1=>
  Option.bind (fB v1) λv2=>
  cond v2
   (some (DExit.mk (0:Int) (0:Int) (DIns.mk (0:Int) (0:Int) (0:Int))))
   (Option.bind (dS x_h x_g ((List.getD x_h.Guests (Int.toNat x_g) default).C).Pc false) λv3=>
   cond (!decide (v3.2=(0:Int)))
    (Option.bind (jO x_h x_g ((List.getD x_h.Guests (Int.toNat x_g) default).C).Pc v3.2) λv4=>
    some v4)
    (grd ((0:Int)<=v3.1/\v3.1<((List.length x_h.Words:Nat):Int)) (Option.bind (lG (List.getD x_h.Words (Int.toNat v3.1) default)) λv5=>
     Option.bind (rU x_h x_g v5) λv6=>
     some v6)))))
noncomputable def bVf:Sg tG:=⟨[.st 26,.i .i64],.one (.st 129),pJ⟩
theorem bZt:Sok 103 bVf:=sgx [(107,.r bGo),(108,.r bIq),(111,.r aUh),(146,.r bPy),(114,.r bHg),(147,.r bUl)] ⟨bOd,bOm,aYr,bTu,bMy,bZw,trivial⟩ .o kr kr kr
noncomputable def aCb (x_table:List DShade)(x_addr:Int)(s1:Int):Option DExit:=some (DExit.mk s1 (List.getD x_table (Int.toNat (w64 (Int.tdiv x_addr (8:Int)))) default).Page (DIns.mk (0:Int) (0:Int) (0:Int)))
noncomputable def fV (x_table:List DShade)(x_addr:Int)(x_why:Int):Option DExit:=
 grd ((0:Int)<=(w64 (Int.tdiv x_addr (8:Int)))/\(w64 (Int.tdiv x_addr (8:Int)))<((List.length x_table:Nat):Int)) (Option.bind (cond (decide (x_why=(2:Int)))
  (some (.go (2:Int)))
  (cond (decide (x_why=(3:Int)))
   (some (.go (3:Int)))
   (some (.out (DExit.mk (0:Int) (0:Int) (DIns.mk (0:Int) (0:Int) (0:Int))))))) λj1=>
  JO.run j1 (aCb x_table x_addr))
noncomputable def bWc:Sg tG:=⟨[.row 103,.i .i64,.i .i64],.one (.st 129),fV⟩
theorem bYj:Sok 156 bWc:=sgx [] trivial (.s .o (.s .o (.j ⟨[6,7],[],[(.c 7 0,.i .i64)]⟩ .o .o))) kr kr kr
noncomputable def aIx  (s8:Unit):Option DExit:=some (DExit.mk (0:Int) (0:Int) (DIns.mk (0:Int) (0:Int) (0:Int)))
noncomputable def lN (x_h:DHost)(x_g:Int):Option DExit:=
 Option.bind (dM x_h x_g) λv1=>
 cond (!v1)
  (some (DExit.mk (0:Int) (0:Int) (DIns.mk (0:Int) (0:Int) (0:Int))))
  (grd ((0:Int)<=x_g/\x_g<((List.length x_h.Guests:Nat):Int)) (cond ((List.getD x_h.Guests (Int.toNat x_g) default).C).Stopped
   (some (DExit.mk (0:Int) (0:Int) (DIns.mk (0:Int) (0:Int) (0:Int))))
   (grd ((0:Int)<=x_g/\x_g<((List.length x_h.Guests:Nat):Int)) (Option.bind (jY (DCore.mk ((List.getD x_h.Guests (Int.toNat x_g) default).C).Regs ((List.getD x_h.Guests (Int.toNat x_g) default).C).Pc ((List.getD x_h.Guests (Int.toNat x_g) default).C).Root ((List.getD x_h.Guests (Int.toNat x_g) default).C).Vector ((List.getD x_h.Guests (Int.toNat x_g) default).C).Saved ((List.getD x_h.Guests (Int.toNat x_g) default).C).SavedUser ((List.getD x_h.Guests (Int.toNat x_g) default).C).Cause ((List.getD x_h.Guests (Int.toNat x_g) default).C).Bad ((List.getD x_h.Guests (Int.toNat x_g) default).C).Timer ((List.getD x_h.Guests (Int.toNat x_g) default).C).Waits ((List.getD x_h.Guests (Int.toNat x_g) default).C).User ((List.getD x_h.Guests (Int.toNat x_g) default).C).On ((List.getD x_h.Guests (Int.toNat x_g) default).C).Stopped)) λv2=>
    Option.bind (hC v2) λv3=>
    cond v3.2
     (some (DExit.mk (0:Int) (0:Int) (DIns.mk (0:Int) (0:Int) (0:Int))))
     (Option.bind (fL x_h x_g) λv4=>
     Option.bind (cQ v4 v3.1.Pc v3.1.User false) λv5=>
     cond (!decide (v5.2=(0:Int)))
      (Option.bind (fV v4 v3.1.Pc v5.2) λv6=>
      some v6)
      (grd ((0:Int)<=v5.1/\v5.1<((List.length x_h.Words:Nat):Int)) (Option.bind (lK (List.getD x_h.Words (Int.toNat v5.1) default)) λv7=>
       Option.bind (Option.bind (cU v7) λv9=>
        cond v9
         (cond (!v3.1.User)
          (some (.out (DExit.mk (1:Int) (0:Int) v7)))
          (cond (decide (v7.Op=(3:Int)))
           (grd ((0:Int)<=(Int.tmod v7.N (4:Int))/\(Int.tmod v7.N (4:Int))<((List.length v3.1.Regs:Nat):Int)) (Option.bind (cQ v4 (Int.tmod (List.getD v3.1.Regs (Int.toNat (Int.tmod v7.N (4:Int))) default) (64:Int)) v3.1.User (decide (v7.Op=(4:Int)))) λv10=>
            Option.bind (fV v4 (Int.tmod (List.getD v3.1.Regs (Int.toNat (Int.tmod v7.N (4:Int))) default) (64:Int)) v10.2) λv11=>
            some (.out v11)))
           (cond (decide (v7.Op=(4:Int)))
            (grd ((0:Int)<=(Int.tmod v7.N (4:Int))/\(Int.tmod v7.N (4:Int))<((List.length v3.1.Regs:Nat):Int)) (Option.bind (cQ v4 (Int.tmod (List.getD v3.1.Regs (Int.toNat (Int.tmod v7.N (4:Int))) default) (64:Int)) v3.1.User (decide (v7.Op=(4:Int)))) λv12=>
             Option.bind (fV v4 (Int.tmod (List.getD v3.1.Regs (Int.toNat (Int.tmod v7.N (4:Int))) default) (64:Int)) v12.2) λv13=>
             some (.out v13)))
            (some (.go ())))))
         (cond (decide (v7.Op=(3:Int)))
          (grd ((0:Int)<=(Int.tmod v7.N (4:Int))/\(Int.tmod v7.N (4:Int))<((List.length v3.1.Regs:Nat):Int)) (Option.bind (cQ v4 (Int.tmod (List.getD v3.1.Regs (Int.toNat (Int.tmod v7.N (4:Int))) default) (64:Int)) v3.1.User (decide (v7.Op=(4:Int)))) λv14=>
           Option.bind (fV v4 (Int.tmod (List.getD v3.1.Regs (Int.toNat (Int.tmod v7.N (4:Int))) default) (64:Int)) v14.2) λv15=>
           some (.out v15)))
          (cond (decide (v7.Op=(4:Int)))
           (grd ((0:Int)<=(Int.tmod v7.N (4:Int))/\(Int.tmod v7.N (4:Int))<((List.length v3.1.Regs:Nat):Int)) (Option.bind (cQ v4 (Int.tmod (List.getD v3.1.Regs (Int.toNat (Int.tmod v7.N (4:Int))) default) (64:Int)) v3.1.User (decide (v7.Op=(4:Int)))) λv16=>
            Option.bind (fV v4 (Int.tmod (List.getD v3.1.Regs (Int.toNat (Int.tmod v7.N (4:Int))) default) (64:Int)) v16.2) λv17=>
            some (.out v17)))
           (some (.go ()))))) λj8=>
        JO.run j8 aIx)))))))
noncomputable def bTa:Sg tG:=⟨[.st 26,.i .i64],.one (.st 129),lN⟩
theorem bYq:Sok 115 bTa:=sgx [(58,.r g58),(143,.r bIc),(66,.w g66),(67,.r g67),(68,.r g68),(156,.r bWc),(70,.r g70),(71,.r g71)] ⟨s58,bPw,s66,s67,s68,bYj,s70,s71,trivial⟩ (.s .o (.s .o (.s .o (.s .o (.s .o (.s .o (.s .o (.s .o (.j ⟨[4],[],[]⟩ .o .o))))))))) kr kr kr
noncomputable def lO (x_pc:Int):Option Int:=some (Int.tmod (w64 (x_pc+(1:Int))) (64:Int))
noncomputable def bQg:Sg tG:=⟨[.i .i64],.one (.i .i64),lO⟩
theorem bSx:Sok 194 bQg:=sgx [] trivial .o kr kr kr
noncomputable def eY (x_b:DBare):Option DBare:=
 Option.bind (lO x_b.C.Pc) λv1=>
 some (DBare.mk (DCore.mk x_b.C.Regs v1 x_b.C.Root x_b.C.Vector x_b.C.Saved x_b.C.SavedUser x_b.C.Cause x_b.C.Bad x_b.C.Timer x_b.C.Waits x_b.C.User x_b.C.On x_b.C.Stopped) x_b.Mem x_b.In x_b.Out)
noncomputable def aUx:Sg tG:=⟨[.st 47],.one (.sb 47),eY⟩
theorem aXf:Sok 183 aUx:=sgx [(194,.r bQg)] ⟨bSx,trivial⟩ .o kr kr kr
noncomputable def aDa (x_c:DCore):Option DCore:=some (DCore.mk x_c.Regs x_c.Saved x_c.Root x_c.Vector x_c.Saved x_c.SavedUser x_c.Cause x_c.Bad x_c.Timer x_c.Waits x_c.SavedUser true x_c.Stopped)
noncomputable def bWi:Sg tG:=⟨[.st 35],.one (.sb 35),aDa⟩
theorem bZq:Sok 197 bWi:=sgx [] trivial .o kr kr kr
noncomputable def pU (x_word:Int):Option Int:=
 Option.bind (jZ (Int.tmod x_word (16:Int))) λv1=>
 cond (!v1)
  (some (-1:Int))
  (some (Int.tmod x_word (16:Int)))
noncomputable def bXa:Sg tG:=⟨[.i .i64],.one (.i .i64),pU⟩
theorem bYy:Sok 198 bXa:=sgx [(138,.r bAc)] ⟨bHb,trivial⟩ .o kr kr kr
noncomputable def rZ (x_out:List Int)(x_word:Int):Option (List Int):=
 cond (decide ((30:Int)<=((List.length x_out:Nat):Int)))
  (some x_out)
  (Option.bind (dI x_out) λv1=>
  grd ((List.length v1+List.length ([x_word]:List Int))*8<=2^47/\List.length v1+List.length ([x_word]:List Int)<=2^47) (some (v1++([x_word]:List Int))))
noncomputable def bWr:Sg tG:=⟨[.row 3,.i .i64],.one (.rb 3),rZ⟩
theorem bZy:Sok 199 bWr:=sgx [(42,.r g42)] ⟨s42,trivial⟩ .o kr kr kr
noncomputable def lI (x_list:List Int)(x_at:Int)(x_w:Int):Option (List Int):=
 Option.bind (dI x_list) λv1=>
 grd ((0:Int)<=x_at/\x_at<((List.length v1:Nat):Int)) (some (List.set v1 (Int.toNat x_at) x_w))
noncomputable def bIe:Sg tG:=⟨[.row 3,.i .i64,.i .i64],.one (.row 3),lI⟩
theorem bQe:Sok 186 bIe:=sgx [(42,.r g42)] ⟨s42,trivial⟩ .o kr kr kr
noncomputable def rJ (x_b:DBare)(x_kind:Int):Option Int:=
 cond (decide (x_kind=(1:Int)))
  (some x_b.C.Cause)
  (cond (decide (x_kind=(2:Int)))
   (some x_b.C.Bad)
   (cond (decide (x_kind=(3:Int)))
    (some x_b.C.Saved)
    (cond (decide (((List.length x_b.In:Nat):Int)=(0:Int)))
     (some (0:Int))
     (grd ((0:Int)<=(0:Int)/\(0:Int)<((List.length x_b.In:Nat):Int)) (some (List.getD x_b.In (Int.toNat (0:Int)) default))))))
noncomputable def bTc:Sg tG:=⟨[.st 47,.i .i64],.one (.i .i64),rJ⟩
theorem bZo:Sok 201 bTc:=sgx [] trivial .o kr kr kr
noncomputable def aQg (x_b:DBare)(v2:List Int)(s3:List Int):Option DBare:=some (DBare.mk (DCore.mk v2 x_b.C.Pc x_b.C.Root x_b.C.Vector x_b.C.Saved x_b.C.SavedUser x_b.C.Cause x_b.C.Bad x_b.C.Timer x_b.C.Waits x_b.C.User x_b.C.On x_b.C.Stopped) x_b.Mem s3 x_b.Out)
noncomputable def tW (x_b:DBare)(x_i:DIns):Option DBare:=
 Option.bind (rJ x_b (Int.tmod x_i.N (4:Int))) λv1=>
 Option.bind (lI x_b.C.Regs x_i.A v1) λv2=>
 Option.bind (cond (decide ((Int.tmod x_i.N (4:Int))=(0:Int)))
  (cond (decide ((0:Int)<((List.length x_b.In:Nat):Int)))
   (grd ((0:Int)<=(1:Int)/\(1:Int)<=((List.length x_b.In:Nat):Int)/\((List.length x_b.In:Nat):Int)<=((List.length x_b.In:Nat):Int)) (some (.go (List.take (Int.toNat ((List.length x_b.In:Nat):Int)-Int.toNat (1:Int)) (List.drop (Int.toNat (1:Int)) x_b.In)))))
   (some (.go x_b.In)))
  (some (.go x_b.In))) λj3=>
  JO.run j3 (aQg x_b v2)
noncomputable def bXb:Sg tG:=⟨[.st 47,.st 89],.one (.sb 47),tW⟩
theorem bZb:Sok 200 bXb:=sgx [(201,.r bTc),(186,.r bIe)] ⟨bZo,bQe,trivial⟩ (.s .o (.s .o (.s .o (.j ⟨[2,4],[],[(.c 2 14,.rb 3)]⟩ .o .o)))) kr kr kr
noncomputable def iI  (s1:Int×Int×Int×Bool×(List Int)×(List Int)×Int×Int×Bool×Int×Int×Bool×Bool×Bool×(List Int)×(List Int)):Option DBare:=
 Option.bind (eY (DBare.mk (DCore.mk s1.2.2.2.2.2.1 s1.2.2.2.2.2.2.1 s1.1 s1.2.1 s1.2.2.2.2.2.2.2.1 s1.2.2.2.2.2.2.2.2.1 s1.2.2.2.2.2.2.2.2.2.1 s1.2.2.2.2.2.2.2.2.2.2.1 s1.2.2.1 s1.2.2.2.2.2.2.2.2.2.2.2.1 s1.2.2.2.2.2.2.2.2.2.2.2.2.1 s1.2.2.2.1 s1.2.2.2.2.2.2.2.2.2.2.2.2.2.1) s1.2.2.2.2.2.2.2.2.2.2.2.2.2.2.1 s1.2.2.2.2.2.2.2.2.2.2.2.2.2.2.2 s1.2.2.2.2.1)) λv2=>
 some v2
noncomputable def oR (x_b:DBare)(x_i:DIns):Option DBare:=
 grd ((0:Int)<=x_i.A/\x_i.A<((List.length x_b.C.Regs:Nat):Int)) (Option.bind (cond (decide (x_i.Op=(0:Int)))
  (some (.out (DBare.mk (DCore.mk x_b.C.Regs x_b.C.Pc x_b.C.Root x_b.C.Vector x_b.C.Saved x_b.C.SavedUser x_b.C.Cause x_b.C.Bad x_b.C.Timer x_b.C.Waits x_b.C.User x_b.C.On true) x_b.Mem x_b.In x_b.Out)))
  (cond (decide (x_i.Op=(11:Int)))
   (Option.bind (aDa x_b.C) λv3=>
   some (.out (DBare.mk v3 x_b.Mem x_b.In x_b.Out)))
   (cond (decide (x_i.Op=(8:Int)))
    (Option.bind (pU (List.getD x_b.C.Regs (Int.toNat x_i.A) default)) λv4=>
    some (.go (v4,x_b.C.Vector,x_b.C.Timer,x_b.C.On,x_b.Out,x_b.C.Regs,x_b.C.Pc,x_b.C.Saved,x_b.C.SavedUser,x_b.C.Cause,x_b.C.Bad,x_b.C.Waits,x_b.C.User,x_b.C.Stopped,x_b.Mem,x_b.In)))
    (cond (decide (x_i.Op=(9:Int)))
     (some (.go (x_b.C.Root,Int.tmod (List.getD x_b.C.Regs (Int.toNat x_i.A) default) (64:Int),x_b.C.Timer,x_b.C.On,x_b.Out,x_b.C.Regs,x_b.C.Pc,x_b.C.Saved,x_b.C.SavedUser,x_b.C.Cause,x_b.C.Bad,x_b.C.Waits,x_b.C.User,x_b.C.Stopped,x_b.Mem,x_b.In)))
     (cond (decide (x_i.Op=(10:Int)))
      (some (.go (x_b.C.Root,x_b.C.Vector,List.getD x_b.C.Regs (Int.toNat x_i.A) default,x_b.C.On,x_b.Out,x_b.C.Regs,x_b.C.Pc,x_b.C.Saved,x_b.C.SavedUser,x_b.C.Cause,x_b.C.Bad,x_b.C.Waits,x_b.C.User,x_b.C.Stopped,x_b.Mem,x_b.In)))
      (cond (decide (x_i.Op=(12:Int)))
       (some (.go (x_b.C.Root,x_b.C.Vector,x_b.C.Timer,decide ((Int.tmod x_i.N (2:Int))=(1:Int)),x_b.Out,x_b.C.Regs,x_b.C.Pc,x_b.C.Saved,x_b.C.SavedUser,x_b.C.Cause,x_b.C.Bad,x_b.C.Waits,x_b.C.User,x_b.C.Stopped,x_b.Mem,x_b.In)))
       (cond (decide (x_i.Op=(13:Int)))
        (Option.bind (rZ x_b.Out (List.getD x_b.C.Regs (Int.toNat x_i.A) default)) λv5=>
        some (.go (x_b.C.Root,x_b.C.Vector,x_b.C.Timer,x_b.C.On,v5,x_b.C.Regs,x_b.C.Pc,x_b.C.Saved,x_b.C.SavedUser,x_b.C.Cause,x_b.C.Bad,x_b.C.Waits,x_b.C.User,x_b.C.Stopped,x_b.Mem,x_b.In)))
        (cond (decide (x_i.Op=(14:Int)))
         (Option.bind (tW x_b x_i) λv6=>
         some (.go (v6.C.Root,v6.C.Vector,v6.C.Timer,v6.C.On,v6.Out,v6.C.Regs,v6.C.Pc,v6.C.Saved,v6.C.SavedUser,v6.C.Cause,v6.C.Bad,v6.C.Waits,v6.C.User,v6.C.Stopped,v6.Mem,v6.In)))
         (some (.go (x_b.C.Root,x_b.C.Vector,x_b.C.Timer,x_b.C.On,x_b.Out,x_b.C.Regs,x_b.C.Pc,x_b.C.Saved,x_b.C.SavedUser,x_b.C.Cause,x_b.C.Bad,x_b.C.Waits,x_b.C.User,x_b.C.Stopped,x_b.Mem,x_b.In))))))))))) λj1=>
  JO.run j1 iI)
noncomputable def bSz:Sg tG:=⟨[.st 47,.st 89],.one (.sb 47),oR⟩
theorem bZa:Sok 185 bSz:=sgx [(197,.r bWi),(198,.r bXa),(199,.r bWr),(200,.r bXb),(183,.r aUx)] ⟨bZq,bYy,bZy,bZb,aXf,trivial⟩ (.s .o (.s .o (.j ⟨[2,4],[],[(.c 2 2,.i .i64),(.c 2 3,.i .i64),(.c 2 8,.i .i64),(.c 2 11,.b),(.c 2 15,.rb 3),(.c 2 0,.rb 3),(.c 2 1,.i .i64),(.c 2 4,.i .i64),(.c 2 5,.b),(.c 2 6,.i .i64),(.c 2 7,.i .i64),(.c 2 9,.b),(.c 2 10,.b),(.c 2 12,.b),(.c 2 13,.rb 3),(.c 2 14,.rb 3)]⟩ .o .o))) kr kr kr
noncomputable def xQ (x_c:DCore)(s1:Int×Int×Int×Bool×Bool×Int×(List Int)×(List Int)×(List Int)):Option (DCore×(List Int)×(List Int)):=some ((DCore.mk s1.2.2.2.2.2.2.2.2 s1.2.2.2.2.2.1 s1.1 s1.2.1 x_c.Saved x_c.SavedUser x_c.Cause x_c.Bad s1.2.2.1 x_c.Waits s1.2.2.2.1 s1.2.2.2.2.1 x_c.Stopped),s1.2.2.2.2.2.2.2.1,s1.2.2.2.2.2.2.1)
noncomputable def xT (x_c:DCore)(x_out:List Int)(x_i:DIns)(s2:(List Int)×Int):Option (JO (Int×Int×Int×Bool×Bool×Int×(List Int)×(List Int)×(List Int)) (DCore×(List Int)×(List Int))):=grd ((0:Int)<=x_i.A/\x_i.A<((List.length x_c.Regs:Nat):Int)) (some (.go (x_c.Root,x_c.Vector,x_c.Timer,x_c.User,x_c.On,Int.tmod (w64 (x_c.Pc+(1:Int))) (64:Int),x_out,s2.1,List.set x_c.Regs (Int.toNat x_i.A) s2.2)))
noncomputable def mY (x_c:DCore)(x_in:List Int)(x_out:List Int)(x_i:DIns):Option (DCore×(List Int)×(List Int)):=
 Option.bind (cond (decide (x_i.Op=(0:Int)))
  (some (.out ((DCore.mk x_c.Regs x_c.Pc x_c.Root x_c.Vector x_c.Saved x_c.SavedUser x_c.Cause x_c.Bad x_c.Timer x_c.Waits x_c.User x_c.On true),x_in,x_out)))
  (cond (decide (x_i.Op=(8:Int)))
   (grd ((0:Int)<=x_i.A/\x_i.A<((List.length x_c.Regs:Nat):Int)) (cond (decide ((Int.tmod (List.getD x_c.Regs (Int.toNat x_i.A) default) (16:Int))<(8:Int)))
    (grd ((0:Int)<=x_i.A/\x_i.A<((List.length x_c.Regs:Nat):Int)) (some (.go ((Int.tmod (List.getD x_c.Regs (Int.toNat x_i.A) default) (16:Int)),x_c.Vector,x_c.Timer,x_c.User,x_c.On,Int.tmod (w64 (x_c.Pc+(1:Int))) (64:Int),x_out,x_in,x_c.Regs))))
    (some (.go ((-1:Int),x_c.Vector,x_c.Timer,x_c.User,x_c.On,Int.tmod (w64 (x_c.Pc+(1:Int))) (64:Int),x_out,x_in,x_c.Regs)))))
   (cond (decide (x_i.Op=(9:Int)))
    (grd ((0:Int)<=x_i.A/\x_i.A<((List.length x_c.Regs:Nat):Int)) (some (.go (x_c.Root,Int.tmod (List.getD x_c.Regs (Int.toNat x_i.A) default) (64:Int),x_c.Timer,x_c.User,x_c.On,Int.tmod (w64 (x_c.Pc+(1:Int))) (64:Int),x_out,x_in,x_c.Regs))))
    (cond (decide (x_i.Op=(10:Int)))
     (grd ((0:Int)<=x_i.A/\x_i.A<((List.length x_c.Regs:Nat):Int)) (some (.go (x_c.Root,x_c.Vector,List.getD x_c.Regs (Int.toNat x_i.A) default,x_c.User,x_c.On,Int.tmod (w64 (x_c.Pc+(1:Int))) (64:Int),x_out,x_in,x_c.Regs))))
     (cond (decide (x_i.Op=(11:Int)))
      (some (.go (x_c.Root,x_c.Vector,x_c.Timer,x_c.SavedUser,true,x_c.Saved,x_out,x_in,x_c.Regs)))
      (cond (decide (x_i.Op=(12:Int)))
       (some (.go (x_c.Root,x_c.Vector,x_c.Timer,x_c.User,decide ((Int.tmod x_i.N (2:Int))=(1:Int)),Int.tmod (w64 (x_c.Pc+(1:Int))) (64:Int),x_out,x_in,x_c.Regs)))
       (cond (decide (x_i.Op=(13:Int)))
        (cond (decide (((List.length x_out:Nat):Int)<(30:Int)))
         (grd ((0:Int)<=x_i.A/\x_i.A<((List.length x_c.Regs:Nat):Int)) (grd ((List.length x_out+List.length ([List.getD x_c.Regs (Int.toNat x_i.A) default]:List Int))*8<=2^47/\List.length x_out+List.length ([List.getD x_c.Regs (Int.toNat x_i.A) default]:List Int)<=2^47) (some (.go (x_c.Root,x_c.Vector,x_c.Timer,x_c.User,x_c.On,Int.tmod (w64 (x_c.Pc+(1:Int))) (64:Int),x_out++([List.getD x_c.Regs (Int.toNat x_i.A) default]:List Int),x_in,x_c.Regs)))))
         (some (.go (x_c.Root,x_c.Vector,x_c.Timer,x_c.User,x_c.On,Int.tmod (w64 (x_c.Pc+(1:Int))) (64:Int),x_out,x_in,x_c.Regs))))
        (cond (decide (x_i.Op=(14:Int)))
         (grd ((0:Int)<=(Int.tmod x_i.N (4:Int))/\(Int.tmod x_i.N (4:Int))<((4:Nat):Int)) (Option.bind (cond (decide ((Int.tmod x_i.N (4:Int))=(0:Int)))
          (cond (decide ((0:Int)<((List.length x_in:Nat):Int)))
           (grd ((0:Int)<=(0:Int)/\(0:Int)<((List.length x_in:Nat):Int)) (grd ((0:Int)<=(1:Int)/\(1:Int)<=((List.length x_in:Nat):Int)/\((List.length x_in:Nat):Int)<=((List.length x_in:Nat):Int)) (some (.go ((List.take (Int.toNat ((List.length x_in:Nat):Int)-Int.toNat (1:Int)) (List.drop (Int.toNat (1:Int)) x_in)),List.getD x_in (Int.toNat (0:Int)) default)))))
           (some (.go (x_in,List.getD ([(0:Int),x_c.Cause,x_c.Bad,x_c.Saved]:List Int) (Int.toNat (Int.tmod x_i.N (4:Int))) default))))
          (some (.go (x_in,List.getD ([(0:Int),x_c.Cause,x_c.Bad,x_c.Saved]:List Int) (Int.toNat (Int.tmod x_i.N (4:Int))) default)))) λj2=>
          JO.run j2 (xT x_c x_out x_i)))
         (some (.go (x_c.Root,x_c.Vector,x_c.Timer,x_c.User,x_c.On,Int.tmod (w64 (x_c.Pc+(1:Int))) (64:Int),x_out,x_in,x_c.Regs))))))))))) λj1=>
  JO.run j1 (xQ x_c)
noncomputable def bVu:Sw tG:=⟨[.os 35,.v (.row 3),.ow 3,.v (.st 89)],.three (.st 35) (.rb 3) (.row 3),mY⟩
theorem bZx:Sjk 121 bVu:=sgy [] trivial (.s .o (.s .o (.j ⟨[4,8],[],[(.c 4 2,.i .i64),(.c 4 3,.i .i64),(.c 4 8,.i .i64),(.c 4 10,.b),(.c 4 11,.b),(.s 11,.i .i64),(.s 2,.ro 3),(.s 1,.rb 3),(.c 4 0,.ro 3)]⟩ (.s .o (.k (.s .o (.c .o (.s .o (.c .o (.s .o (.c .o (.s .o (.c .o (.s .o (.c .o (.s .o (.c .o (.s .o (.c .o (.s .o (.c (.s .o (.j ⟨[2,4,7,8,11],[],[(.s 1,.rb 3),(.s 12,.i .i64)]⟩ .o .o)) .o)))))))))))))))))) .o))) kr kr kr
noncomputable def cO (x_h:DHost)(x_g:Int)(x_b:DBare):Option DHost:=
 Option.bind (dE x_h) λv1=>
 Option.bind (dD x_b) λv2=>
 grd ((0:Int)<=x_g/\x_g<((List.length v1.Guests:Nat):Int)) (grd ((0:Int)<=x_g/\x_g<((List.length v1.Guests:Nat):Int)) (grd ((0:Int)<=x_g/\x_g<((List.length v1.Guests:Nat):Int)) (some (DHost.mk v1.Words (let z0:=List.set v1.Guests (Int.toNat x_g) (DGuest.mk (List.getD v1.Guests (Int.toNat x_g) default).Live v2.C (List.getD v1.Guests (Int.toNat x_g) default).Pages (List.getD v1.Guests (Int.toNat x_g) default).In (List.getD v1.Guests (Int.toNat x_g) default).Out);let z1:=List.set z0 (Int.toNat x_g) (DGuest.mk (List.getD z0 (Int.toNat x_g) default).Live (DCore.mk ((List.getD z0 (Int.toNat x_g) default).C).Regs ((List.getD z0 (Int.toNat x_g) default).C).Pc ((List.getD z0 (Int.toNat x_g) default).C).Root ((List.getD z0 (Int.toNat x_g) default).C).Vector ((List.getD z0 (Int.toNat x_g) default).C).Saved ((List.getD z0 (Int.toNat x_g) default).C).SavedUser ((List.getD z0 (Int.toNat x_g) default).C).Cause ((List.getD z0 (Int.toNat x_g) default).C).Bad ((List.getD z0 (Int.toNat x_g) default).C).Timer ((List.getD z0 (Int.toNat x_g) default).C).Waits ((List.getD z0 (Int.toNat x_g) default).C).User ((List.getD z0 (Int.toNat x_g) default).C).On ((List.getD z0 (Int.toNat x_g) default).C).Stopped) (List.getD z0 (Int.toNat x_g) default).Pages v2.In (List.getD z0 (Int.toNat x_g) default).Out);List.set z1 (Int.toNat x_g) (DGuest.mk (List.getD z1 (Int.toNat x_g) default).Live (DCore.mk ((List.getD z1 (Int.toNat x_g) default).C).Regs ((List.getD z1 (Int.toNat x_g) default).C).Pc ((List.getD z1 (Int.toNat x_g) default).C).Root ((List.getD z1 (Int.toNat x_g) default).C).Vector ((List.getD z1 (Int.toNat x_g) default).C).Saved ((List.getD z1 (Int.toNat x_g) default).C).SavedUser ((List.getD z1 (Int.toNat x_g) default).C).Cause ((List.getD z1 (Int.toNat x_g) default).C).Bad ((List.getD z1 (Int.toNat x_g) default).C).Timer ((List.getD z1 (Int.toNat x_g) default).C).Waits ((List.getD z1 (Int.toNat x_g) default).C).User ((List.getD z1 (Int.toNat x_g) default).C).On ((List.getD z1 (Int.toNat x_g) default).C).Stopped) (List.getD z1 (Int.toNat x_g) default).Pages (List.getD z1 (Int.toNat x_g) default).In v2.Out))))))
noncomputable def aZq:Sg tG:=⟨[.st 26,.i .i64,.st 47],.one (.st 2026),cO⟩
theorem bHt:Sok 110 aZq:=sgx [(51,.r g51),(74,.r g74)] ⟨s51,s74,trivial⟩ (.s .o (.s .o (.s .o (.s (.g [] [] [.fo (.c 7 1) 0]) (.s (.g [] [] [.fo (.c 7 1) 0]) (.s (.g [] [] [.fo (.c 7 1) 0]) .o)))))) kr kr kr
noncomputable def oQ (x_h:DHost)(x_g:Int):Option DBare:=grd ((0:Int)<=x_g/\x_g<((List.length x_h.Guests:Nat):Int)) (some (DBare.mk (DCore.mk ((List.getD x_h.Guests (Int.toNat x_g) default).C).Regs ((List.getD x_h.Guests (Int.toNat x_g) default).C).Pc ((List.getD x_h.Guests (Int.toNat x_g) default).C).Root ((List.getD x_h.Guests (Int.toNat x_g) default).C).Vector ((List.getD x_h.Guests (Int.toNat x_g) default).C).Saved ((List.getD x_h.Guests (Int.toNat x_g) default).C).SavedUser ((List.getD x_h.Guests (Int.toNat x_g) default).C).Cause ((List.getD x_h.Guests (Int.toNat x_g) default).C).Bad ((List.getD x_h.Guests (Int.toNat x_g) default).C).Timer ((List.getD x_h.Guests (Int.toNat x_g) default).C).Waits ((List.getD x_h.Guests (Int.toNat x_g) default).C).User ((List.getD x_h.Guests (Int.toNat x_g) default).C).On ((List.getD x_h.Guests (Int.toNat x_g) default).C).Stopped) ([]:List Int) (List.getD x_h.Guests (Int.toNat x_g) default).In (List.getD x_h.Guests (Int.toNat x_g) default).Out))
noncomputable def bVo:Sg tG:=⟨[.st 26,.i .i64],.one (.sb 47),oQ⟩
theorem cAb:Sok 106 bVo:=sgx [] trivial .o kr kr kr
noncomputable def eX (x_h:DHost)(x_g:Int)(x_i:DIns):Option (DHost×Bool):=
 Option.bind (dM x_h x_g) λv1=>
 cond (!v1)
  (some ((DHost.mk ([]:List Int) ([]:List DGuest)),false))
  (Option.bind (cU x_i) λv2=>
  cond (!v2)
   (some ((DHost.mk ([]:List Int) ([]:List DGuest)),false))
   (Option.bind (eC x_h) λv3=>
   grd ((0:Int)<=x_g/\x_g<((List.length v3.Guests:Nat):Int)) (Option.bind (mY (DCore.mk ((List.getD v3.Guests (Int.toNat x_g) default).C).Regs ((List.getD v3.Guests (Int.toNat x_g) default).C).Pc ((List.getD v3.Guests (Int.toNat x_g) default).C).Root ((List.getD v3.Guests (Int.toNat x_g) default).C).Vector ((List.getD v3.Guests (Int.toNat x_g) default).C).Saved ((List.getD v3.Guests (Int.toNat x_g) default).C).SavedUser ((List.getD v3.Guests (Int.toNat x_g) default).C).Cause ((List.getD v3.Guests (Int.toNat x_g) default).C).Bad ((List.getD v3.Guests (Int.toNat x_g) default).C).Timer ((List.getD v3.Guests (Int.toNat x_g) default).C).Waits ((List.getD v3.Guests (Int.toNat x_g) default).C).User ((List.getD v3.Guests (Int.toNat x_g) default).C).On ((List.getD v3.Guests (Int.toNat x_g) default).C).Stopped) (List.getD v3.Guests (Int.toNat x_g) default).In (List.getD v3.Guests (Int.toNat x_g) default).Out x_i) λv4=>
    grd ((0:Int)<=x_g/\x_g<((List.length v3.Guests:Nat):Int)) (grd ((Int.toNat x_g)=(Int.toNat x_g)) (grd ((Int.toNat x_g)=(Int.toNat x_g)) (grd ((Int.toNat x_g)=(Int.toNat x_g)) (grd ((Int.toNat x_g)=(Int.toNat x_g)) (some ((DHost.mk v3.Words (List.set v3.Guests (Int.toNat x_g) (DGuest.mk (List.getD v3.Guests (Int.toNat x_g) default).Live v4.1 (List.getD v3.Guests (Int.toNat x_g) default).Pages v4.2.1 v4.2.2))),true)))))))))
noncomputable def g72:Sg tG:=⟨[.st 26,.i .i64,.st 89],.two (.sb 26) .b,eX⟩
theorem s72:Sok 72 g72:=sgx [(58,.r g58),(71,.r g71),(48,.r g48),(121,.w bVu)] ⟨s58,s71,s48,bZx,trivial⟩ (.s .o (.s .o (.s .o (.s .o (.s (.g [.uf (.c 9 1) 0 1,.uf (.c 9 15) 0 15,.uf (.c 9 16) 0 16,.fr (.c 9 15) 0] [] []) (.s (.g [.uf (.c 9 14) 0 14] [] []) .o)))))) kr kr kr
theorem wD{x_h:DHost}{x_g:Int}{x_i:DIns}{R_:DHost×Bool}(hh:eX x_h x_g x_i=some R_):Fn Tryz.prog 72 [.agg (fP x_h),.int .i64 x_g,.agg (eD x_i)] (.tup [.agg [bo (eI .i64) R_.1.Words,bo dZ R_.1.Guests],.bool R_.2]):=kc (s72 x_h x_g x_i R_ hh)
noncomputable def nX (x_c:DCore)(x_cause:Int)(x_bad:Int)(x_saved:Int):Option DCore:=some (DCore.mk x_c.Regs x_c.Vector x_c.Root x_c.Vector x_saved x_c.User x_cause x_bad x_c.Timer x_c.Waits false false x_c.Stopped)
noncomputable def aYh:Sg tG:=⟨[.st 35,.i .i64,.i .i64,.i .i64],.one (.sb 35),nX⟩
theorem bGx:Sok 150 aYh:=sgx [] trivial .o kr kr kr
noncomputable def fN (x_b:DBare)(x_a:Int)(x_w:Int):Option DBare:=
 Option.bind (lI x_b.C.Regs x_a x_w) λv1=>
 Option.bind (eY (DBare.mk (DCore.mk v1 x_b.C.Pc x_b.C.Root x_b.C.Vector x_b.C.Saved x_b.C.SavedUser x_b.C.Cause x_b.C.Bad x_b.C.Timer x_b.C.Waits x_b.C.User x_b.C.On x_b.C.Stopped) x_b.Mem x_b.In x_b.Out)) λv2=>
 some v2
noncomputable def bHz:Sg tG:=⟨[.st 47,.i .i64,.i .i64],.one (.sb 47),fN⟩
theorem bMn:Sok 182 bHz:=sgx [(186,.r bIe),(183,.r aUx)] ⟨bQe,aXf,trivial⟩ (.s .o (.s .o (.s (.g [.fr (.c 3 0) 0] [] []) .o))) kr kr kr
noncomputable def aPj (x_b:DBare)(x_i:DIns)(s1:Unit):Option DBare:=some (DBare.mk (DCore.mk x_b.C.Regs x_i.N x_b.C.Root x_b.C.Vector x_b.C.Saved x_b.C.SavedUser x_b.C.Cause x_b.C.Bad x_b.C.Timer x_b.C.Waits x_b.C.User x_b.C.On x_b.C.Stopped) x_b.Mem x_b.In x_b.Out)
noncomputable def tR (x_b:DBare)(x_i:DIns):Option DBare:=
 Option.bind (cond (decide (x_i.Op=(6:Int)))
  (grd ((0:Int)<=x_i.A/\x_i.A<((List.length x_b.C.Regs:Nat):Int)) (cond (decide ((List.getD x_b.C.Regs (Int.toNat x_i.A) default)=(0:Int)))
   (Option.bind (eY x_b) λv2=>
   some (.out v2))
   (some (.go ()))))
  (some (.go ()))) λj1=>
  JO.run j1 (aPj x_b x_i)
noncomputable def bUc:Sg tG:=⟨[.st 47,.st 89],.one (.sb 47),tR⟩
theorem bYt:Sok 195 bUc:=sgx [(183,.r aUx)] ⟨aXf,trivial⟩ (.s .o (.j ⟨[2,3,4],[],[]⟩ .o .o)) kr kr kr
noncomputable def rL (x_regs:List Int)(x_i:DIns):Option Int:=
 grd ((0:Int)<=(Int.tmod x_i.N (4:Int))/\(Int.tmod x_i.N (4:Int))<((List.length x_regs:Nat):Int)) (cond (decide (x_i.Op=(2:Int)))
  (grd ((0:Int)<=x_i.A/\x_i.A<((List.length x_regs:Nat):Int)) (some (Int.tmod (w64 ((List.getD x_regs (Int.toNat x_i.A) default)+(List.getD x_regs (Int.toNat (Int.tmod x_i.N (4:Int))) default))) (4096:Int))))
  (cond (decide (x_i.Op=(15:Int)))
   (grd ((0:Int)<=x_i.A/\x_i.A<((List.length x_regs:Nat):Int)) (some (Int.tmod (w64 ((w64 ((List.getD x_regs (Int.toNat x_i.A) default)-(List.getD x_regs (Int.toNat (Int.tmod x_i.N (4:Int))) default)))+(4096:Int))) (4096:Int))))
   (some x_i.N)))
noncomputable def bVw:Sg tG:=⟨[.row 3,.st 89],.one (.i .i64),rL⟩
theorem cAh:Sok 196 bVw:=sgx [] trivial .o kr kr kr
noncomputable def zM (x_b:DBare)(x_i:DIns)(s3:Bool):Option DBare:=
 cond s3
  (Option.bind (tR x_b x_i) λv4=>
  some v4)
  (Option.bind (rL x_b.C.Regs x_i) λv5=>
  Option.bind (fN x_b x_i.A v5) λv6=>
  some v6)
noncomputable def rK (x_b:DBare)(x_i:DIns):Option DBare:=
 cond (decide (x_i.Op=(7:Int)))
  (Option.bind (lO x_b.C.Pc) λv1=>
  Option.bind (nX x_b.C (1:Int) (0:Int) v1) λv2=>
  some (DBare.mk v2 x_b.Mem x_b.In x_b.Out))
  (Option.bind (cond (decide (x_i.Op=(5:Int)))
   (some (.go (decide (x_i.Op=(5:Int)))))
   (some (.go (decide (x_i.Op=(6:Int)))))) λj3=>
   JO.run j3 (zM x_b x_i))
noncomputable def bTs:Sg tG:=⟨[.st 47,.st 89],.one (.sb 47),rK⟩
theorem bYx:Sok 184 bTs:=sgx [(194,.r bQg),(150,.r aYh),(195,.r bUc),(196,.r bVw),(182,.r bHz)] ⟨bSx,bGx,bYt,cAh,bMn,trivial⟩ (.s .o (.s (.s .o (.k (.s .o (.c .o (.j ⟨[2,3,4],[],[(.s 18,.b)]⟩ .o .o))))) .o)) kr kr kr
noncomputable def lP (x_b:DBare)(x_i:DIns):Option DBare:=
 Option.bind (mB x_i) λv1=>
 cond (!v1)
  (Option.bind (rK x_b x_i) λv2=>
  some v2)
  (cond x_b.C.User
   (Option.bind (nX x_b.C (3:Int) (0:Int) x_b.C.Pc) λv3=>
   some (DBare.mk v3 x_b.Mem x_b.In x_b.Out))
   (Option.bind (oR x_b x_i) λv4=>
   some v4))
noncomputable def bNv:Sg tG:=⟨[.st 47,.st 89],.one (.sb 47),lP⟩
theorem bWa:Sok 155 bNv:=sgx [(178,.r bNt),(184,.r bTs),(150,.r aYh),(185,.r bSz)] ⟨bVz,bYx,bGx,bZa,trivial⟩ .o kr kr kr
noncomputable def zQ (x_c:DCore)(s1:(List Int)×Int):Option DCore:=some (DCore.mk s1.1 s1.2 x_c.Root x_c.Vector x_c.Saved x_c.SavedUser x_c.Cause x_c.Bad x_c.Timer x_c.Waits x_c.User x_c.On x_c.Stopped)
noncomputable def iU (x_c:DCore)(x_i:DIns):Option DCore:=
 Option.bind (cond (decide (x_i.Op=(1:Int)))
  (grd ((0:Int)<=x_i.A/\x_i.A<((List.length x_c.Regs:Nat):Int)) (some (.go ((List.set x_c.Regs (Int.toNat x_i.A) x_i.N),Int.tmod (w64 (x_c.Pc+(1:Int))) (64:Int)))))
  (cond (decide (x_i.Op=(2:Int)))
   (grd ((0:Int)<=x_i.A/\x_i.A<((List.length x_c.Regs:Nat):Int)) (grd ((0:Int)<=(Int.tmod x_i.N (4:Int))/\(Int.tmod x_i.N (4:Int))<((List.length x_c.Regs:Nat):Int)) (grd ((0:Int)<=x_i.A/\x_i.A<((List.length x_c.Regs:Nat):Int)) (some (.go ((List.set x_c.Regs (Int.toNat x_i.A) (Int.tmod (w64 ((List.getD x_c.Regs (Int.toNat x_i.A) default)+(List.getD x_c.Regs (Int.toNat (Int.tmod x_i.N (4:Int))) default))) (4096:Int))),Int.tmod (w64 (x_c.Pc+(1:Int))) (64:Int)))))))
   (cond (decide (x_i.Op=(15:Int)))
    (grd ((0:Int)<=x_i.A/\x_i.A<((List.length x_c.Regs:Nat):Int)) (grd ((0:Int)<=(Int.tmod x_i.N (4:Int))/\(Int.tmod x_i.N (4:Int))<((List.length x_c.Regs:Nat):Int)) (grd ((0:Int)<=x_i.A/\x_i.A<((List.length x_c.Regs:Nat):Int)) (some (.go ((List.set x_c.Regs (Int.toNat x_i.A) (Int.tmod (w64 ((w64 ((List.getD x_c.Regs (Int.toNat x_i.A) default)+(4096:Int)))-(List.getD x_c.Regs (Int.toNat (Int.tmod x_i.N (4:Int))) default))) (4096:Int))),Int.tmod (w64 (x_c.Pc+(1:Int))) (64:Int)))))))
    (cond (decide (x_i.Op=(5:Int)))
     (some (.go (x_c.Regs,x_i.N)))
     (cond (decide (x_i.Op=(6:Int)))
      (grd ((0:Int)<=x_i.A/\x_i.A<((List.length x_c.Regs:Nat):Int)) (cond (!decide ((List.getD x_c.Regs (Int.toNat x_i.A) default)=(0:Int)))
       (some (.go (x_c.Regs,x_i.N)))
       (some (.go (x_c.Regs,Int.tmod (w64 (x_c.Pc+(1:Int))) (64:Int))))))
      (cond (decide (x_i.Op=(7:Int)))
       (Option.bind (iB x_c (Int.tmod (w64 (x_c.Pc+(1:Int))) (64:Int)) (1:Int) (0:Int)) λv2=>
       some (.out v2))
       (some (.go (x_c.Regs,Int.tmod (w64 (x_c.Pc+(1:Int))) (64:Int)))))))))) λj1=>
  JO.run j1 (zQ x_c)
noncomputable def g73:Sw tG:=⟨[.os 35,.v (.st 89)],.one (.st 35),iU⟩
theorem s73:Sjk 73 g73:=sgy [(69,.w g69)] ⟨s69,trivial⟩ (.s .o (.s .o (.j ⟨[2,4],[],[(.c 2 0,.ro 3),(.s 5,.i .i64)]⟩ .o .o))) kr kr kr
theorem aDr{x_c:DCore}{x_i:DIns}{R_:DCore}(hh:iU x_c x_i=some R_):Inl Tryz.prog 73 [.agg [.sref 0 [] 0 (List.length x_c.Regs) 1,.int .i64 x_c.Pc,.int .i64 x_c.Root,.int .i64 x_c.Vector,.int .i64 x_c.Saved,.bool x_c.SavedUser,.int .i64 x_c.Cause,.int .i64 x_c.Bad,.int .i64 x_c.Timer,.bool x_c.Waits,.bool x_c.User,.bool x_c.On,.bool x_c.Stopped],.agg (eD x_i)] [(0,some (rI_3 x_c.Regs))] 1 (.agg [.sref 1 [] 0 (List.length R_.Regs) 1,.int .i64 R_.Pc,.int .i64 R_.Root,.int .i64 R_.Vector,.int .i64 R_.Saved,.bool R_.SavedUser,.int .i64 R_.Cause,.int .i64 R_.Bad,.int .i64 R_.Timer,.bool R_.Waits,.bool R_.User,.bool R_.On,.bool R_.Stopped]) [(1,some (rI_3 R_.Regs))] 2:=kc (s73 x_c x_i R_ hh)
noncomputable def mP (x_c:DCore):Option DCore:=
 Option.bind (nX (DCore.mk x_c.Regs x_c.Pc x_c.Root x_c.Vector x_c.Saved x_c.SavedUser x_c.Cause x_c.Bad x_c.Timer false x_c.User x_c.On x_c.Stopped) (4:Int) (0:Int) x_c.Pc) λv1=>
 some v1
noncomputable def bPd:Sg tG:=⟨[.st 35],.one (.sb 35),mP⟩
theorem bUb:Sok 109 bPd:=sgx [(150,.r aYh)] ⟨bGx,trivial⟩ .o kr kr kr
noncomputable def gC (x_b:DBare)(x_addr:Int):Option DBare:=
 Option.bind (nX x_b.C (2:Int) x_addr x_b.C.Pc) λv1=>
 some (DBare.mk v1 x_b.Mem x_b.In x_b.Out)
noncomputable def aPf:Sg tG:=⟨[.st 47,.i .i64],.one (.sb 47),gC⟩
theorem aTr:Sok 112 aPf:=sgx [(150,.r aYh)] ⟨bGx,trivial⟩ .o kr kr kr
noncomputable def uA (x_b:DBare)(x_i:DIns):Option DBare:=
 Option.bind (cZ x_b.C x_i) λv1=>
 Option.bind (pN x_b.Mem x_b.C.Root v1 x_b.C.User false) λv2=>
 cond (decide (v2=(-1:Int)))
  (Option.bind (gC x_b v1) λv3=>
  some v3)
  (grd ((0:Int)<=v2/\v2<((List.length x_b.Mem:Nat):Int)) (Option.bind (fN x_b x_i.A (List.getD x_b.Mem (Int.toNat v2) default)) λv4=>
   some v4))
noncomputable def bTb:Sg tG:=⟨[.st 47,.st 89],.one (.sb 47),uA⟩
theorem bZk:Sok 161 bTb:=sgx [(179,.r aUs),(126,.r bIa),(112,.r aPf),(182,.r bHz)] ⟨bAv,bNa,aTr,bMn,trivial⟩ .o kr kr kr
noncomputable def tZ (x_b:DBare)(x_i:DIns):Option DBare:=
 Option.bind (cZ x_b.C x_i) λv1=>
 Option.bind (pN x_b.Mem x_b.C.Root v1 x_b.C.User true) λv2=>
 cond (decide (v2=(-1:Int)))
  (Option.bind (gC x_b v1) λv3=>
  some v3)
  (grd ((0:Int)<=x_i.A/\x_i.A<((List.length x_b.C.Regs:Nat):Int)) (Option.bind (lI x_b.Mem v2 (List.getD x_b.C.Regs (Int.toNat x_i.A) default)) λv4=>
   Option.bind (eY (DBare.mk x_b.C v4 x_b.In x_b.Out)) λv5=>
   some v5))
noncomputable def bUt:Sg tG:=⟨[.st 47,.st 89],.one (.sb 47),tZ⟩
theorem bZl:Sok 162 bUt:=sgx [(179,.r aUs),(126,.r bIa),(112,.r aPf),(186,.r bIe),(183,.r aUx)] ⟨bAv,bNa,aTr,bQe,aXf,trivial⟩ (.s .o (.s .o (.s .o (.s .o (.s .o (.s (.g [.fr (.c 2 13) 0] [] []) .o)))))) kr kr kr
noncomputable def vP (x_b:DBare)(x_i:DIns):Option DBare:=
 cond (decide (x_i.Op=(3:Int)))
  (Option.bind (uA x_b x_i) λv1=>
  some v1)
  (cond (decide (x_i.Op=(4:Int)))
   (Option.bind (tZ x_b x_i) λv2=>
   some v2)
   (Option.bind (lP x_b x_i) λv3=>
   some v3))
noncomputable def bSv:Sg tG:=⟨[.st 47,.st 89],.one (.sb 47),vP⟩
theorem bYm:Sok 127 bSv:=sgx [(161,.r bTb),(162,.r bUt),(155,.r bNv)] ⟨bZk,bZl,bWa,trivial⟩ .o kr kr kr
noncomputable def lD (x_b:DBare):Option DBare:=
 cond x_b.C.Stopped
  (some x_b)
  (Option.bind (iC x_b.C) λv1=>
  Option.bind (fB v1) λv2=>
  cond v2
   (Option.bind (mP v1) λv3=>
   some (DBare.mk v3 x_b.Mem x_b.In x_b.Out))
   (Option.bind (pN x_b.Mem v1.Root v1.Pc v1.User false) λv4=>
   cond (decide (v4=(-1:Int)))
    (Option.bind (gC (DBare.mk v1 x_b.Mem x_b.In x_b.Out) v1.Pc) λv5=>
    some v5)
    (grd ((0:Int)<=v4/\v4<((List.length x_b.Mem:Nat):Int)) (Option.bind (lG (List.getD x_b.Mem (Int.toNat v4) default)) λv6=>
     Option.bind (vP (DBare.mk (DCore.mk v1.Regs v1.Pc v1.Root v1.Vector v1.Saved v1.SavedUser v1.Cause v1.Bad v1.Timer v1.Waits v1.User v1.On v1.Stopped) x_b.Mem x_b.In x_b.Out) v6) λv7=>
     some v7))))
noncomputable def g78:Sg tG:=⟨[.st 47],.one (.sb 47),lD⟩
theorem s78:Sok 78 g78:=sgx [(107,.r bGo),(108,.r bIq),(109,.r bPd),(126,.r bIa),(112,.r aPf),(114,.r bHg),(127,.r bSv)] ⟨bOd,bOm,bUb,bNa,aTr,bMy,bYm,trivial⟩ .o kr kr kr
noncomputable def qB (x_b:DBare):Option DBare:=
 Option.bind (pD x_b) λv1=>
 cond (!v1)
  (some (DBare.mk (DCore.mk ([]:List Int) (0:Int) (0:Int) (0:Int) (0:Int) false (0:Int) (0:Int) (0:Int) false false false false) ([]:List Int) ([]:List Int) ([]:List Int)))
  (Option.bind (lD x_b) λv2=>
  Option.bind (dD v2) λv3=>
  some v3)
noncomputable def g24:Sg tG:=⟨[.st 47],.one (.st 47),qB⟩
theorem s24:Sok 24 g24:=sgx [(77,.r g77),(78,.r g78),(74,.r g74)] ⟨s77,s78,s74,trivial⟩ .o kr kr kr
noncomputable def fH (x_e:DExit):Option Bool:=
 cond (decide (x_e.Why=(2:Int)))
  (some true)
  (some (decide (x_e.Why=(3:Int))))
noncomputable def bUn:Sg tG:=⟨[.st 129],.one .b,fH⟩
theorem cAf:Sok 104 bUn:=sgx [] trivial .o kr kr kr
noncomputable def jR (x_h:DHost)(x_g:Int)(x_e:DExit):Option (DHost×Bool):=
 cond (decide (x_e.Why=(2:Int)))
  (Option.bind (pX x_h x_g x_e.Page) λv1=>
  some (v1.1,v1.2))
  (Option.bind (qC x_h x_g x_e.Page) λv2=>
  some (v2.1,v2.2))
noncomputable def bWt:Sg tG:=⟨[.st 26,.i .i64,.st 129],.two (.st 2026) .b,jR⟩
theorem bYb:Sok 105 bWt:=sgx [(148,.r bUm),(149,.r bUo)] ⟨cAd,bYw,trivial⟩ .o kr kr kr
noncomputable def aMy  (s2:(List Int)×(List DGuest)):Option (DHost×Bool):=some ((DHost.mk s2.1 s2.2),true)
noncomputable def dC (x_g:Int)(s3:(List Int)×(List DGuest)×Int×Int×Int×Int×Int×Int):Option (LO ((List Int)×(List DGuest)×Int×Int×Int×Int×Int×Int) (JO ((List Int)×(List DGuest)) (DHost×Bool))):=
 cond (decide (s3.2.2.2.2.2.2.2<(8:Int)))
  (Option.bind (fH (DExit.mk s3.2.2.1 s3.2.2.2.1 (DIns.mk s3.2.2.2.2.1 s3.2.2.2.2.2.1 s3.2.2.2.2.2.2.1))) λv4=>
  cond v4
   (Option.bind (jR (DHost.mk s3.1 s3.2.1) x_g (DExit.mk s3.2.2.1 s3.2.2.2.1 (DIns.mk s3.2.2.2.2.1 s3.2.2.2.2.2.1 s3.2.2.2.2.2.2.1))) λv5=>
   cond (!v5.2)
    (some (.ret (.out ((DHost.mk ([]:List Int) ([]:List DGuest)),false))))
    (Option.bind (pJ v5.1 x_g) λv6=>
    some (.next (v5.1.Words,v5.1.Guests,v6.Why,v6.Page,v6.What.Op,v6.What.A,v6.What.N,w64 (s3.2.2.2.2.2.2.2+(1:Int))))))
   (some (.ret (.go (s3.1,s3.2.1)))))
  (some (.ret (.go (s3.1,s3.2.1))))
noncomputable def rH (x_h:DHost)(x_g:Int):Option (DHost×Bool):=
 Option.bind (pJ x_h x_g) λv1=>
 Option.bind (Option.bind (iter (dC x_g) (x_h.Words,x_h.Guests,v1.Why,v1.Page,v1.What.Op,v1.What.A,v1.What.N,(0:Int))) LO.val) λj2=>
  JO.run j2 aMy
noncomputable def g63:Sg tG:=⟨[.st 26,.i .i64],.two (.sb 26) .b,rH⟩
theorem s63:Sok 63 g63:=sgx [(103,.r bVf),(104,.r bUn),(105,.r bWt)] ⟨bZt,cAf,bYb,trivial⟩ (.s .o (.s .o (.j ⟨[2,4],[],[(.c 2 0,.rb 3),(.c 2 1,.rb 38)]⟩ (.s .o (.k (.l ⟨[1,2,4,6],[],[(.c 2 0,.rb 3),(.c 2 1,.rb 38),(.c 6 0,.i .i64),(.c 6 1,.i .i64),(.c 6 2,.i .i64),(.c 6 3,.i .i64),(.c 6 4,.i .i64),(.s 7,.i .i64)]⟩ (.s .o (.s (.k (.s .o (.s .o (.s .o (.g [.fr (.c 2 0) 0,.fr (.c 2 1) 0] [] []))))) .o))))) .o))) kr kr kr
noncomputable def sH (x_h:DHost)(x_g:Int)(x_b:DBare)(x_i:DIns):Option DHost:=
 Option.bind (cZ x_b.C x_i) λv1=>
 Option.bind (dS x_h x_g v1 false) λv2=>
 cond (!decide (v2.2=(0:Int)))
  (Option.bind (gC x_b v1) λv3=>
  Option.bind (cO x_h x_g v3) λv4=>
  some v4)
  (grd ((0:Int)<=v2.1/\v2.1<((List.length x_h.Words:Nat):Int)) (Option.bind (fN x_b x_i.A (List.getD x_h.Words (Int.toNat v2.1) default)) λv5=>
   Option.bind (cO x_h x_g v5) λv6=>
   some v6))
noncomputable def bWn:Sg tG:=⟨[.st 26,.i .i64,.st 47,.st 89],.one (.st 2026),sH⟩
theorem bYl:Sok 153 bWn:=sgx [(179,.r aUs),(111,.r aUh),(112,.r aPf),(110,.r aZq),(182,.r bHz)] ⟨bAv,aYr,aTr,bHt,bMn,trivial⟩ .o kr kr kr
noncomputable def pV (x_h:DHost)(x_g:Int)(x_b:DBare)(x_i:DIns):Option DHost:=
 Option.bind (cZ x_b.C x_i) λv1=>
 Option.bind (dS x_h x_g v1 true) λv2=>
 cond (!decide (v2.2=(0:Int)))
  (Option.bind (gC x_b v1) λv3=>
  Option.bind (cO x_h x_g v3) λv4=>
  some v4)
  (Option.bind (eY x_b) λv5=>
  Option.bind (cO x_h x_g v5) λv6=>
  grd ((0:Int)<=x_i.A/\x_i.A<((List.length x_b.C.Regs:Nat):Int)) (grd ((0:Int)<=v2.1/\v2.1<((List.length v6.Words:Nat):Int)) (grd ((0:Int)<=x_g/\x_g<((List.length v6.Guests:Nat):Int)) (Option.bind (hZ x_h x_g v1) λv7=>
   grd ((0:Int)<=v7.Page/\v7.Page<((List.length (List.getD v6.Guests (Int.toNat x_g) default).Pages:Nat):Int)) (some (DHost.mk (List.set v6.Words (Int.toNat v2.1) (List.getD x_b.C.Regs (Int.toNat x_i.A) default)) (List.set v6.Guests (Int.toNat x_g) (DGuest.mk (List.getD v6.Guests (Int.toNat x_g) default).Live (DCore.mk ((List.getD v6.Guests (Int.toNat x_g) default).C).Regs ((List.getD v6.Guests (Int.toNat x_g) default).C).Pc ((List.getD v6.Guests (Int.toNat x_g) default).C).Root ((List.getD v6.Guests (Int.toNat x_g) default).C).Vector ((List.getD v6.Guests (Int.toNat x_g) default).C).Saved ((List.getD v6.Guests (Int.toNat x_g) default).C).SavedUser ((List.getD v6.Guests (Int.toNat x_g) default).C).Cause ((List.getD v6.Guests (Int.toNat x_g) default).C).Bad ((List.getD v6.Guests (Int.toNat x_g) default).C).Timer ((List.getD v6.Guests (Int.toNat x_g) default).C).Waits ((List.getD v6.Guests (Int.toNat x_g) default).C).User ((List.getD v6.Guests (Int.toNat x_g) default).C).On ((List.getD v6.Guests (Int.toNat x_g) default).C).Stopped) (List.set (List.getD v6.Guests (Int.toNat x_g) default).Pages (Int.toNat v7.Page) (DSlot.mk (List.getD (List.getD v6.Guests (Int.toNat x_g) default).Pages (Int.toNat v7.Page) default).Frame (List.getD (List.getD v6.Guests (Int.toNat x_g) default).Pages (Int.toNat v7.Page) default).Write true)) (List.getD v6.Guests (Int.toNat x_g) default).In (List.getD v6.Guests (Int.toNat x_g) default).Out))))))))
noncomputable def bTi:Sg tG:=⟨[.st 26,.i .i64,.st 47,.st 89],.one (.st 2026),pV⟩
theorem bYi:Sok 154 bTi:=sgx [(179,.r aUs),(111,.r aUh),(112,.r aPf),(110,.r aZq),(183,.r aUx),(152,.r bIs)] ⟨bAv,aYr,aTr,bHt,aXf,bPs,trivial⟩ .o kr kr kr
noncomputable def pI (x_h:DHost)(x_g:Int)(x_b:DBare)(x_i:DIns):Option DHost:=
 cond (decide (x_i.Op=(3:Int)))
  (Option.bind (sH x_h x_g x_b x_i) λv1=>
  some v1)
  (cond (decide (x_i.Op=(4:Int)))
   (Option.bind (pV x_h x_g x_b x_i) λv2=>
   some v2)
   (Option.bind (lP x_b x_i) λv3=>
   Option.bind (cO x_h x_g v3) λv4=>
   some v4))
noncomputable def bTv:Sg tG:=⟨[.st 26,.i .i64,.st 47,.st 89],.one (.st 2026),pI⟩
theorem bYo:Sok 113 bTv:=sgx [(153,.r bWn),(154,.r bTi),(155,.r bNv),(110,.r aZq)] ⟨bYl,bYi,bWa,bHt,trivial⟩ .o kr kr kr
noncomputable def zV (x_h:DHost)(x_g:Int):Option DHost:=
 Option.bind (oQ x_h x_g) λv1=>
 cond v1.C.Stopped
  (Option.bind (dE x_h) λv2=>
  some v2)
  (Option.bind (iC v1.C) λv3=>
  Option.bind (fB v3) λv4=>
  cond v4
   (Option.bind (mP v3) λv5=>
   Option.bind (cO x_h x_g (DBare.mk v5 v1.Mem v1.In v1.Out)) λv6=>
   some v6)
   (Option.bind (dS x_h x_g v3.Pc false) λv7=>
   cond (!decide (v7.2=(0:Int)))
    (Option.bind (gC (DBare.mk v3 v1.Mem v1.In v1.Out) v3.Pc) λv8=>
    Option.bind (cO x_h x_g v8) λv9=>
    some v9)
    (grd ((0:Int)<=v7.1/\v7.1<((List.length x_h.Words:Nat):Int)) (Option.bind (lG (List.getD x_h.Words (Int.toNat v7.1) default)) λv10=>
     Option.bind (pI x_h x_g (DBare.mk (DCore.mk v3.Regs v3.Pc v3.Root v3.Vector v3.Saved v3.SavedUser v3.Cause v3.Bad v3.Timer v3.Waits v3.User v3.On v3.Stopped) v1.Mem v1.In v1.Out) v10) λv11=>
     some v11))))
noncomputable def g64:Sg tG:=⟨[.st 26,.i .i64],.one (.st 2026),zV⟩
theorem s64:Sok 64 g64:=sgx [(106,.r bVo),(51,.r g51),(107,.r bGo),(108,.r bIq),(109,.r bPd),(110,.r aZq),(111,.r aUh),(112,.r aPf),(114,.r bHg),(113,.r bTv)] ⟨cAb,s51,bOd,bOm,bUb,bHt,aYr,aTr,bMy,bYo,trivial⟩ .o kr kr kr
noncomputable def jU (x_h:DHost)(x_g:Int):Option (DHost×Bool):=
 Option.bind (gY x_h x_g) λv1=>
 cond (!v1)
  (some ((DHost.mk ([]:List Int) ([]:List DGuest)),false))
  (Option.bind (rH x_h x_g) λv2=>
  cond (!v2.2)
   (Option.bind (dE x_h) λv3=>
   some (v3,false))
   (Option.bind (zV v2.1 x_g) λv4=>
   some (v4,true)))
noncomputable def g20:Sg tG:=⟨[.st 26,.i .i64],.two (.st 2026) .b,jU⟩
theorem s20:Sok 20 g20:=sgx [(62,.r g62),(63,.r g63),(51,.r g51),(64,.r g64)] ⟨s62,s63,s51,s64,trivial⟩ .o kr kr kr
noncomputable def nO  (s1:(List Int)×(List DGuest)):Option (DHost×Bool):=some ((DHost.mk s1.1 s1.2),true)
noncomputable def kF (s2:(List Int)×(List DGuest)×Int)(s4:(List Int)×(List DGuest)×Bool):Option (LO ((List Int)×(List DGuest)×Int) (JO ((List Int)×(List DGuest)) (DHost×Bool))):=
 cond (!s4.2.2)
  (some (.ret (.out ((DHost.mk s4.1 s4.2.1),false))))
  (some (.next (s4.1,s4.2.1,w64 (s2.2.2+(1:Int)))))
noncomputable def eJ (x_g:Int)(s2:(List Int)×(List DGuest)×Int):Option (LO ((List Int)×(List DGuest)×Int) (JO ((List Int)×(List DGuest)) (DHost×Bool))):=
 cond (decide (s2.2.2<(4:Int)))
  (Option.bind (lN (DHost.mk s2.1 s2.2.1) x_g) λv3=>
  Option.bind (cond (decide (v3.Why=(2:Int)))
   (Option.bind (jW (DHost.mk s2.1 s2.2.1) x_g v3.Page) λv5=>
   some (.go (v5.1.Words,v5.1.Guests,v5.2)))
   (cond (decide (v3.Why=(3:Int)))
    (Option.bind (jV (DHost.mk s2.1 s2.2.1) x_g v3.Page) λv6=>
    some (.go (v6.1.Words,v6.1.Guests,v6.2)))
    (some (.out (.ret (.out ((DHost.mk s2.1 s2.2.1),true))))))) λj4=>
   JO.run j4 (kF s2))
  (some (.ret (.go (s2.1,s2.2.1))))
noncomputable def iQ (x_h:DHost)(x_g:Int):Option (DHost×Bool):=
 Option.bind (Option.bind (iter (eJ x_g) (x_h.Words,x_h.Guests,(0:Int))) LO.val) λj1=>
  JO.run j1 nO
noncomputable def g65:Sw tG:=⟨[.os 2026,.v (.i .i64)],.two (.st 2026) .b,iQ⟩
theorem s65:Sjk 65 g65:=sgy [(115,.r bTa),(116,.r bTj),(117,.r bWx)] ⟨bYq,bYg,cAl,trivial⟩ (.s .o (.j ⟨[2,4],[],[(.c 2 0,.ro 3),(.c 2 1,.ro 1038)]⟩ (.s .o (.k (.l ⟨[1,2,4],[],[(.c 2 0,.ro 3),(.c 2 1,.ro 1038),(.s 6,.i .i64)]⟩ (.s .o (.s (.k (.s .o (.s .o (.j ⟨[1,2,4,6],[],[(.c 2 0,.ro 3),(.c 2 1,.ro 1038),(.s 8,.b)]⟩ .o .o)))) .o))))) .o)) kr kr kr
theorem aRu{x_h:DHost}{x_g:Int}{R_:DHost×Bool}(hh:iQ x_h x_g=some R_):Inl Tryz.prog 65 [.agg [.sref 0 [] 0 (List.length x_h.Words) 1,.sref 1 [] 0 (List.length x_h.Guests) 17],.int .i64 x_g] [(1,some (rO38 x_h.Guests)),(0,some (rI_3 x_h.Words))] 2 (.tup [.agg [.sref 2 [] 0 (List.length R_.1.Words) 1,.sref 3 [] 0 (List.length R_.1.Guests) 17],.bool R_.2]) [(3,some (rO38 R_.1.Guests)),(2,some (rI_3 R_.1.Words))] 4:=kc (s65 x_h x_g R_ hh)
theorem aMx:LW 21 ⟨214,[.cell 4 true 2,.tmp 5],.seq (.reg false (rg 21 0)) (.seq (.seq (.reg false (rg 21 1)) (.cond (.t 21) (.seq (.reg false (rg 21 2)) .ret) .skip)) (.seq (.reg false (rg 21 3)) (.seq (.seq (.reg false (rg 21 4)) (.cond (.t 31) (.seq (.reg false (rg 21 5)) .ret) .skip)) (.seq (.reg false (rg 21 6)) (.seq (.seq (.reg false (rg 21 7)) (.cond (.t 41) (.seq (.reg false (rg 21 8)) .ret) .skip)) (.seq (.reg false (rg 21 9)) (.seq (.reg false (rg 21 10)) (.seq (.seq (.reg false (rg 21 11)) (.cond (.t 55) (.seq (.reg false (rg 21 12)) .ret) .skip)) (.seq (.reg false (rg 21 13)) (.seq (.reg false (rg 21 14)) (.seq (.seq (.reg false (rg 21 15)) (.cond (.t 70) (.seq (.regd (rg 21 16) (rg 21 17)) (.seq (.reg false (rg 21 18)) .ret)) .skip)) (.seq (.reg false (rg 21 19)) (.seq (.block 0 (.seq (.reg false (rg 21 20)) (.cond (.t 89) (.seq (.regd (rg 21 21) (rg 21 22)) (.seq (.reg false (rg 21 23)) .ret)) (.seq (.reg false (rg 21 24)) (.cond (.t 106) (.seq (.reg false (rg 21 25)) .ret) (.seq (.reg false (rg 21 26)) (.cond (.t 115) (.seq (.regd (rg 21 27) (rg 21 28)) (.seq (.reg false (rg 21 29)) .ret)) .skip))))))) (.seq (.reg false (rg 21 30)) (.seq (.reg false (rg 21 31)) (.seq (.seq (.reg false (rg 21 32)) (.cond (.t 153) (.seq (.regd (rg 21 33) (rg 21 34)) (.seq (.reg false (rg 21 35)) .ret)) .skip)) (.seq (.seq (.reg false (rg 21 36)) (.cond (.t 167) (.regt (rg 21 37) (rg 21 38)) (.seq (.regt (rg 21 39) (rg 21 40)) (.regt (rg 21 41) (rg 21 42))))) (.seq (.reg false (rg 21 43)) (.seq (.reg false (rg 21 44)) (.seq (.reg false (rg 21 45)) .ret))))))))))))))))))))⟩:=kr
noncomputable def mE (x_g:Int)(v5:DCore×Bool)(s13:(List Int)×(List DGuest)):Option (DHost×Bool):=grd ((0:Int)<=x_g/\x_g<((List.length s13.2:Nat):Int)) (grd ((0:Int)<=x_g/\x_g<((List.length s13.2:Nat):Int)) (grd ((Int.toNat x_g)=(Int.toNat x_g)) (some ((DHost.mk s13.1 (List.set s13.2 (Int.toNat x_g) (DGuest.mk (List.getD s13.2 (Int.toNat x_g) default).Live (DCore.mk ((List.getD s13.2 (Int.toNat x_g) default).C).Regs (Int.tmod (w64 (v5.1.Pc+(1:Int))) (64:Int)) v5.1.Root v5.1.Vector v5.1.Saved v5.1.SavedUser v5.1.Cause v5.1.Bad v5.1.Timer v5.1.Waits v5.1.User v5.1.On v5.1.Stopped) (List.getD s13.2 (Int.toNat x_g) default).Pages (List.getD s13.2 (Int.toNat x_g) default).In (List.getD s13.2 (Int.toNat x_g) default).Out))),true))))
noncomputable def iH (x_g:Int)(v3:DHost×Bool)(v5:DCore×Bool)(v6:List DShade)(v9:DIns)(s10:Unit):Option (DHost×Bool):=
 grd ((0:Int)<=(Int.tmod v9.N (4:Int))/\(Int.tmod v9.N (4:Int))<((List.length v5.1.Regs:Nat):Int)) (Option.bind (cQ v6 (Int.tmod (List.getD v5.1.Regs (Int.toNat (Int.tmod v9.N (4:Int))) default) (64:Int)) v5.1.User (decide (v9.Op=(4:Int)))) λv11=>
  cond (decide (v11.1<(0:Int)))
   (Option.bind (iB v5.1 v5.1.Pc (2:Int) (Int.tmod (List.getD v5.1.Regs (Int.toNat (Int.tmod v9.N (4:Int))) default) (64:Int))) λv12=>
   grd ((0:Int)<=x_g/\x_g<((List.length v3.1.Guests:Nat):Int)) (grd ((Int.toNat x_g)=(Int.toNat x_g)) (some ((DHost.mk v3.1.Words (List.set v3.1.Guests (Int.toNat x_g) (DGuest.mk (List.getD v3.1.Guests (Int.toNat x_g) default).Live v12 (List.getD v3.1.Guests (Int.toNat x_g) default).Pages (List.getD v3.1.Guests (Int.toNat x_g) default).In (List.getD v3.1.Guests (Int.toNat x_g) default).Out))),true))))
   (Option.bind (cond (decide (v9.Op=(3:Int)))
    (grd ((0:Int)<=v11.1/\v11.1<((List.length v3.1.Words:Nat):Int)) (grd ((0:Int)<=v9.A/\v9.A<((List.length v5.1.Regs:Nat):Int)) (some (.go (v3.1.Words,List.set v3.1.Guests (Int.toNat x_g) (DGuest.mk (List.getD v3.1.Guests (Int.toNat x_g) default).Live (DCore.mk (List.set v5.1.Regs (Int.toNat v9.A) (List.getD v3.1.Words (Int.toNat v11.1) default)) v5.1.Pc v5.1.Root v5.1.Vector v5.1.Saved v5.1.SavedUser v5.1.Cause v5.1.Bad v5.1.Timer v5.1.Waits v5.1.User v5.1.On v5.1.Stopped) (List.getD v3.1.Guests (Int.toNat x_g) default).Pages (List.getD v3.1.Guests (Int.toNat x_g) default).In (List.getD v3.1.Guests (Int.toNat x_g) default).Out))))))
    (grd ((0:Int)<=v9.A/\v9.A<((List.length v5.1.Regs:Nat):Int)) (grd ((0:Int)<=v11.1/\v11.1<((List.length v3.1.Words:Nat):Int)) (grd ((0:Int)<=x_g/\x_g<((List.length v3.1.Guests:Nat):Int)) (grd ((0:Int)<=(w64 (Int.tdiv (Int.tmod (List.getD v5.1.Regs (Int.toNat (Int.tmod v9.N (4:Int))) default) (64:Int)) (8:Int)))/\(w64 (Int.tdiv (Int.tmod (List.getD v5.1.Regs (Int.toNat (Int.tmod v9.N (4:Int))) default) (64:Int)) (8:Int)))<((List.length v6:Nat):Int)) (grd ((0:Int)<=(List.getD v6 (Int.toNat (w64 (Int.tdiv (Int.tmod (List.getD v5.1.Regs (Int.toNat (Int.tmod v9.N (4:Int))) default) (64:Int)) (8:Int)))) default).Page/\(List.getD v6 (Int.toNat (w64 (Int.tdiv (Int.tmod (List.getD v5.1.Regs (Int.toNat (Int.tmod v9.N (4:Int))) default) (64:Int)) (8:Int)))) default).Page<((List.length (List.getD v3.1.Guests (Int.toNat x_g) default).Pages:Nat):Int)) (some (.go ((List.set v3.1.Words (Int.toNat v11.1) (List.getD v5.1.Regs (Int.toNat v9.A) default)),List.set v3.1.Guests (Int.toNat x_g) (DGuest.mk (List.getD v3.1.Guests (Int.toNat x_g) default).Live v5.1 (List.set (List.getD v3.1.Guests (Int.toNat x_g) default).Pages (Int.toNat (List.getD v6 (Int.toNat (w64 (Int.tdiv (Int.tmod (List.getD v5.1.Regs (Int.toNat (Int.tmod v9.N (4:Int))) default) (64:Int)) (8:Int)))) default).Page) (DSlot.mk (List.getD (List.getD v3.1.Guests (Int.toNat x_g) default).Pages (Int.toNat (List.getD v6 (Int.toNat (w64 (Int.tdiv (Int.tmod (List.getD v5.1.Regs (Int.toNat (Int.tmod v9.N (4:Int))) default) (64:Int)) (8:Int)))) default).Page) default).Frame (List.getD (List.getD v3.1.Guests (Int.toNat x_g) default).Pages (Int.toNat (List.getD v6 (Int.toNat (w64 (Int.tdiv (Int.tmod (List.getD v5.1.Regs (Int.toNat (Int.tmod v9.N (4:Int))) default) (64:Int)) (8:Int)))) default).Page) default).Write true)) (List.getD v3.1.Guests (Int.toNat x_g) default).In (List.getD v3.1.Guests (Int.toNat x_g) default).Out)))))))))) λj13=>
    JO.run j13 (mE x_g v5)))
noncomputable def fM (x_h:DHost)(x_g:Int):Option (DHost×Bool):=
 Option.bind (dM x_h x_g) λv1=>
 cond (!v1)
  (some ((DHost.mk ([]:List Int) ([]:List DGuest)),false))
  (Option.bind (eC x_h) λv2=>
  Option.bind (iQ v2 x_g) λv3=>
  cond (!v3.2)
   (Option.bind (eC x_h) λv4=>
   some (v4,false))
   (grd ((0:Int)<=x_g/\x_g<((List.length v3.1.Guests:Nat):Int)) (cond ((List.getD v3.1.Guests (Int.toNat x_g) default).C).Stopped
    (some (v3.1,true))
    (Option.bind (hC (DCore.mk ((List.getD v3.1.Guests (Int.toNat x_g) default).C).Regs ((List.getD v3.1.Guests (Int.toNat x_g) default).C).Pc ((List.getD v3.1.Guests (Int.toNat x_g) default).C).Root ((List.getD v3.1.Guests (Int.toNat x_g) default).C).Vector ((List.getD v3.1.Guests (Int.toNat x_g) default).C).Saved ((List.getD v3.1.Guests (Int.toNat x_g) default).C).SavedUser ((List.getD v3.1.Guests (Int.toNat x_g) default).C).Cause ((List.getD v3.1.Guests (Int.toNat x_g) default).C).Bad ((List.getD v3.1.Guests (Int.toNat x_g) default).C).Timer ((List.getD v3.1.Guests (Int.toNat x_g) default).C).Waits ((List.getD v3.1.Guests (Int.toNat x_g) default).C).User ((List.getD v3.1.Guests (Int.toNat x_g) default).C).On ((List.getD v3.1.Guests (Int.toNat x_g) default).C).Stopped)) λv5=>
    grd ((0:Int)<=x_g/\x_g<((List.length v3.1.Guests:Nat):Int)) (grd ((Int.toNat x_g)=(Int.toNat x_g)) (cond v5.2
     (some ((DHost.mk v3.1.Words (List.set v3.1.Guests (Int.toNat x_g) (DGuest.mk (List.getD v3.1.Guests (Int.toNat x_g) default).Live v5.1 (List.getD v3.1.Guests (Int.toNat x_g) default).Pages (List.getD v3.1.Guests (Int.toNat x_g) default).In (List.getD v3.1.Guests (Int.toNat x_g) default).Out))),true))
     (Option.bind (fL (DHost.mk v3.1.Words (List.set v3.1.Guests (Int.toNat x_g) (DGuest.mk (List.getD v3.1.Guests (Int.toNat x_g) default).Live v5.1 (List.getD v3.1.Guests (Int.toNat x_g) default).Pages (List.getD v3.1.Guests (Int.toNat x_g) default).In (List.getD v3.1.Guests (Int.toNat x_g) default).Out))) x_g) λv6=>
     Option.bind (cQ v6 v5.1.Pc v5.1.User false) λv7=>
     cond (decide (v7.1<(0:Int)))
      (Option.bind (iB v5.1 v5.1.Pc (2:Int) v5.1.Pc) λv8=>
      grd ((0:Int)<=x_g/\x_g<((List.length v3.1.Guests:Nat):Int)) (grd ((Int.toNat x_g)=(Int.toNat x_g)) (some ((DHost.mk v3.1.Words (List.set v3.1.Guests (Int.toNat x_g) (DGuest.mk (List.getD v3.1.Guests (Int.toNat x_g) default).Live v8 (List.getD v3.1.Guests (Int.toNat x_g) default).Pages (List.getD v3.1.Guests (Int.toNat x_g) default).In (List.getD v3.1.Guests (Int.toNat x_g) default).Out))),true))))
      (grd ((0:Int)<=v7.1/\v7.1<((List.length v3.1.Words:Nat):Int)) (Option.bind (lK (List.getD v3.1.Words (Int.toNat v7.1) default)) λv9=>
       Option.bind (Option.bind (cU v9) λv14=>
        cond v14
         (cond v5.1.User
          (Option.bind (iB v5.1 v5.1.Pc (3:Int) (0:Int)) λv15=>
          grd ((0:Int)<=x_g/\x_g<((List.length v3.1.Guests:Nat):Int)) (grd ((Int.toNat x_g)=(Int.toNat x_g)) (some (.out ((DHost.mk v3.1.Words (List.set v3.1.Guests (Int.toNat x_g) (DGuest.mk (List.getD v3.1.Guests (Int.toNat x_g) default).Live v15 (List.getD v3.1.Guests (Int.toNat x_g) default).Pages (List.getD v3.1.Guests (Int.toNat x_g) default).In (List.getD v3.1.Guests (Int.toNat x_g) default).Out))),true)))))
          (Option.bind (cU v9) λv16=>
          cond v16
           (Option.bind (eX (DHost.mk v3.1.Words (List.set v3.1.Guests (Int.toNat x_g) (DGuest.mk (List.getD v3.1.Guests (Int.toNat x_g) default).Live v5.1 (List.getD v3.1.Guests (Int.toNat x_g) default).Pages (List.getD v3.1.Guests (Int.toNat x_g) default).In (List.getD v3.1.Guests (Int.toNat x_g) default).Out))) x_g v9) λv17=>
           some (.out (v17.1,v17.2)))
           (cond (!decide (v9.Op=(3:Int)))
            (cond (!decide (v9.Op=(4:Int)))
             (Option.bind (iU v5.1 v9) λv18=>
             grd ((0:Int)<=x_g/\x_g<((List.length v3.1.Guests:Nat):Int)) (grd ((Int.toNat x_g)=(Int.toNat x_g)) (some (.out ((DHost.mk v3.1.Words (List.set v3.1.Guests (Int.toNat x_g) (DGuest.mk (List.getD v3.1.Guests (Int.toNat x_g) default).Live v18 (List.getD v3.1.Guests (Int.toNat x_g) default).Pages (List.getD v3.1.Guests (Int.toNat x_g) default).In (List.getD v3.1.Guests (Int.toNat x_g) default).Out))),true)))))
             (some (.go ())))
            (some (.go ())))))
         (Option.bind (cU v9) λv19=>
         cond v19
          (Option.bind (eX (DHost.mk v3.1.Words (List.set v3.1.Guests (Int.toNat x_g) (DGuest.mk (List.getD v3.1.Guests (Int.toNat x_g) default).Live v5.1 (List.getD v3.1.Guests (Int.toNat x_g) default).Pages (List.getD v3.1.Guests (Int.toNat x_g) default).In (List.getD v3.1.Guests (Int.toNat x_g) default).Out))) x_g v9) λv20=>
          some (.out (v20.1,v20.2)))
          (cond (!decide (v9.Op=(3:Int)))
           (cond (!decide (v9.Op=(4:Int)))
            (Option.bind (iU v5.1 v9) λv21=>
            grd ((0:Int)<=x_g/\x_g<((List.length v3.1.Guests:Nat):Int)) (grd ((Int.toNat x_g)=(Int.toNat x_g)) (some (.out ((DHost.mk v3.1.Words (List.set v3.1.Guests (Int.toNat x_g) (DGuest.mk (List.getD v3.1.Guests (Int.toNat x_g) default).Live v21 (List.getD v3.1.Guests (Int.toNat x_g) default).Pages (List.getD v3.1.Guests (Int.toNat x_g) default).In (List.getD v3.1.Guests (Int.toNat x_g) default).Out))),true)))))
            (some (.go ())))
           (some (.go ()))))) λj10=>
        JO.run j10 (iH x_g v3 v5 v6 v9))))))))))
theorem aPs{x_h:DHost}{x_g:Int}{R_:DHost×Bool}(hh:fM x_h x_g=some R_):Fn Tryz.prog 21 [.agg (fP x_h),.int .i64 x_g] (.tup [.agg [bo (eI .i64) R_.1.Words,bo dZ R_.1.Guests],.bool R_.2]):=by let z35:EH:=(0,some (rB26 x_h));let z36:EH:=(0,some ⟨26,[.nil,.nil]⟩);let z37:=(1,ii x_g);let z38:EH:=(1,some ⟨26,[.nil,.nil]⟩);let z39:EV:=(100,.ptr 10 [] 1);let z40:EV:=(124,.ptr 6 [] 1);let z41:=(126,ii x_g);let z42:EV:=(130,.ptr 11 [] (0+(Int.toNat x_g)*17));let z43:EV:=(131,.ptr 11 [] (0+(Int.toNat x_g)*17+1));let z44:EH:=(14,none);let z45:=(14,pp 13);let z46:=(14,pp 6);let z47:EV:=(188,.ptr 1 [] 1);let z48:=(190,ii x_g);let z49:EV:=(191,.ptr 3 [] (0+(Int.toNat x_g)*17));let z50:EV:=(192,.ptr 3 [] (0+(Int.toNat x_g)*17+14));let z51:=(2,pp 0);let z52:=(4,pp 0);let z53:=(4,pp 1);let z54:=(5,bb true);let z55:=(6,pp 1);let z56:=(6,pp 6);let z57:=(9,pp 10);let z58:=(9,pp 4);unfold fM at hh;refine Fn.start aMx [0,1] (E:=sp 214 [(0,.agg (fP x_h)),z37]) kr (v:= .tup [.agg [bo (eI .i64) R_.1.Words,bo dZ R_.1.Guests],bb R_.2]) (Hr:=[]) (k:=0) kr (sy [1,2,4] [0,1] (sp 214 [z37,z51,z53]) [z35,z38] 2 (Aw.seq (Aw.sreg [1,2,4,21] [0,1] (yj 2  (sp 214 [z37,z51,z53,(18,.agg (fP x_h)),(19,ii x_g)]) [z35,z38] 2 ?_))));obtain⟨v1,hv1,hh⟩:=bind_some hh;refine ys (.call 58 [.t 18,.t 19]) (some 20) (mO (r:=bb v1) (v:=bb v1) (Hr:=[]) (n':=2) (aFd hv1) (oP (vs:=[.agg (fP x_h),ii x_g]) kr (dO (aE (uU (rN _))) (cz1 eS))) rfl rfl kr ?_);refine yt (sp 214 [z37,z51,z53,(21,bb (!v1))]) [z35,z38] 2 ?_;rcases jM hh with⟨hb,hh⟩|⟨hb,hh⟩;{refine cT hb (sy [4,5] [1] (sp 214 [z53,(5,bb false)]) [z38] 2 (Aw.ret (aFf ?_)));rw[aP hh];exact jA (r':= .tup [.agg [.nil,.nil],bb false]) kr (Ent.clov (.tup _ _ (dO (iV (aF (bEz (T:=Int) (c:=(eI .i64))) (aF (bEz (T:=DGuest) (c:=dZ)) gF))) (cz1 eS))))};refine cF hb (Aw.xskip (λ_ _ _ hq=>aBj hq) (Aw.sreg [1,2,4,6,7] [0,1,4,5,6] (yj 1  (sp 214 [z37,z51,z53,(21,bb (!v1)),(24,.agg (fP x_h))]) [z35,z38] 2 ?_)));obtain⟨v2,hv2,hh⟩:=bind_some hh;let q1:Root:=(rO38 v2.Guests);let q2:Root:=(rI_3 v2.Words);refine ys (.call 48 [.t 24]) (some 25) (mO (r:= .agg [.own 3 1 (List.length v2.Words) (fl (eI .i64) v2.Words),.own 38 17 (List.length v2.Guests) (fl bK v2.Guests)]) (v:= .agg [sw 2 v2.Words,.sref 3 [] 0 (List.length v2.Guests) 17]) (Hr:=[(3,some q1),(2,some q2)]) (n':=4) (aEz hv2) (oP (vs:=[.agg (fP x_h)]) kr (dO (aE (uU (rN _))) eS)) nrr nrr kr ?_);refine yu 1 [(25,.agg [sw 2 v2.Words,.sref 3 [] 0 (List.length v2.Guests) 17]),(26,ii x_g)] [(3,some q1),(2,some q2),z35,z38] 4 ?_;obtain⟨v3,hv3,hh⟩:=bind_some hh;let z59:EV:=(125,.sref 11 [] 0 (List.length v3.1.Guests) 17);let z60:EV:=(155,.sref 3 [] 0 (List.length v3.1.Guests) 17);let z61:=(173,sw 2 v3.1.Words);let z62:EV:=(189,.sref 3 [] 0 (List.length v3.1.Guests) 17);let z63:EV:=(72,.sref 11 [] 0 (List.length v3.1.Guests) 17);let z64:EV:=(97,.sref 11 [] 0 (List.length v3.1.Guests) 17);let z1:=List.getD v3.1.Guests (Int.toNat x_g) default;let z65:EV:=(193,.sref 3 [0+(Int.toNat x_g)*17+14+0] 0 (List.length z1.Pages) 3);let z66:=(41,bb (z1.C).Stopped);let z2:=List.set (fl bK v3.1.Guests) (0+(Int.toNat x_g)*17+1) .unk;let q3:Root:=(rO38 v3.1.Guests);let z67:=(5,some q3);let q4:Root:=(rI_3 v3.1.Words);let z68:=(2,some q4);let z69:=(4,some q4);refine ys (.call 65 [.t 25,.t 26]) (some 27) (cf (.tup [.agg [sw 4 v3.1.Words,.sref 5 [] 0 (List.length v3.1.Guests) 17],bb v3.2]) [z67,z69] 6 [2,3] (aRu hv3) [.agg [sw 2 v2.Words,.sref 3 [] 0 (List.length v2.Guests) 17],ii x_g] rz (hn cJ (hn aY aR)) (sQ rz) (hn cJ (hn aY aR)) ?_);let q5:Root:=⟨26,[sw 4 v3.1.Words,.sref 5 [] 0 (List.length v3.1.Guests) 17]⟩;let z70:=(6,some q5);refine yt (sp 214 [z37,z51,z53,z56,(7,bb v3.2)]) [z35,z38,z69,z67,z70] 7 (Aw.seq (sy [1,2,4,6,31] [0,1,4,5,6] (sp 214 [z37,z51,z53,z56,(31,bb (!v3.2))]) [z35,z38,z69,z67,z70] 7 ?_));rcases jM hh with⟨hb,hh⟩|⟨hb,hh⟩;{refine cT hb (Aw.sreg [4,5] [1,7,8] (yu 1 [(32,.agg (fP x_h))] [z35,z38,z69,z67,z70] 7 ?_));obtain⟨v4,hv4,hh⟩:=bind_some hh;let q6:Root:=(rO38 v4.Guests);let q7:Root:=(rI_3 v4.Words);refine ys (.call 48 [.t 32]) (some 33) (mO (r:= .agg [.own 3 1 (List.length v4.Words) (fl (eI .i64) v4.Words),.own 38 17 (List.length v4.Guests) (fl bK v4.Guests)]) (v:= .agg [sw 7 v4.Words,.sref 8 [] 0 (List.length v4.Guests) 17]) (Hr:=[(8,some q6),(7,some q7)]) (n':=9) (aEz hv4) (oP (vs:=[.agg (fP x_h)]) kr (dO (aE (uU (rN _))) eS)) nrr nrr kr ?_);refine yt (sp 214 [z53,(5,bb false)]) [(1,some ⟨26,[sw 7 v4.Words,.sref 8 [] 0 (List.length v4.Guests) 17]⟩),(7,some q7),(8,some q6)] 9 (Aw.ret (aFf ?_));rw[aP hh];exact jA (r':= .tup [.agg [sw 7 v4.Words,.sref 8 [] 0 (List.length v4.Guests) 17],bb false]) kr (Ent.clov (.tup _ _ (dO (iV (aF (cI (c:=(eI .i64)) (xs:=v4.Words) (e:=3) eqn bH cH cG kr) (aF (lJ (B:=dZ) (xs:=v4.Guests) (e:=38) lL aZ eqn kr) gF))) (cz1 eS))))};refine cF hb (Aw.xskip (λ_ _ _ hq=>aBj hq) (Aw.sreg [1,4,6,8] [1,4,5,6,7] ?_));obtain⟨hg109,hh⟩:=aL hh;refine yjc 4 [(0:Int)<=x_g/\x_g<((List.length v3.1.Guests:Nat):Int)] (sp 214 [z37,z51,z53,z56,(31,bb (!v3.2)),(34,.ptr 6 [] 1),(35,.sref 5 [] 0 (List.length v3.1.Guests) 17),(36,ii x_g),(37,.ptr 5 [] (0+(Int.toNat x_g)*17))]) [z35,z38,z69,z67,z70] 7 (.cons hg109 .nil) (ys (.load true 17 (.t 37)) (some 38) (bOf (c:=bK) (xs:=v3.1.Guests) (e:=38) (r:=5) (π:=[]) (o:=0+(Int.toNat x_g)*17) (i:=(Int.toNat x_g)) (off:=0) (v:= .agg [bb z1.Live,.sref 5 [0+(Int.toNat x_g)*17+1] 0 (List.length (z1.C).Regs) 1,ii (z1.C).Pc,ii (z1.C).Root,ii (z1.C).Vector,ii (z1.C).Saved,bb (z1.C).SavedUser,ii (z1.C).Cause,ii (z1.C).Bad,ii (z1.C).Timer,bb (z1.C).Waits,bb (z1.C).User,bb (z1.C).On,bb (z1.C).Stopped,.sref 5 [0+(Int.toNat x_g)*17+14] 0 (List.length z1.Pages) 3,.sref 5 [0+(Int.toNat x_g)*17+15] 0 (List.length z1.In) 1,.sref 5 [0+(Int.toNat x_g)*17+16] 0 (List.length z1.Out) 1]) aZ kr kr ltn ltn dd kr ?_));let q8:Root:=⟨38,[bb z1.Live,.sref 5 [0+(Int.toNat x_g)*17+1] 0 (List.length (z1.C).Regs) 1,ii (z1.C).Pc,ii (z1.C).Root,ii (z1.C).Vector,ii (z1.C).Saved,bb (z1.C).SavedUser,ii (z1.C).Cause,ii (z1.C).Bad,ii (z1.C).Timer,bb (z1.C).Waits,bb (z1.C).User,bb (z1.C).On,bb (z1.C).Stopped,.sref 5 [0+(Int.toNat x_g)*17+14] 0 (List.length z1.Pages) 3,.sref 5 [0+(Int.toNat x_g)*17+15] 0 (List.length z1.In) 1,.sref 5 [0+(Int.toNat x_g)*17+16] 0 (List.length z1.Out) 1]⟩;refine yt (sp 214 [z37,z53,z56,(8,pp 7)]) [z38,z69,z67,z70,(7,some q8)] 8 (Aw.seq (sy [1,4,6,8,41] [1,4,5,6,7] (sp 214 [z37,z53,z56,(8,pp 7),z66]) [z38,z69,z67,z70,(7,some q8)] 8 ?_));rcases jM hh with⟨hb,hh⟩|⟨hb,hh⟩;{refine cT hb (sy [4,5] [1,4,5] (sp 214 [z53,z54]) [(1,some q5),z69,z67] 8 (Aw.ret (aFf ?_)));rw[aP hh];exact jA (r':= .tup [.agg [sw 4 v3.1.Words,.sref 5 [] 0 (List.length v3.1.Guests) 17],bb true]) kr (Ent.clov (.tup _ _ (dO (iV (aF (cI (c:=(eI .i64)) (xs:=v3.1.Words) (e:=3) eqn bH cH cG kr) (aF (lJ (B:=dZ) (xs:=v3.1.Guests) (e:=38) lL aZ eqn kr) gF))) (cz1 eS))))};refine cF hb (Aw.xskip (λ_ _ _ hq=>aBj hq) ?_);let q9:Root:=⟨38,[bb z1.Live,.sref 8 [] 0 (List.length (z1.C).Regs) 1,ii (z1.C).Pc,ii (z1.C).Root,ii (z1.C).Vector,ii (z1.C).Saved,bb (z1.C).SavedUser,ii (z1.C).Cause,ii (z1.C).Bad,ii (z1.C).Timer,bb (z1.C).Waits,bb (z1.C).User,bb (z1.C).On,bb (z1.C).Stopped,.sref 5 [0+(Int.toNat x_g)*17+14] 0 (List.length z1.Pages) 3,.sref 5 [0+(Int.toNat x_g)*17+15] 0 (List.length z1.In) 1,.sref 5 [0+(Int.toNat x_g)*17+16] 0 (List.length z1.Out) 1]⟩;refine Aw.ent (Ent.unfold (R:=5) (j:=0+(Int.toNat x_g)*17+1) (e:=38) (e':=3) (cs:=(fl bK v3.1.Guests)) (ds:=(fl (eI .i64) (z1.C).Regs)) (sz:=1) (k:=(List.length (z1.C).Regs)) (xs2:=sp 214 [z37,z53,z56,(8,pp 7),z66]) (H2:=[z38,z69,z70,(7,some q9)]) kr (aCa (c:=bK) (xs:=v3.1.Guests) (i:=(Int.toNat x_g)) (off:=1) aZ ltn ltn dd rfl kr) (aCn kr (cC (u:=ii x_g) kr (.same _) (cC (u:=pp 1) kr (.same _) (cC (u:=pp 6) kr (.same _) (cC (u:=pp 7) kr (.same _) (cC (u:=bb (z1.C).Stopped) kr (.same _) aGx)))))) (eK (t:=⟨26,[.nil,.nil]⟩) dd kr rfl bW (eK (t:=q4) dd kr rfl bW (eK (t:=q5) dd kr rfl bW (eK (t:=q8) dd kr rfl (aO (.same _) (aO (.sref _ _ _ _ rfl) (aO (.same _) (aO (.same _) (aO (.same _) (aO (.same _) (aO (.same _) (aO (.same _) (aO (.same _) (aO (.same _) (aO (.same _) (aO (.same _) (aO (.same _) (aO (.same _) (aO (.same _) (aO (.same _) (aO (.same _) aHv))))))))))))))))) aQn))))) (Aw.sreg [1,4,6,9,10] [1,4,5,6,9,10] ?_);let q10:Root:=(rI_3 (z1.C).Regs);let q11:Root:=⟨38,z2⟩;refine yj 2  (sp 214 [z37,z53,z56,(8,pp 7),z66,(44,.ptr 7 [] 1),(45,.agg [.sref 8 [] 0 (List.length (z1.C).Regs) 1,ii (z1.C).Pc,ii (z1.C).Root,ii (z1.C).Vector,ii (z1.C).Saved,bb (z1.C).SavedUser,ii (z1.C).Cause,ii (z1.C).Bad,ii (z1.C).Timer,bb (z1.C).Waits,bb (z1.C).User,bb (z1.C).On,bb (z1.C).Stopped])]) [(8,some q10),(5,some q11),z38,z69,z70,(7,some q9)] 9 ?_;obtain⟨v5,hv5,hh⟩:=bind_some hh;let z71:=(10,bb v5.2);let z72:=(101,ii v5.1.Pc);let z73:EV:=(127,.agg (sw 14 v5.1.Regs::cP v5.1 []));let z74:EV:=(157,.agg (sw 7 v5.1.Regs::cP v5.1 []));let z75:=(159,ii v5.1.Pc);let z76:EV:=(169,.sref 3 [0+(Int.toNat x_g)*17+1+0] 0 (List.length v5.1.Regs) 1);let z77:EV:=(182,.sref 3 [0+(Int.toNat x_g)*17+1+0] 0 (List.length v5.1.Regs) 1);let z78:EV:=(74,.agg (sw 13 v5.1.Regs::cP v5.1 []));let z79:=(89,bb v5.1.User);let z80:EV:=(99,.agg (sw 14 v5.1.Regs::cP v5.1 []));let z8:=DGuest.mk z1.Live v5.1 z1.Pages z1.In z1.Out;let z18:=List.set v3.1.Guests (Int.toNat x_g) z8;let z81:EV:=(109,.agg [bo (eI .i64) v3.1.Words,bo dZ z18]);let z27:=List.set (fl bK z18) (0+(Int.toNat x_g)*17+1+0) .unk;let q12:Root:=(rI_3 v5.1.Regs);let z82:=(14,some q12);let z83:=(9,some q12);refine ys (.call 66 [.t 45]) (some 46) (cf (.tup [.agg (sw 9 v5.1.Regs::cP v5.1 []),bb v5.2]) [z83] 10 [8] (aPv hv5) [.agg [.sref 8 [] 0 (List.length (z1.C).Regs) 1,ii (z1.C).Pc,ii (z1.C).Root,ii (z1.C).Vector,ii (z1.C).Saved,bb (z1.C).SavedUser,ii (z1.C).Cause,ii (z1.C).Bad,ii (z1.C).Timer,bb (z1.C).Waits,bb (z1.C).User,bb (z1.C).On,bb (z1.C).Stopped]] rz (hn aY aR) (sQ rz) (hn aY aR) ?_);let q13:Root:=⟨35,sw 9 v5.1.Regs::cP v5.1 []⟩;refine yt (sp 214 [z37,z53,z56,z57,z71]) [z38,z69,(5,some q11),z70,z83,(10,some q13)] 11 (Aw.sreg [1,4,6,9,10] [1,4,5,6,9,10] ?_);obtain⟨hg108,hh⟩:=aL hh;refine yjc 6 [(0:Int)<=x_g/\x_g<((List.length v3.1.Guests:Nat):Int)] (sp 214 [z37,z53,z56,z57,z71,(49,.ptr 6 [] 1),(50,.sref 5 [] 0 (List.length v3.1.Guests) 17),(51,ii x_g),(52,.agg (sw 9 v5.1.Regs::cP v5.1 [])),(53,.ptr 5 [] (0+(Int.toNat x_g)*17)),(54,.ptr 5 [] (0+(Int.toNat x_g)*17+1))]) [z38,z69,(5,some q11),z70,z83,(10,some q13)] 11 (.cons hg108 .nil) ?_;obtain⟨hg4,hh⟩:=aL hh;refine ys (.store 13 (.t 54) (.t 52)) none (oH (c:=bK) (xs:=v3.1.Guests) (cs:=z2) (e:=38) (r:=5) (o:=0+(Int.toNat x_g)*17+1) (i:=(Int.toNat x_g)) (off:=1) (vs:=(sw 9 v5.1.Regs::cP v5.1 [])) aZ kr kr kr kr (aDg aDd ltn ltn) ltn ltn dd ?_);refine yt (sp 214 [z37,z53,z56,z57,z71]) [z38,z69,(5,some ⟨38,aQ (fl bK v3.1.Guests) (0+(Int.toNat x_g)*17+1) (sw 9 v5.1.Regs::cP v5.1 [])⟩),z70,z83,(10,some q13)] 11 ?_;let q14:Root:=⟨26,[sw 4 v3.1.Words,.sref 11 [] 0 (List.length v3.1.Guests) 17]⟩;let z84:=(6,some q14);let q15:Root:=⟨35,.sref 11 [0+(Int.toNat x_g)*17+1+0] 0 (List.length v5.1.Regs) 1::cP v5.1 []⟩;let z85:=(10,some q15);refine Aw.ent (Ent.foldP (c:=bK) (xs:=v3.1.Guests) (i:=(Int.toNat x_g)) (off:=1) (o:=0+(Int.toNat x_g)*17+1) (y:=z8) (R:=5) (e:=38) (us2:=sp 214 [z37,z53,z56,z57,z71]) (H2:=[z38,z69,z84,z85]) (L:=[some (some 9),none,none,none,none,none,none,none,none,none,none,none,none]) (ws:=(.own 3 1 (List.length v5.1.Regs) (fl (eI .i64) v5.1.Regs)::cP v5.1 [])) aZ kr ltn ltn (Nat.le_of_ble_eq_true rfl) kr (aGq kr eqn (aJ (aJ (aJ (aJ (aJ (aJ (aJ (aJ (aJ (aJ (aJ (aJ aAc))))))))))))) (by rfl) (by rfl) (vI kr (kR (u:=ii x_g) kr (.same _) (kR (u:=pp 1) kr (.same _) (kR (u:=pp 6) kr (.same _) (kR (u:=pp 10) kr (.same _) (kR (u:=bb v5.2) kr (.same _) aAd)))))) (jI (t:=⟨26,[.nil,.nil]⟩) rfl kr rfl fJ (jI (t:=q4) rfl kr rfl fJ (jI (t:=q5) rfl kr rfl (dW (.same _) (dW (.sref _ _ _ _ eqn) xK)) (jI (t:=q13) rfl kr rfl (dW (.sub _ _ _ _ _ _ (.head _) rfl) (dW (.same _) (dW (.same _) (dW (.same _) (dW (.same _) (dW (.same _) (dW (.same _) (dW (.same _) (dW (.same _) (dW (.same _) (dW (.same _) (dW (.same _) (dW (.same _) xK))))))))))))) aGa))))) (Aw.seq (Aw.sreg [1,4,6,9,55] [1,4,6,10,11] ?_));let q16:Root:=(rO38 z18);let z86:=(11,some q16);let z87:=(3,some q16);refine yt (sp 214 [z37,z53,z56,z57,(55,bb v5.2)]) [z38,z69,z84,z85,z86] 12 ?_;rcases jM hh with⟨hb,hh⟩|⟨hb,hh⟩;{refine cT hb (sy [4,5] [1,4,11] (sp 214 [z53,z54]) [(1,some q14),z69,z86] 12 (Aw.ret (aFf ?_)));rw[aP hh];exact jA (r':= .tup [.agg [sw 4 v3.1.Words,.sref 11 [] 0 (List.length v3.1.Guests) 17],bb true]) kr (Ent.clov (.tup _ _ (dO (iV (aF (cI (c:=(eI .i64)) (xs:=v3.1.Words) (e:=3) eqn bH cH cG kr) (aF (lJ (B:=dZ) (xs:=z18) (e:=38) lL aZ eqn kr) gF))) (cz1 eS))))};refine cF hb (Aw.xskip (λ_ _ _ hq=>aBj hq) (Aw.sreg [1,4,6,9,11] [1,4,6,10,11,12] (yj 2  (sp 214 [z37,z53,z56,z57,(55,bb v5.2),(57,.agg [sw 4 v3.1.Words,.sref 11 [] 0 (List.length v3.1.Guests) 17]),(58,ii x_g)]) [z38,z69,z84,z85,z86] 12 ?_)));obtain⟨v6,hv6,hh⟩:=bind_some hh;let z88:EV:=(11,.sref 12 [] 0 (List.length v6) 6);let z89:EV:=(11,.sref 5 [] 0 (List.length v6) 6);let z90:EH:=(12,some (rC103 v6));let z91:EV:=(194,.sref 5 [] 0 (List.length v6) 6);let z92:EH:=(5,some (rC103 v6));refine ys (.call 67 [.t 57,.t 58]) (some 59) (mO (r:= .own 103 6 (List.length v6) (fl pZ v6)) (v:= .sref 12 [] 0 (List.length v6) 6) (Hr:=[z90]) (n':=13) (aQc hv6) (oP (vs:=[.agg [sw 4 v3.1.Words,.sref 11 [] 0 (List.length v3.1.Guests) 17],ii x_g]) kr (dO (iV (aF (cI (c:=(eI .i64)) (xs:=v3.1.Words) (e:=3) eqn bH cH cG kr) (aF (lJ (B:=dZ) (xs:=z18) (e:=38) lL aZ eqn kr) gF))) (cz1 eS))) nrr nrr kr ?_);refine yt (sp 214 [z37,z53,z56,z57,z88]) [z38,z69,z84,z85,z86,z90] 13 (Aw.sreg [1,4,6,9,11,12] [1,4,6,10,11,12] (yu 5 [(61,.sref 12 [] 0 (List.length v6) 6),(62,.ptr 10 [] 1),(63,ii v5.1.Pc),(64,.ptr 10 [] 10),(65,bb v5.1.User)] [z38,z69,z84,z85,z86,z90] 13 ?_));obtain⟨v7,hv7,hh⟩:=bind_some hh;let z93:=(12,ii v7.1);let z94:=(70,bb (decide (v7.1<(0:Int))));refine ys (.call 68 [.t 61,.t 63,.t 65,.c (bb false)]) (some 66) (mO (r:= .tup [ii v7.1,ii v7.2]) (v:= .tup [ii v7.1,ii v7.2]) (Hr:=[]) (n':=13) (aDe hv7) (oP (vs:=[.sref 12 [] 0 (List.length v6) 6,ii v5.1.Pc,bb v5.1.User,bb false]) kr (dO (cI (c:=pZ) (xs:=v6) (e:=103) eqn aJk aHg aBs kr) (cz1 (cz1 (cz1 eS))))) rfl rfl kr ?_);refine yt (sp 214 [z37,z53,z56,z57,z88,z93]) [z38,z69,z84,z85,z86,z90] 13 (Aw.seq (sy [1,4,6,9,11,12,70] [1,4,6,10,11,12] (sp 214 [z37,z53,z56,z57,z88,z93,z94]) [z38,z69,z84,z85,z86,z90] 13 ?_));rcases jM hh with⟨hb,hh⟩|⟨hb,hh⟩;{refine cT hb ?_;let q17:Root:=⟨35,sw 13 v5.1.Regs::cP v5.1 []⟩;let z95:=(10,some q17);refine Aw.ent (Ent.unfold (R:=11) (j:=0+(Int.toNat x_g)*17+1+0) (e:=38) (e':=3) (cs:=(fl bK z18)) (ds:=(fl (eI .i64) v5.1.Regs)) (sz:=1) (k:=(List.length v5.1.Regs)) (xs2:=sp 214 [z37,z53,z56,z57,z88,z93,z94]) (H2:=[z38,z69,z84,z95,z90]) kr (aCa (c:=bK) (xs:=z18) (i:=(Int.toNat x_g)) (off:=1) aZ ltn ltn dd (aI ltn) kr) (aCn kr (cC (u:=ii x_g) kr (.same _) (cC (u:=pp 1) kr (.same _) (cC (u:=pp 6) kr (.same _) (cC (u:=pp 10) kr (.same _) (cC (u:= .sref 12 [] 0 (List.length v6) 6) kr (.same _) (cC (u:=ii v7.1) kr (.same _) (cC (u:=bb (decide (v7.1<(0:Int)))) kr (.same _) aGx)))))))) (eK (t:=⟨26,[.nil,.nil]⟩) dd kr rfl bW (eK (t:=q4) dd kr rfl bW (eK (t:=q14) dd kr rfl bW (eK (t:=q15) dd kr rfl (aO (.sref _ _ _ _ rfl) (aO (.same _) (aO (.same _) (aO (.same _) (aO (.same _) (aO (.same _) (aO (.same _) (aO (.same _) (aO (.same _) (aO (.same _) (aO (.same _) (aO (.same _) (aO (.same _) aHv))))))))))))) (eK (t:=(rC103 v6)) dd kr rfl bW aQn)))))) (Aw.sregd [4,6] [1,4,6,11,14] [13] kr ?_);let q18:Root:=⟨38,z27⟩;refine dj 8 (sp 214 [z37,z53,z56,z57,z88,z93,z94,(71,.ptr 6 [] 1),z63,(73,ii x_g),z78,(75,.ptr 10 [] 1),(76,ii v5.1.Pc),(77,.ptr 10 [] 1),(78,ii v5.1.Pc)]) [(13,some q12),(11,some q18),z38,z69,z84,z95,z90] 14 ?_;obtain⟨v8,hv8,hh⟩:=bind_some hh;let z96:EV:=(79,.agg (sw 14 v8.Regs::cP v8 []));let z9:=DGuest.mk z1.Live v8 z1.Pages z1.In z1.Out;let z19:=List.set v3.1.Guests (Int.toNat x_g) z9;let q19:Root:=(rI_3 v8.Regs);let z97:=(14,some q19);refine ds (.call 69 [.t 74,.t 76,.c (ii 2),.t 78]) (some 79) (vW rfl (cf (.agg (sw 14 v8.Regs::cP v8 [])) [z97] 15 [13] (wS hv8) [.agg (sw 13 v5.1.Regs::cP v5.1 []),ii v5.1.Pc,ii 2,ii v5.1.Pc] rz (hn aY aR) (eZ rz) (hn aY aR) ⟨⟨⟨by decide,mR rfl rfl⟩,Hld.un ?_⟩⟩));refine dt (sp 214 [z37,z53,z56,z57,z88,z93,z94,(71,.ptr 6 [] 1),z63,(73,ii x_g),z78,(75,.ptr 10 [] 1),(76,ii v5.1.Pc),(77,.ptr 10 [] 1),(78,ii v5.1.Pc),z96]) [z97,(13,none),(13,some q12),(11,some q18),z38,z69,z84,z95,z90] 15 ?_;obtain⟨hg12,hh⟩:=aL hh;refine yjc 2 [(0:Int)<=x_g/\x_g<((List.length v3.1.Guests:Nat):Int)] (sp 214 [z37,z53,z56,z57,z88,z93,z94,(71,.ptr 6 [] 1),z63,(73,ii x_g),z78,(75,.ptr 10 [] 1),(76,ii v5.1.Pc),(77,.ptr 10 [] 1),(78,ii v5.1.Pc),z96,(80,.ptr 11 [] (0+(Int.toNat x_g)*17)),(81,.ptr 11 [] (0+(Int.toNat x_g)*17+1))]) [z97,(13,none),(13,some q12),(11,some q18),z38,z69,z84,z95,z90] 15 (.cons hg12 .nil) ?_;obtain⟨hg11,hh⟩:=aL hh;refine ys (.store 13 (.t 81) (.t 79)) none (oH (c:=bK) (xs:=z18) (cs:=z27) (e:=38) (r:=11) (o:=0+(Int.toNat x_g)*17+1) (i:=(Int.toNat x_g)) (off:=1) (vs:=(sw 14 v8.Regs::cP v8 [])) aZ kr kr kr kr (aDg aDd ltn ltn) ltn ltn dd ?_);refine yt (sp 214 [z53,z56]) [z38,z69,z84,(11,some ⟨38,aQ (fl bK z18) (0+(Int.toNat x_g)*17+1) (sw 14 v8.Regs::cP v8 [])⟩),z97] 15 ?_;let q20:Root:=⟨26,[sw 4 v3.1.Words,.sref 15 [] 0 (List.length v3.1.Guests) 17]⟩;refine Aw.ent (Ent.foldPE (c:=bK) (xs:=z18) (i:=(Int.toNat x_g)) (off:=1) (o:=0+(Int.toNat x_g)*17+1) (y:=z9) (R:=11) (e:=38) (us2:=sp 214 [z53,z56]) (H2:=[z38,z69,(6,some q20)]) (L:=[some (some 14),none,none,none,none,none,none,none,none,none,none,none,none]) (ws:=(.own 3 1 (List.length v8.Regs) (fl (eI .i64) v8.Regs)::cP v8 [])) (aI ltn) (List.set_set ..) aZ kr ltn ltn (Nat.le_of_ble_eq_true rfl) kr (aGq kr eqn (aJ (aJ (aJ (aJ (aJ (aJ (aJ (aJ (aJ (aJ (aJ (aJ aAc))))))))))))) (by rfl) (by rfl) (vI kr (kR (u:=pp 1) kr (.same _) (kR (u:=pp 6) kr (.same _) aAd))) (jI (t:=⟨26,[.nil,.nil]⟩) rfl kr rfl fJ (jI (t:=q4) rfl kr rfl fJ (jI (t:=q14) rfl kr rfl (dW (.same _) (dW (.sref _ _ _ _ eqn) xK)) aGa)))) (sy [4,5] [1,4,15] (sp 214 [z53,z54]) [(1,some q20),z69,(15,some (rO38 z19))] 16 (Aw.ret (aFf ?_)));rw[aP hh];exact jA (r':= .tup [.agg [sw 4 v3.1.Words,.sref 15 [] 0 (List.length v3.1.Guests) 17],bb true]) kr (Ent.clov (.tup _ _ (dO (iV (aF (cI (c:=(eI .i64)) (xs:=v3.1.Words) (e:=3) eqn bH cH cG kr) (aF (lJ (B:=dZ) (xs:=z19) (e:=38) lL aZ eqn kr) gF))) (cz1 eS))))};refine cF hb (Aw.xskip (λ_ _ _ hq=>aBj hq) (Aw.sreg [1,4,6,9,11,14] [1,4,6,10,11,12,13] ?_));obtain⟨hg107,hh⟩:=aL hh;refine yjc 4 [(0:Int)<=v7.1/\v7.1<((List.length v3.1.Words:Nat):Int)] (sp 214 [z37,z53,z56,z57,z88,z93,z94,(83,pp 6),(84,sw 4 v3.1.Words),(85,ii v7.1),(86,.ptr 4 [] (0+(Int.toNat v7.1)*1))]) [z38,z69,z84,z85,z86,z90] 13 (.cons hg107 .nil) (ys (.load false 1 (.t 86)) (some 87) (pM (c:=(eI .i64)) (xs:=v3.1.Words) (e:=3) (r:=4) (π:=[]) (o:=0+(Int.toNat v7.1)*1) (i:=(Int.toNat v7.1)) (off:=0) (v:=ii (List.getD v3.1.Words (Int.toNat v7.1) default)) bH kr kr ltn ltn dd kr ?_));obtain⟨v9,hv9,hh⟩:=bind_some hh;let z98:=(115,bb (!decide (v9.Op=(4:Int))));let z99:=(118,bb (!decide (v9.Op=(3:Int))));let z100:=(119,bb (!decide (v9.Op=(3:Int))));let z101:EV:=(128,.agg (eD v9));let z102:EH:=(13,some ⟨89,eD v9⟩);let z103:=(167,bb (decide (v9.Op=(3:Int))));let z104:EV:=(177,.ptr 3 [0+(Int.toNat x_g)*17+1+0] (0+(Int.toNat v9.A)*1));let z105:EV:=(185,.ptr 3 [0+(Int.toNat x_g)*17+1+0] (0+(Int.toNat v9.A)*1));let z106:EH:=(6,some ⟨89,eD v9⟩);let z3:=List.getD v5.1.Regs (Int.toNat (Int.tmod v9.N (4:Int))) default;let z107:=(15,ii (Int.tmod z3 (64:Int)));let z108:=(160,ii (Int.tmod z3 (64:Int)));let z109:=(195,ii (Int.tmod z3 (64:Int)));let z110:=(196,ii (w64 (Int.tdiv (Int.tmod z3 (64:Int)) (8:Int))));let z111:EV:=(197,.ptr 5 [] (0+(Int.toNat (w64 (Int.tdiv (Int.tmod z3 (64:Int)) (8:Int))))*6));let z112:EV:=(198,.ptr 5 [] (0+(Int.toNat (w64 (Int.tdiv (Int.tmod z3 (64:Int)) (8:Int))))*6+3));let z10:=List.getD v6 (Int.toNat (w64 (Int.tdiv (Int.tmod z3 (64:Int)) (8:Int)))) default;let z113:EV:=(200,.ptr 3 [0+(Int.toNat x_g)*17+14+0] (0+(Int.toNat z10.Page)*3));let z114:EV:=(201,.ptr 3 [0+(Int.toNat x_g)*17+14+0] (0+(Int.toNat z10.Page)*3+2));let z20:=List.getD z1.Pages (Int.toNat z10.Page) default;let z28:=DSlot.mk z20.Frame z20.Write true;let z31:=List.set z1.Pages (Int.toNat z10.Page) z28;let z33:=DGuest.mk z1.Live v5.1 z31 z1.In z1.Out;let z34:=List.set v3.1.Guests (Int.toNat x_g) z33;let z4:=List.getD v5.1.Regs (Int.toNat v9.A) default;refine ys (.call 70 [.t 87]) (some 88) (oc (aRg hv9) ?_);refine yt (sp 214 [z37,z53,z56,z57,z88,z45]) [z38,z69,z84,z85,z86,z90,z102] 14 ?_;obtain⟨j10,hh,hk10⟩:=bind_some hh;refine Aw.join (S:=Unit) (λs10=>sp 214 [(1,ii x_g),(4,pp 0),(6,pp 1),(9,pp 4),(11,.sref 5 [] 0 (List.length v6) 6),(14,pp 6)]) (λs10=>[(0,some ⟨26,[.nil,.nil]⟩),(1,some ⟨26,[sw 2 v3.1.Words,.sref 3 [] 0 (List.length v3.1.Guests) 17]⟩),(2,some (rI_3 v3.1.Words)),(3,some (rO38 (List.set v3.1.Guests (Int.toNat x_g) (DGuest.mk (List.getD v3.1.Guests (Int.toNat x_g) default).Live v5.1 (List.getD v3.1.Guests (Int.toNat x_g) default).Pages (List.getD v3.1.Guests (Int.toNat x_g) default).In (List.getD v3.1.Guests (Int.toNat x_g) default).Out)))),(4,some ⟨35,.sref 3 [0+(Int.toNat x_g)*17+1+0] 0 (List.length v5.1.Regs) 1::cP v5.1 []⟩),(5,some (rC103 v6)),(6,some ⟨89,eD v9⟩)]) 7 (λs10=>iH x_g v3 v5 v6 v9 s10=some R_) ?_ ?_;{intro s10 hh;unfold iH at hh;refine Aw.sreg [1,4,6,9,11,14,15] [0,1,2,3,4,5,6] ?_;obtain⟨hg94,hh⟩:=aL hh;let q21:Root:=⟨26,[sw 2 v3.1.Words,.sref 3 [] 0 (List.length v3.1.Guests) 17]⟩;let z115:=(1,some q21);let q22:Root:=⟨35,.sref 3 [0+(Int.toNat x_g)*17+1+0] 0 (List.length v5.1.Regs) 1::cP v5.1 []⟩;let z116:=(4,some q22);refine yjc 6 [(4:Int)≠0,(0:Int)<=(Int.tmod v9.N (4:Int))/\(Int.tmod v9.N (4:Int))<((List.length v5.1.Regs:Nat):Int)] (sp 214 [z37,z52,z55,z58,z89,z46,(133,pp 4),(134,.sref 3 [0+(Int.toNat x_g)*17+1+0] 0 (List.length v5.1.Regs) 1),(135,.ptr 6 [] 2),(136,ii v9.N),(137,ii (Int.tmod v9.N (4:Int))),(138,.ptr 3 [0+(Int.toNat x_g)*17+1+0] (0+(Int.toNat (Int.tmod v9.N (4:Int)))*1))]) [z36,z115,z68,z87,z116,z92,z106] 7 (.cons dd (.cons hg94 .nil)) (ys (.load false 1 (.t 138)) (some 139) (pM (c:=(eI .i64)) (xs:=v5.1.Regs) (e:=3) (r:=3) (π:=[0+(Int.toNat x_g)*17+1+0]) (o:=0+(Int.toNat (Int.tmod v9.N (4:Int)))*1) (i:=(Int.toNat (Int.tmod v9.N (4:Int)))) (off:=0) (v:=ii z3) bH kr (vZ (e:=38) (e':=3) (sz':=1) (m':=(List.length v5.1.Regs)) (cs':=(fl (eI .i64) v5.1.Regs)) (c:=bK) (xs:=z18) (i:=(Int.toNat x_g)) (off:=1) aZ kr ltn ltn dd (aI ltn) kr) ltn ltn dd kr ?_));refine ytc [(64:Int)≠0] (sp 214 [z37,z52,z55,z58,z89,z46,z107]) [z36,z115,z68,z87,z116,z92,z106] 7 (.cons dd .nil) (Aw.sreg [1,4,6,9,11,14,15,16] [0,1,2,3,4,5,6] (yu 7 [(142,.sref 5 [] 0 (List.length v6) 6),(143,ii (Int.tmod z3 (64:Int))),(144,.ptr 4 [] 10),(145,bb v5.1.User),(146,pp 6),(147,ii v9.Op),(148,bb (decide (v9.Op=(4:Int))))] [z36,z115,z68,z87,z116,z92,z106] 7 ?_));obtain⟨v11,hv11,hh⟩:=bind_some hh;let z117:=(153,bb (decide (v11.1<(0:Int))));let z118:=(16,ii v11.1);let z119:EV:=(175,.ptr 2 [] (0+(Int.toNat v11.1)*1));let z11:=List.set v3.1.Words (Int.toNat v11.1) z4;let z5:=List.getD v3.1.Words (Int.toNat v11.1) default;let z12:=List.set v5.1.Regs (Int.toNat v9.A) z5;let z21:=DCore.mk z12 v5.1.Pc v5.1.Root v5.1.Vector v5.1.Saved v5.1.SavedUser v5.1.Cause v5.1.Bad v5.1.Timer v5.1.Waits v5.1.User v5.1.On v5.1.Stopped;let z29:=DGuest.mk z1.Live z21 z1.Pages z1.In z1.Out;let z32:=List.set v3.1.Guests (Int.toNat x_g) z29;refine ys (.call 68 [.t 142,.t 143,.t 145,.t 148]) (some 149) (mO (r:= .tup [ii v11.1,ii v11.2]) (v:= .tup [ii v11.1,ii v11.2]) (Hr:=[]) (n':=7) (aDe hv11) (oP (vs:=[.sref 5 [] 0 (List.length v6) 6,ii (Int.tmod z3 (64:Int)),bb v5.1.User,bb (decide (v9.Op=(4:Int)))]) kr (dO (cI (c:=pZ) (xs:=v6) (e:=103) eqn aJk aHg aBs kr) (cz1 (cz1 (cz1 eS))))) rfl rfl kr ?_);refine yt (sp 214 [z37,z52,z55,z58,z89,z46,z107,z118]) [z36,z115,z68,z87,z116,z92,z106] 7 (Aw.seq (sy [1,4,6,9,11,14,15,16,153] [0,1,2,3,4,5,6] (sp 214 [z37,z52,z55,z58,z89,z46,z107,z118,z117]) [z36,z115,z68,z87,z116,z92,z106] 7 ?_));rcases jM hh with⟨hb,hh⟩|⟨hb,hh⟩;{refine cT hb ?_;let q23:Root:=⟨35,sw 7 v5.1.Regs::cP v5.1 []⟩;refine Aw.ent (Ent.unfold (R:=3) (j:=0+(Int.toNat x_g)*17+1+0) (e:=38) (e':=3) (cs:=(fl bK z18)) (ds:=(fl (eI .i64) v5.1.Regs)) (sz:=1) (k:=(List.length v5.1.Regs)) (xs2:=sp 214 [z37,z52,z55,z58,z89,z46,z107,z118,z117]) (H2:=[z36,z115,z68,(4,some q23),z92,z106]) kr (aCa (c:=bK) (xs:=z18) (i:=(Int.toNat x_g)) (off:=1) aZ ltn ltn dd (aI ltn) kr) (aCn kr (cC (u:=ii x_g) kr (.same _) (cC (u:=pp 0) kr (.same _) (cC (u:=pp 1) kr (.same _) (cC (u:=pp 4) kr (.same _) (cC (u:= .sref 5 [] 0 (List.length v6) 6) kr (.same _) (cC (u:=pp 6) kr (.same _) (cC (u:=ii (Int.tmod z3 (64:Int))) kr (.same _) (cC (u:=ii v11.1) kr (.same _) (cC (u:=bb (decide (v11.1<(0:Int)))) kr (.same _) aGx)))))))))) (eK (t:=⟨26,[.nil,.nil]⟩) dd kr rfl bW (eK (t:=q21) dd kr rfl bW (eK (t:=q4) dd kr rfl bW (eK (t:=q22) dd kr rfl (aO (.sref _ _ _ _ rfl) (aO (.same _) (aO (.same _) (aO (.same _) (aO (.same _) (aO (.same _) (aO (.same _) (aO (.same _) (aO (.same _) (aO (.same _) (aO (.same _) (aO (.same _) (aO (.same _) aHv))))))))))))) (eK (t:=(rC103 v6)) dd kr rfl bW (eK (t:=⟨89,eD v9⟩) dd kr rfl bW aQn))))))) (Aw.sregd [4,6] [0,1,2,3,8] [7] kr ?_);let q24:Root:=⟨38,z27⟩;refine dj 7 (sp 214 [z37,z52,z55,z58,z89,z46,z107,z118,z117,(154,.ptr 1 [] 1),z60,(156,ii x_g),z74,(158,.ptr 4 [] 1),z75,z108]) [(7,some q12),(3,some q24),z36,z115,z68,(4,some q23),z92,z106] 8 ?_;obtain⟨v12,hv12,hh⟩:=bind_some hh;let z120:EV:=(161,.agg (sw 8 v12.Regs::cP v12 []));let z13:=DGuest.mk z1.Live v12 z1.Pages z1.In z1.Out;let z22:=List.set v3.1.Guests (Int.toNat x_g) z13;let q25:Root:=(rI_3 v12.Regs);refine ds (.call 69 [.t 157,.t 159,.c (ii 2),.t 160]) (some 161) (vW rfl (cf (.agg (sw 8 v12.Regs::cP v12 [])) [(8,some q25)] 9 [7] (wS hv12) [.agg (sw 7 v5.1.Regs::cP v5.1 []),ii v5.1.Pc,ii 2,ii (Int.tmod z3 (64:Int))] rz (hn aY aR) (eZ rz) (hn aY aR) ⟨⟨⟨by decide,mR rfl rfl⟩,Hld.un ?_⟩⟩));refine dt (sp 214 [z37,z52,z55,z58,z89,z46,z107,z118,z117,(154,.ptr 1 [] 1),z60,(156,ii x_g),z74,(158,.ptr 4 [] 1),z75,z108,z120]) [(8,some q25),(7,none),(7,some q12),(3,some q24),z36,z115,z68,(4,some q23),z92,z106] 9 ?_;obtain⟨hg46,hh⟩:=aL hh;refine yjc 2 [(0:Int)<=x_g/\x_g<((List.length v3.1.Guests:Nat):Int)] (sp 214 [z37,z52,z55,z58,z89,z46,z107,z118,z117,(154,.ptr 1 [] 1),z60,(156,ii x_g),z74,(158,.ptr 4 [] 1),z75,z108,z120,(162,.ptr 3 [] (0+(Int.toNat x_g)*17)),(163,.ptr 3 [] (0+(Int.toNat x_g)*17+1))]) [(8,some q25),(7,none),(7,some q12),(3,some q24),z36,z115,z68,(4,some q23),z92,z106] 9 (.cons hg46 .nil) ?_;obtain⟨hg45,hh⟩:=aL hh;refine ys (.store 13 (.t 163) (.t 161)) none (oH (c:=bK) (xs:=z18) (cs:=z27) (e:=38) (r:=3) (o:=0+(Int.toNat x_g)*17+1) (i:=(Int.toNat x_g)) (off:=1) (vs:=(sw 8 v12.Regs::cP v12 [])) aZ kr kr kr kr (aDg aDd ltn ltn) ltn ltn dd ?_);refine yt (sp 214 [z52,z55]) [z36,z115,z68,(3,some ⟨38,aQ (fl bK z18) (0+(Int.toNat x_g)*17+1) (sw 8 v12.Regs::cP v12 [])⟩),(8,some q25)] 9 ?_;let q26:Root:=⟨26,[sw 2 v3.1.Words,.sref 9 [] 0 (List.length v3.1.Guests) 17]⟩;refine Aw.ent (Ent.foldPE (c:=bK) (xs:=z18) (i:=(Int.toNat x_g)) (off:=1) (o:=0+(Int.toNat x_g)*17+1) (y:=z13) (R:=3) (e:=38) (us2:=sp 214 [z52,z55]) (H2:=[z36,(1,some q26),z68]) (L:=[some (some 8),none,none,none,none,none,none,none,none,none,none,none,none]) (ws:=(.own 3 1 (List.length v12.Regs) (fl (eI .i64) v12.Regs)::cP v12 [])) (aI ltn) (List.set_set ..) aZ kr ltn ltn (Nat.le_of_ble_eq_true rfl) kr (aGq kr eqn (aJ (aJ (aJ (aJ (aJ (aJ (aJ (aJ (aJ (aJ (aJ (aJ aAc))))))))))))) (by rfl) (by rfl) (vI kr (kR (u:=pp 0) kr (.same _) (kR (u:=pp 1) kr (.same _) aAd))) (jI (t:=⟨26,[.nil,.nil]⟩) rfl kr rfl fJ (jI (t:=q21) rfl kr rfl (dW (.same _) (dW (.sref _ _ _ _ eqn) xK)) (jI (t:=q4) rfl kr rfl fJ aGa)))) (sy [4,5] [0,2,9] (sp 214 [z52,z54]) [(0,some q26),z68,(9,some (rO38 z22))] 10 (Aw.ret (aFf ?_)));rw[aP hh];exact jA (r':= .tup [.agg [sw 2 v3.1.Words,.sref 9 [] 0 (List.length v3.1.Guests) 17],bb true]) kr (Ent.clov (.tup _ _ (dO (iV (aF (cI (c:=(eI .i64)) (xs:=v3.1.Words) (e:=3) eqn bH cH cG kr) (aF (lJ (B:=dZ) (xs:=z22) (e:=38) lL aZ eqn kr) gF))) (cz1 eS))))};refine cF hb (Aw.xskip (λ_ _ _ hq=>aBj hq) ?_);obtain⟨j13,hh,hk13⟩:=bind_some hh;refine Aw.join (S:=(List Int)×(List DGuest)) (λs13=>sp 214 [(1,ii x_g),(4,pp 0),(6,pp 1),(9,pp 4)]) (λs13=>[(0,some ⟨26,[.nil,.nil]⟩),(1,some ⟨26,[sw 2 s13.1,.sref 3 [] 0 (List.length s13.2) 17]⟩),(2,some (rI_3 s13.1)),(3,some (rO38 s13.2)),(4,some ⟨35,.sref 3 [0+(Int.toNat x_g)*17+1+0] 0 (List.length ((List.getD s13.2 (Int.toNat x_g) default).C).Regs) 1::cP v5.1 []⟩)]) 5 (λs13=>mE x_g v5 s13=some R_) ?_ ?_;{intro s13 hh;let z6:=List.getD s13.2 (Int.toNat x_g) default;let z14:=DCore.mk (z6.C).Regs (Int.tmod (w64 (v5.1.Pc+(1:Int))) (64:Int)) v5.1.Root v5.1.Vector v5.1.Saved v5.1.SavedUser v5.1.Cause v5.1.Bad v5.1.Timer v5.1.Waits v5.1.User v5.1.On v5.1.Stopped;let z23:=DGuest.mk z6.Live z14 z6.Pages z6.In z6.Out;let z30:=List.set s13.2 (Int.toNat x_g) z23;let z7:=List.set (fl bK s13.2) (0+(Int.toNat x_g)*17+1+0) .unk;unfold mE at hh;refine Aw.sreg [1,4,6,9] [0,1,2,3,4] ?_;let q27:Root:=⟨26,[sw 2 s13.1,.sref 3 [] 0 (List.length s13.2) 17]⟩;let q28:Root:=(rI_3 s13.1);let z121:=(2,some q28);let q29:Root:=⟨35,[.sref 3 [0+(Int.toNat x_g)*17+1+0] 0 (List.length (z6.C).Regs) 1,ii (Int.tmod (w64 (v5.1.Pc+(1:Int))) (64:Int)),ii v5.1.Root,ii v5.1.Vector,ii v5.1.Saved,bb v5.1.SavedUser,ii v5.1.Cause,ii v5.1.Bad,ii v5.1.Timer,bb v5.1.Waits,bb v5.1.User,bb v5.1.On,bb v5.1.Stopped]⟩;refine ytc [(64:Int)≠0] (sp 214 [z37,z52,z55,z58]) [z36,(1,some q27),z121,(3,some (rO38 s13.2)),(4,some q29)] 5 (.cons dd .nil) ?_;obtain⟨hg75,hh⟩:=aL hh;let q30:Root:=⟨35,[.sref 5 [] 0 (List.length (z6.C).Regs) 1,ii (Int.tmod (w64 (v5.1.Pc+(1:Int))) (64:Int)),ii v5.1.Root,ii v5.1.Vector,ii v5.1.Saved,bb v5.1.SavedUser,ii v5.1.Cause,ii v5.1.Bad,ii v5.1.Timer,bb v5.1.Waits,bb v5.1.User,bb v5.1.On,bb v5.1.Stopped]⟩;refine Aw.ent (Ent.unfold (R:=3) (j:=0+(Int.toNat x_g)*17+1+0) (e:=38) (e':=3) (cs:=(fl bK s13.2)) (ds:=(fl (eI .i64) (z6.C).Regs)) (sz:=1) (k:=(List.length (z6.C).Regs)) (xs2:=sp 214 [z37,z52,z55,z58]) (H2:=[z36,(1,some q27),z121,(4,some q30)]) kr (aCa (c:=bK) (xs:=s13.2) (i:=(Int.toNat x_g)) (off:=1) aZ ltn ltn dd rfl kr) (aCn kr (cC (u:=ii x_g) kr (.same _) (cC (u:=pp 0) kr (.same _) (cC (u:=pp 1) kr (.same _) (cC (u:=pp 4) kr (.same _) aGx))))) (eK (t:=⟨26,[.nil,.nil]⟩) dd kr rfl bW (eK (t:=q27) dd kr rfl bW (eK (t:=q28) dd kr rfl bW (eK (t:=q29) dd kr rfl (aO (.sref _ _ _ _ rfl) (aO (.same _) (aO (.same _) (aO (.same _) (aO (.same _) (aO (.same _) (aO (.same _) (aO (.same _) (aO (.same _) (aO (.same _) (aO (.same _) (aO (.same _) (aO (.same _) aHv))))))))))))) aQn))))) (Aw.sreg [4,6] [0,1,2,3,5] ?_);obtain⟨hg79,hh⟩:=aL hh;let q31:Root:=(rI_3 (z6.C).Regs);refine yjc 6 [(0:Int)<=x_g/\x_g<((List.length s13.2:Nat):Int)] (sp 214 [z37,z52,z55,z58,(207,.ptr 1 [] 1),(208,.sref 3 [] 0 (List.length s13.2) 17),(209,ii x_g),(210,.agg [.sref 5 [] 0 (List.length (z6.C).Regs) 1,ii (Int.tmod (w64 (v5.1.Pc+(1:Int))) (64:Int)),ii v5.1.Root,ii v5.1.Vector,ii v5.1.Saved,bb v5.1.SavedUser,ii v5.1.Cause,ii v5.1.Bad,ii v5.1.Timer,bb v5.1.Waits,bb v5.1.User,bb v5.1.On,bb v5.1.Stopped]),(211,.ptr 3 [] (0+(Int.toNat x_g)*17)),(212,.ptr 3 [] (0+(Int.toNat x_g)*17+1))]) [(5,some q31),(3,some ⟨38,z7⟩),z36,(1,some q27),z121,(4,some q30)] 6 (.cons hg79 .nil) ?_;obtain⟨hg78,hh⟩:=aL hh;refine ys (.store 13 (.t 212) (.t 210)) none (oH (c:=bK) (xs:=s13.2) (cs:=z7) (e:=38) (r:=3) (o:=0+(Int.toNat x_g)*17+1) (i:=(Int.toNat x_g)) (off:=1) (vs:=[.sref 5 [] 0 (List.length (z6.C).Regs) 1,ii (Int.tmod (w64 (v5.1.Pc+(1:Int))) (64:Int)),ii v5.1.Root,ii v5.1.Vector,ii v5.1.Saved,bb v5.1.SavedUser,ii v5.1.Cause,ii v5.1.Bad,ii v5.1.Timer,bb v5.1.Waits,bb v5.1.User,bb v5.1.On,bb v5.1.Stopped]) aZ kr kr kr kr (aDg aDd ltn ltn) ltn ltn dd ?_);refine yt (sp 214 [z52,z55]) [z36,(1,some q27),z121,(3,some ⟨38,aQ (fl bK s13.2) (0+(Int.toNat x_g)*17+1) [.sref 5 [] 0 (List.length (z6.C).Regs) 1,ii (Int.tmod (w64 (v5.1.Pc+(1:Int))) (64:Int)),ii v5.1.Root,ii v5.1.Vector,ii v5.1.Saved,bb v5.1.SavedUser,ii v5.1.Cause,ii v5.1.Bad,ii v5.1.Timer,bb v5.1.Waits,bb v5.1.User,bb v5.1.On,bb v5.1.Stopped]⟩),(5,some q31)] 6 ?_;let q32:Root:=⟨26,[sw 2 s13.1,.sref 6 [] 0 (List.length s13.2) 17]⟩;refine Aw.ent (Ent.foldP (c:=bK) (xs:=s13.2) (i:=(Int.toNat x_g)) (off:=1) (o:=0+(Int.toNat x_g)*17+1) (y:=z23) (R:=3) (e:=38) (us2:=sp 214 [z52,z55]) (H2:=[z36,(1,some q32),z121]) (L:=[some (some 5),none,none,none,none,none,none,none,none,none,none,none,none]) (ws:=[.own 3 1 (List.length (z6.C).Regs) (fl (eI .i64) (z6.C).Regs),ii (Int.tmod (w64 (v5.1.Pc+(1:Int))) (64:Int)),ii v5.1.Root,ii v5.1.Vector,ii v5.1.Saved,bb v5.1.SavedUser,ii v5.1.Cause,ii v5.1.Bad,ii v5.1.Timer,bb v5.1.Waits,bb v5.1.User,bb v5.1.On,bb v5.1.Stopped]) aZ kr ltn ltn (Nat.le_of_ble_eq_true rfl) kr (aGq kr eqn (aJ (aJ (aJ (aJ (aJ (aJ (aJ (aJ (aJ (aJ (aJ (aJ aAc))))))))))))) (by rfl) (by rfl) (vI kr (kR (u:=pp 0) kr (.same _) (kR (u:=pp 1) kr (.same _) aAd))) (jI (t:=⟨26,[.nil,.nil]⟩) rfl kr rfl fJ (jI (t:=q27) rfl kr rfl (dW (.same _) (dW (.sref _ _ _ _ eqn) xK)) (jI (t:=q28) rfl kr rfl fJ aGa)))) (sy [4,5] [0,2,6] (sp 214 [z52,z54]) [(0,some q32),z121,(6,some (rO38 z30))] 7 (Aw.ret ?_));rw[aP hh];exact jA (r':= .tup [.agg [sw 2 s13.1,.sref 6 [] 0 (List.length s13.2) 17],bb true]) kr (Ent.clov (.tup _ _ (dO (iV (aF (cI (c:=(eI .i64)) (xs:=s13.1) (e:=3) eqn bH cH cG kr) (aF (lJ (B:=dZ) (xs:=z30) (e:=38) lL aZ eqn kr) gF))) (cz1 eS))))};intro Q13 hN13 hR13 hE13;refine sy [1,4,6,9,11,14,15,16,167] [0,1,2,3,4,5,6] (sp 214 [z37,z52,z55,z58,z89,z46,z107,z118,z103]) [z36,z115,z68,z87,z116,z92,z106] 7 ?_;rcases jM hh with⟨hb,hh⟩|⟨hb,hh⟩;{refine cT hb (Aw.oregt ?_);obtain⟨hg83,hh⟩:=aL hh;refine qc (cs:=[(0:Int)<=v11.1/\v11.1<((List.length v3.1.Words:Nat):Int)]) (E':=(sp 214 [z37,z52,z55,z58,z89,z46,z107,z118,z103,(168,pp 4),z76,(170,.ptr 6 [] 1),(171,ii v9.A),(172,pp 1),z61,(174,ii v11.1),z119])) (pre:=(List.take 8 (rg 21 37))) (L':=(List.drop 8 (rg 21 37))) kr (λK=>by kernel_rfl) (.cons hg83 .nil) (qs (.load false 1 (.t 175)) (some 176) (aZc rfl (pM (c:=(eI .i64)) (xs:=v3.1.Words) (e:=3) (r:=2) (π:=[]) (o:=0+(Int.toNat v11.1)*1) (i:=(Int.toNat v11.1)) (off:=0) (v:=ii z5) bH kr kr ltn ltn dd kr ?_)));obtain⟨hg82,hh⟩:=aL hh;refine qtt (cs:=[(0:Int)<=v9.A/\v9.A<((List.length v5.1.Regs:Nat):Int)]) (E':=(sp 214 [z37,z52,z55,z58,z89,z46,z107,z118,z103,(168,pp 4),z76,(170,.ptr 6 [] 1),(171,ii v9.A),(172,pp 1),z61,(174,ii v11.1),z119,(176,ii z5),z104])) (λK=>by kernel_rfl) (.cons hg82 .nil) ?_;let q33:Root:=(rO38 z32);refine ys (.store 1 (.t 177) (.t 176)) none (aCr (c:=(eI .i64)) (xs:=v5.1.Regs) (e:=3) (r:=3) (π:=[0+(Int.toNat x_g)*17+1+0]) (o:=0+(Int.toNat v9.A)*1) (i:=(Int.toNat v9.A)) (off:=0) (vs:=[ii z5]) (y:=z5) (H':=[(3,some q33),z36,z115,z68,z87,z116,z92,z106]) bH kr kr kr (vZ (e:=38) (e':=3) (sz':=1) (m':=(List.length v5.1.Regs)) (cs':=(fl (eI .i64) v5.1.Regs)) (c:=bK) (xs:=z18) (i:=(Int.toNat x_g)) (off:=1) aZ kr ltn ltn dd (aI ltn) kr) ltn ltn dd kr (aQq (e:=38) (e':=3) (sz':=1) (m':=(List.length v5.1.Regs)) (cs':=(fl (eI .i64) v5.1.Regs)) (ds:=(fl (eI .i64) z12)) (c:=bK) (xs:=z18) (i:=(Int.toNat x_g)) (off:=1) (y:=z29) (m2:=(List.length z12)) aZ kr ltn ltn dd (aI ltn) kr eqn kr (List.set_set ..) kr) ?_);refine ye (sp 214 [z37,z52,z55,z58,z89,z46,z107,z118,z103,(168,pp 4),z76,(170,.ptr 6 [] 1),(171,ii v9.A),(172,pp 1),z61,(174,ii v11.1),z119,(176,ii z5),z104]) [(3,some q33),z36,z115,z68,z87,z116,z92,z106] 7 ?_;obtain rfl:=aP hh;exact hN13 (v3.1.Words,z32) _ _ _ hk13 (el [some 0,some 1,some 2,some 3,some 4] (eE kr (ri (rp 0 (rp 1 (rp 4 nJ))))) (hq ⟨26,[.nil,.nil]⟩ rz (hq q21 rz (hn aY (hn cJ (hq q22 (bG (vN dd rfl (by first|rfl|omega|(rw[aI ltn];done)|(rw[aI ltn];simp+zetaDelta only[List.length_set];done)|(rw[aI (by simp only[List.length_set];omega)];done)|(rw[aI (by simp only[List.length_set];omega)];simp+zetaDelta only[List.length_set];done))) rz) aR))))))};refine cF hb (Aw.sregt [1,4,6,9,11,15] [0,1,2,3,4,5] ?_);obtain⟨hg93,hh⟩:=aL hh;refine qc (cs:=[(0:Int)<=v9.A/\v9.A<((List.length v5.1.Regs:Nat):Int)]) (E':=(sp 214 [z37,z52,z55,z58,z89,z46,z107,z118,z103,(178,pp 1),(179,sw 2 v3.1.Words),(180,ii v11.1),(181,pp 4),z77,(183,.ptr 6 [] 1),(184,ii v9.A),z105])) (pre:=(List.take 8 (rg 21 39))) (L':=(List.drop 8 (rg 21 39))) kr (λK=>by kernel_rfl) (.cons hg93 .nil) (qs (.load false 1 (.t 185)) (some 186) (aZc rfl (pM (c:=(eI .i64)) (xs:=v5.1.Regs) (e:=3) (r:=3) (π:=[0+(Int.toNat x_g)*17+1+0]) (o:=0+(Int.toNat v9.A)*1) (i:=(Int.toNat v9.A)) (off:=0) (v:=ii z4) bH kr (vZ (e:=38) (e':=3) (sz':=1) (m':=(List.length v5.1.Regs)) (cs':=(fl (eI .i64) v5.1.Regs)) (c:=bK) (xs:=z18) (i:=(Int.toNat x_g)) (off:=1) aZ kr ltn ltn dd (aI ltn) kr) ltn ltn dd kr ?_)));obtain⟨hg92,hh⟩:=aL hh;refine qtt (cs:=[(0:Int)<=v11.1/\v11.1<((List.length v3.1.Words:Nat):Int)]) (E':=(sp 214 [z37,z52,z55,z58,z89,z46,z107,z118,z103,(178,pp 1),(179,sw 2 v3.1.Words),(180,ii v11.1),(181,pp 4),z77,(183,.ptr 6 [] 1),(184,ii v9.A),z105,(186,ii z4),(187,.ptr 2 [] (0+(Int.toNat v11.1)*1))])) (λK=>by kernel_rfl) (.cons hg92 .nil) ?_;let q34:Root:=(rI_3 z11);let z122:=(2,some q34);refine ys (.store 1 (.t 187) (.t 186)) none (aCr (c:=(eI .i64)) (xs:=v3.1.Words) (e:=3) (r:=2) (π:=[]) (o:=0+(Int.toNat v11.1)*1) (i:=(Int.toNat v11.1)) (off:=0) (vs:=[ii z4]) (y:=z4) (H':=[z122,z36,z115,z68,z87,z116,z92,z106]) bH kr kr kr kr ltn ltn dd kr kr ?_);refine yt (sp 214 [z37,z52,z55,z58,z89,z107]) [z36,z115,z122,z87,z116,z92] 7 (Aw.oregt ?_);obtain⟨hg91,hh⟩:=aL hh;refine qc (cs:=[(0:Int)<=x_g/\x_g<((List.length v3.1.Guests:Nat):Int)]) (E':=(sp 214 [z37,z52,z55,z58,z89,z107,z47,z62,z48,z49,z50])) (pre:=(List.take 5 (rg 21 41))) (L':=(List.drop 5 (rg 21 41))) kr (λK=>by kernel_rfl) (.cons hg91 .nil) (qs (.load false 1 (.t 192)) (some 193) (aZc rfl (bNm (aI ltn) (c:=bK) (xs:=z18) (e:=38) (r:=3) (π:=[]) (o:=0+(Int.toNat x_g)*17+14) (i:=(Int.toNat x_g)) (off:=14) (v:= .sref 3 [0+(Int.toNat x_g)*17+14+0] 0 (List.length z1.Pages) 3) aZ kr kr ltn ltn dd kr ?_)));obtain⟨hg90,hh⟩:=aL hh;refine qc (cs:=[(8:Int)≠0,(0:Int)<=(w64 (Int.tdiv (Int.tmod z3 (64:Int)) (8:Int)))/\(w64 (Int.tdiv (Int.tmod z3 (64:Int)) (8:Int)))<((List.length v6:Nat):Int)]) (E':=(sp 214 [z37,z52,z55,z58,z89,z107,z47,z62,z48,z49,z50,z65,z91,z109,z110,z111,z112])) (pre:=(List.take 5 (List.drop 6 (rg 21 41)))) (L':=(List.drop 11 (rg 21 41))) kr (λK=>by kernel_rfl) (.cons dd (.cons hg90 .nil)) (qs (.load false 1 (.t 198)) (some 199) (aZc rfl (pM (c:=pZ) (xs:=v6) (e:=103) (r:=5) (π:=[]) (o:=0+(Int.toNat (w64 (Int.tdiv (Int.tmod z3 (64:Int)) (8:Int))))*6+3) (i:=(Int.toNat (w64 (Int.tdiv (Int.tmod z3 (64:Int)) (8:Int))))) (off:=3) (v:=ii z10.Page) aJk kr kr ltn ltn dd kr ?_)));obtain⟨hg89,hh⟩:=aL hh;refine qtt (cs:=[(0:Int)<=z10.Page/\z10.Page<((List.length z1.Pages:Nat):Int)]) (E':=(sp 214 [z37,z52,z55,z58,z89,z107,z47,z62,z48,z49,z50,z65,z91,z109,z110,z111,z112,(199,ii z10.Page),z113,z114])) (λK=>by kernel_rfl) (.cons hg89 .nil) ?_;let q35:Root:=(rO38 z34);refine ys (.store 1 (.t 201) (.c (bb true))) none (aCr (c:=hM) (xs:=z1.Pages) (e:=53) (r:=3) (π:=[0+(Int.toNat x_g)*17+14+0]) (o:=0+(Int.toNat z10.Page)*3+2) (i:=(Int.toNat z10.Page)) (off:=2) (vs:=[bb true]) (y:=z28) (H':=[(3,some q35),z36,z115,z122,z87,z116,z92]) qU kr kr kr (vZ (e:=38) (e':=53) (sz':=3) (m':=(List.length z1.Pages)) (cs':=(fl hM z1.Pages)) (c:=bK) (xs:=z18) (i:=(Int.toNat x_g)) (off:=14) aZ kr ltn ltn dd (aI ltn) kr) ltn ltn dd kr (aQq (e:=38) (e':=53) (sz':=3) (m':=(List.length z1.Pages)) (cs':=(fl hM z1.Pages)) (ds:=(fl hM z31)) (c:=bK) (xs:=z18) (i:=(Int.toNat x_g)) (off:=14) (y:=z33) (m2:=(List.length z31)) aZ kr ltn ltn dd (aI ltn) kr eqn kr (List.set_set ..) kr) ?_);refine ye (sp 214 [z37,z52,z55,z58,z89,z107,z47,z62,z48,z49,z50,z65,z91,z109,z110,z111,z112,(199,ii z10.Page),z113,z114]) [(3,some q35),z36,z115,z122,z87,z116,z92] 7 ?_;obtain rfl:=aP hh;exact hN13 (z11,z34) _ _ _ hk13 (el [some 0,some 1,some 2,some 3,some 4] (eE kr (ri (rp 0 (rp 1 (rp 4 nJ))))) (hq ⟨26,[.nil,.nil]⟩ rz (hq q21 rz (hn aY (hn cJ (hq q22 (bG (vN dd rfl (by first|rfl|omega|(rw[aI ltn];done)|(rw[aI ltn];simp+zetaDelta only[List.length_set];done)|(rw[aI (by simp only[List.length_set];omega)];done)|(rw[aI (by simp only[List.length_set];omega)];simp+zetaDelta only[List.length_set];done))) rz) aR))))))};intro Q10 hN10 hR10 hE10;refine Aw.block (Aw.sreg [1,4,6,9,11,14,89] [1,4,6,10,11,12,13] (yj 1  (sp 214 [z37,z53,z56,z57,z88,z45,(90,.agg (eD v9))]) [z38,z69,z84,z85,z86,z90,z102] 14 ?_));obtain⟨v14,hv14,hh⟩:=bind_some hh;refine ys (.call 71 [.t 90]) (some 91) (oc (tE hv14) ?_);refine yu 1 [(91,bb v14),(92,bb v14)] [z38,z69,z84,z85,z86,z90,z102] 14 ?_;rcases jQ hh with⟨hb,hh⟩|⟨hb,hh⟩;{refine yb 91 hb (yb 92 hb (yt (sp 214 [z37,z53,z56,z57,z88,z45,(89,bb false)]) [z38,z69,z84,z85,z86,z90,z102] 14 (cF rfl (Aw.sreg [1,4,6,9,11,14,106] [1,4,6,10,11,12,13] (yu 1 [(107,.agg (eD v9))] [z38,z69,z84,z85,z86,z90,z102] 14 ?_)))));obtain⟨v19,hv19,hh⟩:=bind_some hh;let z128:=(106,bb v19);refine ys (.call 71 [.t 107]) (some 108) (oc (tE hv19) ?_);refine yt (sp 214 [z37,z53,z56,z57,z88,z45,z128]) [z38,z69,z84,z85,z86,z90,z102] 14 ?_;rcases jM hh with⟨hb,hh⟩|⟨hb,hh⟩;{refine cT hb ?_;let q47:Root:=⟨26,[bo (eI .i64) v3.1.Words,.sref 11 [] 0 (List.length v3.1.Guests) 17]⟩;refine Aw.freeze 4 (cs:=(fl (eI .i64) v3.1.Words)) (e:=3) (env2:=sp 214 [z37,z53,z56,z57,z88,z45,z128]) (H2:=[z38,(6,some q47),z85,z86,z90,z102]) kr (dV cH) (aRd kr (iF (u:=ii x_g) kr (.same _) (iF (u:=pp 1) kr (.same _) (iF (u:=pp 6) kr (.same _) (iF (u:=pp 10) kr (.same _) (iF (u:= .sref 12 [] 0 (List.length v6) 6) kr (.same _) (iF (u:=pp 13) kr (.same _) (iF (u:=bb v19) kr (.same _) bHp)))))))) (mG (t:=⟨26,[.nil,.nil]⟩) rfl kr rfl (aV (.same _) (aV (.same _) nL)) (mG (t:=q14) rfl kr rfl (aV (aKc bH eqn) (aV (.same _) nL)) (mG (t:=q15) rfl kr rfl (aV (.same _) (aV (.same _) (aV (.same _) (aV (.same _) (aV (.same _) (aV (.same _) (aV (.same _) (aV (.same _) (aV (.same _) (aV (.same _) (aV (.same _) (aV (.same _) (aV (.same _) nL))))))))))))) (mG (t:=q16) rfl kr rfl uP (mG (t:=(rC103 v6)) rfl kr rfl uP (mG (t:=⟨89,eD v9⟩) rfl kr rfl (aV (.same _) (aV (.same _) (aV (.same _) nL))) bFu)))))) ?_;let q48:Root:=⟨26,[bo (eI .i64) v3.1.Words,bo dZ z18]⟩;let q49:Root:=⟨35,.unk::cP v5.1 []⟩;refine Aw.ent (Ent.freezeO (R:=11) (O:=bK) (B:=dZ) (xs:=z18) (e:=38) (us2:=sp 214 [z37,z53,z56,z57,z88,z45,z128]) (H2:=[z38,(6,some q48),(10,some q49),z90,z102]) kr bFn aUl (aRd kr (iF (u:=ii x_g) kr (.same _) (iF (u:=pp 1) kr (.same _) (iF (u:=pp 6) kr (.same _) (iF (u:=pp 10) kr (.same _) (iF (u:= .sref 12 [] 0 (List.length v6) 6) kr (.same _) (iF (u:=pp 13) kr (.same _) (iF (u:=bb v19) kr (.same _) bHp)))))))) (mG (t:=⟨26,[.nil,.nil]⟩) rfl kr rfl (aV (.same _) (aV (.same _) nL)) (mG (t:=q47) rfl kr rfl (aV (.same _) (aV (aKc aFt eqn) nL)) (mG (t:=q15) rfl kr rfl (aV (.unk _) (aV (.same _) (aV (.same _) (aV (.same _) (aV (.same _) (aV (.same _) (aV (.same _) (aV (.same _) (aV (.same _) (aV (.same _) (aV (.same _) (aV (.same _) (aV (.same _) nL))))))))))))) (mG (t:=(rC103 v6)) rfl kr rfl uP (mG (t:=⟨89,eD v9⟩) rfl kr rfl (aV (.same _) (aV (.same _) (aV (.same _) nL))) bFu)))))) (Aw.sreg [4,5] [1] (yj 3  (sp 214 [z37,z53,z56,z57,z88,z45,z128,z81,(110,ii x_g),(111,.agg (eD v9))]) [z38,(6,some q48),(10,some q49),z90,z102] 14 ?_));obtain⟨v20,hv20,hh⟩:=bind_some hh;refine ys (.call 72 [.t 109,.t 110,.t 111]) (some 112) (aBo (r:= .tup [.agg (fP v20.1),bb v20.2]) (v:= .tup [.agg (fP v20.1),bb v20.2]) (Hr:=[]) (n':=14) (wD hv20) (oP (vs:=[.agg [bo (eI .i64) v3.1.Words,bo dZ z18],ii x_g,.agg (eD v9)]) kr (dO (iV cz) (cz1 (cz1 eS)))) nrr kr ?_);refine yt (sp 214 [z53,(5,bb v20.2)]) [(1,some (rB26 v20.1))] 14 (Aw.ret (aLy ?_));obtain rfl:=aP hh;refine hR10 _ _ _ ?_;rw[aP hk10];exact jA (r':= .tup [.agg (fP v20.1),bb v20.2]) kr (Ent.clov (.tup _ _ (dO (aE (uU (rN _))) (cz1 eS))))};refine cF hb (Aw.sreg [1,4,6,9,11,14,115] [1,4,6,10,11,12,13] (yu 4 [(116,pp 13),(117,ii v9.Op),z99,z100] [z38,z69,z84,z85,z86,z90,z102] 14 ?_));rcases jQ hh with⟨hb,hh⟩|⟨hb,hh⟩;{refine yb 118 hb (yb 119 hb (yt (sp 214 [z37,z53,z56,z57,z88,z45,(115,bb false)]) [z38,z69,z84,z85,z86,z90,z102] 14 (cF rfl (Aw.skip (aGp ?_)))));obtain rfl:=aP hh;exact hN10 () _ _ _ hk10 (el [some 1,some 6,some 4,some 11,some 10,some 12,some 13] (eE kr (ri (rp 1 (rp 6 (rp 10 (rs (.sref 12 [] 0 (List.length v6) 6) (rp 13 nJ))))))) (hq ⟨26,[.nil,.nil]⟩ rz (hq q14 rz (hn aY (hn cJ (hq q15 (bG (vN dd rfl (by first|rfl|omega|(rw[aI ltn];done)|(rw[aI ltn];simp+zetaDelta only[List.length_set];done)|(rw[aI (by simp only[List.length_set];omega)];done)|(rw[aI (by simp only[List.length_set];omega)];simp+zetaDelta only[List.length_set];done))) rz) (hn rE (hq ⟨89,eD v9⟩ (aG (rP _)) aR))))))))};refine yb 118 hb (yb 119 hb (yt (sp 214 [z37,z53,z56,z57,z88,z45,z98]) [z38,z69,z84,z85,z86,z90,z102] 14 ?_));rcases jQ hh with⟨hb,hh⟩|⟨hb,hh⟩;{refine cF hb (Aw.skip (aGp ?_));obtain rfl:=aP hh;exact hN10 () _ _ _ hk10 (el [some 1,some 6,some 4,some 11,some 10,some 12,some 13] (eE kr (ri (rp 1 (rp 6 (rp 10 (rs (.sref 12 [] 0 (List.length v6) 6) (rp 13 nJ))))))) (hq ⟨26,[.nil,.nil]⟩ rz (hq q14 rz (hn aY (hn cJ (hq q15 (bG (vN dd rfl (by first|rfl|omega|(rw[aI ltn];done)|(rw[aI ltn];simp+zetaDelta only[List.length_set];done)|(rw[aI (by simp only[List.length_set];omega)];done)|(rw[aI (by simp only[List.length_set];omega)];simp+zetaDelta only[List.length_set];done))) rz) (hn rE (hq ⟨89,eD v9⟩ (aG (rP _)) aR))))))))};refine cT hb ?_;let q50:Root:=⟨35,sw 14 v5.1.Regs::cP v5.1 []⟩;let z129:=(10,some q50);refine Aw.ent (Ent.unfold (R:=11) (j:=0+(Int.toNat x_g)*17+1+0) (e:=38) (e':=3) (cs:=(fl bK z18)) (ds:=(fl (eI .i64) v5.1.Regs)) (sz:=1) (k:=(List.length v5.1.Regs)) (xs2:=sp 214 [z37,z53,z56,z57,z88,z45,z98]) (H2:=[z38,z69,z84,z129,z90,z102]) kr (aCa (c:=bK) (xs:=z18) (i:=(Int.toNat x_g)) (off:=1) aZ ltn ltn dd (aI ltn) kr) (aCn kr (cC (u:=ii x_g) kr (.same _) (cC (u:=pp 1) kr (.same _) (cC (u:=pp 6) kr (.same _) (cC (u:=pp 10) kr (.same _) (cC (u:= .sref 12 [] 0 (List.length v6) 6) kr (.same _) (cC (u:=pp 13) kr (.same _) (cC (u:=bb (!decide (v9.Op=(4:Int)))) kr (.same _) aGx)))))))) (eK (t:=⟨26,[.nil,.nil]⟩) dd kr rfl bW (eK (t:=q4) dd kr rfl bW (eK (t:=q14) dd kr rfl bW (eK (t:=q15) dd kr rfl (aO (.sref _ _ _ _ rfl) (aO (.same _) (aO (.same _) (aO (.same _) (aO (.same _) (aO (.same _) (aO (.same _) (aO (.same _) (aO (.same _) (aO (.same _) (aO (.same _) (aO (.same _) (aO (.same _) aHv))))))))))))) (eK (t:=(rC103 v6)) dd kr rfl bW (eK (t:=⟨89,eD v9⟩) dd kr rfl bW aQn))))))) (Aw.sregd [4,6] [1,4,6,11,15] [14] kr ?_);let q51:Root:=⟨38,z27⟩;refine dj 5 (sp 214 [z37,z53,z56,z57,z88,z45,z98,z40,z59,z41,z73,z101]) [z82,(11,some q51),z38,z69,z84,z129,z90,z102] 15 ?_;obtain⟨v21,hv21,hh⟩:=bind_some hh;let z130:EV:=(129,.agg (sw 15 v21.Regs::cP v21 []));let z17:=DGuest.mk z1.Live v21 z1.Pages z1.In z1.Out;let z26:=List.set v3.1.Guests (Int.toNat x_g) z17;let q52:Root:=(rI_3 v21.Regs);let z131:=(15,some q52);refine ds (.call 73 [.t 127,.t 128]) (some 129) (vW rfl (cf (.agg (sw 15 v21.Regs::cP v21 [])) [z131] 16 [14] (aDr hv21) [.agg (sw 14 v5.1.Regs::cP v5.1 []),.agg (eD v9)] rz (hn aY aR) (eZ rz) (hn aY aR) ⟨⟨⟨by decide,mR rfl rfl⟩,Hld.un ?_⟩⟩));refine dt (sp 214 [z37,z53,z56,z57,z88,z45,z98,z40,z59,z41,z73,z101,z130]) [z131,z44,z82,(11,some q51),z38,z69,z84,z129,z90,z102] 16 ?_;obtain⟨hg106,hh⟩:=aL hh;refine yjc 2 [(0:Int)<=x_g/\x_g<((List.length v3.1.Guests:Nat):Int)] (sp 214 [z37,z53,z56,z57,z88,z45,z98,z40,z59,z41,z73,z101,z130,z42,z43]) [z131,z44,z82,(11,some q51),z38,z69,z84,z129,z90,z102] 16 (.cons hg106 .nil) ?_;obtain⟨hg105,hh⟩:=aL hh;refine ys (.store 13 (.t 131) (.t 129)) none (oH (c:=bK) (xs:=z18) (cs:=z27) (e:=38) (r:=11) (o:=0+(Int.toNat x_g)*17+1) (i:=(Int.toNat x_g)) (off:=1) (vs:=(sw 15 v21.Regs::cP v21 [])) aZ kr kr kr kr (aDg aDd ltn ltn) ltn ltn dd ?_);refine yt (sp 214 [z53,z56]) [z38,z69,z84,(11,some ⟨38,aQ (fl bK z18) (0+(Int.toNat x_g)*17+1) (sw 15 v21.Regs::cP v21 [])⟩),z131] 16 ?_;let q53:Root:=⟨26,[sw 4 v3.1.Words,.sref 16 [] 0 (List.length v3.1.Guests) 17]⟩;refine Aw.ent (Ent.foldPE (c:=bK) (xs:=z18) (i:=(Int.toNat x_g)) (off:=1) (o:=0+(Int.toNat x_g)*17+1) (y:=z17) (R:=11) (e:=38) (us2:=sp 214 [z53,z56]) (H2:=[z38,z69,(6,some q53)]) (L:=[some (some 15),none,none,none,none,none,none,none,none,none,none,none,none]) (ws:=(.own 3 1 (List.length v21.Regs) (fl (eI .i64) v21.Regs)::cP v21 [])) (aI ltn) (List.set_set ..) aZ kr ltn ltn (Nat.le_of_ble_eq_true rfl) kr (aGq kr eqn (aJ (aJ (aJ (aJ (aJ (aJ (aJ (aJ (aJ (aJ (aJ (aJ aAc))))))))))))) (by rfl) (by rfl) (vI kr (kR (u:=pp 1) kr (.same _) (kR (u:=pp 6) kr (.same _) aAd))) (jI (t:=⟨26,[.nil,.nil]⟩) rfl kr rfl fJ (jI (t:=q4) rfl kr rfl fJ (jI (t:=q14) rfl kr rfl (dW (.same _) (dW (.sref _ _ _ _ eqn) xK)) aGa)))) (sy [4,5] [1,4,16] (sp 214 [z53,z54]) [(1,some q53),z69,(16,some (rO38 z26))] 17 (Aw.ret (aLy ?_)));obtain rfl:=aP hh;refine hR10 _ _ _ ?_;rw[aP hk10];exact jA (r':= .tup [.agg [sw 4 v3.1.Words,.sref 16 [] 0 (List.length v3.1.Guests) 17],bb true]) kr (Ent.clov (.tup _ _ (dO (iV (aF (cI (c:=(eI .i64)) (xs:=v3.1.Words) (e:=3) eqn bH cH cG kr) (aF (lJ (B:=dZ) (xs:=z26) (e:=38) lL aZ eqn kr) gF))) (cz1 eS))))};refine yb 91 hb (yb 92 hb (yt (sp 214 [z37,z53,z56,z57,z88,z45,z79]) [z38,z69,z84,z85,z86,z90,z102] 14 ?_));rcases jM hh with⟨hb,hh⟩|⟨hb,hh⟩;{refine cT hb ?_;let q36:Root:=⟨35,sw 14 v5.1.Regs::cP v5.1 []⟩;let z123:=(10,some q36);refine Aw.ent (Ent.unfold (R:=11) (j:=0+(Int.toNat x_g)*17+1+0) (e:=38) (e':=3) (cs:=(fl bK z18)) (ds:=(fl (eI .i64) v5.1.Regs)) (sz:=1) (k:=(List.length v5.1.Regs)) (xs2:=sp 214 [z37,z53,z56,z57,z88,z45,z79]) (H2:=[z38,z69,z84,z123,z90,z102]) kr (aCa (c:=bK) (xs:=z18) (i:=(Int.toNat x_g)) (off:=1) aZ ltn ltn dd (aI ltn) kr) (aCn kr (cC (u:=ii x_g) kr (.same _) (cC (u:=pp 1) kr (.same _) (cC (u:=pp 6) kr (.same _) (cC (u:=pp 10) kr (.same _) (cC (u:= .sref 12 [] 0 (List.length v6) 6) kr (.same _) (cC (u:=pp 13) kr (.same _) (cC (u:=bb v5.1.User) kr (.same _) aGx)))))))) (eK (t:=⟨26,[.nil,.nil]⟩) dd kr rfl bW (eK (t:=q4) dd kr rfl bW (eK (t:=q14) dd kr rfl bW (eK (t:=q15) dd kr rfl (aO (.sref _ _ _ _ rfl) (aO (.same _) (aO (.same _) (aO (.same _) (aO (.same _) (aO (.same _) (aO (.same _) (aO (.same _) (aO (.same _) (aO (.same _) (aO (.same _) (aO (.same _) (aO (.same _) aHv))))))))))))) (eK (t:=(rC103 v6)) dd kr rfl bW (eK (t:=⟨89,eD v9⟩) dd kr rfl bW aQn))))))) (Aw.sregd [4,6] [1,4,6,11,15] [14] kr ?_);let q37:Root:=⟨38,z27⟩;refine dj 6 (sp 214 [z37,z53,z56,z57,z88,z45,z79,(96,.ptr 6 [] 1),z64,(98,ii x_g),z80,z39,z72]) [z82,(11,some q37),z38,z69,z84,z123,z90,z102] 15 ?_;obtain⟨v15,hv15,hh⟩:=bind_some hh;let z124:EV:=(102,.agg (sw 15 v15.Regs::cP v15 []));let z15:=DGuest.mk z1.Live v15 z1.Pages z1.In z1.Out;let z24:=List.set v3.1.Guests (Int.toNat x_g) z15;let q38:Root:=(rI_3 v15.Regs);let z125:=(15,some q38);refine ds (.call 69 [.t 99,.t 101,.c (ii 3),.c (ii 0)]) (some 102) (vW rfl (cf (.agg (sw 15 v15.Regs::cP v15 [])) [z125] 16 [14] (wS hv15) [.agg (sw 14 v5.1.Regs::cP v5.1 []),ii v5.1.Pc,ii 3,ii 0] rz (hn aY aR) (eZ rz) (hn aY aR) ⟨⟨⟨by decide,mR rfl rfl⟩,Hld.un ?_⟩⟩));refine dt (sp 214 [z37,z53,z56,z57,z88,z45,z79,(96,.ptr 6 [] 1),z64,(98,ii x_g),z80,z39,z72,z124]) [z125,z44,z82,(11,some q37),z38,z69,z84,z123,z90,z102] 16 ?_;obtain⟨hg98,hh⟩:=aL hh;refine yjc 2 [(0:Int)<=x_g/\x_g<((List.length v3.1.Guests:Nat):Int)] (sp 214 [z37,z53,z56,z57,z88,z45,z79,(96,.ptr 6 [] 1),z64,(98,ii x_g),z80,z39,z72,z124,(103,.ptr 11 [] (0+(Int.toNat x_g)*17)),(104,.ptr 11 [] (0+(Int.toNat x_g)*17+1))]) [z125,z44,z82,(11,some q37),z38,z69,z84,z123,z90,z102] 16 (.cons hg98 .nil) ?_;obtain⟨hg97,hh⟩:=aL hh;refine ys (.store 13 (.t 104) (.t 102)) none (oH (c:=bK) (xs:=z18) (cs:=z27) (e:=38) (r:=11) (o:=0+(Int.toNat x_g)*17+1) (i:=(Int.toNat x_g)) (off:=1) (vs:=(sw 15 v15.Regs::cP v15 [])) aZ kr kr kr kr (aDg aDd ltn ltn) ltn ltn dd ?_);refine yt (sp 214 [z53,z56]) [z38,z69,z84,(11,some ⟨38,aQ (fl bK z18) (0+(Int.toNat x_g)*17+1) (sw 15 v15.Regs::cP v15 [])⟩),z125] 16 ?_;let q39:Root:=⟨26,[sw 4 v3.1.Words,.sref 16 [] 0 (List.length v3.1.Guests) 17]⟩;refine Aw.ent (Ent.foldPE (c:=bK) (xs:=z18) (i:=(Int.toNat x_g)) (off:=1) (o:=0+(Int.toNat x_g)*17+1) (y:=z15) (R:=11) (e:=38) (us2:=sp 214 [z53,z56]) (H2:=[z38,z69,(6,some q39)]) (L:=[some (some 15),none,none,none,none,none,none,none,none,none,none,none,none]) (ws:=(.own 3 1 (List.length v15.Regs) (fl (eI .i64) v15.Regs)::cP v15 [])) (aI ltn) (List.set_set ..) aZ kr ltn ltn (Nat.le_of_ble_eq_true rfl) kr (aGq kr eqn (aJ (aJ (aJ (aJ (aJ (aJ (aJ (aJ (aJ (aJ (aJ (aJ aAc))))))))))))) (by rfl) (by rfl) (vI kr (kR (u:=pp 1) kr (.same _) (kR (u:=pp 6) kr (.same _) aAd))) (jI (t:=⟨26,[.nil,.nil]⟩) rfl kr rfl fJ (jI (t:=q4) rfl kr rfl fJ (jI (t:=q14) rfl kr rfl (dW (.same _) (dW (.sref _ _ _ _ eqn) xK)) aGa)))) (sy [4,5] [1,4,16] (sp 214 [z53,z54]) [(1,some q39),z69,(16,some (rO38 z24))] 17 (Aw.ret (aLy ?_)));obtain rfl:=aP hh;refine hR10 _ _ _ ?_;rw[aP hk10];exact jA (r':= .tup [.agg [sw 4 v3.1.Words,.sref 16 [] 0 (List.length v3.1.Guests) 17],bb true]) kr (Ent.clov (.tup _ _ (dO (iV (aF (cI (c:=(eI .i64)) (xs:=v3.1.Words) (e:=3) eqn bH cH cG kr) (aF (lJ (B:=dZ) (xs:=z24) (e:=38) lL aZ eqn kr) gF))) (cz1 eS))))};refine cF hb (Aw.sreg [1,4,6,9,11,14,106] [1,4,6,10,11,12,13] (yu 1 [(107,.agg (eD v9))] [z38,z69,z84,z85,z86,z90,z102] 14 ?_));obtain⟨v16,hv16,hh⟩:=bind_some hh;let z126:=(106,bb v16);refine ys (.call 71 [.t 107]) (some 108) (oc (tE hv16) ?_);refine yt (sp 214 [z37,z53,z56,z57,z88,z45,z126]) [z38,z69,z84,z85,z86,z90,z102] 14 ?_;rcases jM hh with⟨hb,hh⟩|⟨hb,hh⟩;{refine cT hb ?_;let q40:Root:=⟨26,[bo (eI .i64) v3.1.Words,.sref 11 [] 0 (List.length v3.1.Guests) 17]⟩;refine Aw.freeze 4 (cs:=(fl (eI .i64) v3.1.Words)) (e:=3) (env2:=sp 214 [z37,z53,z56,z57,z88,z45,z126]) (H2:=[z38,(6,some q40),z85,z86,z90,z102]) kr (dV cH) (aRd kr (iF (u:=ii x_g) kr (.same _) (iF (u:=pp 1) kr (.same _) (iF (u:=pp 6) kr (.same _) (iF (u:=pp 10) kr (.same _) (iF (u:= .sref 12 [] 0 (List.length v6) 6) kr (.same _) (iF (u:=pp 13) kr (.same _) (iF (u:=bb v16) kr (.same _) bHp)))))))) (mG (t:=⟨26,[.nil,.nil]⟩) rfl kr rfl (aV (.same _) (aV (.same _) nL)) (mG (t:=q14) rfl kr rfl (aV (aKc bH eqn) (aV (.same _) nL)) (mG (t:=q15) rfl kr rfl (aV (.same _) (aV (.same _) (aV (.same _) (aV (.same _) (aV (.same _) (aV (.same _) (aV (.same _) (aV (.same _) (aV (.same _) (aV (.same _) (aV (.same _) (aV (.same _) (aV (.same _) nL))))))))))))) (mG (t:=q16) rfl kr rfl uP (mG (t:=(rC103 v6)) rfl kr rfl uP (mG (t:=⟨89,eD v9⟩) rfl kr rfl (aV (.same _) (aV (.same _) (aV (.same _) nL))) bFu)))))) ?_;let q41:Root:=⟨26,[bo (eI .i64) v3.1.Words,bo dZ z18]⟩;let q42:Root:=⟨35,.unk::cP v5.1 []⟩;refine Aw.ent (Ent.freezeO (R:=11) (O:=bK) (B:=dZ) (xs:=z18) (e:=38) (us2:=sp 214 [z37,z53,z56,z57,z88,z45,z126]) (H2:=[z38,(6,some q41),(10,some q42),z90,z102]) kr bFn aUl (aRd kr (iF (u:=ii x_g) kr (.same _) (iF (u:=pp 1) kr (.same _) (iF (u:=pp 6) kr (.same _) (iF (u:=pp 10) kr (.same _) (iF (u:= .sref 12 [] 0 (List.length v6) 6) kr (.same _) (iF (u:=pp 13) kr (.same _) (iF (u:=bb v16) kr (.same _) bHp)))))))) (mG (t:=⟨26,[.nil,.nil]⟩) rfl kr rfl (aV (.same _) (aV (.same _) nL)) (mG (t:=q40) rfl kr rfl (aV (.same _) (aV (aKc aFt eqn) nL)) (mG (t:=q15) rfl kr rfl (aV (.unk _) (aV (.same _) (aV (.same _) (aV (.same _) (aV (.same _) (aV (.same _) (aV (.same _) (aV (.same _) (aV (.same _) (aV (.same _) (aV (.same _) (aV (.same _) (aV (.same _) nL))))))))))))) (mG (t:=(rC103 v6)) rfl kr rfl uP (mG (t:=⟨89,eD v9⟩) rfl kr rfl (aV (.same _) (aV (.same _) (aV (.same _) nL))) bFu)))))) (Aw.sreg [4,5] [1] (yj 3  (sp 214 [z37,z53,z56,z57,z88,z45,z126,z81,(110,ii x_g),(111,.agg (eD v9))]) [z38,(6,some q41),(10,some q42),z90,z102] 14 ?_));obtain⟨v17,hv17,hh⟩:=bind_some hh;refine ys (.call 72 [.t 109,.t 110,.t 111]) (some 112) (aBo (r:= .tup [.agg (fP v17.1),bb v17.2]) (v:= .tup [.agg (fP v17.1),bb v17.2]) (Hr:=[]) (n':=14) (wD hv17) (oP (vs:=[.agg [bo (eI .i64) v3.1.Words,bo dZ z18],ii x_g,.agg (eD v9)]) kr (dO (iV cz) (cz1 (cz1 eS)))) nrr kr ?_);refine yt (sp 214 [z53,(5,bb v17.2)]) [(1,some (rB26 v17.1))] 14 (Aw.ret (aLy ?_));obtain rfl:=aP hh;refine hR10 _ _ _ ?_;rw[aP hk10];exact jA (r':= .tup [.agg (fP v17.1),bb v17.2]) kr (Ent.clov (.tup _ _ (dO (aE (uU (rN _))) (cz1 eS))))};refine cF hb (Aw.sreg [1,4,6,9,11,14,115] [1,4,6,10,11,12,13] (yu 4 [(116,pp 13),(117,ii v9.Op),z99,z100] [z38,z69,z84,z85,z86,z90,z102] 14 ?_));rcases jQ hh with⟨hb,hh⟩|⟨hb,hh⟩;{refine yb 118 hb (yb 119 hb (yt (sp 214 [z37,z53,z56,z57,z88,z45,(115,bb false)]) [z38,z69,z84,z85,z86,z90,z102] 14 (cF rfl (Aw.skip (aGp ?_)))));obtain rfl:=aP hh;exact hN10 () _ _ _ hk10 (el [some 1,some 6,some 4,some 11,some 10,some 12,some 13] (eE kr (ri (rp 1 (rp 6 (rp 10 (rs (.sref 12 [] 0 (List.length v6) 6) (rp 13 nJ))))))) (hq ⟨26,[.nil,.nil]⟩ rz (hq q14 rz (hn aY (hn cJ (hq q15 (bG (vN dd rfl (by first|rfl|omega|(rw[aI ltn];done)|(rw[aI ltn];simp+zetaDelta only[List.length_set];done)|(rw[aI (by simp only[List.length_set];omega)];done)|(rw[aI (by simp only[List.length_set];omega)];simp+zetaDelta only[List.length_set];done))) rz) (hn rE (hq ⟨89,eD v9⟩ (aG (rP _)) aR))))))))};refine yb 118 hb (yb 119 hb (yt (sp 214 [z37,z53,z56,z57,z88,z45,z98]) [z38,z69,z84,z85,z86,z90,z102] 14 ?_));rcases jQ hh with⟨hb,hh⟩|⟨hb,hh⟩;{refine cF hb (Aw.skip (aGp ?_));obtain rfl:=aP hh;exact hN10 () _ _ _ hk10 (el [some 1,some 6,some 4,some 11,some 10,some 12,some 13] (eE kr (ri (rp 1 (rp 6 (rp 10 (rs (.sref 12 [] 0 (List.length v6) 6) (rp 13 nJ))))))) (hq ⟨26,[.nil,.nil]⟩ rz (hq q14 rz (hn aY (hn cJ (hq q15 (bG (vN dd rfl (by first|rfl|omega|(rw[aI ltn];done)|(rw[aI ltn];simp+zetaDelta only[List.length_set];done)|(rw[aI (by simp only[List.length_set];omega)];done)|(rw[aI (by simp only[List.length_set];omega)];simp+zetaDelta only[List.length_set];done))) rz) (hn rE (hq ⟨89,eD v9⟩ (aG (rP _)) aR))))))))};refine cT hb ?_;let q43:Root:=⟨35,sw 14 v5.1.Regs::cP v5.1 []⟩;refine Aw.ent (Ent.unfold (R:=11) (j:=0+(Int.toNat x_g)*17+1+0) (e:=38) (e':=3) (cs:=(fl bK z18)) (ds:=(fl (eI .i64) v5.1.Regs)) (sz:=1) (k:=(List.length v5.1.Regs)) (xs2:=sp 214 [z37,z53,z56,z57,z88,z45,z98]) (H2:=[z38,z69,z84,(10,some q43),z90,z102]) kr (aCa (c:=bK) (xs:=z18) (i:=(Int.toNat x_g)) (off:=1) aZ ltn ltn dd (aI ltn) kr) (aCn kr (cC (u:=ii x_g) kr (.same _) (cC (u:=pp 1) kr (.same _) (cC (u:=pp 6) kr (.same _) (cC (u:=pp 10) kr (.same _) (cC (u:= .sref 12 [] 0 (List.length v6) 6) kr (.same _) (cC (u:=pp 13) kr (.same _) (cC (u:=bb (!decide (v9.Op=(4:Int)))) kr (.same _) aGx)))))))) (eK (t:=⟨26,[.nil,.nil]⟩) dd kr rfl bW (eK (t:=q4) dd kr rfl bW (eK (t:=q14) dd kr rfl bW (eK (t:=q15) dd kr rfl (aO (.sref _ _ _ _ rfl) (aO (.same _) (aO (.same _) (aO (.same _) (aO (.same _) (aO (.same _) (aO (.same _) (aO (.same _) (aO (.same _) (aO (.same _) (aO (.same _) (aO (.same _) (aO (.same _) aHv))))))))))))) (eK (t:=(rC103 v6)) dd kr rfl bW (eK (t:=⟨89,eD v9⟩) dd kr rfl bW aQn))))))) (Aw.sregd [4,6] [1,4,6,11,15] [14] kr ?_);let q44:Root:=⟨38,z27⟩;refine dj 5 (sp 214 [z37,z53,z56,z57,z88,z45,z98,z40,z59,z41,z73,z101]) [z82,(11,some q44),z38,z69,z84,(10,some q43),z90,z102] 15 ?_;obtain⟨v18,hv18,hh⟩:=bind_some hh;let z127:EV:=(129,.agg (sw 15 v18.Regs::cP v18 []));let z16:=DGuest.mk z1.Live v18 z1.Pages z1.In z1.Out;let z25:=List.set v3.1.Guests (Int.toNat x_g) z16;let q45:Root:=(rI_3 v18.Regs);refine ds (.call 73 [.t 127,.t 128]) (some 129) (vW rfl (cf (.agg (sw 15 v18.Regs::cP v18 [])) [(15,some q45)] 16 [14] (aDr hv18) [.agg (sw 14 v5.1.Regs::cP v5.1 []),.agg (eD v9)] rz (hn aY aR) (eZ rz) (hn aY aR) ⟨⟨⟨by decide,mR rfl rfl⟩,Hld.un ?_⟩⟩));refine dt (sp 214 [z37,z53,z56,z57,z88,z45,z98,z40,z59,z41,z73,z101,z127]) [(15,some q45),z44,z82,(11,some q44),z38,z69,z84,(10,some q43),z90,z102] 16 ?_;obtain⟨hg102,hh⟩:=aL hh;refine yjc 2 [(0:Int)<=x_g/\x_g<((List.length v3.1.Guests:Nat):Int)] (sp 214 [z37,z53,z56,z57,z88,z45,z98,z40,z59,z41,z73,z101,z127,z42,z43]) [(15,some q45),z44,z82,(11,some q44),z38,z69,z84,(10,some q43),z90,z102] 16 (.cons hg102 .nil) ?_;obtain⟨hg101,hh⟩:=aL hh;refine ys (.store 13 (.t 131) (.t 129)) none (oH (c:=bK) (xs:=z18) (cs:=z27) (e:=38) (r:=11) (o:=0+(Int.toNat x_g)*17+1) (i:=(Int.toNat x_g)) (off:=1) (vs:=(sw 15 v18.Regs::cP v18 [])) aZ kr kr kr kr (aDg aDd ltn ltn) ltn ltn dd ?_);refine yt (sp 214 [z53,z56]) [z38,z69,z84,(11,some ⟨38,aQ (fl bK z18) (0+(Int.toNat x_g)*17+1) (sw 15 v18.Regs::cP v18 [])⟩),(15,some q45)] 16 ?_;let q46:Root:=⟨26,[sw 4 v3.1.Words,.sref 16 [] 0 (List.length v3.1.Guests) 17]⟩;refine Aw.ent (Ent.foldPE (c:=bK) (xs:=z18) (i:=(Int.toNat x_g)) (off:=1) (o:=0+(Int.toNat x_g)*17+1) (y:=z16) (R:=11) (e:=38) (us2:=sp 214 [z53,z56]) (H2:=[z38,z69,(6,some q46)]) (L:=[some (some 15),none,none,none,none,none,none,none,none,none,none,none,none]) (ws:=(.own 3 1 (List.length v18.Regs) (fl (eI .i64) v18.Regs)::cP v18 [])) (aI ltn) (List.set_set ..) aZ kr ltn ltn (Nat.le_of_ble_eq_true rfl) kr (aGq kr eqn (aJ (aJ (aJ (aJ (aJ (aJ (aJ (aJ (aJ (aJ (aJ (aJ aAc))))))))))))) (by rfl) (by rfl) (vI kr (kR (u:=pp 1) kr (.same _) (kR (u:=pp 6) kr (.same _) aAd))) (jI (t:=⟨26,[.nil,.nil]⟩) rfl kr rfl fJ (jI (t:=q4) rfl kr rfl fJ (jI (t:=q14) rfl kr rfl (dW (.same _) (dW (.sref _ _ _ _ eqn) xK)) aGa)))) (sy [4,5] [1,4,16] (sp 214 [z53,z54]) [(1,some q46),z69,(16,some (rO38 z25))] 17 (Aw.ret (aLy ?_)));obtain rfl:=aP hh;refine hR10 _ _ _ ?_;rw[aP hk10];exact jA (r':= .tup [.agg [sw 4 v3.1.Words,.sref 16 [] 0 (List.length v3.1.Guests) 17],bb true]) kr (Ent.clov (.tup _ _ (dO (iV (aF (cI (c:=(eI .i64)) (xs:=v3.1.Words) (e:=3) eqn bH cH cG kr) (aF (lJ (B:=dZ) (xs:=z25) (e:=38) lL aZ eqn kr) gF))) (cz1 eS))))
noncomputable def g21:Sg tG:=⟨[.st 26,.i .i64],.two (.sb 26) .b,fM⟩
theorem s21:Sok 21 g21:=λx_h x_g R_ hh=>kc (aPs (x_h:=x_h) (x_g:=x_g) hh)
noncomputable def kJ (x_code:List Int):Option Bool:=
 cond (decide ((1048576:Int)<((List.length x_code:Nat):Int)))
  (some true)
  (Option.bind (eM x_code) λv1=>
  Option.bind (jU v1.1 v1.2) λv2=>
  Option.bind (fM v1.1 v1.2) λv3=>
  cond (!(v2.2==v3.2))
   (some false)
   (Option.bind (gU v2.1 v3.1) λv4=>
   cond (!v4)
    (some false)
    (Option.bind (dJ v1.1 v1.2) λv5=>
    cond (!v5.2)
     (cond (!v2.2)
      (Option.bind dA  λv6=>
      some v6)
      (some false))
     (cond (!v2.2)
      (Option.bind (gU v2.1 v1.1) λv7=>
      cond v7
       (Option.bind dA  λv8=>
       some v8)
       (some false))
      (Option.bind (dJ v2.1 v1.2) λv9=>
      Option.bind (iD v2.1) λv10=>
      cond v10
       (Option.bind (qB v5.1) λv11=>
       Option.bind (eO v9.1 v11) λv12=>
       cond v12
        (Option.bind (oU v1.1 v2.1 v1.2) λv13=>
        cond v13
         (Option.bind dA  λv14=>
         some v14)
         (some false))
        (some false))
       (some false))))))
noncomputable def g4:Sg tG:=⟨[.row 5],.one .b,kJ⟩
theorem s4:Sok 4 g4:=sgx [(19,.r g19),(20,.r g20),(21,.r g21),(12,.r g12),(22,.r g22),(18,.r g18),(15,.r g15),(24,.r g24),(23,.r g23),(17,.r g17)] ⟨s19,s20,s21,s12,s22,s18,s15,s24,s23,s17,trivial⟩ (.s .o (.s .o (.s .o (.s .o (.s (.g [.fr (.c 3 0) 0,.fr (.c 3 1) 0] [] []) .o))))) kr kr kr
theorem aLa{x_code:List Int}{R_:Bool}(hh:kJ x_code=some R_):Fn Tryz.prog 4 [bo (eI .u8) x_code] (.bool R_):=kc (s4 x_code R_ hh)
noncomputable def aEa  (s10:Unit):Option Bool:=
 Option.bind dA  λv11=>
 some v11
noncomputable def fR (s12:Int)(s13:Unit):Option (LO Int (JO Unit Bool)):=some (.next (w64 (s12+(1:Int))))
noncomputable def jC (v1:DHost×Int)(v2:DHost×Bool)(v5:DBare×Bool)(v6:DBare×Bool)(s12:Int):Option (LO Int (JO Unit Bool)):=
 cond (decide (s12<((List.length v5.1.Mem:Nat):Int)))
  (Option.bind (grd ((0:Int)<=s12/\s12<((List.length v5.1.Mem:Nat):Int)) (grd ((0:Int)<=s12/\s12<((List.length v6.1.Mem:Nat):Int)) (cond (!decide ((List.getD v5.1.Mem (Int.toNat s12) default)=(List.getD v6.1.Mem (Int.toNat s12) default)))
   (grd ((0:Int)<=v1.2/\v1.2<((List.length v2.1.Guests:Nat):Int)) (grd ((0:Int)<=(w64 (Int.tdiv s12 (8:Int)))/\(w64 (Int.tdiv s12 (8:Int)))<((List.length (List.getD v2.1.Guests (Int.toNat v1.2) default).Pages:Nat):Int)) (cond (!(List.getD (List.getD v2.1.Guests (Int.toNat v1.2) default).Pages (Int.toNat (w64 (Int.tdiv s12 (8:Int)))) default).Dirty)
    (some (.out (.ret (.out false))))
    (grd ((0:Int)<=v1.2/\v1.2<((List.length v1.1.Guests:Nat):Int)) (grd ((0:Int)<=(w64 (Int.tdiv s12 (8:Int)))/\(w64 (Int.tdiv s12 (8:Int)))<((List.length (List.getD v1.1.Guests (Int.toNat v1.2) default).Pages:Nat):Int)) (cond (List.getD (List.getD v1.1.Guests (Int.toNat v1.2) default).Pages (Int.toNat (w64 (Int.tdiv s12 (8:Int)))) default).Dirty
     (grd ((0:Int)<=v1.2/\v1.2<((List.length v2.1.Guests:Nat):Int)) (grd ((0:Int)<=(w64 (Int.tdiv s12 (8:Int)))/\(w64 (Int.tdiv s12 (8:Int)))<((List.length (List.getD v2.1.Guests (Int.toNat v1.2) default).Pages:Nat):Int)) (cond (!(List.getD (List.getD v2.1.Guests (Int.toNat v1.2) default).Pages (Int.toNat (w64 (Int.tdiv s12 (8:Int)))) default).Dirty)
      (some (.out (.ret (.out false))))
      (some (.go ())))))
     (some (.go ()))))))))
   (grd ((0:Int)<=v1.2/\v1.2<((List.length v1.1.Guests:Nat):Int)) (grd ((0:Int)<=(w64 (Int.tdiv s12 (8:Int)))/\(w64 (Int.tdiv s12 (8:Int)))<((List.length (List.getD v1.1.Guests (Int.toNat v1.2) default).Pages:Nat):Int)) (cond (List.getD (List.getD v1.1.Guests (Int.toNat v1.2) default).Pages (Int.toNat (w64 (Int.tdiv s12 (8:Int)))) default).Dirty
    (grd ((0:Int)<=v1.2/\v1.2<((List.length v2.1.Guests:Nat):Int)) (grd ((0:Int)<=(w64 (Int.tdiv s12 (8:Int)))/\(w64 (Int.tdiv s12 (8:Int)))<((List.length (List.getD v2.1.Guests (Int.toNat v1.2) default).Pages:Nat):Int)) (cond (!(List.getD (List.getD v2.1.Guests (Int.toNat v1.2) default).Pages (Int.toNat (w64 (Int.tdiv s12 (8:Int)))) default).Dirty)
     (some (.out (.ret (.out false))))
     (some (.go ())))))
    (some (.go ())))))))) λj13=>
   JO.run j13 (fR s12))
  (some (.ret (.go ())))
noncomputable def jG (x_code:List Int):Option Bool:=
 cond (decide ((1048576:Int)<((List.length x_code:Nat):Int)))
  (some true)
  (Option.bind (eM x_code) λv1=>
  Option.bind (jU v1.1 v1.2) λv2=>
  Option.bind (fM v1.1 v1.2) λv3=>
  cond (!(v2.2==v3.2))
   (some false)
   (Option.bind (gU v2.1 v3.1) λv4=>
   cond (!v4)
    (some false)
    (Option.bind (dJ v1.1 v1.2) λv5=>
    Option.bind (dJ v2.1 v1.2) λv6=>
    cond (!v2.2)
     (Option.bind dA  λv7=>
     some v7)
     (cond (!v5.2)
      (Option.bind dA  λv8=>
      some v8)
      (cond (!v6.2)
       (Option.bind dA  λv9=>
       some v9)
       (cond (!decide (((List.length v5.1.Mem:Nat):Int)=(64:Int)))
        (some false)
        (cond (!decide (((List.length v6.1.Mem:Nat):Int)=((List.length v5.1.Mem:Nat):Int)))
         (some false)
         (Option.bind (Option.bind (iter (jC v1 v2 v5 v6) (0:Int)) LO.val) λj10=>
          JO.run j10 aEa))))))))
noncomputable def g5:Sg tG:=⟨[.row 5],.one .b,jG⟩
theorem s5:Sok 5 g5:=sgx [(19,.r g19),(20,.r g20),(21,.r g21),(12,.r g12),(22,.r g22),(18,.r g18)] ⟨s19,s20,s21,s12,s22,s18,trivial⟩ (.s .o (.s .o (.s .o (.s .o (.s (.g [.fr (.c 3 0) 0,.fr (.c 3 1) 0] [] []) (.s .o (.s .o (.s .o (.s .o (.s .o (.j ⟨[],[],[]⟩ (.s .o (.k (.l ⟨[3,4,5,9,11],[],[(.s 13,.i .i64)]⟩ (.s .o (.j ⟨[3,4,5,9,11,13],[],[]⟩ .o .o))))) .o))))))))))) kr kr kr
theorem aIs{x_code:List Int}{R_:Bool}(hh:jG x_code=some R_):Fn Tryz.prog 5 [bo (eI .u8) x_code] (.bool R_):=kc (s5 x_code R_ hh)
noncomputable def aNh  (s3:(List Int)×(List DGuest)×Int):Option (DHost×Int):=some ((DHost.mk s3.1 s3.2.1),s3.2.2)
noncomputable def tC (s4:(List Int)×(List DGuest)×Int×Int)(s5:(List Int)×(List DGuest)×Int):Option (LO ((List Int)×(List DGuest)×Int×Int) (JO ((List Int)×(List DGuest)×Int) (DHost×Int))):=some (.next (s5.1,s5.2.1,s5.2.2,w64 (s4.2.2.2+(1:Int))))
noncomputable def kE (x_turns:List Int)(s4:(List Int)×(List DGuest)×Int×Int):Option (LO ((List Int)×(List DGuest)×Int×Int) (JO ((List Int)×(List DGuest)×Int) (DHost×Int))):=
 cond (decide (s4.2.2.2<((List.length x_turns:Nat):Int)))
  (Option.bind (grd ((0:Int)<=s4.2.2.2/\s4.2.2.2<((List.length x_turns:Nat):Int)) (Option.bind (jU (DHost.mk s4.1 s4.2.1) (List.getD x_turns (Int.toNat s4.2.2.2) default)) λv6=>
   cond v6.2
    (some (.go (v6.1.Words,v6.1.Guests,w64 (s4.2.2.1+(1:Int)))))
    (some (.go (s4.1,s4.2.1,s4.2.2.1))))) λj5=>
   JO.run j5 (tC s4))
  (some (.ret (.go (s4.1,s4.2.1,s4.2.2.1))))
noncomputable def rW (x_h:DHost)(x_turns:List Int):Option (DHost×Int):=
 Option.bind (iD x_h) λv1=>
 cond (!v1)
  (some ((DHost.mk ([]:List Int) ([]:List DGuest)),(0:Int)))
  (cond (decide ((200:Int)<((List.length x_turns:Nat):Int)))
   (some ((DHost.mk ([]:List Int) ([]:List DGuest)),(0:Int)))
   (Option.bind (dE x_h) λv2=>
   Option.bind (Option.bind (iter (kE x_turns) (v2.Words,v2.Guests,(0:Int),(0:Int))) LO.val) λj3=>
    JO.run j3 aNh))
noncomputable def g14:Sg tG:=⟨[.st 26,.row 3],.two (.st 2026) (.i .i64),rW⟩
theorem s14:Sok 14 g14:=sgx [(15,.r g15),(51,.r g51),(20,.r g20)] ⟨s15,s51,s20,trivial⟩ (.s .o (.s .o (.s .o (.s .o (.j ⟨[4,6],[],[(.c 6 0,.ro 3),(.c 6 1,.ro 1038),(.s 7,.i .i64)]⟩ (.s .o (.k (.l ⟨[4,6,23,24],[],[(.c 6 0,.ro 3),(.c 6 1,.ro 1038),(.s 7,.i .i64),(.s 25,.i .i64)]⟩ (.s .o (.s .o (.j ⟨[4,6,23,24,25],[],[(.c 6 0,.ro 3),(.c 6 1,.ro 1038),(.s 7,.i .i64)]⟩ .o .o)))))) .o))))) kr kr kr
noncomputable def aMv  (s3:(List Int)×(List DGuest)×Int):Option (DHost×Int):=some ((DHost.mk s3.1 s3.2.1),s3.2.2)
noncomputable def sS (s4:(List Int)×(List DGuest)×Int×Int)(s5:(List Int)×(List DGuest)×Int):Option (LO ((List Int)×(List DGuest)×Int×Int) (JO ((List Int)×(List DGuest)×Int) (DHost×Int))):=some (.next (s5.1,s5.2.1,s5.2.2,w64 (s4.2.2.2+(1:Int))))
noncomputable def kK (x_turns:List Int)(s4:(List Int)×(List DGuest)×Int×Int):Option (LO ((List Int)×(List DGuest)×Int×Int) (JO ((List Int)×(List DGuest)×Int) (DHost×Int))):=
 cond (decide (s4.2.2.2<((List.length x_turns:Nat):Int)))
  (Option.bind (grd ((0:Int)<=s4.2.2.2/\s4.2.2.2<((List.length x_turns:Nat):Int)) (Option.bind (fM (DHost.mk s4.1 s4.2.1) (List.getD x_turns (Int.toNat s4.2.2.2) default)) λv6=>
   cond v6.2
    (some (.go (v6.1.Words,v6.1.Guests,w64 (s4.2.2.1+(1:Int)))))
    (some (.go (s4.1,s4.2.1,s4.2.2.1))))) λj5=>
   JO.run j5 (sS s4))
  (some (.ret (.go (s4.1,s4.2.1,s4.2.2.1))))
noncomputable def sP (x_h:DHost)(x_turns:List Int):Option (DHost×Int):=
 Option.bind (iA x_h) λv1=>
 cond (!v1)
  (some ((DHost.mk ([]:List Int) ([]:List DGuest)),(0:Int)))
  (cond (decide ((200:Int)<((List.length x_turns:Nat):Int)))
   (some ((DHost.mk ([]:List Int) ([]:List DGuest)),(0:Int)))
   (Option.bind (eC x_h) λv2=>
   Option.bind (Option.bind (iter (kK x_turns) (v2.Words,v2.Guests,(0:Int),(0:Int))) LO.val) λj3=>
    JO.run j3 aMv))
noncomputable def g30:Sg tG:=⟨[.st 26,.row 3],.two (.sb 26) (.i .i64),sP⟩
theorem s30:Sok 30 g30:=sgx [(47,.r g47),(48,.r g48),(21,.r g21)] ⟨s47,s48,s21,trivial⟩ (.s .o (.s .o (.s .o (.s (.g [.fr (.c 6 0) 0,.fr (.c 6 1) 0] [] []) (.j ⟨[4,6],[],[(.c 6 0,.rb 3),(.c 6 1,.rb 38),(.s 7,.i .i64)]⟩ (.s .o (.k (.l ⟨[1,4,6],[],[(.c 6 0,.rb 3),(.c 6 1,.rb 38),(.s 7,.i .i64),(.s 8,.i .i64)]⟩ (.s .o (.j ⟨[1,4,6,8],[],[(.c 6 0,.rb 3),(.c 6 1,.rb 38),(.s 7,.i .i64)]⟩ .o .o))))) .o))))) kr kr kr
noncomputable def aNf  (s1:Int):Option Int:=some s1
noncomputable def sU (s2:Int×Int)(s3:Int):Option (LO (Int×Int) (JO Int Int)):=some (.next (s3,w64 (s2.2+(1:Int))))
noncomputable def kI (x_turns:List Int)(x_g:Int)(s2:Int×Int):Option (LO (Int×Int) (JO Int Int)):=
 cond (decide (s2.2<((List.length x_turns:Nat):Int)))
  (Option.bind (grd ((0:Int)<=s2.2/\s2.2<((List.length x_turns:Nat):Int)) (cond (decide ((List.getD x_turns (Int.toNat s2.2) default)=x_g))
   (some (.go (w64 (s2.1+(1:Int)))))
   (some (.go s2.1)))) λj3=>
   JO.run j3 (sU s2))
  (some (.ret (.go s2.1)))
noncomputable def lM (x_turns:List Int)(x_g:Int):Option Int:=
 Option.bind (Option.bind (iter (kI x_turns x_g) ((0:Int),(0:Int))) LO.val) λj1=>
  JO.run j1 aNf
noncomputable def g16:Sg tG:=⟨[.row 3,.i .i64],.one (.i .i64),lM⟩
theorem s16:Sok 16 g16:=sgx [] trivial (.s .o (.s .o (.j ⟨[],[],[(.s 5,.i .i64)]⟩ (.s .o (.k (.l ⟨[1,8,9],[],[(.s 5,.i .i64),(.s 10,.i .i64)]⟩ (.s .o (.s .o (.j ⟨[1,8,9,10],[],[(.s 5,.i .i64)]⟩ .o .o)))))) .o))) kr kr kr
noncomputable def aNd  (s2:(List Int)×Int×Int×Int×Int×Bool×Int×Int×Int×Bool×Bool×Bool×Bool×(List Int)×(List Int)×(List Int)):Option DBare:=
 Option.bind (dD (DBare.mk (DCore.mk s2.1 s2.2.1 s2.2.2.1 s2.2.2.2.1 s2.2.2.2.2.1 s2.2.2.2.2.2.1 s2.2.2.2.2.2.2.1 s2.2.2.2.2.2.2.2.1 s2.2.2.2.2.2.2.2.2.1 s2.2.2.2.2.2.2.2.2.2.1 s2.2.2.2.2.2.2.2.2.2.2.1 s2.2.2.2.2.2.2.2.2.2.2.2.1 s2.2.2.2.2.2.2.2.2.2.2.2.2.1) s2.2.2.2.2.2.2.2.2.2.2.2.2.2.1 s2.2.2.2.2.2.2.2.2.2.2.2.2.2.2.1 s2.2.2.2.2.2.2.2.2.2.2.2.2.2.2.2)) λv3=>
 some v3
noncomputable def zS (x_steps:Int)(s4:(List Int)×Int×Int×Int×Int×Bool×Int×Int×Int×Bool×Bool×Bool×Bool×(List Int)×(List Int)×(List Int)×Int):Option (LO ((List Int)×Int×Int×Int×Int×Bool×Int×Int×Int×Bool×Bool×Bool×Bool×(List Int)×(List Int)×(List Int)×Int) (JO ((List Int)×Int×Int×Int×Int×Bool×Int×Int×Int×Bool×Bool×Bool×Bool×(List Int)×(List Int)×(List Int)) DBare)):=
 cond (decide (s4.2.2.2.2.2.2.2.2.2.2.2.2.2.2.2.2<x_steps))
  (Option.bind (lD (DBare.mk (DCore.mk s4.1 s4.2.1 s4.2.2.1 s4.2.2.2.1 s4.2.2.2.2.1 s4.2.2.2.2.2.1 s4.2.2.2.2.2.2.1 s4.2.2.2.2.2.2.2.1 s4.2.2.2.2.2.2.2.2.1 s4.2.2.2.2.2.2.2.2.2.1 s4.2.2.2.2.2.2.2.2.2.2.1 s4.2.2.2.2.2.2.2.2.2.2.2.1 s4.2.2.2.2.2.2.2.2.2.2.2.2.1) s4.2.2.2.2.2.2.2.2.2.2.2.2.2.1 s4.2.2.2.2.2.2.2.2.2.2.2.2.2.2.1 s4.2.2.2.2.2.2.2.2.2.2.2.2.2.2.2.1)) λv5=>
  some (.next (v5.C.Regs,v5.C.Pc,v5.C.Root,v5.C.Vector,v5.C.Saved,v5.C.SavedUser,v5.C.Cause,v5.C.Bad,v5.C.Timer,v5.C.Waits,v5.C.User,v5.C.On,v5.C.Stopped,v5.Mem,v5.In,v5.Out,w64 (s4.2.2.2.2.2.2.2.2.2.2.2.2.2.2.2.2+(1:Int)))))
  (some (.ret (.go (s4.1,s4.2.1,s4.2.2.1,s4.2.2.2.1,s4.2.2.2.2.1,s4.2.2.2.2.2.1,s4.2.2.2.2.2.2.1,s4.2.2.2.2.2.2.2.1,s4.2.2.2.2.2.2.2.2.1,s4.2.2.2.2.2.2.2.2.2.1,s4.2.2.2.2.2.2.2.2.2.2.1,s4.2.2.2.2.2.2.2.2.2.2.2.1,s4.2.2.2.2.2.2.2.2.2.2.2.2.1,s4.2.2.2.2.2.2.2.2.2.2.2.2.2.1,s4.2.2.2.2.2.2.2.2.2.2.2.2.2.2.1,s4.2.2.2.2.2.2.2.2.2.2.2.2.2.2.2.1))))
noncomputable def sD (x_b:DBare)(x_steps:Int):Option DBare:=
 Option.bind (pD x_b) λv1=>
 cond (!v1)
  (some (DBare.mk (DCore.mk ([]:List Int) (0:Int) (0:Int) (0:Int) (0:Int) false (0:Int) (0:Int) (0:Int) false false false false) ([]:List Int) ([]:List Int) ([]:List Int)))
  (cond (decide (x_steps<(0:Int)))
   (some (DBare.mk (DCore.mk ([]:List Int) (0:Int) (0:Int) (0:Int) (0:Int) false (0:Int) (0:Int) (0:Int) false false false false) ([]:List Int) ([]:List Int) ([]:List Int)))
   (cond (decide ((300:Int)<x_steps))
    (some (DBare.mk (DCore.mk ([]:List Int) (0:Int) (0:Int) (0:Int) (0:Int) false (0:Int) (0:Int) (0:Int) false false false false) ([]:List Int) ([]:List Int) ([]:List Int)))
    (Option.bind (Option.bind (iter (zS x_steps) (x_b.C.Regs,x_b.C.Pc,x_b.C.Root,x_b.C.Vector,x_b.C.Saved,x_b.C.SavedUser,x_b.C.Cause,x_b.C.Bad,x_b.C.Timer,x_b.C.Waits,x_b.C.User,x_b.C.On,x_b.C.Stopped,x_b.Mem,x_b.In,x_b.Out,(0:Int))) LO.val) λj2=>
     JO.run j2 aNd)))
noncomputable def g35:Sg tG:=⟨[.st 47,.i .i64],.one (.st 47),sD⟩
theorem s35:Sok 35 g35:=sgx [(77,.r g77),(78,.r g78),(74,.r g74)] ⟨s77,s78,s74,trivial⟩ (.s .o (.s .o (.j ⟨[2,4],[],[(.c 2 0,.rb 3),(.c 2 1,.i .i64),(.c 2 2,.i .i64),(.c 2 3,.i .i64),(.c 2 4,.i .i64),(.c 2 5,.b),(.c 2 6,.i .i64),(.c 2 7,.i .i64),(.c 2 8,.i .i64),(.c 2 9,.b),(.c 2 10,.b),(.c 2 11,.b),(.c 2 12,.b),(.c 2 13,.rb 3),(.c 2 14,.rb 3),(.c 2 15,.rb 3)]⟩ (.s .o (.k (.l ⟨[1,2,4],[],[(.c 2 0,.rb 3),(.c 2 1,.i .i64),(.c 2 2,.i .i64),(.c 2 3,.i .i64),(.c 2 4,.i .i64),(.c 2 5,.b),(.c 2 6,.i .i64),(.c 2 7,.i .i64),(.c 2 8,.i .i64),(.c 2 9,.b),(.c 2 10,.b),(.c 2 11,.b),(.c 2 12,.b),(.c 2 13,.rb 3),(.c 2 14,.rb 3),(.c 2 15,.rb 3),(.s 5,.i .i64)]⟩ .o))) .o))) kr kr kr
noncomputable def yE  (s1:(List Int)×(List Int)×Int):Option (Dl20Rd×(List Int)):=some ((Dl20Rd.mk s1.2.1 s1.2.2),s1.1)
noncomputable def nA  (s3:(List Int)×Int×(List Int)×Int):Option (LO ((List Int)×Int×(List Int)×Int) (JO ((List Int)×(List Int)×Int) (Dl20Rd×(List Int)))):=
 cond (decide ((0:Int)<s3.2.2.2))
  (Option.bind (aA (Dl20Rd.mk s3.1 s3.2.1) (3:Int)) λv4=>
  Option.bind (aA v4.1 (30:Int)) λv5=>
  grd ((List.length s3.2.2.1+List.length ([w64 (v4.2-(w64 ((w64 (Int.tdiv v5.2 (29:Int)))*(4:Int))))]:List Int))*8<=2^47/\List.length s3.2.2.1+List.length ([w64 (v4.2-(w64 ((w64 (Int.tdiv v5.2 (29:Int)))*(4:Int))))]:List Int)<=2^47) (some (.next (v5.1.b,v5.1.p,s3.2.2.1++([w64 (v4.2-(w64 ((w64 (Int.tdiv v5.2 (29:Int)))*(4:Int))))]:List Int),w64 (s3.2.2.2-(1:Int))))))
  (some (.ret (.go (s3.2.2.1,s3.1,s3.2.1))))
noncomputable def mQ (x_r:Dl20Rd)(x_most:Int):Option (Dl20Rd×(List Int)):=
 Option.bind (Option.bind (aA x_r (w64 (x_most+(1:Int)))) λv2=>
  Option.bind (iter nA (v2.1.b,v2.1.p,([]:List Int),v2.2)) LO.val) λj1=>
  JO.run j1 yE
noncomputable def g41:Sw tG:=⟨[.pt 118,.v (.i .i64)],.one (.row 3),mQ⟩
theorem s41:Sjk 41 g41:=sgy [(57,.w g57)] ⟨s57,trivial⟩ (.s .o (.s .o (.j ⟨[],[0],[(.s 5,.ro 3),(.d 0 0,.rb 5),(.d 0 1,.i .i64)]⟩ (.s .o (.k (.l ⟨[0],[],[(.c 0 0,.rb 5),(.c 0 1,.i .i64),(.s 5,.ro 3),(.s 6,.i .i64)]⟩ .o))) .o))) kr kr kr
theorem aQk{x_r:Dl20Rd}{x_most:Int}{R_:Dl20Rd×(List Int)}(hh:mQ x_r x_most=some R_):Inl Tryz.prog 41 [.ptr 0 [] 0,.int .i64 x_most] [(0,some (rB118 x_r))] 1 (.sref 1 [] 0 (List.length R_.2) 1) [(1,some (rI_3 R_.2)),(0,some ⟨118,[bo (eI .u8) R_.1.b,.int .i64 R_.1.p]⟩)] 2:=kc (s41 x_r x_most R_ hh)
theorem aHa:LW 34 ⟨13,[.cell 2 true 2,.tmp 3],.seq (.reg false (rg 34 0)) (.seq (.reg false (rg 34 1)) (.seq (.reg false (rg 34 2)) (.seq (.regd (rg 34 3) (rg 34 4)) .ret)))⟩:=kr
noncomputable def gJ (x_code:List Int):Option (DHost×(List Int)):=
 Option.bind (lE x_code) λv1=>
 Option.bind (lH v1) λv2=>
 Option.bind (mQ v2.1 (30:Int)) λv3=>
 some (v2.2,v3.2)
theorem aJa{x_code:List Int}{R_:DHost×(List Int)}(hh:gJ x_code=some R_):Fn Tryz.prog 34 [bo (eI .u8) x_code] (.tup [.agg [.own 3 1 (List.length R_.1.Words) (fl (eI .i64) R_.1.Words),.own 38 17 (List.length R_.1.Guests) (fl bK R_.1.Guests)],.own 3 1 (List.length R_.2) (fl (eI .i64) R_.2)]):=by let z1:EH:=(0,some ⟨26,[.nil,.nil]⟩);let z2:=(2,pp 0);unfold gJ at hh;refine Fn.start aHa [0] (E:=sp 13 [(0,bo (eI .u8) x_code)]) kr (v:= .tup [.agg [sw 0 R_.1.Words,.sref 1 [] 0 (List.length R_.1.Guests) 17],sw 2 R_.2]) (Hr:=[(2,some (rI_3 R_.2)),(1,some (rO38 R_.1.Guests)),(0,some (rI_3 R_.1.Words))]) (k:=3) kr (sy [0,2] [0] (sp 13 [(0,bo (eI .u8) x_code),z2]) [z1] 1 (Aw.sreg [2,4] [0,1] (yu 1 [(6,bo (eI .u8) x_code)] [z1] 1 ?_)));obtain⟨v1,hv1,hh⟩:=bind_some hh;let z3:EH:=(1,some (rB118 v1));refine ys (.call 39 [.t 6]) (some 7) (cf (pp 1) [z3] 2 [] (aDj hv1) [bo (eI .u8) x_code] rz aR (aDu dd rfl) (hq (rB118 v1) (aG (cY _)) aR) ?_);refine yt (sp 13 [z2,(4,pp 1)]) [z1,z3] 2 (Aw.sreg [2,4,5] [0,1,2,3,4] (yu 1 [(8,pp 1)] [z1,z3] 2 ?_));obtain⟨v2,hv2,hh⟩:=bind_some hh;let z4:EH:=(1,some (rB118 v2.1));let z5:EV:=(10,.agg [sw 2 v2.2.Words,.sref 3 [] 0 (List.length v2.2.Guests) 17]);let q1:Root:=(rO38 v2.2.Guests);let z6:=(3,some q1);let q2:Root:=(rI_3 v2.2.Words);let z7:=(2,some q2);refine ys (.call 40 [.t 8]) (some 9) (cf (.agg [sw 2 v2.2.Words,.sref 3 [] 0 (List.length v2.2.Guests) 17]) [z6,z7,z4] 4 [1] (aDl hv2) [pp 1] rz (hq (rB118 v1) (aG (cY _)) aR) (eZ rz) (hn cJ (hn aY (hq (rB118 v2.1) (aG (cY _)) aR))) ?_);let q3:Root:=⟨26,[sw 2 v2.2.Words,.sref 3 [] 0 (List.length v2.2.Guests) 17]⟩;refine yt (sp 13 [z2,(4,pp 1),(5,pp 4)]) [z1,z4,z7,z6,(4,some q3)] 5 (Aw.sregd [2,3] [0,2,3,5] [1] kr (dj 2 (sp 13 [z2,(4,pp 1),(5,pp 4),z5,(11,pp 1)]) [z1,z4,z7,z6,(4,some q3)] 5 ?_));obtain⟨v3,hv3,hh⟩:=bind_some hh;let z8:EH:=(5,some (rI_3 v3.2));refine ds (.call 41 [.t 11,.c (ii 30)]) (some 12) (vW rfl (cf (sw 5 v3.2) [z8,(1,some (rB118 v3.1))] 6 [1] (aQk hv3) [pp 1,ii 30] rz (hq (rB118 v2.1) (aG (cY _)) aR) aBv (hn aY (hq (rB118 v3.1) (aG (cY _)) aR)) ⟨⟨⟨by decide,mR rfl rfl⟩,Hld.un ?_⟩⟩));refine dt (sp 13 [z2,(4,pp 1),(5,pp 4),z5,(11,pp 1),(12,sw 5 v3.2)]) [z8,(1,some (rB118 v3.1)),(1,none),z1,z4,z7,z6,(4,some q3)] 6 (yt (sp 13 [z2,(3,sw 5 v3.2)]) [(0,some q3),z7,z6,z8] 6 (Aw.ret ?_));rw[aP hh];exact jA (r':= .tup [.agg [sw 2 v2.2.Words,.sref 3 [] 0 (List.length v2.2.Guests) 17],sw 5 v3.2]) kr (Ent.list [some 2,some 3,some 5] rfl rfl (Nat.zero_le _) (tK (sQ rz)) (hn aY (hn cJ (hn aY aR))))
noncomputable def g34:Sg tG:=⟨[.row 5],.two (.st 2026) (.row 3),gJ⟩
theorem s34:Sok 34 g34:=λx_code R_ hh=>kc (aJa (x_code:=x_code) hh)
noncomputable def wF (v2:DHost×Int)(s7:Int)(s8:Unit):Option Bool:=
 Option.bind (iD v2.1) λv9=>
 cond v9
  (cond (decide (v2.2<=s7))
   (Option.bind dA  λv10=>
   some v10)
   (some false))
  (some false)
noncomputable def oJ (s11:Int)(s12:Unit):Option (LO Int (JO Unit Bool)):=some (.next (w64 (s11+(1:Int))))
noncomputable def oV  (s15:Bool):Option (JO Unit (LO Int (JO Unit Bool))):=
 cond (!s15)
  (some (.out (.ret (.out false))))
  (some (.go ()))
noncomputable def vY (s17:Bool×Int)(s18:Bool):Option (LO (Bool×Int) (JO Bool (JO Unit (LO Int (JO Unit Bool))))):=some (.next (s18,w64 (s17.2-(1:Int))))
noncomputable def cX (v2:DHost×Int)(s7:Int)(v13:DBare×Bool)(v14:DBare×Bool)(s17:Bool×Int):Option (LO (Bool×Int) (JO Bool (JO Unit (LO Int (JO Unit Bool))))):=
 cond (decide ((0:Int)<=s17.2))
  (cond (!s17.1)
   (Option.bind (Option.bind (sD v13.1 s17.2) λv19=>
    Option.bind (eO v14.1 v19) λv20=>
    cond (decide (v2.2=s7))
     (cond (!v20)
      (some (.out (.ret (.out (.out (.ret (.out false)))))))
      (some (.go v20)))
     (some (.go v20))) λj18=>
    JO.run j18 (vY s17))
   (some (.ret (.go s17.1))))
  (some (.ret (.go s17.1)))
noncomputable def hT (v1:DHost×(List Int))(v2:DHost×Int)(s7:Int)(s11:Int):Option (LO Int (JO Unit Bool)):=
 cond (decide (s11<(3:Int)))
  (Option.bind (Option.bind (dJ v1.1 s11) λv13=>
   Option.bind (dJ v2.1 s11) λv14=>
   cond (!(v13.2==v14.2))
    (some (.out (.ret (.out false))))
    (Option.bind (Option.bind (lM v1.2 s11) λv16=>
     Option.bind (iter (cX v2 s7 v13 v14) ((!v13.2),v16)) LO.val) λj15=>
     JO.run j15 oV)) λj12=>
   JO.run j12 (oJ s11))
  (some (.ret (.go ())))
noncomputable def wE (v1:DHost×(List Int))(v2:DHost×Int)(s7:Int):Option Bool:=
 Option.bind (Option.bind (iter (hT v1 v2 s7) (0:Int)) LO.val) λj8=>
  JO.run j8 (wF v2 s7)
noncomputable def vK (s21:Int×Int)(s22:Int):Option (LO (Int×Int) (JO Int Bool)):=some (.next (s22,w64 (s21.2+(1:Int))))
noncomputable def gS (v1:DHost×(List Int))(s21:Int×Int):Option (LO (Int×Int) (JO Int Bool)):=
 cond (decide (s21.2<(3:Int)))
  (Option.bind (grd ((0:Int)<=s21.2/\s21.2<((List.length v1.1.Guests:Nat):Int)) (cond (List.getD v1.1.Guests (Int.toNat s21.2) default).Live
   (Option.bind (lM v1.2 s21.2) λv23=>
   some (.go (w64 (s21.1+v23))))
   (some (.go s21.1)))) λj22=>
   JO.run j22 (vK s21))
  (some (.ret (.go s21.1)))
noncomputable def lQ (x_code:List Int):Option Bool:=
 cond (decide ((1048576:Int)<((List.length x_code:Nat):Int)))
  (some true)
  (Option.bind (gJ x_code) λv1=>
  Option.bind (rW v1.1 v1.2) λv2=>
  Option.bind (sP v1.1 v1.2) λv3=>
  cond (!decide (v2.2=v3.2))
   (some false)
   (Option.bind (gU v2.1 v3.1) λv4=>
   cond (!v4)
    (some false)
    (Option.bind (iD v1.1) λv5=>
    cond (!v5)
     (cond (decide (v2.2=(0:Int)))
      (Option.bind dA  λv6=>
      some v6)
      (some false))
     (Option.bind (Option.bind (iter (gS v1) ((0:Int),(0:Int))) LO.val) λj7=>
      JO.run j7 (wE v1 v2)))))
noncomputable def g8:Sg tG:=⟨[.row 5],.one .b,lQ⟩
theorem s8:Sok 8 g8:=sgx [(34,.r g34),(14,.r g14),(30,.r g30),(12,.r g12),(15,.r g15),(18,.r g18),(16,.r g16),(22,.r g22),(35,.r g35),(23,.r g23)] ⟨s34,s14,s30,s12,s15,s18,s16,s22,s35,s23,trivial⟩ (.s .o (.s .o (.s .o (.s .o (.s (.g [.fr (.c 3 0) 0,.fr (.c 3 1) 0,.fr (.s 4) 0] [] []) (.s .o (.s .o (.s .o (.j ⟨[3,4,5,6],[],[(.s 9,.i .i64)]⟩ (.s .o (.k (.l ⟨[3,4,5,6],[],[(.s 9,.i .i64),(.s 10,.i .i64)]⟩ (.s .o (.j ⟨[3,4,5,6,10],[],[(.s 9,.i .i64)]⟩ .o .o))))) (.j ⟨[5,6,9],[],[]⟩ (.s .o (.k (.l ⟨[3,4,5,6,9],[],[(.s 11,.i .i64)]⟩ (.s .o (.j ⟨[3,4,5,6,9,11],[],[]⟩ (.k (.s .o (.s .o (.s .o (.s .o (.j ⟨[3,4,5,6,9,11],[],[(.s 16,.b)]⟩ (.s .o (.k (.l ⟨[3,4,5,6,9,11,12,14],[],[(.s 16,.b),(.s 17,.i .i64)]⟩ (.s .o (.j ⟨[3,4,5,6,9,11,12,14,17],[],[(.s 16,.b)]⟩ .o .o))))) .o)))))) .o))))) .o)))))))))) kr kr kr
theorem aNg{x_code:List Int}{R_:Bool}(hh:lQ x_code=some R_):Fn Tryz.prog 8 [bo (eI .u8) x_code] (.bool R_):=kc (s8 x_code R_ hh)
end Go.Proofs.YtkjabgefacfpfaaGreat
