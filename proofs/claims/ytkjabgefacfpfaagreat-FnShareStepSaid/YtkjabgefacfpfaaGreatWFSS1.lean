/- Plain functions of the program, and that it hands back what they say. Made by program. -/
import Derived.Test.YtkjabgefacfpfaaGreatWTD
import Derived.Test.YtkjabgefacfpfaaGreatProg
import Derived.Test.YtkjabgefacfpfaaGreatWGS1
import Derived.Test.YtkjabgefacfpfaaGreatWT5
namespace Go.Proofs.YtkjabgefacfpfaaGreat
open Go.RowKit
set_option maxRecDepth 100000
set_option linter.all false
set_option maxHeartbeats 0
noncomputable def gT (x_h:DHost)(x_g:Int)(x_addr:Int):Option DShade:=
 Option.bind (rJ x_h x_g (w64 (Int.tdiv x_addr (8:Int)))) λv1=>
 some v1
noncomputable def bIa:Sg tG:=⟨[.st 26,.i .i64,.i .i64],.one (.st 103),gT⟩
theorem bMs:Sok 152 bIa:=sgx [(139,.r bWz)] ⟨bYl,trivial⟩ .o kr kr kr
noncomputable def dS (x_h:DHost)(x_g:Int)(x_addr:Int)(x_write:Bool):Option (Int×Int):=
 Option.bind (gT x_h x_g x_addr) λv1=>
 grd ((0:Int)<=x_g/\x_g<((List.length x_h.Guests:Nat):Int)) (Option.bind (mS v1 x_addr ((List.getD x_h.Guests (Int.toNat x_g) default).C).User x_write) λv2=>
  some (v2.1,v2.2))
noncomputable def aTg:Sg tG:=⟨[.st 26,.i .i64,.i .i64,.b],.two (.i .i64) (.i .i64),dS⟩
theorem aYh:Sok 111 aTg:=sgx [(152,.r bIa),(151,.r bTk)] ⟨bMs,bYy,trivial⟩ .o kr kr kr
noncomputable def iW (x_h:DHost)(x_g:Int)(x_addr:Int)(x_why:Int):Option DExit:=
 Option.bind (gT x_h x_g x_addr) λv1=>
 cond (decide (x_why=(2:Int)))
  (some (DExit.mk (2:Int) v1.Page (DIns.mk (0:Int) (0:Int) (0:Int))))
  (cond (decide (x_why=(3:Int)))
   (some (DExit.mk (3:Int) v1.Page (DIns.mk (0:Int) (0:Int) (0:Int))))
   (some (DExit.mk (0:Int) (0:Int) (DIns.mk (0:Int) (0:Int) (0:Int)))))
noncomputable def bNm:Sg tG:=⟨[.st 26,.i .i64,.i .i64,.i .i64],.one (.st 129),iW⟩
theorem bWm:Sok 146 bNm:=sgx [(152,.r bIa)] ⟨bMs,trivial⟩ .o kr kr kr
noncomputable def sL (x_h:DHost)(x_g:Int)(x_i:DIns)(s2:Unit):Option DExit:=
 Option.bind (cX (DCore.mk ((List.getD x_h.Guests (Int.toNat x_g) default).C).Regs ((List.getD x_h.Guests (Int.toNat x_g) default).C).Pc ((List.getD x_h.Guests (Int.toNat x_g) default).C).Root ((List.getD x_h.Guests (Int.toNat x_g) default).C).Vector ((List.getD x_h.Guests (Int.toNat x_g) default).C).Saved ((List.getD x_h.Guests (Int.toNat x_g) default).C).SavedUser ((List.getD x_h.Guests (Int.toNat x_g) default).C).Cause ((List.getD x_h.Guests (Int.toNat x_g) default).C).Bad ((List.getD x_h.Guests (Int.toNat x_g) default).C).Timer ((List.getD x_h.Guests (Int.toNat x_g) default).C).Waits ((List.getD x_h.Guests (Int.toNat x_g) default).C).User ((List.getD x_h.Guests (Int.toNat x_g) default).C).On ((List.getD x_h.Guests (Int.toNat x_g) default).C).Stopped) x_i) λv3=>
 Option.bind (dS x_h x_g v3 (decide (x_i.Op=(4:Int)))) λv4=>
 Option.bind (iW x_h x_g v3 v4.2) λv5=>
 some v5
noncomputable def sO (x_h:DHost)(x_g:Int)(x_i:DIns)(s1:Unit):Option DExit:=
 Option.bind (cond (!decide (x_i.Op=(3:Int)))
  (cond (!decide (x_i.Op=(4:Int)))
   (some (.out (DExit.mk (0:Int) (0:Int) (DIns.mk (0:Int) (0:Int) (0:Int)))))
   (some (.go ())))
  (some (.go ()))) λj2=>
  JO.run j2 (sL x_h x_g x_i)
noncomputable def qY (x_h:DHost)(x_g:Int)(x_i:DIns):Option DExit:=
 grd ((0:Int)<=x_g/\x_g<((List.length x_h.Guests:Nat):Int)) (Option.bind (Option.bind (kR x_i) λv6=>
  cond v6
   (cond (!((List.getD x_h.Guests (Int.toNat x_g) default).C).User)
    (some (.out (DExit.mk (1:Int) (0:Int) x_i)))
    (some (.go ())))
   (some (.go ()))) λj1=>
  JO.run j1 (sO x_h x_g x_i))
noncomputable def bWr:Sg tG:=⟨[.st 26,.i .i64,.st 89],.one (.st 129),qY⟩
theorem cAl:Sok 147 bWr:=sgx [(178,.r bNy),(179,.r aSm),(111,.r aTg),(146,.r bNm)] ⟨bVi,aXs,aYh,bWm,trivial⟩ (.s .o (.s .o (.j ⟨[1,3,5,6,7],[],[]⟩ .o (.j ⟨[1,3,5,6,7],[],[]⟩ .o .o)))) kr kr kr
noncomputable def oP (x_h:DHost)(x_g:Int):Option DExit:=
 grd ((0:Int)<=x_g/\x_g<((List.length x_h.Guests:Nat):Int)) (cond ((List.getD x_h.Guests (Int.toNat x_g) default).C).Stopped
  (some (DExit.mk (0:Int) (0:Int) (DIns.mk (0:Int) (0:Int) (0:Int))))
  (Option.bind (gW (DCore.mk ((List.getD x_h.Guests (Int.toNat x_g) default).C).Regs ((List.getD x_h.Guests (Int.toNat x_g) default).C).Pc ((List.getD x_h.Guests (Int.toNat x_g) default).C).Root ((List.getD x_h.Guests (Int.toNat x_g) default).C).Vector ((List.getD x_h.Guests (Int.toNat x_g) default).C).Saved ((List.getD x_h.Guests (Int.toNat x_g) default).C).SavedUser ((List.getD x_h.Guests (Int.toNat x_g) default).C).Cause ((List.getD x_h.Guests (Int.toNat x_g) default).C).Bad ((List.getD x_h.Guests (Int.toNat x_g) default).C).Timer ((List.getD x_h.Guests (Int.toNat x_g) default).C).Waits ((List.getD x_h.Guests (Int.toNat x_g) default).C).User ((List.getD x_h.Guests (Int.toNat x_g) default).C).On ((List.getD x_h.Guests (Int.toNat x_g) default).C).Stopped)) λv1=>
  Option.bind (eX v1) λv2=>
  cond v2
   (some (DExit.mk (0:Int) (0:Int) (DIns.mk (0:Int) (0:Int) (0:Int))))
   (Option.bind (dS x_h x_g ((List.getD x_h.Guests (Int.toNat x_g) default).C).Pc false) λv3=>
   cond (!decide (v3.2=(0:Int)))
    (Option.bind (iW x_h x_g ((List.getD x_h.Guests (Int.toNat x_g) default).C).Pc v3.2) λv4=>
    some v4)
    (grd ((0:Int)<=v3.1/\v3.1<((List.length x_h.Words:Nat):Int)) (Option.bind (kI (List.getD x_h.Words (Int.toNat v3.1) default)) λv5=>
     Option.bind (qY x_h x_g v5) λv6=>
     some v6)))))
noncomputable def bVe:Sg tG:=⟨[.st 26,.i .i64],.one (.st 129),oP⟩
theorem cAs:Sok 103 bVe:=sgx [(107,.r bFj),(108,.r bGd),(111,.r aTg),(146,.r bNm),(114,.r bFt),(147,.r bWr)] ⟨bQc,bOi,aYh,bWm,bMu,cAl,trivial⟩ .o kr kr kr
noncomputable def aOi (x_table:List DShade)(x_addr:Int)(s1:Int):Option DExit:=some (DExit.mk s1 (List.getD x_table (Int.toNat (w64 (Int.tdiv x_addr (8:Int)))) default).Page (DIns.mk (0:Int) (0:Int) (0:Int)))
noncomputable def lR (x_table:List DShade)(x_addr:Int)(x_why:Int):Option DExit:=
 grd ((0:Int)<=(w64 (Int.tdiv x_addr (8:Int)))/\(w64 (Int.tdiv x_addr (8:Int)))<((List.length x_table:Nat):Int)) (Option.bind (cond (decide (x_why=(2:Int)))
  (some (.go (2:Int)))
  (cond (decide (x_why=(3:Int)))
   (some (.go (3:Int)))
   (some (.out (DExit.mk (0:Int) (0:Int) (DIns.mk (0:Int) (0:Int) (0:Int))))))) λj1=>
  JO.run j1 (aOi x_table x_addr))
noncomputable def bXb:Sg tG:=⟨[.row 103,.i .i64,.i .i64],.one (.st 129),lR⟩
theorem bZt:Sok 156 bXb:=sgx [] trivial (.s .o (.s .o (.j ⟨[6,7],[],[(.c 7 0,.i .i64)]⟩ .o .o))) kr kr kr
noncomputable def aIk  (s8:Unit):Option DExit:=some (DExit.mk (0:Int) (0:Int) (DIns.mk (0:Int) (0:Int) (0:Int)))
noncomputable def aAd (x_h:DHost)(x_g:Int):Option DExit:=
 Option.bind (eS x_h x_g) λv1=>
 cond (!v1)
  (some (DExit.mk (0:Int) (0:Int) (DIns.mk (0:Int) (0:Int) (0:Int))))
  (grd ((0:Int)<=x_g/\x_g<((List.length x_h.Guests:Nat):Int)) (cond ((List.getD x_h.Guests (Int.toNat x_g) default).C).Stopped
   (some (DExit.mk (0:Int) (0:Int) (DIns.mk (0:Int) (0:Int) (0:Int))))
   (grd ((0:Int)<=x_g/\x_g<((List.length x_h.Guests:Nat):Int)) (Option.bind (lO (DCore.mk ((List.getD x_h.Guests (Int.toNat x_g) default).C).Regs ((List.getD x_h.Guests (Int.toNat x_g) default).C).Pc ((List.getD x_h.Guests (Int.toNat x_g) default).C).Root ((List.getD x_h.Guests (Int.toNat x_g) default).C).Vector ((List.getD x_h.Guests (Int.toNat x_g) default).C).Saved ((List.getD x_h.Guests (Int.toNat x_g) default).C).SavedUser ((List.getD x_h.Guests (Int.toNat x_g) default).C).Cause ((List.getD x_h.Guests (Int.toNat x_g) default).C).Bad ((List.getD x_h.Guests (Int.toNat x_g) default).C).Timer ((List.getD x_h.Guests (Int.toNat x_g) default).C).Waits ((List.getD x_h.Guests (Int.toNat x_g) default).C).User ((List.getD x_h.Guests (Int.toNat x_g) default).C).On ((List.getD x_h.Guests (Int.toNat x_g) default).C).Stopped)) λv2=>
    Option.bind (pS v2) λv3=>
    cond v3.2
     (some (DExit.mk (0:Int) (0:Int) (DIns.mk (0:Int) (0:Int) (0:Int))))
     (Option.bind (mI x_h x_g) λv4=>
     Option.bind (eA v4 v3.1.Pc v3.1.User false) λv5=>
     cond (!decide (v5.2=(0:Int)))
      (Option.bind (lR v4 v3.1.Pc v5.2) λv6=>
      some v6)
      (grd ((0:Int)<=v5.1/\v5.1<((List.length x_h.Words:Nat):Int)) (Option.bind (rV (List.getD x_h.Words (Int.toNat v5.1) default)) λv7=>
       Option.bind (Option.bind (fQ v7) λv9=>
        cond v9
         (cond (!v3.1.User)
          (some (.out (DExit.mk (1:Int) (0:Int) v7)))
          (cond (decide (v7.Op=(3:Int)))
           (grd ((0:Int)<=(Int.tmod v7.N (4:Int))/\(Int.tmod v7.N (4:Int))<((List.length v3.1.Regs:Nat):Int)) (Option.bind (eA v4 (Int.tmod (List.getD v3.1.Regs (Int.toNat (Int.tmod v7.N (4:Int))) default) (64:Int)) v3.1.User (decide (v7.Op=(4:Int)))) λv10=>
            Option.bind (lR v4 (Int.tmod (List.getD v3.1.Regs (Int.toNat (Int.tmod v7.N (4:Int))) default) (64:Int)) v10.2) λv11=>
            some (.out v11)))
           (cond (decide (v7.Op=(4:Int)))
            (grd ((0:Int)<=(Int.tmod v7.N (4:Int))/\(Int.tmod v7.N (4:Int))<((List.length v3.1.Regs:Nat):Int)) (Option.bind (eA v4 (Int.tmod (List.getD v3.1.Regs (Int.toNat (Int.tmod v7.N (4:Int))) default) (64:Int)) v3.1.User (decide (v7.Op=(4:Int)))) λv12=>
             Option.bind (lR v4 (Int.tmod (List.getD v3.1.Regs (Int.toNat (Int.tmod v7.N (4:Int))) default) (64:Int)) v12.2) λv13=>
             some (.out v13)))
            (some (.go ())))))
         (cond (decide (v7.Op=(3:Int)))
          (grd ((0:Int)<=(Int.tmod v7.N (4:Int))/\(Int.tmod v7.N (4:Int))<((List.length v3.1.Regs:Nat):Int)) (Option.bind (eA v4 (Int.tmod (List.getD v3.1.Regs (Int.toNat (Int.tmod v7.N (4:Int))) default) (64:Int)) v3.1.User (decide (v7.Op=(4:Int)))) λv14=>
           Option.bind (lR v4 (Int.tmod (List.getD v3.1.Regs (Int.toNat (Int.tmod v7.N (4:Int))) default) (64:Int)) v14.2) λv15=>
           some (.out v15)))
          (cond (decide (v7.Op=(4:Int)))
           (grd ((0:Int)<=(Int.tmod v7.N (4:Int))/\(Int.tmod v7.N (4:Int))<((List.length v3.1.Regs:Nat):Int)) (Option.bind (eA v4 (Int.tmod (List.getD v3.1.Regs (Int.toNat (Int.tmod v7.N (4:Int))) default) (64:Int)) v3.1.User (decide (v7.Op=(4:Int)))) λv16=>
            Option.bind (lR v4 (Int.tmod (List.getD v3.1.Regs (Int.toNat (Int.tmod v7.N (4:Int))) default) (64:Int)) v16.2) λv17=>
            some (.out v17)))
           (some (.go ()))))) λj8=>
        JO.run j8 aIk)))))))
noncomputable def bXj:Sg tG:=⟨[.st 26,.i .i64],.one (.st 129),aAd⟩
theorem bYr:Sok 115 bXj:=sgx [(58,.r g58),(143,.r bHm),(66,.w g66),(67,.r g67),(68,.r g68),(156,.r bXb),(70,.r g70),(71,.r g71)] ⟨s58,bPj,s66,s67,s68,bZt,s70,s71,trivial⟩ (.s .o (.s .o (.s .o (.s .o (.s .o (.s .o (.s .o (.s .o (.j ⟨[4],[],[]⟩ .o .o))))))))) kr kr kr
noncomputable def kT (x_pc:Int):Option Int:=some (Int.tmod (w64 (x_pc+(1:Int))) (64:Int))
noncomputable def bPw:Sg tG:=⟨[.i .i64],.one (.i .i64),kT⟩
theorem bTr:Sok 194 bPw:=sgx [] trivial .o kr kr kr
noncomputable def fN (x_b:DBare):Option DBare:=
 Option.bind (kT x_b.C.Pc) λv1=>
 some (DBare.mk (DCore.mk x_b.C.Regs v1 x_b.C.Root x_b.C.Vector x_b.C.Saved x_b.C.SavedUser x_b.C.Cause x_b.C.Bad x_b.C.Timer x_b.C.Waits x_b.C.User x_b.C.On x_b.C.Stopped) x_b.Mem x_b.In x_b.Out)
noncomputable def aTn:Sg tG:=⟨[.st 47],.one (.sb 47),fN⟩
theorem aYy:Sok 183 aTn:=sgx [(194,.r bPw)] ⟨bTr,trivial⟩ .o kr kr kr
noncomputable def aCp (x_c:DCore):Option DCore:=some (DCore.mk x_c.Regs x_c.Saved x_c.Root x_c.Vector x_c.Saved x_c.SavedUser x_c.Cause x_c.Bad x_c.Timer x_c.Waits x_c.SavedUser true x_c.Stopped)
noncomputable def bWs:Sg tG:=⟨[.st 35],.one (.sb 35),aCp⟩
theorem bZb:Sok 197 bWs:=sgx [] trivial .o kr kr kr
noncomputable def pL (x_word:Int):Option Int:=
 Option.bind (jI (Int.tmod x_word (16:Int))) λv1=>
 cond (!v1)
  (some (-1:Int))
  (some (Int.tmod x_word (16:Int)))
noncomputable def bXe:Sg tG:=⟨[.i .i64],.one (.i .i64),pL⟩
theorem bZv:Sok 198 bXe:=sgx [(138,.r bAz)] ⟨bIi,trivial⟩ .o kr kr kr
noncomputable def rA (x_out:List Int)(x_word:Int):Option (List Int):=
 cond (decide ((30:Int)<=((List.length x_out:Nat):Int)))
  (some x_out)
  (Option.bind (cW x_out) λv1=>
  grd ((List.length v1+List.length ([x_word]:List Int))*8<=2^47/\List.length v1+List.length ([x_word]:List Int)<=2^47) (some (v1++([x_word]:List Int))))
noncomputable def bTo:Sg tG:=⟨[.row 3,.i .i64],.one (.rb 3),rA⟩
theorem bZh:Sok 199 bTo:=sgx [(42,.r g42)] ⟨s42,trivial⟩ .o kr kr kr
noncomputable def kN (x_list:List Int)(x_at:Int)(x_w:Int):Option (List Int):=
 Option.bind (cW x_list) λv1=>
 grd ((0:Int)<=x_at/\x_at<((List.length v1:Nat):Int)) (some (List.set v1 (Int.toNat x_at) x_w))
noncomputable def bGu:Sg tG:=⟨[.row 3,.i .i64,.i .i64],.one (.row 3),kN⟩
theorem bNf:Sok 186 bGu:=sgx [(42,.r g42)] ⟨s42,trivial⟩ .o kr kr kr
noncomputable def qW (x_b:DBare)(x_kind:Int):Option Int:=
 cond (decide (x_kind=(1:Int)))
  (some x_b.C.Cause)
  (cond (decide (x_kind=(2:Int)))
   (some x_b.C.Bad)
   (cond (decide (x_kind=(3:Int)))
    (some x_b.C.Saved)
    (cond (decide (((List.length x_b.In:Nat):Int)=(0:Int)))
     (some (0:Int))
     (grd ((0:Int)<=(0:Int)/\(0:Int)<((List.length x_b.In:Nat):Int)) (some (List.getD x_b.In (Int.toNat (0:Int)) default))))))
noncomputable def bWc:Sg tG:=⟨[.st 47,.i .i64],.one (.i .i64),qW⟩
theorem bZi:Sok 201 bWc:=sgx [] trivial .o kr kr kr
noncomputable def aNu (x_b:DBare)(v2:List Int)(s3:List Int):Option DBare:=some (DBare.mk (DCore.mk v2 x_b.C.Pc x_b.C.Root x_b.C.Vector x_b.C.Saved x_b.C.SavedUser x_b.C.Cause x_b.C.Bad x_b.C.Timer x_b.C.Waits x_b.C.User x_b.C.On x_b.C.Stopped) x_b.Mem s3 x_b.Out)
noncomputable def tE (x_b:DBare)(x_i:DIns):Option DBare:=
 Option.bind (qW x_b (Int.tmod x_i.N (4:Int))) λv1=>
 Option.bind (kN x_b.C.Regs x_i.A v1) λv2=>
 Option.bind (cond (decide ((Int.tmod x_i.N (4:Int))=(0:Int)))
  (cond (decide ((0:Int)<((List.length x_b.In:Nat):Int)))
   (grd ((0:Int)<=(1:Int)/\(1:Int)<=((List.length x_b.In:Nat):Int)/\((List.length x_b.In:Nat):Int)<=((List.length x_b.In:Nat):Int)) (some (.go (List.take (Int.toNat ((List.length x_b.In:Nat):Int)-Int.toNat (1:Int)) (List.drop (Int.toNat (1:Int)) x_b.In)))))
   (some (.go x_b.In)))
  (some (.go x_b.In))) λj3=>
  JO.run j3 (aNu x_b v2)
noncomputable def bTz:Sg tG:=⟨[.st 47,.st 89],.one (.sb 47),tE⟩
theorem cAo:Sok 200 bTz:=sgx [(201,.r bWc),(186,.r bGu)] ⟨bZi,bNf,trivial⟩ (.s .o (.s .o (.s .o (.j ⟨[2,4],[],[(.c 2 14,.rb 3)]⟩ .o .o)))) kr kr kr
noncomputable def hT  (s1:Int×Int×Int×Bool×(List Int)×(List Int)×Int×Int×Bool×Int×Int×Bool×Bool×Bool×(List Int)×(List Int)):Option DBare:=
 Option.bind (fN (DBare.mk (DCore.mk s1.2.2.2.2.2.1 s1.2.2.2.2.2.2.1 s1.1 s1.2.1 s1.2.2.2.2.2.2.2.1 s1.2.2.2.2.2.2.2.2.1 s1.2.2.2.2.2.2.2.2.2.1 s1.2.2.2.2.2.2.2.2.2.2.1 s1.2.2.1 s1.2.2.2.2.2.2.2.2.2.2.2.1 s1.2.2.2.2.2.2.2.2.2.2.2.2.1 s1.2.2.2.1 s1.2.2.2.2.2.2.2.2.2.2.2.2.2.1) s1.2.2.2.2.2.2.2.2.2.2.2.2.2.2.1 s1.2.2.2.2.2.2.2.2.2.2.2.2.2.2.2 s1.2.2.2.2.1)) λv2=>
 some v2
noncomputable def nR (x_b:DBare)(x_i:DIns):Option DBare:=
 grd ((0:Int)<=x_i.A/\x_i.A<((List.length x_b.C.Regs:Nat):Int)) (Option.bind (cond (decide (x_i.Op=(0:Int)))
  (some (.out (DBare.mk (DCore.mk x_b.C.Regs x_b.C.Pc x_b.C.Root x_b.C.Vector x_b.C.Saved x_b.C.SavedUser x_b.C.Cause x_b.C.Bad x_b.C.Timer x_b.C.Waits x_b.C.User x_b.C.On true) x_b.Mem x_b.In x_b.Out)))
  (cond (decide (x_i.Op=(11:Int)))
   (Option.bind (aCp x_b.C) λv3=>
   some (.out (DBare.mk v3 x_b.Mem x_b.In x_b.Out)))
   (cond (decide (x_i.Op=(8:Int)))
    (Option.bind (pL (List.getD x_b.C.Regs (Int.toNat x_i.A) default)) λv4=>
    some (.go (v4,x_b.C.Vector,x_b.C.Timer,x_b.C.On,x_b.Out,x_b.C.Regs,x_b.C.Pc,x_b.C.Saved,x_b.C.SavedUser,x_b.C.Cause,x_b.C.Bad,x_b.C.Waits,x_b.C.User,x_b.C.Stopped,x_b.Mem,x_b.In)))
    (cond (decide (x_i.Op=(9:Int)))
     (some (.go (x_b.C.Root,Int.tmod (List.getD x_b.C.Regs (Int.toNat x_i.A) default) (64:Int),x_b.C.Timer,x_b.C.On,x_b.Out,x_b.C.Regs,x_b.C.Pc,x_b.C.Saved,x_b.C.SavedUser,x_b.C.Cause,x_b.C.Bad,x_b.C.Waits,x_b.C.User,x_b.C.Stopped,x_b.Mem,x_b.In)))
     (cond (decide (x_i.Op=(10:Int)))
      (some (.go (x_b.C.Root,x_b.C.Vector,List.getD x_b.C.Regs (Int.toNat x_i.A) default,x_b.C.On,x_b.Out,x_b.C.Regs,x_b.C.Pc,x_b.C.Saved,x_b.C.SavedUser,x_b.C.Cause,x_b.C.Bad,x_b.C.Waits,x_b.C.User,x_b.C.Stopped,x_b.Mem,x_b.In)))
      (cond (decide (x_i.Op=(12:Int)))
       (some (.go (x_b.C.Root,x_b.C.Vector,x_b.C.Timer,decide ((Int.tmod x_i.N (2:Int))=(1:Int)),x_b.Out,x_b.C.Regs,x_b.C.Pc,x_b.C.Saved,x_b.C.SavedUser,x_b.C.Cause,x_b.C.Bad,x_b.C.Waits,x_b.C.User,x_b.C.Stopped,x_b.Mem,x_b.In)))
       (cond (decide (x_i.Op=(13:Int)))
        (Option.bind (rA x_b.Out (List.getD x_b.C.Regs (Int.toNat x_i.A) default)) λv5=>
        some (.go (x_b.C.Root,x_b.C.Vector,x_b.C.Timer,x_b.C.On,v5,x_b.C.Regs,x_b.C.Pc,x_b.C.Saved,x_b.C.SavedUser,x_b.C.Cause,x_b.C.Bad,x_b.C.Waits,x_b.C.User,x_b.C.Stopped,x_b.Mem,x_b.In)))
        (cond (decide (x_i.Op=(14:Int)))
         (Option.bind (tE x_b x_i) λv6=>
         some (.go (v6.C.Root,v6.C.Vector,v6.C.Timer,v6.C.On,v6.Out,v6.C.Regs,v6.C.Pc,v6.C.Saved,v6.C.SavedUser,v6.C.Cause,v6.C.Bad,v6.C.Waits,v6.C.User,v6.C.Stopped,v6.Mem,v6.In)))
         (some (.go (x_b.C.Root,x_b.C.Vector,x_b.C.Timer,x_b.C.On,x_b.Out,x_b.C.Regs,x_b.C.Pc,x_b.C.Saved,x_b.C.SavedUser,x_b.C.Cause,x_b.C.Bad,x_b.C.Waits,x_b.C.User,x_b.C.Stopped,x_b.Mem,x_b.In))))))))))) λj1=>
  JO.run j1 hT)
noncomputable def bXf:Sg tG:=⟨[.st 47,.st 89],.one (.sb 47),nR⟩
theorem bZa:Sok 185 bXf:=sgx [(197,.r bWs),(198,.r bXe),(199,.r bTo),(200,.r bTz),(183,.r aTn)] ⟨bZb,bZv,bZh,cAo,aYy,trivial⟩ (.s .o (.s .o (.j ⟨[2,4],[],[(.c 2 2,.i .i64),(.c 2 3,.i .i64),(.c 2 8,.i .i64),(.c 2 11,.b),(.c 2 15,.rb 3),(.c 2 0,.rb 3),(.c 2 1,.i .i64),(.c 2 4,.i .i64),(.c 2 5,.b),(.c 2 6,.i .i64),(.c 2 7,.i .i64),(.c 2 9,.b),(.c 2 10,.b),(.c 2 12,.b),(.c 2 13,.rb 3),(.c 2 14,.rb 3)]⟩ .o .o))) kr kr kr
noncomputable def aKq (x_c:DCore)(s1:Int×Int×Int×Bool×Bool×Int×(List Int)×(List Int)×(List Int)):Option (DCore×(List Int)×(List Int)):=some ((DCore.mk s1.2.2.2.2.2.2.2.2 s1.2.2.2.2.2.1 s1.1 s1.2.1 x_c.Saved x_c.SavedUser x_c.Cause x_c.Bad s1.2.2.1 x_c.Waits s1.2.2.2.1 s1.2.2.2.2.1 x_c.Stopped),s1.2.2.2.2.2.2.2.1,s1.2.2.2.2.2.2.1)
noncomputable def aJk (x_c:DCore)(x_out:List Int)(x_i:DIns)(s2:(List Int)×Int):Option (JO (Int×Int×Int×Bool×Bool×Int×(List Int)×(List Int)×(List Int)) (DCore×(List Int)×(List Int))):=grd ((0:Int)<=x_i.A/\x_i.A<((List.length x_c.Regs:Nat):Int)) (some (.go (x_c.Root,x_c.Vector,x_c.Timer,x_c.User,x_c.On,Int.tmod (w64 (x_c.Pc+(1:Int))) (64:Int),x_out,s2.1,List.set x_c.Regs (Int.toNat x_i.A) s2.2)))
noncomputable def aCs (x_c:DCore)(x_in:List Int)(x_out:List Int)(x_i:DIns):Option (DCore×(List Int)×(List Int)):=
 Option.bind (cond (decide (x_i.Op=(0:Int)))
  (some (.out ((DCore.mk x_c.Regs x_c.Pc x_c.Root x_c.Vector x_c.Saved x_c.SavedUser x_c.Cause x_c.Bad x_c.Timer x_c.Waits x_c.User x_c.On true),x_in,x_out)))
  (cond (decide (x_i.Op=(8:Int)))
   (grd ((0:Int)<=x_i.A/\x_i.A<((List.length x_c.Regs:Nat):Int)) (cond (decide ((Int.tmod (List.getD x_c.Regs (Int.toNat x_i.A) default) (16:Int))<(8:Int)))
    (grd ((0:Int)<=x_i.A/\x_i.A<((List.length x_c.Regs:Nat):Int)) (some (.go ((Int.tmod (List.getD x_c.Regs (Int.toNat x_i.A) default) (16:Int)),x_c.Vector,x_c.Timer,x_c.User,x_c.On,Int.tmod (w64 (x_c.Pc+(1:Int))) (64:Int),x_out,x_in,x_c.Regs))))
    (some (.go ((-1:Int),x_c.Vector,x_c.Timer,x_c.User,x_c.On,Int.tmod (w64 (x_c.Pc+(1:Int))) (64:Int),x_out,x_in,x_c.Regs)))))
   (cond (decide (x_i.Op=(9:Int)))
    (grd ((0:Int)<=x_i.A/\x_i.A<((List.length x_c.Regs:Nat):Int)) (some (.go (x_c.Root,Int.tmod (List.getD x_c.Regs (Int.toNat x_i.A) default) (64:Int),x_c.Timer,x_c.User,x_c.On,Int.tmod (w64 (x_c.Pc+(1:Int))) (64:Int),x_out,x_in,x_c.Regs))))
    (cond (decide (x_i.Op=(10:Int)))
     (grd ((0:Int)<=x_i.A/\x_i.A<((List.length x_c.Regs:Nat):Int)) (some (.go (x_c.Root,x_c.Vector,List.getD x_c.Regs (Int.toNat x_i.A) default,x_c.User,x_c.On,Int.tmod (w64 (x_c.Pc+(1:Int))) (64:Int),x_out,x_in,x_c.Regs))))
     (cond (decide (x_i.Op=(11:Int)))
      (some (.go (x_c.Root,x_c.Vector,x_c.Timer,x_c.SavedUser,true,x_c.Saved,x_out,x_in,x_c.Regs)))
      (cond (decide (x_i.Op=(12:Int)))
       (some (.go (x_c.Root,x_c.Vector,x_c.Timer,x_c.User,decide ((Int.tmod x_i.N (2:Int))=(1:Int)),Int.tmod (w64 (x_c.Pc+(1:Int))) (64:Int),x_out,x_in,x_c.Regs)))
       (cond (decide (x_i.Op=(13:Int)))
        (cond (decide (((List.length x_out:Nat):Int)<(30:Int)))
         (grd ((0:Int)<=x_i.A/\x_i.A<((List.length x_c.Regs:Nat):Int)) (grd ((List.length x_out+List.length ([List.getD x_c.Regs (Int.toNat x_i.A) default]:List Int))*8<=2^47/\List.length x_out+List.length ([List.getD x_c.Regs (Int.toNat x_i.A) default]:List Int)<=2^47) (some (.go (x_c.Root,x_c.Vector,x_c.Timer,x_c.User,x_c.On,Int.tmod (w64 (x_c.Pc+(1:Int))) (64:Int),x_out++([List.getD x_c.Regs (Int.toNat x_i.A) default]:List Int),x_in,x_c.Regs)))))
         (some (.go (x_c.Root,x_c.Vector,x_c.Timer,x_c.User,x_c.On,Int.tmod (w64 (x_c.Pc+(1:Int))) (64:Int),x_out,x_in,x_c.Regs))))
        (cond (decide (x_i.Op=(14:Int)))
         (grd ((0:Int)<=(Int.tmod x_i.N (4:Int))/\(Int.tmod x_i.N (4:Int))<((4:Nat):Int)) (Option.bind (cond (decide ((Int.tmod x_i.N (4:Int))=(0:Int)))
          (cond (decide ((0:Int)<((List.length x_in:Nat):Int)))
           (grd ((0:Int)<=(0:Int)/\(0:Int)<((List.length x_in:Nat):Int)) (grd ((0:Int)<=(1:Int)/\(1:Int)<=((List.length x_in:Nat):Int)/\((List.length x_in:Nat):Int)<=((List.length x_in:Nat):Int)) (some (.go ((List.take (Int.toNat ((List.length x_in:Nat):Int)-Int.toNat (1:Int)) (List.drop (Int.toNat (1:Int)) x_in)),List.getD x_in (Int.toNat (0:Int)) default)))))
           (some (.go (x_in,List.getD ([(0:Int),x_c.Cause,x_c.Bad,x_c.Saved]:List Int) (Int.toNat (Int.tmod x_i.N (4:Int))) default))))
          (some (.go (x_in,List.getD ([(0:Int),x_c.Cause,x_c.Bad,x_c.Saved]:List Int) (Int.toNat (Int.tmod x_i.N (4:Int))) default)))) λj2=>
          JO.run j2 (aJk x_c x_out x_i)))
         (some (.go (x_c.Root,x_c.Vector,x_c.Timer,x_c.User,x_c.On,Int.tmod (w64 (x_c.Pc+(1:Int))) (64:Int),x_out,x_in,x_c.Regs))))))))))) λj1=>
  JO.run j1 (aKq x_c)
noncomputable def bTd:Sw tG:=⟨[.os 35,.v (.row 3),.ow 3,.v (.st 89)],.three (.st 35) (.rb 3) (.row 3),aCs⟩
theorem bZd:Sjk 121 bTd:=sgy [] trivial (.s .o (.s .o (.j ⟨[4,8],[],[(.c 4 2,.i .i64),(.c 4 3,.i .i64),(.c 4 8,.i .i64),(.c 4 10,.b),(.c 4 11,.b),(.s 11,.i .i64),(.s 2,.ro 3),(.s 1,.rb 3),(.c 4 0,.ro 3)]⟩ (.s .o (.k (.s .o (.c .o (.s .o (.c .o (.s .o (.c .o (.s .o (.c .o (.s .o (.c .o (.s .o (.c .o (.s .o (.c .o (.s .o (.c (.s .o (.j ⟨[2,4,7,8,11],[],[(.s 1,.rb 3),(.s 12,.i .i64)]⟩ .o .o)) .o)))))))))))))))))) .o))) kr kr kr
noncomputable def cM (x_h:DHost)(x_g:Int)(x_b:DBare):Option DHost:=
 Option.bind (dA x_h) λv1=>
 Option.bind (gS x_b) λv2=>
 grd ((0:Int)<=x_g/\x_g<((List.length v1.Guests:Nat):Int)) (grd ((0:Int)<=x_g/\x_g<((List.length v1.Guests:Nat):Int)) (grd ((0:Int)<=x_g/\x_g<((List.length v1.Guests:Nat):Int)) (some (DHost.mk v1.Words (let z0:=List.set v1.Guests (Int.toNat x_g) (DGuest.mk (List.getD v1.Guests (Int.toNat x_g) default).Live v2.C (List.getD v1.Guests (Int.toNat x_g) default).Pages (List.getD v1.Guests (Int.toNat x_g) default).In (List.getD v1.Guests (Int.toNat x_g) default).Out);let z1:=List.set z0 (Int.toNat x_g) (DGuest.mk (List.getD z0 (Int.toNat x_g) default).Live (DCore.mk ((List.getD z0 (Int.toNat x_g) default).C).Regs ((List.getD z0 (Int.toNat x_g) default).C).Pc ((List.getD z0 (Int.toNat x_g) default).C).Root ((List.getD z0 (Int.toNat x_g) default).C).Vector ((List.getD z0 (Int.toNat x_g) default).C).Saved ((List.getD z0 (Int.toNat x_g) default).C).SavedUser ((List.getD z0 (Int.toNat x_g) default).C).Cause ((List.getD z0 (Int.toNat x_g) default).C).Bad ((List.getD z0 (Int.toNat x_g) default).C).Timer ((List.getD z0 (Int.toNat x_g) default).C).Waits ((List.getD z0 (Int.toNat x_g) default).C).User ((List.getD z0 (Int.toNat x_g) default).C).On ((List.getD z0 (Int.toNat x_g) default).C).Stopped) (List.getD z0 (Int.toNat x_g) default).Pages v2.In (List.getD z0 (Int.toNat x_g) default).Out);List.set z1 (Int.toNat x_g) (DGuest.mk (List.getD z1 (Int.toNat x_g) default).Live (DCore.mk ((List.getD z1 (Int.toNat x_g) default).C).Regs ((List.getD z1 (Int.toNat x_g) default).C).Pc ((List.getD z1 (Int.toNat x_g) default).C).Root ((List.getD z1 (Int.toNat x_g) default).C).Vector ((List.getD z1 (Int.toNat x_g) default).C).Saved ((List.getD z1 (Int.toNat x_g) default).C).SavedUser ((List.getD z1 (Int.toNat x_g) default).C).Cause ((List.getD z1 (Int.toNat x_g) default).C).Bad ((List.getD z1 (Int.toNat x_g) default).C).Timer ((List.getD z1 (Int.toNat x_g) default).C).Waits ((List.getD z1 (Int.toNat x_g) default).C).User ((List.getD z1 (Int.toNat x_g) default).C).On ((List.getD z1 (Int.toNat x_g) default).C).Stopped) (List.getD z1 (Int.toNat x_g) default).Pages (List.getD z1 (Int.toNat x_g) default).In v2.Out))))))
noncomputable def aXy:Sg tG:=⟨[.st 26,.i .i64,.st 47],.one (.st 2026),cM⟩
theorem bIf:Sok 110 aXy:=sgx [(51,.r g51),(74,.r g74)] ⟨s51,s74,trivial⟩ (.s .o (.s .o (.s .o (.s (.g [] [] [.fo (.c 7 1) 0]) (.s (.g [] [] [.fo (.c 7 1) 0]) (.s (.g [] [] [.fo (.c 7 1) 0]) .o)))))) kr kr kr
noncomputable def nN (x_h:DHost)(x_g:Int):Option DBare:=grd ((0:Int)<=x_g/\x_g<((List.length x_h.Guests:Nat):Int)) (some (DBare.mk (DCore.mk ((List.getD x_h.Guests (Int.toNat x_g) default).C).Regs ((List.getD x_h.Guests (Int.toNat x_g) default).C).Pc ((List.getD x_h.Guests (Int.toNat x_g) default).C).Root ((List.getD x_h.Guests (Int.toNat x_g) default).C).Vector ((List.getD x_h.Guests (Int.toNat x_g) default).C).Saved ((List.getD x_h.Guests (Int.toNat x_g) default).C).SavedUser ((List.getD x_h.Guests (Int.toNat x_g) default).C).Cause ((List.getD x_h.Guests (Int.toNat x_g) default).C).Bad ((List.getD x_h.Guests (Int.toNat x_g) default).C).Timer ((List.getD x_h.Guests (Int.toNat x_g) default).C).Waits ((List.getD x_h.Guests (Int.toNat x_g) default).C).User ((List.getD x_h.Guests (Int.toNat x_g) default).C).On ((List.getD x_h.Guests (Int.toNat x_g) default).C).Stopped) ([]:List Int) (List.getD x_h.Guests (Int.toNat x_g) default).In (List.getD x_h.Guests (Int.toNat x_g) default).Out))
noncomputable def bVp:Sg tG:=⟨[.st 26,.i .i64],.one (.sb 47),nN⟩
theorem bZn:Sok 106 bVp:=sgx [] trivial .o kr kr kr
noncomputable def mB (x_h:DHost)(x_g:Int)(x_i:DIns):Option (DHost×Bool):=
 Option.bind (eS x_h x_g) λv1=>
 cond (!v1)
  (some ((DHost.mk ([]:List Int) ([]:List DGuest)),false))
  (Option.bind (fQ x_i) λv2=>
  cond (!v2)
   (some ((DHost.mk ([]:List Int) ([]:List DGuest)),false))
   (Option.bind (dY x_h) λv3=>
   grd ((0:Int)<=x_g/\x_g<((List.length v3.Guests:Nat):Int)) (Option.bind (aCs (DCore.mk ((List.getD v3.Guests (Int.toNat x_g) default).C).Regs ((List.getD v3.Guests (Int.toNat x_g) default).C).Pc ((List.getD v3.Guests (Int.toNat x_g) default).C).Root ((List.getD v3.Guests (Int.toNat x_g) default).C).Vector ((List.getD v3.Guests (Int.toNat x_g) default).C).Saved ((List.getD v3.Guests (Int.toNat x_g) default).C).SavedUser ((List.getD v3.Guests (Int.toNat x_g) default).C).Cause ((List.getD v3.Guests (Int.toNat x_g) default).C).Bad ((List.getD v3.Guests (Int.toNat x_g) default).C).Timer ((List.getD v3.Guests (Int.toNat x_g) default).C).Waits ((List.getD v3.Guests (Int.toNat x_g) default).C).User ((List.getD v3.Guests (Int.toNat x_g) default).C).On ((List.getD v3.Guests (Int.toNat x_g) default).C).Stopped) (List.getD v3.Guests (Int.toNat x_g) default).In (List.getD v3.Guests (Int.toNat x_g) default).Out x_i) λv4=>
    grd ((0:Int)<=x_g/\x_g<((List.length v3.Guests:Nat):Int)) (grd ((Int.toNat x_g)=(Int.toNat x_g)) (grd ((Int.toNat x_g)=(Int.toNat x_g)) (grd ((Int.toNat x_g)=(Int.toNat x_g)) (grd ((Int.toNat x_g)=(Int.toNat x_g)) (some ((DHost.mk v3.Words (List.set v3.Guests (Int.toNat x_g) (DGuest.mk (List.getD v3.Guests (Int.toNat x_g) default).Live v4.1 (List.getD v3.Guests (Int.toNat x_g) default).Pages v4.2.1 v4.2.2))),true)))))))))
noncomputable def g72:Sg tG:=⟨[.st 26,.i .i64,.st 89],.two (.sb 26) .b,mB⟩
theorem s72:Sok 72 g72:=sgx [(58,.r g58),(71,.r g71),(48,.r g48),(121,.w bTd)] ⟨s58,s71,s48,bZd,trivial⟩ (.s .o (.s .o (.s .o (.s .o (.s (.g [.uf (.c 9 1) 0 1,.uf (.c 9 15) 0 15,.uf (.c 9 16) 0 16,.fr (.c 9 15) 0] [] []) (.s (.g [.uf (.c 9 14) 0 14] [] []) .o)))))) kr kr kr
theorem vI{x_h:DHost}{x_g:Int}{x_i:DIns}{R_:DHost×Bool}(hh:mB x_h x_g x_i=some R_):Fn Tryz.prog 72 [.agg (fH x_h),.int .i64 x_g,.agg (dX x_i)] (.tup [.agg [bo (eI .i64) R_.1.Words,bo dO R_.1.Guests],.bool R_.2]):=kc (s72 x_h x_g x_i R_ hh)
noncomputable def mX (x_c:DCore)(x_cause:Int)(x_bad:Int)(x_saved:Int):Option DCore:=some (DCore.mk x_c.Regs x_c.Vector x_c.Root x_c.Vector x_saved x_c.User x_cause x_bad x_c.Timer x_c.Waits false false x_c.Stopped)
noncomputable def aZf:Sg tG:=⟨[.st 35,.i .i64,.i .i64,.i .i64],.one (.sb 35),mX⟩
theorem bFv:Sok 150 aZf:=sgx [] trivial .o kr kr kr
noncomputable def fG (x_b:DBare)(x_a:Int)(x_w:Int):Option DBare:=
 Option.bind (kN x_b.C.Regs x_a x_w) λv1=>
 Option.bind (fN (DBare.mk (DCore.mk v1 x_b.C.Pc x_b.C.Root x_b.C.Vector x_b.C.Saved x_b.C.SavedUser x_b.C.Cause x_b.C.Bad x_b.C.Timer x_b.C.Waits x_b.C.User x_b.C.On x_b.C.Stopped) x_b.Mem x_b.In x_b.Out)) λv2=>
 some v2
noncomputable def bGw:Sg tG:=⟨[.st 47,.i .i64,.i .i64],.one (.sb 47),fG⟩
theorem bNb:Sok 182 bGw:=sgx [(186,.r bGu),(183,.r aTn)] ⟨bNf,aYy,trivial⟩ (.s .o (.s .o (.s (.g [.fr (.c 3 0) 0] [] []) .o))) kr kr kr
noncomputable def aOa (x_b:DBare)(x_i:DIns)(s1:Unit):Option DBare:=some (DBare.mk (DCore.mk x_b.C.Regs x_i.N x_b.C.Root x_b.C.Vector x_b.C.Saved x_b.C.SavedUser x_b.C.Cause x_b.C.Bad x_b.C.Timer x_b.C.Waits x_b.C.User x_b.C.On x_b.C.Stopped) x_b.Mem x_b.In x_b.Out)
noncomputable def tD (x_b:DBare)(x_i:DIns):Option DBare:=
 Option.bind (cond (decide (x_i.Op=(6:Int)))
  (grd ((0:Int)<=x_i.A/\x_i.A<((List.length x_b.C.Regs:Nat):Int)) (cond (decide ((List.getD x_b.C.Regs (Int.toNat x_i.A) default)=(0:Int)))
   (Option.bind (fN x_b) λv2=>
   some (.out v2))
   (some (.go ()))))
  (some (.go ()))) λj1=>
  JO.run j1 (aOa x_b x_i)
noncomputable def bWw:Sg tG:=⟨[.st 47,.st 89],.one (.sb 47),tD⟩
theorem cAg:Sok 195 bWw:=sgx [(183,.r aTn)] ⟨aYy,trivial⟩ (.s .o (.j ⟨[2,3,4],[],[]⟩ .o .o)) kr kr kr
noncomputable def rY (x_regs:List Int)(x_i:DIns):Option Int:=
 grd ((0:Int)<=(Int.tmod x_i.N (4:Int))/\(Int.tmod x_i.N (4:Int))<((List.length x_regs:Nat):Int)) (cond (decide (x_i.Op=(2:Int)))
  (grd ((0:Int)<=x_i.A/\x_i.A<((List.length x_regs:Nat):Int)) (some (Int.tmod (w64 ((List.getD x_regs (Int.toNat x_i.A) default)+(List.getD x_regs (Int.toNat (Int.tmod x_i.N (4:Int))) default))) (4096:Int))))
  (cond (decide (x_i.Op=(15:Int)))
   (grd ((0:Int)<=x_i.A/\x_i.A<((List.length x_regs:Nat):Int)) (some (Int.tmod (w64 ((w64 ((List.getD x_regs (Int.toNat x_i.A) default)-(List.getD x_regs (Int.toNat (Int.tmod x_i.N (4:Int))) default)))+(4096:Int))) (4096:Int))))
   (some x_i.N)))
noncomputable def bXn:Sg tG:=⟨[.row 3,.st 89],.one (.i .i64),rY⟩
theorem bYz:Sok 196 bXn:=sgx [] trivial .o kr kr kr
noncomputable def yD (x_b:DBare)(x_i:DIns)(s3:Bool):Option DBare:=
 cond s3
  (Option.bind (tD x_b x_i) λv4=>
  some v4)
  (Option.bind (rY x_b.C.Regs x_i) λv5=>
  Option.bind (fG x_b x_i.A v5) λv6=>
  some v6)
noncomputable def rR (x_b:DBare)(x_i:DIns):Option DBare:=
 cond (decide (x_i.Op=(7:Int)))
  (Option.bind (kT x_b.C.Pc) λv1=>
  Option.bind (mX x_b.C (1:Int) (0:Int) v1) λv2=>
  some (DBare.mk v2 x_b.Mem x_b.In x_b.Out))
  (Option.bind (cond (decide (x_i.Op=(5:Int)))
   (some (.go (decide (x_i.Op=(5:Int)))))
   (some (.go (decide (x_i.Op=(6:Int)))))) λj3=>
   JO.run j3 (yD x_b x_i))
noncomputable def bTs:Sg tG:=⟨[.st 47,.st 89],.one (.sb 47),rR⟩
theorem bYs:Sok 184 bTs:=sgx [(194,.r bPw),(150,.r aZf),(195,.r bWw),(196,.r bXn),(182,.r bGw)] ⟨bTr,bFv,cAg,bYz,bNb,trivial⟩ (.s .o (.s (.s .o (.k (.s .o (.c .o (.j ⟨[2,3,4],[],[(.s 18,.b)]⟩ .o .o))))) .o)) kr kr kr
noncomputable def kQ (x_b:DBare)(x_i:DIns):Option DBare:=
 Option.bind (kR x_i) λv1=>
 cond (!v1)
  (Option.bind (rR x_b x_i) λv2=>
  some v2)
  (cond x_b.C.User
   (Option.bind (mX x_b.C (3:Int) (0:Int) x_b.C.Pc) λv3=>
   some (DBare.mk v3 x_b.Mem x_b.In x_b.Out))
   (Option.bind (nR x_b x_i) λv4=>
   some v4))
noncomputable def bNz:Sg tG:=⟨[.st 47,.st 89],.one (.sb 47),kQ⟩
theorem bUp:Sok 155 bNz:=sgx [(178,.r bNy),(184,.r bTs),(150,.r aZf),(185,.r bXf)] ⟨bVi,bYs,bFv,bZa,trivial⟩ .o kr kr kr
noncomputable def aMn (x_c:DCore)(s1:(List Int)×Int):Option DCore:=some (DCore.mk s1.1 s1.2 x_c.Root x_c.Vector x_c.Saved x_c.SavedUser x_c.Cause x_c.Bad x_c.Timer x_c.Waits x_c.User x_c.On x_c.Stopped)
noncomputable def qV (x_c:DCore)(x_i:DIns):Option DCore:=
 Option.bind (cond (decide (x_i.Op=(1:Int)))
  (grd ((0:Int)<=x_i.A/\x_i.A<((List.length x_c.Regs:Nat):Int)) (some (.go ((List.set x_c.Regs (Int.toNat x_i.A) x_i.N),Int.tmod (w64 (x_c.Pc+(1:Int))) (64:Int)))))
  (cond (decide (x_i.Op=(2:Int)))
   (grd ((0:Int)<=x_i.A/\x_i.A<((List.length x_c.Regs:Nat):Int)) (grd ((0:Int)<=(Int.tmod x_i.N (4:Int))/\(Int.tmod x_i.N (4:Int))<((List.length x_c.Regs:Nat):Int)) (grd ((0:Int)<=x_i.A/\x_i.A<((List.length x_c.Regs:Nat):Int)) (some (.go ((List.set x_c.Regs (Int.toNat x_i.A) (Int.tmod (w64 ((List.getD x_c.Regs (Int.toNat x_i.A) default)+(List.getD x_c.Regs (Int.toNat (Int.tmod x_i.N (4:Int))) default))) (4096:Int))),Int.tmod (w64 (x_c.Pc+(1:Int))) (64:Int)))))))
   (cond (decide (x_i.Op=(15:Int)))
    (grd ((0:Int)<=x_i.A/\x_i.A<((List.length x_c.Regs:Nat):Int)) (grd ((0:Int)<=(Int.tmod x_i.N (4:Int))/\(Int.tmod x_i.N (4:Int))<((List.length x_c.Regs:Nat):Int)) (grd ((0:Int)<=x_i.A/\x_i.A<((List.length x_c.Regs:Nat):Int)) (some (.go ((List.set x_c.Regs (Int.toNat x_i.A) (Int.tmod (w64 ((w64 ((List.getD x_c.Regs (Int.toNat x_i.A) default)+(4096:Int)))-(List.getD x_c.Regs (Int.toNat (Int.tmod x_i.N (4:Int))) default))) (4096:Int))),Int.tmod (w64 (x_c.Pc+(1:Int))) (64:Int)))))))
    (cond (decide (x_i.Op=(5:Int)))
     (some (.go (x_c.Regs,x_i.N)))
     (cond (decide (x_i.Op=(6:Int)))
      (grd ((0:Int)<=x_i.A/\x_i.A<((List.length x_c.Regs:Nat):Int)) (cond (!decide ((List.getD x_c.Regs (Int.toNat x_i.A) default)=(0:Int)))
       (some (.go (x_c.Regs,x_i.N)))
       (some (.go (x_c.Regs,Int.tmod (w64 (x_c.Pc+(1:Int))) (64:Int))))))
      (cond (decide (x_i.Op=(7:Int)))
       (Option.bind (jG x_c (Int.tmod (w64 (x_c.Pc+(1:Int))) (64:Int)) (1:Int) (0:Int)) λv2=>
       some (.out v2))
       (some (.go (x_c.Regs,Int.tmod (w64 (x_c.Pc+(1:Int))) (64:Int)))))))))) λj1=>
  JO.run j1 (aMn x_c)
noncomputable def g73:Sw tG:=⟨[.os 35,.v (.st 89)],.one (.st 35),qV⟩
theorem s73:Sjk 73 g73:=sgy [(69,.w g69)] ⟨s69,trivial⟩ (.s .o (.s .o (.j ⟨[2,4],[],[(.c 2 0,.ro 3),(.s 5,.i .i64)]⟩ .o .o))) kr kr kr
theorem aBw{x_c:DCore}{x_i:DIns}{R_:DCore}(hh:qV x_c x_i=some R_):Inl Tryz.prog 73 [.agg [.sref 0 [] 0 (List.length x_c.Regs) 1,.int .i64 x_c.Pc,.int .i64 x_c.Root,.int .i64 x_c.Vector,.int .i64 x_c.Saved,.bool x_c.SavedUser,.int .i64 x_c.Cause,.int .i64 x_c.Bad,.int .i64 x_c.Timer,.bool x_c.Waits,.bool x_c.User,.bool x_c.On,.bool x_c.Stopped],.agg (dX x_i)] [(0,some (rI_3 x_c.Regs))] 1 (.agg [.sref 1 [] 0 (List.length R_.Regs) 1,.int .i64 R_.Pc,.int .i64 R_.Root,.int .i64 R_.Vector,.int .i64 R_.Saved,.bool R_.SavedUser,.int .i64 R_.Cause,.int .i64 R_.Bad,.int .i64 R_.Timer,.bool R_.Waits,.bool R_.User,.bool R_.On,.bool R_.Stopped]) [(1,some (rI_3 R_.Regs))] 2:=kc (s73 x_c x_i R_ hh)
noncomputable def lW (x_c:DCore):Option DCore:=
 Option.bind (mX (DCore.mk x_c.Regs x_c.Pc x_c.Root x_c.Vector x_c.Saved x_c.SavedUser x_c.Cause x_c.Bad x_c.Timer false x_c.User x_c.On x_c.Stopped) (4:Int) (0:Int) x_c.Pc) λv1=>
 some v1
noncomputable def bMi:Sg tG:=⟨[.st 35],.one (.sb 35),lW⟩
theorem bWb:Sok 109 bMi:=sgx [(150,.r aZf)] ⟨bFv,trivial⟩ .o kr kr kr
noncomputable def fY (x_b:DBare)(x_addr:Int):Option DBare:=
 Option.bind (mX x_b.C (2:Int) x_addr x_b.C.Pc) λv1=>
 some (DBare.mk v1 x_b.Mem x_b.In x_b.Out)
noncomputable def aNz:Sg tG:=⟨[.st 47,.i .i64],.one (.sb 47),fY⟩
theorem aSr:Sok 112 aNz:=sgx [(150,.r aZf)] ⟨bFv,trivial⟩ .o kr kr kr
noncomputable def aHs (x_b:DBare)(x_i:DIns):Option DBare:=
 Option.bind (cX x_b.C x_i) λv1=>
 Option.bind (wP x_b.Mem x_b.C.Root v1 x_b.C.User false) λv2=>
 cond (decide (v2=(-1:Int)))
  (Option.bind (fY x_b v1) λv3=>
  some v3)
  (grd ((0:Int)<=v2/\v2<((List.length x_b.Mem:Nat):Int)) (Option.bind (fG x_b x_i.A (List.getD x_b.Mem (Int.toNat v2) default)) λv4=>
   some v4))
noncomputable def bVm:Sg tG:=⟨[.st 47,.st 89],.one (.sb 47),aHs⟩
theorem bZp:Sok 161 bVm:=sgx [(179,.r aSm),(126,.r bHn),(112,.r aNz),(182,.r bGw)] ⟨aXs,bMg,aSr,bNb,trivial⟩ .o kr kr kr
noncomputable def aHq (x_b:DBare)(x_i:DIns):Option DBare:=
 Option.bind (cX x_b.C x_i) λv1=>
 Option.bind (wP x_b.Mem x_b.C.Root v1 x_b.C.User true) λv2=>
 cond (decide (v2=(-1:Int)))
  (Option.bind (fY x_b v1) λv3=>
  some v3)
  (grd ((0:Int)<=x_i.A/\x_i.A<((List.length x_b.C.Regs:Nat):Int)) (Option.bind (kN x_b.Mem v2 (List.getD x_b.C.Regs (Int.toNat x_i.A) default)) λv4=>
   Option.bind (fN (DBare.mk x_b.C v4 x_b.In x_b.Out)) λv5=>
   some v5))
noncomputable def bVl:Sg tG:=⟨[.st 47,.st 89],.one (.sb 47),aHq⟩
theorem cAh:Sok 162 bVl:=sgx [(179,.r aSm),(126,.r bHn),(112,.r aNz),(186,.r bGu),(183,.r aTn)] ⟨aXs,bMg,aSr,bNf,aYy,trivial⟩ (.s .o (.s .o (.s .o (.s .o (.s .o (.s (.g [.fr (.c 2 13) 0] [] []) .o)))))) kr kr kr
noncomputable def aRy (x_b:DBare)(x_i:DIns):Option DBare:=
 cond (decide (x_i.Op=(3:Int)))
  (Option.bind (aHs x_b x_i) λv1=>
  some v1)
  (cond (decide (x_i.Op=(4:Int)))
   (Option.bind (aHq x_b x_i) λv2=>
   some v2)
   (Option.bind (kQ x_b x_i) λv3=>
   some v3))
noncomputable def bXg:Sg tG:=⟨[.st 47,.st 89],.one (.sb 47),aRy⟩
theorem cAc:Sok 127 bXg:=sgx [(161,.r bVm),(162,.r bVl),(155,.r bNz)] ⟨bZp,cAh,bUp,trivial⟩ .o kr kr kr
noncomputable def aDo (x_b:DBare):Option DBare:=
 cond x_b.C.Stopped
  (some x_b)
  (Option.bind (gW x_b.C) λv1=>
  Option.bind (eX v1) λv2=>
  cond v2
   (Option.bind (lW v1) λv3=>
   some (DBare.mk v3 x_b.Mem x_b.In x_b.Out))
   (Option.bind (wP x_b.Mem v1.Root v1.Pc v1.User false) λv4=>
   cond (decide (v4=(-1:Int)))
    (Option.bind (fY (DBare.mk v1 x_b.Mem x_b.In x_b.Out) v1.Pc) λv5=>
    some v5)
    (grd ((0:Int)<=v4/\v4<((List.length x_b.Mem:Nat):Int)) (Option.bind (kI (List.getD x_b.Mem (Int.toNat v4) default)) λv6=>
     Option.bind (aRy (DBare.mk (DCore.mk v1.Regs v1.Pc v1.Root v1.Vector v1.Saved v1.SavedUser v1.Cause v1.Bad v1.Timer v1.Waits v1.User v1.On v1.Stopped) x_b.Mem x_b.In x_b.Out) v6) λv7=>
     some v7))))
noncomputable def g78:Sg tG:=⟨[.st 47],.one (.sb 47),aDo⟩
theorem s78:Sok 78 g78:=sgx [(107,.r bFj),(108,.r bGd),(109,.r bMi),(126,.r bHn),(112,.r aNz),(114,.r bFt),(127,.r bXg)] ⟨bQc,bOi,bWb,bMg,aSr,bMu,cAc,trivial⟩ .o kr kr kr
noncomputable def aQt (x_b:DBare):Option DBare:=
 Option.bind (aHz x_b) λv1=>
 cond (!v1)
  (some (DBare.mk (DCore.mk ([]:List Int) (0:Int) (0:Int) (0:Int) (0:Int) false (0:Int) (0:Int) (0:Int) false false false false) ([]:List Int) ([]:List Int) ([]:List Int)))
  (Option.bind (aDo x_b) λv2=>
  Option.bind (gS v2) λv3=>
  some v3)
noncomputable def g24:Sg tG:=⟨[.st 47],.one (.st 47),aQt⟩
theorem s24:Sok 24 g24:=sgx [(77,.r g77),(78,.r g78),(74,.r g74)] ⟨s77,s78,s74,trivial⟩ .o kr kr kr
noncomputable def fC (x_e:DExit):Option Bool:=
 cond (decide (x_e.Why=(2:Int)))
  (some true)
  (some (decide (x_e.Why=(3:Int))))
noncomputable def bWd:Sg tG:=⟨[.st 129],.one .b,fC⟩
theorem bZf:Sok 104 bWd:=sgx [] trivial .o kr kr kr
noncomputable def jD (x_h:DHost)(x_g:Int)(x_e:DExit):Option (DHost×Bool):=
 cond (decide (x_e.Why=(2:Int)))
  (Option.bind (pF x_h x_g x_e.Page) λv1=>
  some (v1.1,v1.2))
  (Option.bind (pR x_h x_g x_e.Page) λv2=>
  some (v2.1,v2.2))
noncomputable def bUd:Sg tG:=⟨[.st 26,.i .i64,.st 129],.two (.st 2026) .b,jD⟩
theorem cAj:Sok 105 bUd:=sgx [(148,.r bUi),(149,.r bVh)] ⟨bYv,bZz,trivial⟩ .o kr kr kr
noncomputable def aMd  (s2:(List Int)×(List DGuest)):Option (DHost×Bool):=some ((DHost.mk s2.1 s2.2),true)
noncomputable def cZ (x_g:Int)(s3:(List Int)×(List DGuest)×Int×Int×Int×Int×Int×Int):Option (LO ((List Int)×(List DGuest)×Int×Int×Int×Int×Int×Int) (JO ((List Int)×(List DGuest)) (DHost×Bool))):=
 cond (decide (s3.2.2.2.2.2.2.2<(8:Int)))
  (Option.bind (fC (DExit.mk s3.2.2.1 s3.2.2.2.1 (DIns.mk s3.2.2.2.2.1 s3.2.2.2.2.2.1 s3.2.2.2.2.2.2.1))) λv4=>
  cond v4
   (Option.bind (jD (DHost.mk s3.1 s3.2.1) x_g (DExit.mk s3.2.2.1 s3.2.2.2.1 (DIns.mk s3.2.2.2.2.1 s3.2.2.2.2.2.1 s3.2.2.2.2.2.2.1))) λv5=>
   cond (!v5.2)
    (some (.ret (.out ((DHost.mk ([]:List Int) ([]:List DGuest)),false))))
    (Option.bind (oP v5.1 x_g) λv6=>
    some (.next (v5.1.Words,v5.1.Guests,v6.Why,v6.Page,v6.What.Op,v6.What.A,v6.What.N,w64 (s3.2.2.2.2.2.2.2+(1:Int))))))
   (some (.ret (.go (s3.1,s3.2.1)))))
  (some (.ret (.go (s3.1,s3.2.1))))
noncomputable def rP (x_h:DHost)(x_g:Int):Option (DHost×Bool):=
 Option.bind (oP x_h x_g) λv1=>
 Option.bind (Option.bind (iter (cZ x_g) (x_h.Words,x_h.Guests,v1.Why,v1.Page,v1.What.Op,v1.What.A,v1.What.N,(0:Int))) LO.val) λj2=>
  JO.run j2 aMd
noncomputable def g63:Sg tG:=⟨[.st 26,.i .i64],.two (.sb 26) .b,rP⟩
theorem s63:Sok 63 g63:=sgx [(103,.r bVe),(104,.r bWd),(105,.r bUd)] ⟨cAs,bZf,cAj,trivial⟩ (.s .o (.s .o (.j ⟨[2,4],[],[(.c 2 0,.rb 3),(.c 2 1,.rb 38)]⟩ (.s .o (.k (.l ⟨[1,2,4,6],[],[(.c 2 0,.rb 3),(.c 2 1,.rb 38),(.c 6 0,.i .i64),(.c 6 1,.i .i64),(.c 6 2,.i .i64),(.c 6 3,.i .i64),(.c 6 4,.i .i64),(.s 7,.i .i64)]⟩ (.s .o (.s (.k (.s .o (.s .o (.s .o (.g [.fr (.c 2 0) 0,.fr (.c 2 1) 0] [] []))))) .o))))) .o))) kr kr kr
noncomputable def rE (x_h:DHost)(x_g:Int)(x_b:DBare)(x_i:DIns):Option DHost:=
 Option.bind (cX x_b.C x_i) λv1=>
 Option.bind (dS x_h x_g v1 false) λv2=>
 cond (!decide (v2.2=(0:Int)))
  (Option.bind (fY x_b v1) λv3=>
  Option.bind (cM x_h x_g v3) λv4=>
  some v4)
  (grd ((0:Int)<=v2.1/\v2.1<((List.length x_h.Words:Nat):Int)) (Option.bind (fG x_b x_i.A (List.getD x_h.Words (Int.toNat v2.1) default)) λv5=>
   Option.bind (cM x_h x_g v5) λv6=>
   some v6))
noncomputable def bUf:Sg tG:=⟨[.st 26,.i .i64,.st 47,.st 89],.one (.st 2026),rE⟩
theorem cAa:Sok 153 bUf:=sgx [(179,.r aSm),(111,.r aTg),(112,.r aNz),(110,.r aXy),(182,.r bGw)] ⟨aXs,aYh,aSr,bIf,bNb,trivial⟩ .o kr kr kr
noncomputable def pN (x_h:DHost)(x_g:Int)(x_b:DBare)(x_i:DIns):Option DHost:=
 Option.bind (cX x_b.C x_i) λv1=>
 Option.bind (dS x_h x_g v1 true) λv2=>
 cond (!decide (v2.2=(0:Int)))
  (Option.bind (fY x_b v1) λv3=>
  Option.bind (cM x_h x_g v3) λv4=>
  some v4)
  (Option.bind (fN x_b) λv5=>
  Option.bind (cM x_h x_g v5) λv6=>
  grd ((0:Int)<=x_i.A/\x_i.A<((List.length x_b.C.Regs:Nat):Int)) (grd ((0:Int)<=v2.1/\v2.1<((List.length v6.Words:Nat):Int)) (grd ((0:Int)<=x_g/\x_g<((List.length v6.Guests:Nat):Int)) (Option.bind (gT x_h x_g v1) λv7=>
   grd ((0:Int)<=v7.Page/\v7.Page<((List.length (List.getD v6.Guests (Int.toNat x_g) default).Pages:Nat):Int)) (some (DHost.mk (List.set v6.Words (Int.toNat v2.1) (List.getD x_b.C.Regs (Int.toNat x_i.A) default)) (List.set v6.Guests (Int.toNat x_g) (DGuest.mk (List.getD v6.Guests (Int.toNat x_g) default).Live (DCore.mk ((List.getD v6.Guests (Int.toNat x_g) default).C).Regs ((List.getD v6.Guests (Int.toNat x_g) default).C).Pc ((List.getD v6.Guests (Int.toNat x_g) default).C).Root ((List.getD v6.Guests (Int.toNat x_g) default).C).Vector ((List.getD v6.Guests (Int.toNat x_g) default).C).Saved ((List.getD v6.Guests (Int.toNat x_g) default).C).SavedUser ((List.getD v6.Guests (Int.toNat x_g) default).C).Cause ((List.getD v6.Guests (Int.toNat x_g) default).C).Bad ((List.getD v6.Guests (Int.toNat x_g) default).C).Timer ((List.getD v6.Guests (Int.toNat x_g) default).C).Waits ((List.getD v6.Guests (Int.toNat x_g) default).C).User ((List.getD v6.Guests (Int.toNat x_g) default).C).On ((List.getD v6.Guests (Int.toNat x_g) default).C).Stopped) (List.set (List.getD v6.Guests (Int.toNat x_g) default).Pages (Int.toNat v7.Page) (DSlot.mk (List.getD (List.getD v6.Guests (Int.toNat x_g) default).Pages (Int.toNat v7.Page) default).Frame (List.getD (List.getD v6.Guests (Int.toNat x_g) default).Pages (Int.toNat v7.Page) default).Write true)) (List.getD v6.Guests (Int.toNat x_g) default).In (List.getD v6.Guests (Int.toNat x_g) default).Out))))))))
noncomputable def bVf:Sg tG:=⟨[.st 26,.i .i64,.st 47,.st 89],.one (.st 2026),pN⟩
theorem cAe:Sok 154 bVf:=sgx [(179,.r aSm),(111,.r aTg),(112,.r aNz),(110,.r aXy),(183,.r aTn),(152,.r bIa)] ⟨aXs,aYh,aSr,bIf,aYy,bMs,trivial⟩ .o kr kr kr
noncomputable def oN (x_h:DHost)(x_g:Int)(x_b:DBare)(x_i:DIns):Option DHost:=
 cond (decide (x_i.Op=(3:Int)))
  (Option.bind (rE x_h x_g x_b x_i) λv1=>
  some v1)
  (cond (decide (x_i.Op=(4:Int)))
   (Option.bind (pN x_h x_g x_b x_i) λv2=>
   some v2)
   (Option.bind (kQ x_b x_i) λv3=>
   Option.bind (cM x_h x_g v3) λv4=>
   some v4))
noncomputable def bWy:Sg tG:=⟨[.st 26,.i .i64,.st 47,.st 89],.one (.st 2026),oN⟩
theorem cAq:Sok 113 bWy:=sgx [(153,.r bUf),(154,.r bVf),(155,.r bNz),(110,.r aXy)] ⟨cAa,cAe,bUp,bIf,trivial⟩ .o kr kr kr
noncomputable def yX (x_h:DHost)(x_g:Int):Option DHost:=
 Option.bind (nN x_h x_g) λv1=>
 cond v1.C.Stopped
  (Option.bind (dA x_h) λv2=>
  some v2)
  (Option.bind (gW v1.C) λv3=>
  Option.bind (eX v3) λv4=>
  cond v4
   (Option.bind (lW v3) λv5=>
   Option.bind (cM x_h x_g (DBare.mk v5 v1.Mem v1.In v1.Out)) λv6=>
   some v6)
   (Option.bind (dS x_h x_g v3.Pc false) λv7=>
   cond (!decide (v7.2=(0:Int)))
    (Option.bind (fY (DBare.mk v3 v1.Mem v1.In v1.Out) v3.Pc) λv8=>
    Option.bind (cM x_h x_g v8) λv9=>
    some v9)
    (grd ((0:Int)<=v7.1/\v7.1<((List.length x_h.Words:Nat):Int)) (Option.bind (kI (List.getD x_h.Words (Int.toNat v7.1) default)) λv10=>
     Option.bind (oN x_h x_g (DBare.mk (DCore.mk v3.Regs v3.Pc v3.Root v3.Vector v3.Saved v3.SavedUser v3.Cause v3.Bad v3.Timer v3.Waits v3.User v3.On v3.Stopped) v1.Mem v1.In v1.Out) v10) λv11=>
     some v11))))
noncomputable def g64:Sg tG:=⟨[.st 26,.i .i64],.one (.st 2026),yX⟩
theorem s64:Sok 64 g64:=sgx [(106,.r bVp),(51,.r g51),(107,.r bFj),(108,.r bGd),(109,.r bMi),(110,.r aXy),(111,.r aTg),(112,.r aNz),(114,.r bFt),(113,.r bWy)] ⟨bZn,s51,bQc,bOi,bWb,bIf,aYh,aSr,bMu,cAq,trivial⟩ .o kr kr kr
noncomputable def pD (x_h:DHost)(x_g:Int):Option (DHost×Bool):=
 Option.bind (gF x_h x_g) λv1=>
 cond (!v1)
  (some ((DHost.mk ([]:List Int) ([]:List DGuest)),false))
  (Option.bind (rP x_h x_g) λv2=>
  cond (!v2.2)
   (Option.bind (dA x_h) λv3=>
   some (v3,false))
   (Option.bind (yX v2.1 x_g) λv4=>
   some (v4,true)))
noncomputable def g20:Sg tG:=⟨[.st 26,.i .i64],.two (.st 2026) .b,pD⟩
theorem s20:Sok 20 g20:=sgx [(62,.r g62),(63,.r g63),(51,.r g51),(64,.r g64)] ⟨s62,s63,s51,s64,trivial⟩ .o kr kr kr
noncomputable def aMc  (s1:(List Int)×(List DGuest)):Option (DHost×Bool):=some ((DHost.mk s1.1 s1.2),true)
noncomputable def aMe (s2:(List Int)×(List DGuest)×Int)(s4:(List Int)×(List DGuest)×Bool):Option (LO ((List Int)×(List DGuest)×Int) (JO ((List Int)×(List DGuest)) (DHost×Bool))):=
 cond (!s4.2.2)
  (some (.ret (.out ((DHost.mk s4.1 s4.2.1),false))))
  (some (.next (s4.1,s4.2.1,w64 (s2.2.2+(1:Int)))))
noncomputable def aMb (x_g:Int)(s2:(List Int)×(List DGuest)×Int):Option (LO ((List Int)×(List DGuest)×Int) (JO ((List Int)×(List DGuest)) (DHost×Bool))):=
 cond (decide (s2.2.2<(4:Int)))
  (Option.bind (aAd (DHost.mk s2.1 s2.2.1) x_g) λv3=>
  Option.bind (cond (decide (v3.Why=(2:Int)))
   (Option.bind (aCr (DHost.mk s2.1 s2.2.1) x_g v3.Page) λv5=>
   some (.go (v5.1.Words,v5.1.Guests,v5.2)))
   (cond (decide (v3.Why=(3:Int)))
    (Option.bind (aCd (DHost.mk s2.1 s2.2.1) x_g v3.Page) λv6=>
    some (.go (v6.1.Words,v6.1.Guests,v6.2)))
    (some (.out (.ret (.out ((DHost.mk s2.1 s2.2.1),true))))))) λj4=>
   JO.run j4 (aMe s2))
  (some (.ret (.go (s2.1,s2.2.1))))
noncomputable def wE (x_h:DHost)(x_g:Int):Option (DHost×Bool):=
 Option.bind (Option.bind (iter (aMb x_g) (x_h.Words,x_h.Guests,(0:Int))) LO.val) λj1=>
  JO.run j1 aMc
noncomputable def g65:Sw tG:=⟨[.os 2026,.v (.i .i64)],.two (.st 2026) .b,wE⟩
theorem s65:Sjk 65 g65:=sgy [(115,.r bXj),(116,.r bXr),(117,.r bUv)] ⟨bYr,bYo,bZq,trivial⟩ (.s .o (.j ⟨[2,4],[],[(.c 2 0,.ro 3),(.c 2 1,.ro 1038)]⟩ (.s .o (.k (.l ⟨[1,2,4],[],[(.c 2 0,.ro 3),(.c 2 1,.ro 1038),(.s 6,.i .i64)]⟩ (.s .o (.s (.k (.s .o (.s .o (.j ⟨[1,2,4,6],[],[(.c 2 0,.ro 3),(.c 2 1,.ro 1038),(.s 8,.b)]⟩ .o .o)))) .o))))) .o)) kr kr kr
theorem aQw{x_h:DHost}{x_g:Int}{R_:DHost×Bool}(hh:wE x_h x_g=some R_):Inl Tryz.prog 65 [.agg [.sref 0 [] 0 (List.length x_h.Words) 1,.sref 1 [] 0 (List.length x_h.Guests) 17],.int .i64 x_g] [(1,some (rO38 x_h.Guests)),(0,some (rI_3 x_h.Words))] 2 (.tup [.agg [.sref 2 [] 0 (List.length R_.1.Words) 1,.sref 3 [] 0 (List.length R_.1.Guests) 17],.bool R_.2]) [(3,some (rO38 R_.1.Guests)),(2,some (rI_3 R_.1.Words))] 4:=kc (s65 x_h x_g R_ hh)
theorem aMa:LW 21 ⟨214,[.cell 4 true 2,.tmp 5],.seq (.reg false (rg 21 0)) (.seq (.seq (.reg false (rg 21 1)) (.cond (.t 21) (.seq (.reg false (rg 21 2)) .ret) .skip)) (.seq (.reg false (rg 21 3)) (.seq (.seq (.reg false (rg 21 4)) (.cond (.t 31) (.seq (.reg false (rg 21 5)) .ret) .skip)) (.seq (.reg false (rg 21 6)) (.seq (.seq (.reg false (rg 21 7)) (.cond (.t 41) (.seq (.reg false (rg 21 8)) .ret) .skip)) (.seq (.reg false (rg 21 9)) (.seq (.reg false (rg 21 10)) (.seq (.seq (.reg false (rg 21 11)) (.cond (.t 55) (.seq (.reg false (rg 21 12)) .ret) .skip)) (.seq (.reg false (rg 21 13)) (.seq (.reg false (rg 21 14)) (.seq (.seq (.reg false (rg 21 15)) (.cond (.t 70) (.seq (.regd (rg 21 16) (rg 21 17)) (.seq (.reg false (rg 21 18)) .ret)) .skip)) (.seq (.reg false (rg 21 19)) (.seq (.block 0 (.seq (.reg false (rg 21 20)) (.cond (.t 89) (.seq (.regd (rg 21 21) (rg 21 22)) (.seq (.reg false (rg 21 23)) .ret)) (.seq (.reg false (rg 21 24)) (.cond (.t 106) (.seq (.reg false (rg 21 25)) .ret) (.seq (.reg false (rg 21 26)) (.cond (.t 115) (.seq (.regd (rg 21 27) (rg 21 28)) (.seq (.reg false (rg 21 29)) .ret)) .skip))))))) (.seq (.reg false (rg 21 30)) (.seq (.reg false (rg 21 31)) (.seq (.seq (.reg false (rg 21 32)) (.cond (.t 153) (.seq (.regd (rg 21 33) (rg 21 34)) (.seq (.reg false (rg 21 35)) .ret)) .skip)) (.seq (.seq (.reg false (rg 21 36)) (.cond (.t 167) (.regt (rg 21 37) (rg 21 38)) (.seq (.regt (rg 21 39) (rg 21 40)) (.regt (rg 21 41) (rg 21 42))))) (.seq (.reg false (rg 21 43)) (.seq (.reg false (rg 21 44)) (.seq (.reg false (rg 21 45)) .ret))))))))))))))))))))⟩:=kr
noncomputable def oZ (x_g:Int)(v5:DCore×Bool)(s13:(List Int)×(List DGuest)):Option (DHost×Bool):=grd ((0:Int)<=x_g/\x_g<((List.length s13.2:Nat):Int)) (grd ((0:Int)<=x_g/\x_g<((List.length s13.2:Nat):Int)) (grd ((Int.toNat x_g)=(Int.toNat x_g)) (some ((DHost.mk s13.1 (List.set s13.2 (Int.toNat x_g) (DGuest.mk (List.getD s13.2 (Int.toNat x_g) default).Live (DCore.mk ((List.getD s13.2 (Int.toNat x_g) default).C).Regs (Int.tmod (w64 (v5.1.Pc+(1:Int))) (64:Int)) v5.1.Root v5.1.Vector v5.1.Saved v5.1.SavedUser v5.1.Cause v5.1.Bad v5.1.Timer v5.1.Waits v5.1.User v5.1.On v5.1.Stopped) (List.getD s13.2 (Int.toNat x_g) default).Pages (List.getD s13.2 (Int.toNat x_g) default).In (List.getD s13.2 (Int.toNat x_g) default).Out))),true))))
noncomputable def oW (x_g:Int)(v3:DHost×Bool)(v5:DCore×Bool)(v6:List DShade)(v9:DIns)(s10:Unit):Option (DHost×Bool):=
 grd ((0:Int)<=(Int.tmod v9.N (4:Int))/\(Int.tmod v9.N (4:Int))<((List.length v5.1.Regs:Nat):Int)) (Option.bind (eA v6 (Int.tmod (List.getD v5.1.Regs (Int.toNat (Int.tmod v9.N (4:Int))) default) (64:Int)) v5.1.User (decide (v9.Op=(4:Int)))) λv11=>
  cond (decide (v11.1<(0:Int)))
   (Option.bind (jG v5.1 v5.1.Pc (2:Int) (Int.tmod (List.getD v5.1.Regs (Int.toNat (Int.tmod v9.N (4:Int))) default) (64:Int))) λv12=>
   grd ((0:Int)<=x_g/\x_g<((List.length v3.1.Guests:Nat):Int)) (grd ((Int.toNat x_g)=(Int.toNat x_g)) (some ((DHost.mk v3.1.Words (List.set v3.1.Guests (Int.toNat x_g) (DGuest.mk (List.getD v3.1.Guests (Int.toNat x_g) default).Live v12 (List.getD v3.1.Guests (Int.toNat x_g) default).Pages (List.getD v3.1.Guests (Int.toNat x_g) default).In (List.getD v3.1.Guests (Int.toNat x_g) default).Out))),true))))
   (Option.bind (cond (decide (v9.Op=(3:Int)))
    (grd ((0:Int)<=v11.1/\v11.1<((List.length v3.1.Words:Nat):Int)) (grd ((0:Int)<=v9.A/\v9.A<((List.length v5.1.Regs:Nat):Int)) (some (.go (v3.1.Words,List.set v3.1.Guests (Int.toNat x_g) (DGuest.mk (List.getD v3.1.Guests (Int.toNat x_g) default).Live (DCore.mk (List.set v5.1.Regs (Int.toNat v9.A) (List.getD v3.1.Words (Int.toNat v11.1) default)) v5.1.Pc v5.1.Root v5.1.Vector v5.1.Saved v5.1.SavedUser v5.1.Cause v5.1.Bad v5.1.Timer v5.1.Waits v5.1.User v5.1.On v5.1.Stopped) (List.getD v3.1.Guests (Int.toNat x_g) default).Pages (List.getD v3.1.Guests (Int.toNat x_g) default).In (List.getD v3.1.Guests (Int.toNat x_g) default).Out))))))
    (grd ((0:Int)<=v9.A/\v9.A<((List.length v5.1.Regs:Nat):Int)) (grd ((0:Int)<=v11.1/\v11.1<((List.length v3.1.Words:Nat):Int)) (grd ((0:Int)<=x_g/\x_g<((List.length v3.1.Guests:Nat):Int)) (grd ((0:Int)<=(w64 (Int.tdiv (Int.tmod (List.getD v5.1.Regs (Int.toNat (Int.tmod v9.N (4:Int))) default) (64:Int)) (8:Int)))/\(w64 (Int.tdiv (Int.tmod (List.getD v5.1.Regs (Int.toNat (Int.tmod v9.N (4:Int))) default) (64:Int)) (8:Int)))<((List.length v6:Nat):Int)) (grd ((0:Int)<=(List.getD v6 (Int.toNat (w64 (Int.tdiv (Int.tmod (List.getD v5.1.Regs (Int.toNat (Int.tmod v9.N (4:Int))) default) (64:Int)) (8:Int)))) default).Page/\(List.getD v6 (Int.toNat (w64 (Int.tdiv (Int.tmod (List.getD v5.1.Regs (Int.toNat (Int.tmod v9.N (4:Int))) default) (64:Int)) (8:Int)))) default).Page<((List.length (List.getD v3.1.Guests (Int.toNat x_g) default).Pages:Nat):Int)) (some (.go ((List.set v3.1.Words (Int.toNat v11.1) (List.getD v5.1.Regs (Int.toNat v9.A) default)),List.set v3.1.Guests (Int.toNat x_g) (DGuest.mk (List.getD v3.1.Guests (Int.toNat x_g) default).Live v5.1 (List.set (List.getD v3.1.Guests (Int.toNat x_g) default).Pages (Int.toNat (List.getD v6 (Int.toNat (w64 (Int.tdiv (Int.tmod (List.getD v5.1.Regs (Int.toNat (Int.tmod v9.N (4:Int))) default) (64:Int)) (8:Int)))) default).Page) (DSlot.mk (List.getD (List.getD v3.1.Guests (Int.toNat x_g) default).Pages (Int.toNat (List.getD v6 (Int.toNat (w64 (Int.tdiv (Int.tmod (List.getD v5.1.Regs (Int.toNat (Int.tmod v9.N (4:Int))) default) (64:Int)) (8:Int)))) default).Page) default).Frame (List.getD (List.getD v3.1.Guests (Int.toNat x_g) default).Pages (Int.toNat (List.getD v6 (Int.toNat (w64 (Int.tdiv (Int.tmod (List.getD v5.1.Regs (Int.toNat (Int.tmod v9.N (4:Int))) default) (64:Int)) (8:Int)))) default).Page) default).Write true)) (List.getD v3.1.Guests (Int.toNat x_g) default).In (List.getD v3.1.Guests (Int.toNat x_g) default).Out)))))))))) λj13=>
    JO.run j13 (oZ x_g v5)))
noncomputable def vG (x_h:DHost)(x_g:Int):Option (DHost×Bool):=
 Option.bind (eS x_h x_g) λv1=>
 cond (!v1)
  (some ((DHost.mk ([]:List Int) ([]:List DGuest)),false))
  (Option.bind (dY x_h) λv2=>
  Option.bind (wE v2 x_g) λv3=>
  cond (!v3.2)
   (Option.bind (dY x_h) λv4=>
   some (v4,false))
   (grd ((0:Int)<=x_g/\x_g<((List.length v3.1.Guests:Nat):Int)) (cond ((List.getD v3.1.Guests (Int.toNat x_g) default).C).Stopped
    (some (v3.1,true))
    (Option.bind (pS (DCore.mk ((List.getD v3.1.Guests (Int.toNat x_g) default).C).Regs ((List.getD v3.1.Guests (Int.toNat x_g) default).C).Pc ((List.getD v3.1.Guests (Int.toNat x_g) default).C).Root ((List.getD v3.1.Guests (Int.toNat x_g) default).C).Vector ((List.getD v3.1.Guests (Int.toNat x_g) default).C).Saved ((List.getD v3.1.Guests (Int.toNat x_g) default).C).SavedUser ((List.getD v3.1.Guests (Int.toNat x_g) default).C).Cause ((List.getD v3.1.Guests (Int.toNat x_g) default).C).Bad ((List.getD v3.1.Guests (Int.toNat x_g) default).C).Timer ((List.getD v3.1.Guests (Int.toNat x_g) default).C).Waits ((List.getD v3.1.Guests (Int.toNat x_g) default).C).User ((List.getD v3.1.Guests (Int.toNat x_g) default).C).On ((List.getD v3.1.Guests (Int.toNat x_g) default).C).Stopped)) λv5=>
    grd ((0:Int)<=x_g/\x_g<((List.length v3.1.Guests:Nat):Int)) (grd ((Int.toNat x_g)=(Int.toNat x_g)) (cond v5.2
     (some ((DHost.mk v3.1.Words (List.set v3.1.Guests (Int.toNat x_g) (DGuest.mk (List.getD v3.1.Guests (Int.toNat x_g) default).Live v5.1 (List.getD v3.1.Guests (Int.toNat x_g) default).Pages (List.getD v3.1.Guests (Int.toNat x_g) default).In (List.getD v3.1.Guests (Int.toNat x_g) default).Out))),true))
     (Option.bind (mI (DHost.mk v3.1.Words (List.set v3.1.Guests (Int.toNat x_g) (DGuest.mk (List.getD v3.1.Guests (Int.toNat x_g) default).Live v5.1 (List.getD v3.1.Guests (Int.toNat x_g) default).Pages (List.getD v3.1.Guests (Int.toNat x_g) default).In (List.getD v3.1.Guests (Int.toNat x_g) default).Out))) x_g) λv6=>
     Option.bind (eA v6 v5.1.Pc v5.1.User false) λv7=>
     cond (decide (v7.1<(0:Int)))
      (Option.bind (jG v5.1 v5.1.Pc (2:Int) v5.1.Pc) λv8=>
      grd ((0:Int)<=x_g/\x_g<((List.length v3.1.Guests:Nat):Int)) (grd ((Int.toNat x_g)=(Int.toNat x_g)) (some ((DHost.mk v3.1.Words (List.set v3.1.Guests (Int.toNat x_g) (DGuest.mk (List.getD v3.1.Guests (Int.toNat x_g) default).Live v8 (List.getD v3.1.Guests (Int.toNat x_g) default).Pages (List.getD v3.1.Guests (Int.toNat x_g) default).In (List.getD v3.1.Guests (Int.toNat x_g) default).Out))),true))))
      (grd ((0:Int)<=v7.1/\v7.1<((List.length v3.1.Words:Nat):Int)) (Option.bind (rV (List.getD v3.1.Words (Int.toNat v7.1) default)) λv9=>
       Option.bind (Option.bind (fQ v9) λv14=>
        cond v14
         (cond v5.1.User
          (Option.bind (jG v5.1 v5.1.Pc (3:Int) (0:Int)) λv15=>
          grd ((0:Int)<=x_g/\x_g<((List.length v3.1.Guests:Nat):Int)) (grd ((Int.toNat x_g)=(Int.toNat x_g)) (some (.out ((DHost.mk v3.1.Words (List.set v3.1.Guests (Int.toNat x_g) (DGuest.mk (List.getD v3.1.Guests (Int.toNat x_g) default).Live v15 (List.getD v3.1.Guests (Int.toNat x_g) default).Pages (List.getD v3.1.Guests (Int.toNat x_g) default).In (List.getD v3.1.Guests (Int.toNat x_g) default).Out))),true)))))
          (Option.bind (fQ v9) λv16=>
          cond v16
           (Option.bind (mB (DHost.mk v3.1.Words (List.set v3.1.Guests (Int.toNat x_g) (DGuest.mk (List.getD v3.1.Guests (Int.toNat x_g) default).Live v5.1 (List.getD v3.1.Guests (Int.toNat x_g) default).Pages (List.getD v3.1.Guests (Int.toNat x_g) default).In (List.getD v3.1.Guests (Int.toNat x_g) default).Out))) x_g v9) λv17=>
           some (.out (v17.1,v17.2)))
           (cond (!decide (v9.Op=(3:Int)))
            (cond (!decide (v9.Op=(4:Int)))
             (Option.bind (qV v5.1 v9) λv18=>
             grd ((0:Int)<=x_g/\x_g<((List.length v3.1.Guests:Nat):Int)) (grd ((Int.toNat x_g)=(Int.toNat x_g)) (some (.out ((DHost.mk v3.1.Words (List.set v3.1.Guests (Int.toNat x_g) (DGuest.mk (List.getD v3.1.Guests (Int.toNat x_g) default).Live v18 (List.getD v3.1.Guests (Int.toNat x_g) default).Pages (List.getD v3.1.Guests (Int.toNat x_g) default).In (List.getD v3.1.Guests (Int.toNat x_g) default).Out))),true)))))
             (some (.go ())))
            (some (.go ())))))
         (Option.bind (fQ v9) λv19=>
         cond v19
          (Option.bind (mB (DHost.mk v3.1.Words (List.set v3.1.Guests (Int.toNat x_g) (DGuest.mk (List.getD v3.1.Guests (Int.toNat x_g) default).Live v5.1 (List.getD v3.1.Guests (Int.toNat x_g) default).Pages (List.getD v3.1.Guests (Int.toNat x_g) default).In (List.getD v3.1.Guests (Int.toNat x_g) default).Out))) x_g v9) λv20=>
          some (.out (v20.1,v20.2)))
          (cond (!decide (v9.Op=(3:Int)))
           (cond (!decide (v9.Op=(4:Int)))
            (Option.bind (qV v5.1 v9) λv21=>
            grd ((0:Int)<=x_g/\x_g<((List.length v3.1.Guests:Nat):Int)) (grd ((Int.toNat x_g)=(Int.toNat x_g)) (some (.out ((DHost.mk v3.1.Words (List.set v3.1.Guests (Int.toNat x_g) (DGuest.mk (List.getD v3.1.Guests (Int.toNat x_g) default).Live v21 (List.getD v3.1.Guests (Int.toNat x_g) default).Pages (List.getD v3.1.Guests (Int.toNat x_g) default).In (List.getD v3.1.Guests (Int.toNat x_g) default).Out))),true)))))
            (some (.go ())))
           (some (.go ()))))) λj10=>
        JO.run j10 (oW x_g v3 v5 v6 v9))))))))))
theorem aOw{x_h:DHost}{x_g:Int}{R_:DHost×Bool}(hh:vG x_h x_g=some R_):Fn Tryz.prog 21 [.agg (fH x_h),.int .i64 x_g] (.tup [.agg [bo (eI .i64) R_.1.Words,bo dO R_.1.Guests],.bool R_.2]):=by let z35:EH:=(0,some (rB26 x_h));let z36:EH:=(0,some ⟨26,[.nil,.nil]⟩);let z37:=(1,ii x_g);let z38:EH:=(1,some ⟨26,[.nil,.nil]⟩);let z39:EV:=(100,.ptr 10 [] 1);let z40:EV:=(124,.ptr 6 [] 1);let z41:=(126,ii x_g);let z42:EV:=(130,.ptr 11 [] (0+(Int.toNat x_g)*17));let z43:EV:=(131,.ptr 11 [] (0+(Int.toNat x_g)*17+1));let z44:EH:=(14,none);let z45:=(14,pp 13);let z46:=(14,pp 6);let z47:EV:=(188,.ptr 1 [] 1);let z48:=(190,ii x_g);let z49:EV:=(191,.ptr 3 [] (0+(Int.toNat x_g)*17));let z50:EV:=(192,.ptr 3 [] (0+(Int.toNat x_g)*17+14));let z51:=(2,pp 0);let z52:=(4,pp 0);let z53:=(4,pp 1);let z54:=(5,bb true);let z55:=(6,pp 1);let z56:=(6,pp 6);let z57:=(9,pp 10);let z58:=(9,pp 4);unfold vG at hh;refine Fn.start aMa [0,1] (E:=sp 214 [(0,.agg (fH x_h)),z37]) kr (v:= .tup [.agg [bo (eI .i64) R_.1.Words,bo dO R_.1.Guests],bb R_.2]) (Hr:=[]) (k:=0) kr (sy [1,2,4] [0,1] (sp 214 [z37,z51,z53]) [z35,z38] 2 (Aw.seq (Aw.sreg [1,2,4,21] [0,1] (yj 2  (sp 214 [z37,z51,z53,(18,.agg (fH x_h)),(19,ii x_g)]) [z35,z38] 2 ?_))));obtain⟨v1,hv1,hh⟩:=bind_some hh;refine ys (.call 58 [.t 18,.t 19]) (some 20) (lP (r:=bb v1) (v:=bb v1) (Hr:=[]) (n':=2) (aEv hv1) (nT (vs:=[.agg (fH x_h),ii x_g]) kr (dJ (aD (uG (qX _))) (cz1 eK))) rfl rfl kr ?_);refine yt (sp 214 [z37,z51,z53,(21,bb (!v1))]) [z35,z38] 2 ?_;rcases iV hh with⟨hb,hh⟩|⟨hb,hh⟩;{refine cT hb (sy [4,5] [1] (sp 214 [z53,(5,bb false)]) [z38] 2 (Aw.ret (aDx ?_)));rw[aP hh];exact iH (r':= .tup [.agg [.nil,.nil],bb false]) kr (Ent.clov (.tup _ _ (dJ (iA (aE (bFf (T:=Int) (c:=(eI .i64))) (aE (bFf (T:=DGuest) (c:=dO)) fT))) (cz1 eK))))};refine cF hb (Aw.xskip (λ_ _ _ hq=>aBb hq) (Aw.sreg [1,2,4,6,7] [0,1,4,5,6] (yj 1  (sp 214 [z37,z51,z53,(21,bb (!v1)),(24,.agg (fH x_h))]) [z35,z38] 2 ?_)));obtain⟨v2,hv2,hh⟩:=bind_some hh;let q1:Root:=(rO38 v2.Guests);let q2:Root:=(rI_3 v2.Words);refine ys (.call 48 [.t 24]) (some 25) (lP (r:= .agg [.own 3 1 (List.length v2.Words) (fl (eI .i64) v2.Words),.own 38 17 (List.length v2.Guests) (fl bK v2.Guests)]) (v:= .agg [sw 2 v2.Words,.sref 3 [] 0 (List.length v2.Guests) 17]) (Hr:=[(3,some q1),(2,some q2)]) (n':=4) (aDs hv2) (nT (vs:=[.agg (fH x_h)]) kr (dJ (aD (uG (qX _))) eK)) nrr nrr kr ?_);refine yu 1 [(25,.agg [sw 2 v2.Words,.sref 3 [] 0 (List.length v2.Guests) 17]),(26,ii x_g)] [(3,some q1),(2,some q2),z35,z38] 4 ?_;obtain⟨v3,hv3,hh⟩:=bind_some hh;let z59:EV:=(125,.sref 11 [] 0 (List.length v3.1.Guests) 17);let z60:EV:=(155,.sref 3 [] 0 (List.length v3.1.Guests) 17);let z61:=(173,sw 2 v3.1.Words);let z62:EV:=(189,.sref 3 [] 0 (List.length v3.1.Guests) 17);let z63:EV:=(72,.sref 11 [] 0 (List.length v3.1.Guests) 17);let z64:EV:=(97,.sref 11 [] 0 (List.length v3.1.Guests) 17);let z1:=List.getD v3.1.Guests (Int.toNat x_g) default;let z65:EV:=(193,.sref 3 [0+(Int.toNat x_g)*17+14+0] 0 (List.length z1.Pages) 3);let z66:=(41,bb (z1.C).Stopped);let z2:=List.set (fl bK v3.1.Guests) (0+(Int.toNat x_g)*17+1) .unk;let q3:Root:=(rO38 v3.1.Guests);let z67:=(5,some q3);let q4:Root:=(rI_3 v3.1.Words);let z68:=(2,some q4);let z69:=(4,some q4);refine ys (.call 65 [.t 25,.t 26]) (some 27) (cf (.tup [.agg [sw 4 v3.1.Words,.sref 5 [] 0 (List.length v3.1.Guests) 17],bb v3.2]) [z67,z69] 6 [2,3] (aQw hv3) [.agg [sw 2 v2.Words,.sref 3 [] 0 (List.length v2.Guests) 17],ii x_g] rz (hn cH (hn aY aR)) (rQ rz) (hn cH (hn aY aR)) ?_);let q5:Root:=⟨26,[sw 4 v3.1.Words,.sref 5 [] 0 (List.length v3.1.Guests) 17]⟩;let z70:=(6,some q5);refine yt (sp 214 [z37,z51,z53,z56,(7,bb v3.2)]) [z35,z38,z69,z67,z70] 7 (Aw.seq (sy [1,2,4,6,31] [0,1,4,5,6] (sp 214 [z37,z51,z53,z56,(31,bb (!v3.2))]) [z35,z38,z69,z67,z70] 7 ?_));rcases iV hh with⟨hb,hh⟩|⟨hb,hh⟩;{refine cT hb (Aw.sreg [4,5] [1,7,8] (yu 1 [(32,.agg (fH x_h))] [z35,z38,z69,z67,z70] 7 ?_));obtain⟨v4,hv4,hh⟩:=bind_some hh;let q6:Root:=(rO38 v4.Guests);let q7:Root:=(rI_3 v4.Words);refine ys (.call 48 [.t 32]) (some 33) (lP (r:= .agg [.own 3 1 (List.length v4.Words) (fl (eI .i64) v4.Words),.own 38 17 (List.length v4.Guests) (fl bK v4.Guests)]) (v:= .agg [sw 7 v4.Words,.sref 8 [] 0 (List.length v4.Guests) 17]) (Hr:=[(8,some q6),(7,some q7)]) (n':=9) (aDs hv4) (nT (vs:=[.agg (fH x_h)]) kr (dJ (aD (uG (qX _))) eK)) nrr nrr kr ?_);refine yt (sp 214 [z53,(5,bb false)]) [(1,some ⟨26,[sw 7 v4.Words,.sref 8 [] 0 (List.length v4.Guests) 17]⟩),(7,some q7),(8,some q6)] 9 (Aw.ret (aDx ?_));rw[aP hh];exact iH (r':= .tup [.agg [sw 7 v4.Words,.sref 8 [] 0 (List.length v4.Guests) 17],bb false]) kr (Ent.clov (.tup _ _ (dJ (iA (aE (cJ (c:=(eI .i64)) (xs:=v4.Words) (e:=3) eqn bH cE cN kr) (aE (kE (B:=dO) (xs:=v4.Guests) (e:=38) kK aZ eqn kr) fT))) (cz1 eK))))};refine cF hb (Aw.xskip (λ_ _ _ hq=>aBb hq) (Aw.sreg [1,4,6,8] [1,4,5,6,7] ?_));obtain⟨hg109,hh⟩:=aL hh;refine yjc 4 [(0:Int)<=x_g/\x_g<((List.length v3.1.Guests:Nat):Int)] (sp 214 [z37,z51,z53,z56,(31,bb (!v3.2)),(34,.ptr 6 [] 1),(35,.sref 5 [] 0 (List.length v3.1.Guests) 17),(36,ii x_g),(37,.ptr 5 [] (0+(Int.toNat x_g)*17))]) [z35,z38,z69,z67,z70] 7 (.cons hg109 .nil) (ys (.load true 17 (.t 37)) (some 38) (bOd (c:=bK) (xs:=v3.1.Guests) (e:=38) (r:=5) (π:=[]) (o:=0+(Int.toNat x_g)*17) (i:=(Int.toNat x_g)) (off:=0) (v:= .agg [bb z1.Live,.sref 5 [0+(Int.toNat x_g)*17+1] 0 (List.length (z1.C).Regs) 1,ii (z1.C).Pc,ii (z1.C).Root,ii (z1.C).Vector,ii (z1.C).Saved,bb (z1.C).SavedUser,ii (z1.C).Cause,ii (z1.C).Bad,ii (z1.C).Timer,bb (z1.C).Waits,bb (z1.C).User,bb (z1.C).On,bb (z1.C).Stopped,.sref 5 [0+(Int.toNat x_g)*17+14] 0 (List.length z1.Pages) 3,.sref 5 [0+(Int.toNat x_g)*17+15] 0 (List.length z1.In) 1,.sref 5 [0+(Int.toNat x_g)*17+16] 0 (List.length z1.Out) 1]) aZ kr kr ltn ltn dd kr ?_));let q8:Root:=⟨38,[bb z1.Live,.sref 5 [0+(Int.toNat x_g)*17+1] 0 (List.length (z1.C).Regs) 1,ii (z1.C).Pc,ii (z1.C).Root,ii (z1.C).Vector,ii (z1.C).Saved,bb (z1.C).SavedUser,ii (z1.C).Cause,ii (z1.C).Bad,ii (z1.C).Timer,bb (z1.C).Waits,bb (z1.C).User,bb (z1.C).On,bb (z1.C).Stopped,.sref 5 [0+(Int.toNat x_g)*17+14] 0 (List.length z1.Pages) 3,.sref 5 [0+(Int.toNat x_g)*17+15] 0 (List.length z1.In) 1,.sref 5 [0+(Int.toNat x_g)*17+16] 0 (List.length z1.Out) 1]⟩;refine yt (sp 214 [z37,z53,z56,(8,pp 7)]) [z38,z69,z67,z70,(7,some q8)] 8 (Aw.seq (sy [1,4,6,8,41] [1,4,5,6,7] (sp 214 [z37,z53,z56,(8,pp 7),z66]) [z38,z69,z67,z70,(7,some q8)] 8 ?_));rcases iV hh with⟨hb,hh⟩|⟨hb,hh⟩;{refine cT hb (sy [4,5] [1,4,5] (sp 214 [z53,z54]) [(1,some q5),z69,z67] 8 (Aw.ret (aDx ?_)));rw[aP hh];exact iH (r':= .tup [.agg [sw 4 v3.1.Words,.sref 5 [] 0 (List.length v3.1.Guests) 17],bb true]) kr (Ent.clov (.tup _ _ (dJ (iA (aE (cJ (c:=(eI .i64)) (xs:=v3.1.Words) (e:=3) eqn bH cE cN kr) (aE (kE (B:=dO) (xs:=v3.1.Guests) (e:=38) kK aZ eqn kr) fT))) (cz1 eK))))};refine cF hb (Aw.xskip (λ_ _ _ hq=>aBb hq) ?_);let q9:Root:=⟨38,[bb z1.Live,.sref 8 [] 0 (List.length (z1.C).Regs) 1,ii (z1.C).Pc,ii (z1.C).Root,ii (z1.C).Vector,ii (z1.C).Saved,bb (z1.C).SavedUser,ii (z1.C).Cause,ii (z1.C).Bad,ii (z1.C).Timer,bb (z1.C).Waits,bb (z1.C).User,bb (z1.C).On,bb (z1.C).Stopped,.sref 5 [0+(Int.toNat x_g)*17+14] 0 (List.length z1.Pages) 3,.sref 5 [0+(Int.toNat x_g)*17+15] 0 (List.length z1.In) 1,.sref 5 [0+(Int.toNat x_g)*17+16] 0 (List.length z1.Out) 1]⟩;refine Aw.ent (Ent.unfold (R:=5) (j:=0+(Int.toNat x_g)*17+1) (e:=38) (e':=3) (cs:=(fl bK v3.1.Guests)) (ds:=(fl (eI .i64) (z1.C).Regs)) (sz:=1) (k:=(List.length (z1.C).Regs)) (xs2:=sp 214 [z37,z53,z56,(8,pp 7),z66]) (H2:=[z38,z69,z70,(7,some q9)]) kr (aBg (c:=bK) (xs:=v3.1.Guests) (i:=(Int.toNat x_g)) (off:=1) aZ ltn ltn dd rfl kr) (aAu kr (cC (u:=ii x_g) kr (.same _) (cC (u:=pp 1) kr (.same _) (cC (u:=pp 6) kr (.same _) (cC (u:=pp 7) kr (.same _) (cC (u:=bb (z1.C).Stopped) kr (.same _) aFf)))))) (eH (t:=⟨26,[.nil,.nil]⟩) dd kr rfl bW (eH (t:=q4) dd kr rfl bW (eH (t:=q5) dd kr rfl bW (eH (t:=q8) dd kr rfl (aO (.same _) (aO (.sref _ _ _ _ rfl) (aO (.same _) (aO (.same _) (aO (.same _) (aO (.same _) (aO (.same _) (aO (.same _) (aO (.same _) (aO (.same _) (aO (.same _) (aO (.same _) (aO (.same _) (aO (.same _) (aO (.same _) (aO (.same _) (aO (.same _) aGz))))))))))))))))) aPd))))) (Aw.sreg [1,4,6,9,10] [1,4,5,6,9,10] ?_);let q10:Root:=(rI_3 (z1.C).Regs);let q11:Root:=⟨38,z2⟩;refine yj 2  (sp 214 [z37,z53,z56,(8,pp 7),z66,(44,.ptr 7 [] 1),(45,.agg [.sref 8 [] 0 (List.length (z1.C).Regs) 1,ii (z1.C).Pc,ii (z1.C).Root,ii (z1.C).Vector,ii (z1.C).Saved,bb (z1.C).SavedUser,ii (z1.C).Cause,ii (z1.C).Bad,ii (z1.C).Timer,bb (z1.C).Waits,bb (z1.C).User,bb (z1.C).On,bb (z1.C).Stopped])]) [(8,some q10),(5,some q11),z38,z69,z70,(7,some q9)] 9 ?_;obtain⟨v5,hv5,hh⟩:=bind_some hh;let z71:=(10,bb v5.2);let z72:=(101,ii v5.1.Pc);let z73:EV:=(127,.agg (sw 14 v5.1.Regs::cO v5.1 []));let z74:EV:=(157,.agg (sw 7 v5.1.Regs::cO v5.1 []));let z75:=(159,ii v5.1.Pc);let z76:EV:=(169,.sref 3 [0+(Int.toNat x_g)*17+1+0] 0 (List.length v5.1.Regs) 1);let z77:EV:=(182,.sref 3 [0+(Int.toNat x_g)*17+1+0] 0 (List.length v5.1.Regs) 1);let z78:EV:=(74,.agg (sw 13 v5.1.Regs::cO v5.1 []));let z79:=(89,bb v5.1.User);let z80:EV:=(99,.agg (sw 14 v5.1.Regs::cO v5.1 []));let z8:=DGuest.mk z1.Live v5.1 z1.Pages z1.In z1.Out;let z18:=List.set v3.1.Guests (Int.toNat x_g) z8;let z81:EV:=(109,.agg [bo (eI .i64) v3.1.Words,bo dO z18]);let z27:=List.set (fl bK z18) (0+(Int.toNat x_g)*17+1+0) .unk;let q12:Root:=(rI_3 v5.1.Regs);let z82:=(14,some q12);let z83:=(9,some q12);refine ys (.call 66 [.t 45]) (some 46) (cf (.tup [.agg (sw 9 v5.1.Regs::cO v5.1 []),bb v5.2]) [z83] 10 [8] (aPf hv5) [.agg [.sref 8 [] 0 (List.length (z1.C).Regs) 1,ii (z1.C).Pc,ii (z1.C).Root,ii (z1.C).Vector,ii (z1.C).Saved,bb (z1.C).SavedUser,ii (z1.C).Cause,ii (z1.C).Bad,ii (z1.C).Timer,bb (z1.C).Waits,bb (z1.C).User,bb (z1.C).On,bb (z1.C).Stopped]] rz (hn aY aR) (rQ rz) (hn aY aR) ?_);let q13:Root:=⟨35,sw 9 v5.1.Regs::cO v5.1 []⟩;refine yt (sp 214 [z37,z53,z56,z57,z71]) [z38,z69,(5,some q11),z70,z83,(10,some q13)] 11 (Aw.sreg [1,4,6,9,10] [1,4,5,6,9,10] ?_);obtain⟨hg108,hh⟩:=aL hh;refine yjc 6 [(0:Int)<=x_g/\x_g<((List.length v3.1.Guests:Nat):Int)] (sp 214 [z37,z53,z56,z57,z71,(49,.ptr 6 [] 1),(50,.sref 5 [] 0 (List.length v3.1.Guests) 17),(51,ii x_g),(52,.agg (sw 9 v5.1.Regs::cO v5.1 [])),(53,.ptr 5 [] (0+(Int.toNat x_g)*17)),(54,.ptr 5 [] (0+(Int.toNat x_g)*17+1))]) [z38,z69,(5,some q11),z70,z83,(10,some q13)] 11 (.cons hg108 .nil) ?_;obtain⟨hg4,hh⟩:=aL hh;refine ys (.store 13 (.t 54) (.t 52)) none (nK (c:=bK) (xs:=v3.1.Guests) (cs:=z2) (e:=38) (r:=5) (o:=0+(Int.toNat x_g)*17+1) (i:=(Int.toNat x_g)) (off:=1) (vs:=(sw 9 v5.1.Regs::cO v5.1 [])) aZ kr kr kr kr (aBy aBu ltn ltn) ltn ltn dd ?_);refine yt (sp 214 [z37,z53,z56,z57,z71]) [z38,z69,(5,some ⟨38,aQ (fl bK v3.1.Guests) (0+(Int.toNat x_g)*17+1) (sw 9 v5.1.Regs::cO v5.1 [])⟩),z70,z83,(10,some q13)] 11 ?_;let q14:Root:=⟨26,[sw 4 v3.1.Words,.sref 11 [] 0 (List.length v3.1.Guests) 17]⟩;let z84:=(6,some q14);let q15:Root:=⟨35,.sref 11 [0+(Int.toNat x_g)*17+1+0] 0 (List.length v5.1.Regs) 1::cO v5.1 []⟩;let z85:=(10,some q15);refine Aw.ent (Ent.foldP (c:=bK) (xs:=v3.1.Guests) (i:=(Int.toNat x_g)) (off:=1) (o:=0+(Int.toNat x_g)*17+1) (y:=z8) (R:=5) (e:=38) (us2:=sp 214 [z37,z53,z56,z57,z71]) (H2:=[z38,z69,z84,z85]) (L:=[some (some 9),none,none,none,none,none,none,none,none,none,none,none,none]) (ws:=(.own 3 1 (List.length v5.1.Regs) (fl (eI .i64) v5.1.Regs)::cO v5.1 [])) aZ kr ltn ltn (Nat.le_of_ble_eq_true rfl) kr (aGy kr eqn (aJ (aJ (aJ (aJ (aJ (aJ (aJ (aJ (aJ (aJ (aJ (aJ yR))))))))))))) (by rfl) (by rfl) (uR kr (jU (u:=ii x_g) kr (.same _) (jU (u:=pp 1) kr (.same _) (jU (u:=pp 6) kr (.same _) (jU (u:=pp 10) kr (.same _) (jU (u:=bb v5.2) kr (.same _) zC)))))) (iX (t:=⟨26,[.nil,.nil]⟩) rfl kr rfl fB (iX (t:=q4) rfl kr rfl fB (iX (t:=q5) rfl kr rfl (dR (.same _) (dR (.sref _ _ _ _ eqn) wK)) (iX (t:=q13) rfl kr rfl (dR (.sub _ _ _ _ _ _ (.head _) rfl) (dR (.same _) (dR (.same _) (dR (.same _) (dR (.same _) (dR (.same _) (dR (.same _) (dR (.same _) (dR (.same _) (dR (.same _) (dR (.same _) (dR (.same _) (dR (.same _) wK))))))))))))) aFj))))) (Aw.seq (Aw.sreg [1,4,6,9,55] [1,4,6,10,11] ?_));let q16:Root:=(rO38 z18);let z86:=(11,some q16);let z87:=(3,some q16);refine yt (sp 214 [z37,z53,z56,z57,(55,bb v5.2)]) [z38,z69,z84,z85,z86] 12 ?_;rcases iV hh with⟨hb,hh⟩|⟨hb,hh⟩;{refine cT hb (sy [4,5] [1,4,11] (sp 214 [z53,z54]) [(1,some q14),z69,z86] 12 (Aw.ret (aDx ?_)));rw[aP hh];exact iH (r':= .tup [.agg [sw 4 v3.1.Words,.sref 11 [] 0 (List.length v3.1.Guests) 17],bb true]) kr (Ent.clov (.tup _ _ (dJ (iA (aE (cJ (c:=(eI .i64)) (xs:=v3.1.Words) (e:=3) eqn bH cE cN kr) (aE (kE (B:=dO) (xs:=z18) (e:=38) kK aZ eqn kr) fT))) (cz1 eK))))};refine cF hb (Aw.xskip (λ_ _ _ hq=>aBb hq) (Aw.sreg [1,4,6,9,11] [1,4,6,10,11,12] (yj 2  (sp 214 [z37,z53,z56,z57,(55,bb v5.2),(57,.agg [sw 4 v3.1.Words,.sref 11 [] 0 (List.length v3.1.Guests) 17]),(58,ii x_g)]) [z38,z69,z84,z85,z86] 12 ?_)));obtain⟨v6,hv6,hh⟩:=bind_some hh;let z88:EV:=(11,.sref 12 [] 0 (List.length v6) 6);let z89:EV:=(11,.sref 5 [] 0 (List.length v6) 6);let z90:EH:=(12,some (rC103 v6));let z91:EV:=(194,.sref 5 [] 0 (List.length v6) 6);let z92:EH:=(5,some (rC103 v6));refine ys (.call 67 [.t 57,.t 58]) (some 59) (lP (r:= .own 103 6 (List.length v6) (fl pH v6)) (v:= .sref 12 [] 0 (List.length v6) 6) (Hr:=[z90]) (n':=13) (aNs hv6) (nT (vs:=[.agg [sw 4 v3.1.Words,.sref 11 [] 0 (List.length v3.1.Guests) 17],ii x_g]) kr (dJ (iA (aE (cJ (c:=(eI .i64)) (xs:=v3.1.Words) (e:=3) eqn bH cE cN kr) (aE (kE (B:=dO) (xs:=z18) (e:=38) kK aZ eqn kr) fT))) (cz1 eK))) nrr nrr kr ?_);refine yt (sp 214 [z37,z53,z56,z57,z88]) [z38,z69,z84,z85,z86,z90] 13 (Aw.sreg [1,4,6,9,11,12] [1,4,6,10,11,12] (yu 5 [(61,.sref 12 [] 0 (List.length v6) 6),(62,.ptr 10 [] 1),(63,ii v5.1.Pc),(64,.ptr 10 [] 10),(65,bb v5.1.User)] [z38,z69,z84,z85,z86,z90] 13 ?_));obtain⟨v7,hv7,hh⟩:=bind_some hh;let z93:=(12,ii v7.1);let z94:=(70,bb (decide (v7.1<(0:Int))));refine ys (.call 68 [.t 61,.t 63,.t 65,.c (bb false)]) (some 66) (lP (r:= .tup [ii v7.1,ii v7.2]) (v:= .tup [ii v7.1,ii v7.2]) (Hr:=[]) (n':=13) (aBz hv7) (nT (vs:=[.sref 12 [] 0 (List.length v6) 6,ii v5.1.Pc,bb v5.1.User,bb false]) kr (dJ (cJ (c:=pH) (xs:=v6) (e:=103) eqn aJo aFk aAg kr) (cz1 (cz1 (cz1 eK))))) rfl rfl kr ?_);refine yt (sp 214 [z37,z53,z56,z57,z88,z93]) [z38,z69,z84,z85,z86,z90] 13 (Aw.seq (sy [1,4,6,9,11,12,70] [1,4,6,10,11,12] (sp 214 [z37,z53,z56,z57,z88,z93,z94]) [z38,z69,z84,z85,z86,z90] 13 ?_));rcases iV hh with⟨hb,hh⟩|⟨hb,hh⟩;{refine cT hb ?_;let q17:Root:=⟨35,sw 13 v5.1.Regs::cO v5.1 []⟩;let z95:=(10,some q17);refine Aw.ent (Ent.unfold (R:=11) (j:=0+(Int.toNat x_g)*17+1+0) (e:=38) (e':=3) (cs:=(fl bK z18)) (ds:=(fl (eI .i64) v5.1.Regs)) (sz:=1) (k:=(List.length v5.1.Regs)) (xs2:=sp 214 [z37,z53,z56,z57,z88,z93,z94]) (H2:=[z38,z69,z84,z95,z90]) kr (aBg (c:=bK) (xs:=z18) (i:=(Int.toNat x_g)) (off:=1) aZ ltn ltn dd (aI ltn) kr) (aAu kr (cC (u:=ii x_g) kr (.same _) (cC (u:=pp 1) kr (.same _) (cC (u:=pp 6) kr (.same _) (cC (u:=pp 10) kr (.same _) (cC (u:= .sref 12 [] 0 (List.length v6) 6) kr (.same _) (cC (u:=ii v7.1) kr (.same _) (cC (u:=bb (decide (v7.1<(0:Int)))) kr (.same _) aFf)))))))) (eH (t:=⟨26,[.nil,.nil]⟩) dd kr rfl bW (eH (t:=q4) dd kr rfl bW (eH (t:=q14) dd kr rfl bW (eH (t:=q15) dd kr rfl (aO (.sref _ _ _ _ rfl) (aO (.same _) (aO (.same _) (aO (.same _) (aO (.same _) (aO (.same _) (aO (.same _) (aO (.same _) (aO (.same _) (aO (.same _) (aO (.same _) (aO (.same _) (aO (.same _) aGz))))))))))))) (eH (t:=(rC103 v6)) dd kr rfl bW aPd)))))) (Aw.sregd [4,6] [1,4,6,11,14] [13] kr ?_);let q18:Root:=⟨38,z27⟩;refine dj 8 (sp 214 [z37,z53,z56,z57,z88,z93,z94,(71,.ptr 6 [] 1),z63,(73,ii x_g),z78,(75,.ptr 10 [] 1),(76,ii v5.1.Pc),(77,.ptr 10 [] 1),(78,ii v5.1.Pc)]) [(13,some q12),(11,some q18),z38,z69,z84,z95,z90] 14 ?_;obtain⟨v8,hv8,hh⟩:=bind_some hh;let z96:EV:=(79,.agg (sw 14 v8.Regs::cO v8 []));let z9:=DGuest.mk z1.Live v8 z1.Pages z1.In z1.Out;let z19:=List.set v3.1.Guests (Int.toNat x_g) z9;let q19:Root:=(rI_3 v8.Regs);let z97:=(14,some q19);refine ds (.call 69 [.t 74,.t 76,.c (ii 2),.t 78]) (some 79) (wI rfl (cf (.agg (sw 14 v8.Regs::cO v8 [])) [z97] 15 [13] (vW hv8) [.agg (sw 13 v5.1.Regs::cO v5.1 []),ii v5.1.Pc,ii 2,ii v5.1.Pc] rz (hn aY aR) (eY rz) (hn aY aR) ⟨⟨⟨by decide,nJ rfl rfl⟩,Hld.un ?_⟩⟩));refine dt (sp 214 [z37,z53,z56,z57,z88,z93,z94,(71,.ptr 6 [] 1),z63,(73,ii x_g),z78,(75,.ptr 10 [] 1),(76,ii v5.1.Pc),(77,.ptr 10 [] 1),(78,ii v5.1.Pc),z96]) [z97,(13,none),(13,some q12),(11,some q18),z38,z69,z84,z95,z90] 15 ?_;obtain⟨hg12,hh⟩:=aL hh;refine yjc 2 [(0:Int)<=x_g/\x_g<((List.length v3.1.Guests:Nat):Int)] (sp 214 [z37,z53,z56,z57,z88,z93,z94,(71,.ptr 6 [] 1),z63,(73,ii x_g),z78,(75,.ptr 10 [] 1),(76,ii v5.1.Pc),(77,.ptr 10 [] 1),(78,ii v5.1.Pc),z96,(80,.ptr 11 [] (0+(Int.toNat x_g)*17)),(81,.ptr 11 [] (0+(Int.toNat x_g)*17+1))]) [z97,(13,none),(13,some q12),(11,some q18),z38,z69,z84,z95,z90] 15 (.cons hg12 .nil) ?_;obtain⟨hg11,hh⟩:=aL hh;refine ys (.store 13 (.t 81) (.t 79)) none (nK (c:=bK) (xs:=z18) (cs:=z27) (e:=38) (r:=11) (o:=0+(Int.toNat x_g)*17+1) (i:=(Int.toNat x_g)) (off:=1) (vs:=(sw 14 v8.Regs::cO v8 [])) aZ kr kr kr kr (aBy aBu ltn ltn) ltn ltn dd ?_);refine yt (sp 214 [z53,z56]) [z38,z69,z84,(11,some ⟨38,aQ (fl bK z18) (0+(Int.toNat x_g)*17+1) (sw 14 v8.Regs::cO v8 [])⟩),z97] 15 ?_;let q20:Root:=⟨26,[sw 4 v3.1.Words,.sref 15 [] 0 (List.length v3.1.Guests) 17]⟩;refine Aw.ent (Ent.foldPE (c:=bK) (xs:=z18) (i:=(Int.toNat x_g)) (off:=1) (o:=0+(Int.toNat x_g)*17+1) (y:=z9) (R:=11) (e:=38) (us2:=sp 214 [z53,z56]) (H2:=[z38,z69,(6,some q20)]) (L:=[some (some 14),none,none,none,none,none,none,none,none,none,none,none,none]) (ws:=(.own 3 1 (List.length v8.Regs) (fl (eI .i64) v8.Regs)::cO v8 [])) (aI ltn) (List.set_set ..) aZ kr ltn ltn (Nat.le_of_ble_eq_true rfl) kr (aGy kr eqn (aJ (aJ (aJ (aJ (aJ (aJ (aJ (aJ (aJ (aJ (aJ (aJ yR))))))))))))) (by rfl) (by rfl) (uR kr (jU (u:=pp 1) kr (.same _) (jU (u:=pp 6) kr (.same _) zC))) (iX (t:=⟨26,[.nil,.nil]⟩) rfl kr rfl fB (iX (t:=q4) rfl kr rfl fB (iX (t:=q14) rfl kr rfl (dR (.same _) (dR (.sref _ _ _ _ eqn) wK)) aFj)))) (sy [4,5] [1,4,15] (sp 214 [z53,z54]) [(1,some q20),z69,(15,some (rO38 z19))] 16 (Aw.ret (aDx ?_)));rw[aP hh];exact iH (r':= .tup [.agg [sw 4 v3.1.Words,.sref 15 [] 0 (List.length v3.1.Guests) 17],bb true]) kr (Ent.clov (.tup _ _ (dJ (iA (aE (cJ (c:=(eI .i64)) (xs:=v3.1.Words) (e:=3) eqn bH cE cN kr) (aE (kE (B:=dO) (xs:=z19) (e:=38) kK aZ eqn kr) fT))) (cz1 eK))))};refine cF hb (Aw.xskip (λ_ _ _ hq=>aBb hq) (Aw.sreg [1,4,6,9,11,14] [1,4,6,10,11,12,13] ?_));obtain⟨hg107,hh⟩:=aL hh;refine yjc 4 [(0:Int)<=v7.1/\v7.1<((List.length v3.1.Words:Nat):Int)] (sp 214 [z37,z53,z56,z57,z88,z93,z94,(83,pp 6),(84,sw 4 v3.1.Words),(85,ii v7.1),(86,.ptr 4 [] (0+(Int.toNat v7.1)*1))]) [z38,z69,z84,z85,z86,z90] 13 (.cons hg107 .nil) (ys (.load false 1 (.t 86)) (some 87) (oR (c:=(eI .i64)) (xs:=v3.1.Words) (e:=3) (r:=4) (π:=[]) (o:=0+(Int.toNat v7.1)*1) (i:=(Int.toNat v7.1)) (off:=0) (v:=ii (List.getD v3.1.Words (Int.toNat v7.1) default)) bH kr kr ltn ltn dd kr ?_));obtain⟨v9,hv9,hh⟩:=bind_some hh;let z98:=(115,bb (!decide (v9.Op=(4:Int))));let z99:=(118,bb (!decide (v9.Op=(3:Int))));let z100:=(119,bb (!decide (v9.Op=(3:Int))));let z101:EV:=(128,.agg (dX v9));let z102:EH:=(13,some ⟨89,dX v9⟩);let z103:=(167,bb (decide (v9.Op=(3:Int))));let z104:EV:=(177,.ptr 3 [0+(Int.toNat x_g)*17+1+0] (0+(Int.toNat v9.A)*1));let z105:EV:=(185,.ptr 3 [0+(Int.toNat x_g)*17+1+0] (0+(Int.toNat v9.A)*1));let z106:EH:=(6,some ⟨89,dX v9⟩);let z3:=List.getD v5.1.Regs (Int.toNat (Int.tmod v9.N (4:Int))) default;let z107:=(15,ii (Int.tmod z3 (64:Int)));let z108:=(160,ii (Int.tmod z3 (64:Int)));let z109:=(195,ii (Int.tmod z3 (64:Int)));let z110:=(196,ii (w64 (Int.tdiv (Int.tmod z3 (64:Int)) (8:Int))));let z111:EV:=(197,.ptr 5 [] (0+(Int.toNat (w64 (Int.tdiv (Int.tmod z3 (64:Int)) (8:Int))))*6));let z112:EV:=(198,.ptr 5 [] (0+(Int.toNat (w64 (Int.tdiv (Int.tmod z3 (64:Int)) (8:Int))))*6+3));let z10:=List.getD v6 (Int.toNat (w64 (Int.tdiv (Int.tmod z3 (64:Int)) (8:Int)))) default;let z113:EV:=(200,.ptr 3 [0+(Int.toNat x_g)*17+14+0] (0+(Int.toNat z10.Page)*3));let z114:EV:=(201,.ptr 3 [0+(Int.toNat x_g)*17+14+0] (0+(Int.toNat z10.Page)*3+2));let z20:=List.getD z1.Pages (Int.toNat z10.Page) default;let z28:=DSlot.mk z20.Frame z20.Write true;let z31:=List.set z1.Pages (Int.toNat z10.Page) z28;let z33:=DGuest.mk z1.Live v5.1 z31 z1.In z1.Out;let z34:=List.set v3.1.Guests (Int.toNat x_g) z33;let z4:=List.getD v5.1.Regs (Int.toNat v9.A) default;refine ys (.call 70 [.t 87]) (some 88) (oc (aQp hv9) ?_);refine yt (sp 214 [z37,z53,z56,z57,z88,z45]) [z38,z69,z84,z85,z86,z90,z102] 14 ?_;obtain⟨j10,hh,hk10⟩:=bind_some hh;refine Aw.join (S:=Unit) (λs10=>sp 214 [(1,ii x_g),(4,pp 0),(6,pp 1),(9,pp 4),(11,.sref 5 [] 0 (List.length v6) 6),(14,pp 6)]) (λs10=>[(0,some ⟨26,[.nil,.nil]⟩),(1,some ⟨26,[sw 2 v3.1.Words,.sref 3 [] 0 (List.length v3.1.Guests) 17]⟩),(2,some (rI_3 v3.1.Words)),(3,some (rO38 (List.set v3.1.Guests (Int.toNat x_g) (DGuest.mk (List.getD v3.1.Guests (Int.toNat x_g) default).Live v5.1 (List.getD v3.1.Guests (Int.toNat x_g) default).Pages (List.getD v3.1.Guests (Int.toNat x_g) default).In (List.getD v3.1.Guests (Int.toNat x_g) default).Out)))),(4,some ⟨35,.sref 3 [0+(Int.toNat x_g)*17+1+0] 0 (List.length v5.1.Regs) 1::cO v5.1 []⟩),(5,some (rC103 v6)),(6,some ⟨89,dX v9⟩)]) 7 (λs10=>oW x_g v3 v5 v6 v9 s10=some R_) ?_ ?_;{intro s10 hh;unfold oW at hh;refine Aw.sreg [1,4,6,9,11,14,15] [0,1,2,3,4,5,6] ?_;obtain⟨hg94,hh⟩:=aL hh;let q21:Root:=⟨26,[sw 2 v3.1.Words,.sref 3 [] 0 (List.length v3.1.Guests) 17]⟩;let z115:=(1,some q21);let q22:Root:=⟨35,.sref 3 [0+(Int.toNat x_g)*17+1+0] 0 (List.length v5.1.Regs) 1::cO v5.1 []⟩;let z116:=(4,some q22);refine yjc 6 [(4:Int)≠0,(0:Int)<=(Int.tmod v9.N (4:Int))/\(Int.tmod v9.N (4:Int))<((List.length v5.1.Regs:Nat):Int)] (sp 214 [z37,z52,z55,z58,z89,z46,(133,pp 4),(134,.sref 3 [0+(Int.toNat x_g)*17+1+0] 0 (List.length v5.1.Regs) 1),(135,.ptr 6 [] 2),(136,ii v9.N),(137,ii (Int.tmod v9.N (4:Int))),(138,.ptr 3 [0+(Int.toNat x_g)*17+1+0] (0+(Int.toNat (Int.tmod v9.N (4:Int)))*1))]) [z36,z115,z68,z87,z116,z92,z106] 7 (.cons dd (.cons hg94 .nil)) (ys (.load false 1 (.t 138)) (some 139) (oR (c:=(eI .i64)) (xs:=v5.1.Regs) (e:=3) (r:=3) (π:=[0+(Int.toNat x_g)*17+1+0]) (o:=0+(Int.toNat (Int.tmod v9.N (4:Int)))*1) (i:=(Int.toNat (Int.tmod v9.N (4:Int)))) (off:=0) (v:=ii z3) bH kr (uV (e:=38) (e':=3) (sz':=1) (m':=(List.length v5.1.Regs)) (cs':=(fl (eI .i64) v5.1.Regs)) (c:=bK) (xs:=z18) (i:=(Int.toNat x_g)) (off:=1) aZ kr ltn ltn dd (aI ltn) kr) ltn ltn dd kr ?_));refine ytc [(64:Int)≠0] (sp 214 [z37,z52,z55,z58,z89,z46,z107]) [z36,z115,z68,z87,z116,z92,z106] 7 (.cons dd .nil) (Aw.sreg [1,4,6,9,11,14,15,16] [0,1,2,3,4,5,6] (yu 7 [(142,.sref 5 [] 0 (List.length v6) 6),(143,ii (Int.tmod z3 (64:Int))),(144,.ptr 4 [] 10),(145,bb v5.1.User),(146,pp 6),(147,ii v9.Op),(148,bb (decide (v9.Op=(4:Int))))] [z36,z115,z68,z87,z116,z92,z106] 7 ?_));obtain⟨v11,hv11,hh⟩:=bind_some hh;let z117:=(153,bb (decide (v11.1<(0:Int))));let z118:=(16,ii v11.1);let z119:EV:=(175,.ptr 2 [] (0+(Int.toNat v11.1)*1));let z11:=List.set v3.1.Words (Int.toNat v11.1) z4;let z5:=List.getD v3.1.Words (Int.toNat v11.1) default;let z12:=List.set v5.1.Regs (Int.toNat v9.A) z5;let z21:=DCore.mk z12 v5.1.Pc v5.1.Root v5.1.Vector v5.1.Saved v5.1.SavedUser v5.1.Cause v5.1.Bad v5.1.Timer v5.1.Waits v5.1.User v5.1.On v5.1.Stopped;let z29:=DGuest.mk z1.Live z21 z1.Pages z1.In z1.Out;let z32:=List.set v3.1.Guests (Int.toNat x_g) z29;refine ys (.call 68 [.t 142,.t 143,.t 145,.t 148]) (some 149) (lP (r:= .tup [ii v11.1,ii v11.2]) (v:= .tup [ii v11.1,ii v11.2]) (Hr:=[]) (n':=7) (aBz hv11) (nT (vs:=[.sref 5 [] 0 (List.length v6) 6,ii (Int.tmod z3 (64:Int)),bb v5.1.User,bb (decide (v9.Op=(4:Int)))]) kr (dJ (cJ (c:=pH) (xs:=v6) (e:=103) eqn aJo aFk aAg kr) (cz1 (cz1 (cz1 eK))))) rfl rfl kr ?_);refine yt (sp 214 [z37,z52,z55,z58,z89,z46,z107,z118]) [z36,z115,z68,z87,z116,z92,z106] 7 (Aw.seq (sy [1,4,6,9,11,14,15,16,153] [0,1,2,3,4,5,6] (sp 214 [z37,z52,z55,z58,z89,z46,z107,z118,z117]) [z36,z115,z68,z87,z116,z92,z106] 7 ?_));rcases iV hh with⟨hb,hh⟩|⟨hb,hh⟩;{refine cT hb ?_;let q23:Root:=⟨35,sw 7 v5.1.Regs::cO v5.1 []⟩;refine Aw.ent (Ent.unfold (R:=3) (j:=0+(Int.toNat x_g)*17+1+0) (e:=38) (e':=3) (cs:=(fl bK z18)) (ds:=(fl (eI .i64) v5.1.Regs)) (sz:=1) (k:=(List.length v5.1.Regs)) (xs2:=sp 214 [z37,z52,z55,z58,z89,z46,z107,z118,z117]) (H2:=[z36,z115,z68,(4,some q23),z92,z106]) kr (aBg (c:=bK) (xs:=z18) (i:=(Int.toNat x_g)) (off:=1) aZ ltn ltn dd (aI ltn) kr) (aAu kr (cC (u:=ii x_g) kr (.same _) (cC (u:=pp 0) kr (.same _) (cC (u:=pp 1) kr (.same _) (cC (u:=pp 4) kr (.same _) (cC (u:= .sref 5 [] 0 (List.length v6) 6) kr (.same _) (cC (u:=pp 6) kr (.same _) (cC (u:=ii (Int.tmod z3 (64:Int))) kr (.same _) (cC (u:=ii v11.1) kr (.same _) (cC (u:=bb (decide (v11.1<(0:Int)))) kr (.same _) aFf)))))))))) (eH (t:=⟨26,[.nil,.nil]⟩) dd kr rfl bW (eH (t:=q21) dd kr rfl bW (eH (t:=q4) dd kr rfl bW (eH (t:=q22) dd kr rfl (aO (.sref _ _ _ _ rfl) (aO (.same _) (aO (.same _) (aO (.same _) (aO (.same _) (aO (.same _) (aO (.same _) (aO (.same _) (aO (.same _) (aO (.same _) (aO (.same _) (aO (.same _) (aO (.same _) aGz))))))))))))) (eH (t:=(rC103 v6)) dd kr rfl bW (eH (t:=⟨89,dX v9⟩) dd kr rfl bW aPd))))))) (Aw.sregd [4,6] [0,1,2,3,8] [7] kr ?_);let q24:Root:=⟨38,z27⟩;refine dj 7 (sp 214 [z37,z52,z55,z58,z89,z46,z107,z118,z117,(154,.ptr 1 [] 1),z60,(156,ii x_g),z74,(158,.ptr 4 [] 1),z75,z108]) [(7,some q12),(3,some q24),z36,z115,z68,(4,some q23),z92,z106] 8 ?_;obtain⟨v12,hv12,hh⟩:=bind_some hh;let z120:EV:=(161,.agg (sw 8 v12.Regs::cO v12 []));let z13:=DGuest.mk z1.Live v12 z1.Pages z1.In z1.Out;let z22:=List.set v3.1.Guests (Int.toNat x_g) z13;let q25:Root:=(rI_3 v12.Regs);refine ds (.call 69 [.t 157,.t 159,.c (ii 2),.t 160]) (some 161) (wI rfl (cf (.agg (sw 8 v12.Regs::cO v12 [])) [(8,some q25)] 9 [7] (vW hv12) [.agg (sw 7 v5.1.Regs::cO v5.1 []),ii v5.1.Pc,ii 2,ii (Int.tmod z3 (64:Int))] rz (hn aY aR) (eY rz) (hn aY aR) ⟨⟨⟨by decide,nJ rfl rfl⟩,Hld.un ?_⟩⟩));refine dt (sp 214 [z37,z52,z55,z58,z89,z46,z107,z118,z117,(154,.ptr 1 [] 1),z60,(156,ii x_g),z74,(158,.ptr 4 [] 1),z75,z108,z120]) [(8,some q25),(7,none),(7,some q12),(3,some q24),z36,z115,z68,(4,some q23),z92,z106] 9 ?_;obtain⟨hg46,hh⟩:=aL hh;refine yjc 2 [(0:Int)<=x_g/\x_g<((List.length v3.1.Guests:Nat):Int)] (sp 214 [z37,z52,z55,z58,z89,z46,z107,z118,z117,(154,.ptr 1 [] 1),z60,(156,ii x_g),z74,(158,.ptr 4 [] 1),z75,z108,z120,(162,.ptr 3 [] (0+(Int.toNat x_g)*17)),(163,.ptr 3 [] (0+(Int.toNat x_g)*17+1))]) [(8,some q25),(7,none),(7,some q12),(3,some q24),z36,z115,z68,(4,some q23),z92,z106] 9 (.cons hg46 .nil) ?_;obtain⟨hg45,hh⟩:=aL hh;refine ys (.store 13 (.t 163) (.t 161)) none (nK (c:=bK) (xs:=z18) (cs:=z27) (e:=38) (r:=3) (o:=0+(Int.toNat x_g)*17+1) (i:=(Int.toNat x_g)) (off:=1) (vs:=(sw 8 v12.Regs::cO v12 [])) aZ kr kr kr kr (aBy aBu ltn ltn) ltn ltn dd ?_);refine yt (sp 214 [z52,z55]) [z36,z115,z68,(3,some ⟨38,aQ (fl bK z18) (0+(Int.toNat x_g)*17+1) (sw 8 v12.Regs::cO v12 [])⟩),(8,some q25)] 9 ?_;let q26:Root:=⟨26,[sw 2 v3.1.Words,.sref 9 [] 0 (List.length v3.1.Guests) 17]⟩;refine Aw.ent (Ent.foldPE (c:=bK) (xs:=z18) (i:=(Int.toNat x_g)) (off:=1) (o:=0+(Int.toNat x_g)*17+1) (y:=z13) (R:=3) (e:=38) (us2:=sp 214 [z52,z55]) (H2:=[z36,(1,some q26),z68]) (L:=[some (some 8),none,none,none,none,none,none,none,none,none,none,none,none]) (ws:=(.own 3 1 (List.length v12.Regs) (fl (eI .i64) v12.Regs)::cO v12 [])) (aI ltn) (List.set_set ..) aZ kr ltn ltn (Nat.le_of_ble_eq_true rfl) kr (aGy kr eqn (aJ (aJ (aJ (aJ (aJ (aJ (aJ (aJ (aJ (aJ (aJ (aJ yR))))))))))))) (by rfl) (by rfl) (uR kr (jU (u:=pp 0) kr (.same _) (jU (u:=pp 1) kr (.same _) zC))) (iX (t:=⟨26,[.nil,.nil]⟩) rfl kr rfl fB (iX (t:=q21) rfl kr rfl (dR (.same _) (dR (.sref _ _ _ _ eqn) wK)) (iX (t:=q4) rfl kr rfl fB aFj)))) (sy [4,5] [0,2,9] (sp 214 [z52,z54]) [(0,some q26),z68,(9,some (rO38 z22))] 10 (Aw.ret (aDx ?_)));rw[aP hh];exact iH (r':= .tup [.agg [sw 2 v3.1.Words,.sref 9 [] 0 (List.length v3.1.Guests) 17],bb true]) kr (Ent.clov (.tup _ _ (dJ (iA (aE (cJ (c:=(eI .i64)) (xs:=v3.1.Words) (e:=3) eqn bH cE cN kr) (aE (kE (B:=dO) (xs:=z22) (e:=38) kK aZ eqn kr) fT))) (cz1 eK))))};refine cF hb (Aw.xskip (λ_ _ _ hq=>aBb hq) ?_);obtain⟨j13,hh,hk13⟩:=bind_some hh;refine Aw.join (S:=(List Int)×(List DGuest)) (λs13=>sp 214 [(1,ii x_g),(4,pp 0),(6,pp 1),(9,pp 4)]) (λs13=>[(0,some ⟨26,[.nil,.nil]⟩),(1,some ⟨26,[sw 2 s13.1,.sref 3 [] 0 (List.length s13.2) 17]⟩),(2,some (rI_3 s13.1)),(3,some (rO38 s13.2)),(4,some ⟨35,.sref 3 [0+(Int.toNat x_g)*17+1+0] 0 (List.length ((List.getD s13.2 (Int.toNat x_g) default).C).Regs) 1::cO v5.1 []⟩)]) 5 (λs13=>oZ x_g v5 s13=some R_) ?_ ?_;{intro s13 hh;let z6:=List.getD s13.2 (Int.toNat x_g) default;let z14:=DCore.mk (z6.C).Regs (Int.tmod (w64 (v5.1.Pc+(1:Int))) (64:Int)) v5.1.Root v5.1.Vector v5.1.Saved v5.1.SavedUser v5.1.Cause v5.1.Bad v5.1.Timer v5.1.Waits v5.1.User v5.1.On v5.1.Stopped;let z23:=DGuest.mk z6.Live z14 z6.Pages z6.In z6.Out;let z30:=List.set s13.2 (Int.toNat x_g) z23;let z7:=List.set (fl bK s13.2) (0+(Int.toNat x_g)*17+1+0) .unk;unfold oZ at hh;refine Aw.sreg [1,4,6,9] [0,1,2,3,4] ?_;let q27:Root:=⟨26,[sw 2 s13.1,.sref 3 [] 0 (List.length s13.2) 17]⟩;let q28:Root:=(rI_3 s13.1);let z121:=(2,some q28);let q29:Root:=⟨35,[.sref 3 [0+(Int.toNat x_g)*17+1+0] 0 (List.length (z6.C).Regs) 1,ii (Int.tmod (w64 (v5.1.Pc+(1:Int))) (64:Int)),ii v5.1.Root,ii v5.1.Vector,ii v5.1.Saved,bb v5.1.SavedUser,ii v5.1.Cause,ii v5.1.Bad,ii v5.1.Timer,bb v5.1.Waits,bb v5.1.User,bb v5.1.On,bb v5.1.Stopped]⟩;refine ytc [(64:Int)≠0] (sp 214 [z37,z52,z55,z58]) [z36,(1,some q27),z121,(3,some (rO38 s13.2)),(4,some q29)] 5 (.cons dd .nil) ?_;obtain⟨hg75,hh⟩:=aL hh;let q30:Root:=⟨35,[.sref 5 [] 0 (List.length (z6.C).Regs) 1,ii (Int.tmod (w64 (v5.1.Pc+(1:Int))) (64:Int)),ii v5.1.Root,ii v5.1.Vector,ii v5.1.Saved,bb v5.1.SavedUser,ii v5.1.Cause,ii v5.1.Bad,ii v5.1.Timer,bb v5.1.Waits,bb v5.1.User,bb v5.1.On,bb v5.1.Stopped]⟩;refine Aw.ent (Ent.unfold (R:=3) (j:=0+(Int.toNat x_g)*17+1+0) (e:=38) (e':=3) (cs:=(fl bK s13.2)) (ds:=(fl (eI .i64) (z6.C).Regs)) (sz:=1) (k:=(List.length (z6.C).Regs)) (xs2:=sp 214 [z37,z52,z55,z58]) (H2:=[z36,(1,some q27),z121,(4,some q30)]) kr (aBg (c:=bK) (xs:=s13.2) (i:=(Int.toNat x_g)) (off:=1) aZ ltn ltn dd rfl kr) (aAu kr (cC (u:=ii x_g) kr (.same _) (cC (u:=pp 0) kr (.same _) (cC (u:=pp 1) kr (.same _) (cC (u:=pp 4) kr (.same _) aFf))))) (eH (t:=⟨26,[.nil,.nil]⟩) dd kr rfl bW (eH (t:=q27) dd kr rfl bW (eH (t:=q28) dd kr rfl bW (eH (t:=q29) dd kr rfl (aO (.sref _ _ _ _ rfl) (aO (.same _) (aO (.same _) (aO (.same _) (aO (.same _) (aO (.same _) (aO (.same _) (aO (.same _) (aO (.same _) (aO (.same _) (aO (.same _) (aO (.same _) (aO (.same _) aGz))))))))))))) aPd))))) (Aw.sreg [4,6] [0,1,2,3,5] ?_);obtain⟨hg79,hh⟩:=aL hh;let q31:Root:=(rI_3 (z6.C).Regs);refine yjc 6 [(0:Int)<=x_g/\x_g<((List.length s13.2:Nat):Int)] (sp 214 [z37,z52,z55,z58,(207,.ptr 1 [] 1),(208,.sref 3 [] 0 (List.length s13.2) 17),(209,ii x_g),(210,.agg [.sref 5 [] 0 (List.length (z6.C).Regs) 1,ii (Int.tmod (w64 (v5.1.Pc+(1:Int))) (64:Int)),ii v5.1.Root,ii v5.1.Vector,ii v5.1.Saved,bb v5.1.SavedUser,ii v5.1.Cause,ii v5.1.Bad,ii v5.1.Timer,bb v5.1.Waits,bb v5.1.User,bb v5.1.On,bb v5.1.Stopped]),(211,.ptr 3 [] (0+(Int.toNat x_g)*17)),(212,.ptr 3 [] (0+(Int.toNat x_g)*17+1))]) [(5,some q31),(3,some ⟨38,z7⟩),z36,(1,some q27),z121,(4,some q30)] 6 (.cons hg79 .nil) ?_;obtain⟨hg78,hh⟩:=aL hh;refine ys (.store 13 (.t 212) (.t 210)) none (nK (c:=bK) (xs:=s13.2) (cs:=z7) (e:=38) (r:=3) (o:=0+(Int.toNat x_g)*17+1) (i:=(Int.toNat x_g)) (off:=1) (vs:=[.sref 5 [] 0 (List.length (z6.C).Regs) 1,ii (Int.tmod (w64 (v5.1.Pc+(1:Int))) (64:Int)),ii v5.1.Root,ii v5.1.Vector,ii v5.1.Saved,bb v5.1.SavedUser,ii v5.1.Cause,ii v5.1.Bad,ii v5.1.Timer,bb v5.1.Waits,bb v5.1.User,bb v5.1.On,bb v5.1.Stopped]) aZ kr kr kr kr (aBy aBu ltn ltn) ltn ltn dd ?_);refine yt (sp 214 [z52,z55]) [z36,(1,some q27),z121,(3,some ⟨38,aQ (fl bK s13.2) (0+(Int.toNat x_g)*17+1) [.sref 5 [] 0 (List.length (z6.C).Regs) 1,ii (Int.tmod (w64 (v5.1.Pc+(1:Int))) (64:Int)),ii v5.1.Root,ii v5.1.Vector,ii v5.1.Saved,bb v5.1.SavedUser,ii v5.1.Cause,ii v5.1.Bad,ii v5.1.Timer,bb v5.1.Waits,bb v5.1.User,bb v5.1.On,bb v5.1.Stopped]⟩),(5,some q31)] 6 ?_;let q32:Root:=⟨26,[sw 2 s13.1,.sref 6 [] 0 (List.length s13.2) 17]⟩;refine Aw.ent (Ent.foldP (c:=bK) (xs:=s13.2) (i:=(Int.toNat x_g)) (off:=1) (o:=0+(Int.toNat x_g)*17+1) (y:=z23) (R:=3) (e:=38) (us2:=sp 214 [z52,z55]) (H2:=[z36,(1,some q32),z121]) (L:=[some (some 5),none,none,none,none,none,none,none,none,none,none,none,none]) (ws:=[.own 3 1 (List.length (z6.C).Regs) (fl (eI .i64) (z6.C).Regs),ii (Int.tmod (w64 (v5.1.Pc+(1:Int))) (64:Int)),ii v5.1.Root,ii v5.1.Vector,ii v5.1.Saved,bb v5.1.SavedUser,ii v5.1.Cause,ii v5.1.Bad,ii v5.1.Timer,bb v5.1.Waits,bb v5.1.User,bb v5.1.On,bb v5.1.Stopped]) aZ kr ltn ltn (Nat.le_of_ble_eq_true rfl) kr (aGy kr eqn (aJ (aJ (aJ (aJ (aJ (aJ (aJ (aJ (aJ (aJ (aJ (aJ yR))))))))))))) (by rfl) (by rfl) (uR kr (jU (u:=pp 0) kr (.same _) (jU (u:=pp 1) kr (.same _) zC))) (iX (t:=⟨26,[.nil,.nil]⟩) rfl kr rfl fB (iX (t:=q27) rfl kr rfl (dR (.same _) (dR (.sref _ _ _ _ eqn) wK)) (iX (t:=q28) rfl kr rfl fB aFj)))) (sy [4,5] [0,2,6] (sp 214 [z52,z54]) [(0,some q32),z121,(6,some (rO38 z30))] 7 (Aw.ret ?_));rw[aP hh];exact iH (r':= .tup [.agg [sw 2 s13.1,.sref 6 [] 0 (List.length s13.2) 17],bb true]) kr (Ent.clov (.tup _ _ (dJ (iA (aE (cJ (c:=(eI .i64)) (xs:=s13.1) (e:=3) eqn bH cE cN kr) (aE (kE (B:=dO) (xs:=z30) (e:=38) kK aZ eqn kr) fT))) (cz1 eK))))};intro Q13 hN13 hR13 hE13;refine sy [1,4,6,9,11,14,15,16,167] [0,1,2,3,4,5,6] (sp 214 [z37,z52,z55,z58,z89,z46,z107,z118,z103]) [z36,z115,z68,z87,z116,z92,z106] 7 ?_;rcases iV hh with⟨hb,hh⟩|⟨hb,hh⟩;{refine cT hb (Aw.oregt ?_);obtain⟨hg83,hh⟩:=aL hh;refine qc (cs:=[(0:Int)<=v11.1/\v11.1<((List.length v3.1.Words:Nat):Int)]) (E':=(sp 214 [z37,z52,z55,z58,z89,z46,z107,z118,z103,(168,pp 4),z76,(170,.ptr 6 [] 1),(171,ii v9.A),(172,pp 1),z61,(174,ii v11.1),z119])) (pre:=(List.take 8 (rg 21 37))) (L':=(List.drop 8 (rg 21 37))) kr (λK=>by kernel_rfl) (.cons hg83 .nil) (qs (.load false 1 (.t 175)) (some 176) (aWw rfl (oR (c:=(eI .i64)) (xs:=v3.1.Words) (e:=3) (r:=2) (π:=[]) (o:=0+(Int.toNat v11.1)*1) (i:=(Int.toNat v11.1)) (off:=0) (v:=ii z5) bH kr kr ltn ltn dd kr ?_)));obtain⟨hg82,hh⟩:=aL hh;refine qtt (cs:=[(0:Int)<=v9.A/\v9.A<((List.length v5.1.Regs:Nat):Int)]) (E':=(sp 214 [z37,z52,z55,z58,z89,z46,z107,z118,z103,(168,pp 4),z76,(170,.ptr 6 [] 1),(171,ii v9.A),(172,pp 1),z61,(174,ii v11.1),z119,(176,ii z5),z104])) (λK=>by kernel_rfl) (.cons hg82 .nil) ?_;let q33:Root:=(rO38 z32);refine ys (.store 1 (.t 177) (.t 176)) none (aBn (c:=(eI .i64)) (xs:=v5.1.Regs) (e:=3) (r:=3) (π:=[0+(Int.toNat x_g)*17+1+0]) (o:=0+(Int.toNat v9.A)*1) (i:=(Int.toNat v9.A)) (off:=0) (vs:=[ii z5]) (y:=z5) (H':=[(3,some q33),z36,z115,z68,z87,z116,z92,z106]) bH kr kr kr (uV (e:=38) (e':=3) (sz':=1) (m':=(List.length v5.1.Regs)) (cs':=(fl (eI .i64) v5.1.Regs)) (c:=bK) (xs:=z18) (i:=(Int.toNat x_g)) (off:=1) aZ kr ltn ltn dd (aI ltn) kr) ltn ltn dd kr (aQb (e:=38) (e':=3) (sz':=1) (m':=(List.length v5.1.Regs)) (cs':=(fl (eI .i64) v5.1.Regs)) (ds:=(fl (eI .i64) z12)) (c:=bK) (xs:=z18) (i:=(Int.toNat x_g)) (off:=1) (y:=z29) (m2:=(List.length z12)) aZ kr ltn ltn dd (aI ltn) kr eqn kr (List.set_set ..) kr) ?_);refine ye (sp 214 [z37,z52,z55,z58,z89,z46,z107,z118,z103,(168,pp 4),z76,(170,.ptr 6 [] 1),(171,ii v9.A),(172,pp 1),z61,(174,ii v11.1),z119,(176,ii z5),z104]) [(3,some q33),z36,z115,z68,z87,z116,z92,z106] 7 ?_;obtain rfl:=aP hh;exact hN13 (v3.1.Words,z32) _ _ _ hk13 (el [some 0,some 1,some 2,some 3,some 4] (eE kr (ri (rp 0 (rp 1 (rp 4 mL))))) (hq ⟨26,[.nil,.nil]⟩ rz (hq q21 rz (hn aY (hn cH (hq q22 (bG (uL dd rfl (by first|rfl|omega|(rw[aI ltn];done)|(rw[aI ltn];simp+zetaDelta only[List.length_set];done)|(rw[aI (by simp only[List.length_set];omega)];done)|(rw[aI (by simp only[List.length_set];omega)];simp+zetaDelta only[List.length_set];done))) rz) aR))))))};refine cF hb (Aw.sregt [1,4,6,9,11,15] [0,1,2,3,4,5] ?_);obtain⟨hg93,hh⟩:=aL hh;refine qc (cs:=[(0:Int)<=v9.A/\v9.A<((List.length v5.1.Regs:Nat):Int)]) (E':=(sp 214 [z37,z52,z55,z58,z89,z46,z107,z118,z103,(178,pp 1),(179,sw 2 v3.1.Words),(180,ii v11.1),(181,pp 4),z77,(183,.ptr 6 [] 1),(184,ii v9.A),z105])) (pre:=(List.take 8 (rg 21 39))) (L':=(List.drop 8 (rg 21 39))) kr (λK=>by kernel_rfl) (.cons hg93 .nil) (qs (.load false 1 (.t 185)) (some 186) (aWw rfl (oR (c:=(eI .i64)) (xs:=v5.1.Regs) (e:=3) (r:=3) (π:=[0+(Int.toNat x_g)*17+1+0]) (o:=0+(Int.toNat v9.A)*1) (i:=(Int.toNat v9.A)) (off:=0) (v:=ii z4) bH kr (uV (e:=38) (e':=3) (sz':=1) (m':=(List.length v5.1.Regs)) (cs':=(fl (eI .i64) v5.1.Regs)) (c:=bK) (xs:=z18) (i:=(Int.toNat x_g)) (off:=1) aZ kr ltn ltn dd (aI ltn) kr) ltn ltn dd kr ?_)));obtain⟨hg92,hh⟩:=aL hh;refine qtt (cs:=[(0:Int)<=v11.1/\v11.1<((List.length v3.1.Words:Nat):Int)]) (E':=(sp 214 [z37,z52,z55,z58,z89,z46,z107,z118,z103,(178,pp 1),(179,sw 2 v3.1.Words),(180,ii v11.1),(181,pp 4),z77,(183,.ptr 6 [] 1),(184,ii v9.A),z105,(186,ii z4),(187,.ptr 2 [] (0+(Int.toNat v11.1)*1))])) (λK=>by kernel_rfl) (.cons hg92 .nil) ?_;let q34:Root:=(rI_3 z11);let z122:=(2,some q34);refine ys (.store 1 (.t 187) (.t 186)) none (aBn (c:=(eI .i64)) (xs:=v3.1.Words) (e:=3) (r:=2) (π:=[]) (o:=0+(Int.toNat v11.1)*1) (i:=(Int.toNat v11.1)) (off:=0) (vs:=[ii z4]) (y:=z4) (H':=[z122,z36,z115,z68,z87,z116,z92,z106]) bH kr kr kr kr ltn ltn dd kr kr ?_);refine yt (sp 214 [z37,z52,z55,z58,z89,z107]) [z36,z115,z122,z87,z116,z92] 7 (Aw.oregt ?_);obtain⟨hg91,hh⟩:=aL hh;refine qc (cs:=[(0:Int)<=x_g/\x_g<((List.length v3.1.Guests:Nat):Int)]) (E':=(sp 214 [z37,z52,z55,z58,z89,z107,z47,z62,z48,z49,z50])) (pre:=(List.take 5 (rg 21 41))) (L':=(List.drop 5 (rg 21 41))) kr (λK=>by kernel_rfl) (.cons hg91 .nil) (qs (.load false 1 (.t 192)) (some 193) (aWw rfl (bNp (aI ltn) (c:=bK) (xs:=z18) (e:=38) (r:=3) (π:=[]) (o:=0+(Int.toNat x_g)*17+14) (i:=(Int.toNat x_g)) (off:=14) (v:= .sref 3 [0+(Int.toNat x_g)*17+14+0] 0 (List.length z1.Pages) 3) aZ kr kr ltn ltn dd kr ?_)));obtain⟨hg90,hh⟩:=aL hh;refine qc (cs:=[(8:Int)≠0,(0:Int)<=(w64 (Int.tdiv (Int.tmod z3 (64:Int)) (8:Int)))/\(w64 (Int.tdiv (Int.tmod z3 (64:Int)) (8:Int)))<((List.length v6:Nat):Int)]) (E':=(sp 214 [z37,z52,z55,z58,z89,z107,z47,z62,z48,z49,z50,z65,z91,z109,z110,z111,z112])) (pre:=(List.take 5 (List.drop 6 (rg 21 41)))) (L':=(List.drop 11 (rg 21 41))) kr (λK=>by kernel_rfl) (.cons dd (.cons hg90 .nil)) (qs (.load false 1 (.t 198)) (some 199) (aWw rfl (oR (c:=pH) (xs:=v6) (e:=103) (r:=5) (π:=[]) (o:=0+(Int.toNat (w64 (Int.tdiv (Int.tmod z3 (64:Int)) (8:Int))))*6+3) (i:=(Int.toNat (w64 (Int.tdiv (Int.tmod z3 (64:Int)) (8:Int))))) (off:=3) (v:=ii z10.Page) aJo kr kr ltn ltn dd kr ?_)));obtain⟨hg89,hh⟩:=aL hh;refine qtt (cs:=[(0:Int)<=z10.Page/\z10.Page<((List.length z1.Pages:Nat):Int)]) (E':=(sp 214 [z37,z52,z55,z58,z89,z107,z47,z62,z48,z49,z50,z65,z91,z109,z110,z111,z112,(199,ii z10.Page),z113,z114])) (λK=>by kernel_rfl) (.cons hg89 .nil) ?_;let q35:Root:=(rO38 z34);refine ys (.store 1 (.t 201) (.c (bb true))) none (aBn (c:=gL) (xs:=z1.Pages) (e:=53) (r:=3) (π:=[0+(Int.toNat x_g)*17+14+0]) (o:=0+(Int.toNat z10.Page)*3+2) (i:=(Int.toNat z10.Page)) (off:=2) (vs:=[bb true]) (y:=z28) (H':=[(3,some q35),z36,z115,z122,z87,z116,z92]) pY kr kr kr (uV (e:=38) (e':=53) (sz':=3) (m':=(List.length z1.Pages)) (cs':=(fl gL z1.Pages)) (c:=bK) (xs:=z18) (i:=(Int.toNat x_g)) (off:=14) aZ kr ltn ltn dd (aI ltn) kr) ltn ltn dd kr (aQb (e:=38) (e':=53) (sz':=3) (m':=(List.length z1.Pages)) (cs':=(fl gL z1.Pages)) (ds:=(fl gL z31)) (c:=bK) (xs:=z18) (i:=(Int.toNat x_g)) (off:=14) (y:=z33) (m2:=(List.length z31)) aZ kr ltn ltn dd (aI ltn) kr eqn kr (List.set_set ..) kr) ?_);refine ye (sp 214 [z37,z52,z55,z58,z89,z107,z47,z62,z48,z49,z50,z65,z91,z109,z110,z111,z112,(199,ii z10.Page),z113,z114]) [(3,some q35),z36,z115,z122,z87,z116,z92] 7 ?_;obtain rfl:=aP hh;exact hN13 (z11,z34) _ _ _ hk13 (el [some 0,some 1,some 2,some 3,some 4] (eE kr (ri (rp 0 (rp 1 (rp 4 mL))))) (hq ⟨26,[.nil,.nil]⟩ rz (hq q21 rz (hn aY (hn cH (hq q22 (bG (uL dd rfl (by first|rfl|omega|(rw[aI ltn];done)|(rw[aI ltn];simp+zetaDelta only[List.length_set];done)|(rw[aI (by simp only[List.length_set];omega)];done)|(rw[aI (by simp only[List.length_set];omega)];simp+zetaDelta only[List.length_set];done))) rz) aR))))))};intro Q10 hN10 hR10 hE10;refine Aw.block (Aw.sreg [1,4,6,9,11,14,89] [1,4,6,10,11,12,13] (yj 1  (sp 214 [z37,z53,z56,z57,z88,z45,(90,.agg (dX v9))]) [z38,z69,z84,z85,z86,z90,z102] 14 ?_));obtain⟨v14,hv14,hh⟩:=bind_some hh;refine ys (.call 71 [.t 90]) (some 91) (oc (sF hv14) ?_);refine yu 1 [(91,bb v14),(92,bb v14)] [z38,z69,z84,z85,z86,z90,z102] 14 ?_;rcases jB hh with⟨hb,hh⟩|⟨hb,hh⟩;{refine yb 91 hb (yb 92 hb (yt (sp 214 [z37,z53,z56,z57,z88,z45,(89,bb false)]) [z38,z69,z84,z85,z86,z90,z102] 14 (cF rfl (Aw.sreg [1,4,6,9,11,14,106] [1,4,6,10,11,12,13] (yu 1 [(107,.agg (dX v9))] [z38,z69,z84,z85,z86,z90,z102] 14 ?_)))));obtain⟨v19,hv19,hh⟩:=bind_some hh;let z128:=(106,bb v19);refine ys (.call 71 [.t 107]) (some 108) (oc (sF hv19) ?_);refine yt (sp 214 [z37,z53,z56,z57,z88,z45,z128]) [z38,z69,z84,z85,z86,z90,z102] 14 ?_;rcases iV hh with⟨hb,hh⟩|⟨hb,hh⟩;{refine cT hb ?_;let q47:Root:=⟨26,[bo (eI .i64) v3.1.Words,.sref 11 [] 0 (List.length v3.1.Guests) 17]⟩;refine Aw.freeze 4 (cs:=(fl (eI .i64) v3.1.Words)) (e:=3) (env2:=sp 214 [z37,z53,z56,z57,z88,z45,z128]) (H2:=[z38,(6,some q47),z85,z86,z90,z102]) kr (dV cE) (aSa kr (gY (u:=ii x_g) kr (.same _) (gY (u:=pp 1) kr (.same _) (gY (u:=pp 6) kr (.same _) (gY (u:=pp 10) kr (.same _) (gY (u:= .sref 12 [] 0 (List.length v6) 6) kr (.same _) (gY (u:=pp 13) kr (.same _) (gY (u:=bb v19) kr (.same _) bId)))))))) (lI (t:=⟨26,[.nil,.nil]⟩) rfl kr rfl (aU (.same _) (aU (.same _) mV)) (lI (t:=q14) rfl kr rfl (aU (aKc bH eqn) (aU (.same _) mV)) (lI (t:=q15) rfl kr rfl (aU (.same _) (aU (.same _) (aU (.same _) (aU (.same _) (aU (.same _) (aU (.same _) (aU (.same _) (aU (.same _) (aU (.same _) (aU (.same _) (aU (.same _) (aU (.same _) (aU (.same _) mV))))))))))))) (lI (t:=q16) rfl kr rfl tW (lI (t:=(rC103 v6)) rfl kr rfl tW (lI (t:=⟨89,dX v9⟩) rfl kr rfl (aU (.same _) (aU (.same _) (aU (.same _) mV))) bGn)))))) ?_;let q48:Root:=⟨26,[bo (eI .i64) v3.1.Words,bo dO z18]⟩;let q49:Root:=⟨35,.unk::cO v5.1 []⟩;refine Aw.ent (Ent.freezeO (R:=11) (O:=bK) (B:=dO) (xs:=z18) (e:=38) (us2:=sp 214 [z37,z53,z56,z57,z88,z45,z128]) (H2:=[z38,(6,some q48),(10,some q49),z90,z102]) kr bCw aTq (aSa kr (gY (u:=ii x_g) kr (.same _) (gY (u:=pp 1) kr (.same _) (gY (u:=pp 6) kr (.same _) (gY (u:=pp 10) kr (.same _) (gY (u:= .sref 12 [] 0 (List.length v6) 6) kr (.same _) (gY (u:=pp 13) kr (.same _) (gY (u:=bb v19) kr (.same _) bId)))))))) (lI (t:=⟨26,[.nil,.nil]⟩) rfl kr rfl (aU (.same _) (aU (.same _) mV)) (lI (t:=q47) rfl kr rfl (aU (.same _) (aU (aKc aEw eqn) mV)) (lI (t:=q15) rfl kr rfl (aU (.unk _) (aU (.same _) (aU (.same _) (aU (.same _) (aU (.same _) (aU (.same _) (aU (.same _) (aU (.same _) (aU (.same _) (aU (.same _) (aU (.same _) (aU (.same _) (aU (.same _) mV))))))))))))) (lI (t:=(rC103 v6)) rfl kr rfl tW (lI (t:=⟨89,dX v9⟩) rfl kr rfl (aU (.same _) (aU (.same _) (aU (.same _) mV))) bGn)))))) (Aw.sreg [4,5] [1] (yj 3  (sp 214 [z37,z53,z56,z57,z88,z45,z128,z81,(110,ii x_g),(111,.agg (dX v9))]) [z38,(6,some q48),(10,some q49),z90,z102] 14 ?_));obtain⟨v20,hv20,hh⟩:=bind_some hh;refine ys (.call 72 [.t 109,.t 110,.t 111]) (some 112) (aBk (r:= .tup [.agg (fH v20.1),bb v20.2]) (v:= .tup [.agg (fH v20.1),bb v20.2]) (Hr:=[]) (n':=14) (vI hv20) (nT (vs:=[.agg [bo (eI .i64) v3.1.Words,bo dO z18],ii x_g,.agg (dX v9)]) kr (dJ (iA cz) (cz1 (cz1 eK)))) nrr kr ?_);refine yt (sp 214 [z53,(5,bb v20.2)]) [(1,some (rB26 v20.1))] 14 (Aw.ret (aLu ?_));obtain rfl:=aP hh;refine hR10 _ _ _ ?_;rw[aP hk10];exact iH (r':= .tup [.agg (fH v20.1),bb v20.2]) kr (Ent.clov (.tup _ _ (dJ (aD (uG (qX _))) (cz1 eK))))};refine cF hb (Aw.sreg [1,4,6,9,11,14,115] [1,4,6,10,11,12,13] (yu 4 [(116,pp 13),(117,ii v9.Op),z99,z100] [z38,z69,z84,z85,z86,z90,z102] 14 ?_));rcases jB hh with⟨hb,hh⟩|⟨hb,hh⟩;{refine yb 118 hb (yb 119 hb (yt (sp 214 [z37,z53,z56,z57,z88,z45,(115,bb false)]) [z38,z69,z84,z85,z86,z90,z102] 14 (cF rfl (Aw.skip (aGq ?_)))));obtain rfl:=aP hh;exact hN10 () _ _ _ hk10 (el [some 1,some 6,some 4,some 11,some 10,some 12,some 13] (eE kr (ri (rp 1 (rp 6 (rp 10 (rs (.sref 12 [] 0 (List.length v6) 6) (rp 13 mL))))))) (hq ⟨26,[.nil,.nil]⟩ rz (hq q14 rz (hn aY (hn cH (hq q15 (bG (uL dd rfl (by first|rfl|omega|(rw[aI ltn];done)|(rw[aI ltn];simp+zetaDelta only[List.length_set];done)|(rw[aI (by simp only[List.length_set];omega)];done)|(rw[aI (by simp only[List.length_set];omega)];simp+zetaDelta only[List.length_set];done))) rz) (hn qO (hq ⟨89,dX v9⟩ (aG (sA _)) aR))))))))};refine yb 118 hb (yb 119 hb (yt (sp 214 [z37,z53,z56,z57,z88,z45,z98]) [z38,z69,z84,z85,z86,z90,z102] 14 ?_));rcases jB hh with⟨hb,hh⟩|⟨hb,hh⟩;{refine cF hb (Aw.skip (aGq ?_));obtain rfl:=aP hh;exact hN10 () _ _ _ hk10 (el [some 1,some 6,some 4,some 11,some 10,some 12,some 13] (eE kr (ri (rp 1 (rp 6 (rp 10 (rs (.sref 12 [] 0 (List.length v6) 6) (rp 13 mL))))))) (hq ⟨26,[.nil,.nil]⟩ rz (hq q14 rz (hn aY (hn cH (hq q15 (bG (uL dd rfl (by first|rfl|omega|(rw[aI ltn];done)|(rw[aI ltn];simp+zetaDelta only[List.length_set];done)|(rw[aI (by simp only[List.length_set];omega)];done)|(rw[aI (by simp only[List.length_set];omega)];simp+zetaDelta only[List.length_set];done))) rz) (hn qO (hq ⟨89,dX v9⟩ (aG (sA _)) aR))))))))};refine cT hb ?_;let q50:Root:=⟨35,sw 14 v5.1.Regs::cO v5.1 []⟩;let z129:=(10,some q50);refine Aw.ent (Ent.unfold (R:=11) (j:=0+(Int.toNat x_g)*17+1+0) (e:=38) (e':=3) (cs:=(fl bK z18)) (ds:=(fl (eI .i64) v5.1.Regs)) (sz:=1) (k:=(List.length v5.1.Regs)) (xs2:=sp 214 [z37,z53,z56,z57,z88,z45,z98]) (H2:=[z38,z69,z84,z129,z90,z102]) kr (aBg (c:=bK) (xs:=z18) (i:=(Int.toNat x_g)) (off:=1) aZ ltn ltn dd (aI ltn) kr) (aAu kr (cC (u:=ii x_g) kr (.same _) (cC (u:=pp 1) kr (.same _) (cC (u:=pp 6) kr (.same _) (cC (u:=pp 10) kr (.same _) (cC (u:= .sref 12 [] 0 (List.length v6) 6) kr (.same _) (cC (u:=pp 13) kr (.same _) (cC (u:=bb (!decide (v9.Op=(4:Int)))) kr (.same _) aFf)))))))) (eH (t:=⟨26,[.nil,.nil]⟩) dd kr rfl bW (eH (t:=q4) dd kr rfl bW (eH (t:=q14) dd kr rfl bW (eH (t:=q15) dd kr rfl (aO (.sref _ _ _ _ rfl) (aO (.same _) (aO (.same _) (aO (.same _) (aO (.same _) (aO (.same _) (aO (.same _) (aO (.same _) (aO (.same _) (aO (.same _) (aO (.same _) (aO (.same _) (aO (.same _) aGz))))))))))))) (eH (t:=(rC103 v6)) dd kr rfl bW (eH (t:=⟨89,dX v9⟩) dd kr rfl bW aPd))))))) (Aw.sregd [4,6] [1,4,6,11,15] [14] kr ?_);let q51:Root:=⟨38,z27⟩;refine dj 5 (sp 214 [z37,z53,z56,z57,z88,z45,z98,z40,z59,z41,z73,z101]) [z82,(11,some q51),z38,z69,z84,z129,z90,z102] 15 ?_;obtain⟨v21,hv21,hh⟩:=bind_some hh;let z130:EV:=(129,.agg (sw 15 v21.Regs::cO v21 []));let z17:=DGuest.mk z1.Live v21 z1.Pages z1.In z1.Out;let z26:=List.set v3.1.Guests (Int.toNat x_g) z17;let q52:Root:=(rI_3 v21.Regs);let z131:=(15,some q52);refine ds (.call 73 [.t 127,.t 128]) (some 129) (wI rfl (cf (.agg (sw 15 v21.Regs::cO v21 [])) [z131] 16 [14] (aBw hv21) [.agg (sw 14 v5.1.Regs::cO v5.1 []),.agg (dX v9)] rz (hn aY aR) (eY rz) (hn aY aR) ⟨⟨⟨by decide,nJ rfl rfl⟩,Hld.un ?_⟩⟩));refine dt (sp 214 [z37,z53,z56,z57,z88,z45,z98,z40,z59,z41,z73,z101,z130]) [z131,z44,z82,(11,some q51),z38,z69,z84,z129,z90,z102] 16 ?_;obtain⟨hg106,hh⟩:=aL hh;refine yjc 2 [(0:Int)<=x_g/\x_g<((List.length v3.1.Guests:Nat):Int)] (sp 214 [z37,z53,z56,z57,z88,z45,z98,z40,z59,z41,z73,z101,z130,z42,z43]) [z131,z44,z82,(11,some q51),z38,z69,z84,z129,z90,z102] 16 (.cons hg106 .nil) ?_;obtain⟨hg105,hh⟩:=aL hh;refine ys (.store 13 (.t 131) (.t 129)) none (nK (c:=bK) (xs:=z18) (cs:=z27) (e:=38) (r:=11) (o:=0+(Int.toNat x_g)*17+1) (i:=(Int.toNat x_g)) (off:=1) (vs:=(sw 15 v21.Regs::cO v21 [])) aZ kr kr kr kr (aBy aBu ltn ltn) ltn ltn dd ?_);refine yt (sp 214 [z53,z56]) [z38,z69,z84,(11,some ⟨38,aQ (fl bK z18) (0+(Int.toNat x_g)*17+1) (sw 15 v21.Regs::cO v21 [])⟩),z131] 16 ?_;let q53:Root:=⟨26,[sw 4 v3.1.Words,.sref 16 [] 0 (List.length v3.1.Guests) 17]⟩;refine Aw.ent (Ent.foldPE (c:=bK) (xs:=z18) (i:=(Int.toNat x_g)) (off:=1) (o:=0+(Int.toNat x_g)*17+1) (y:=z17) (R:=11) (e:=38) (us2:=sp 214 [z53,z56]) (H2:=[z38,z69,(6,some q53)]) (L:=[some (some 15),none,none,none,none,none,none,none,none,none,none,none,none]) (ws:=(.own 3 1 (List.length v21.Regs) (fl (eI .i64) v21.Regs)::cO v21 [])) (aI ltn) (List.set_set ..) aZ kr ltn ltn (Nat.le_of_ble_eq_true rfl) kr (aGy kr eqn (aJ (aJ (aJ (aJ (aJ (aJ (aJ (aJ (aJ (aJ (aJ (aJ yR))))))))))))) (by rfl) (by rfl) (uR kr (jU (u:=pp 1) kr (.same _) (jU (u:=pp 6) kr (.same _) zC))) (iX (t:=⟨26,[.nil,.nil]⟩) rfl kr rfl fB (iX (t:=q4) rfl kr rfl fB (iX (t:=q14) rfl kr rfl (dR (.same _) (dR (.sref _ _ _ _ eqn) wK)) aFj)))) (sy [4,5] [1,4,16] (sp 214 [z53,z54]) [(1,some q53),z69,(16,some (rO38 z26))] 17 (Aw.ret (aLu ?_)));obtain rfl:=aP hh;refine hR10 _ _ _ ?_;rw[aP hk10];exact iH (r':= .tup [.agg [sw 4 v3.1.Words,.sref 16 [] 0 (List.length v3.1.Guests) 17],bb true]) kr (Ent.clov (.tup _ _ (dJ (iA (aE (cJ (c:=(eI .i64)) (xs:=v3.1.Words) (e:=3) eqn bH cE cN kr) (aE (kE (B:=dO) (xs:=z26) (e:=38) kK aZ eqn kr) fT))) (cz1 eK))))};refine yb 91 hb (yb 92 hb (yt (sp 214 [z37,z53,z56,z57,z88,z45,z79]) [z38,z69,z84,z85,z86,z90,z102] 14 ?_));rcases iV hh with⟨hb,hh⟩|⟨hb,hh⟩;{refine cT hb ?_;let q36:Root:=⟨35,sw 14 v5.1.Regs::cO v5.1 []⟩;let z123:=(10,some q36);refine Aw.ent (Ent.unfold (R:=11) (j:=0+(Int.toNat x_g)*17+1+0) (e:=38) (e':=3) (cs:=(fl bK z18)) (ds:=(fl (eI .i64) v5.1.Regs)) (sz:=1) (k:=(List.length v5.1.Regs)) (xs2:=sp 214 [z37,z53,z56,z57,z88,z45,z79]) (H2:=[z38,z69,z84,z123,z90,z102]) kr (aBg (c:=bK) (xs:=z18) (i:=(Int.toNat x_g)) (off:=1) aZ ltn ltn dd (aI ltn) kr) (aAu kr (cC (u:=ii x_g) kr (.same _) (cC (u:=pp 1) kr (.same _) (cC (u:=pp 6) kr (.same _) (cC (u:=pp 10) kr (.same _) (cC (u:= .sref 12 [] 0 (List.length v6) 6) kr (.same _) (cC (u:=pp 13) kr (.same _) (cC (u:=bb v5.1.User) kr (.same _) aFf)))))))) (eH (t:=⟨26,[.nil,.nil]⟩) dd kr rfl bW (eH (t:=q4) dd kr rfl bW (eH (t:=q14) dd kr rfl bW (eH (t:=q15) dd kr rfl (aO (.sref _ _ _ _ rfl) (aO (.same _) (aO (.same _) (aO (.same _) (aO (.same _) (aO (.same _) (aO (.same _) (aO (.same _) (aO (.same _) (aO (.same _) (aO (.same _) (aO (.same _) (aO (.same _) aGz))))))))))))) (eH (t:=(rC103 v6)) dd kr rfl bW (eH (t:=⟨89,dX v9⟩) dd kr rfl bW aPd))))))) (Aw.sregd [4,6] [1,4,6,11,15] [14] kr ?_);let q37:Root:=⟨38,z27⟩;refine dj 6 (sp 214 [z37,z53,z56,z57,z88,z45,z79,(96,.ptr 6 [] 1),z64,(98,ii x_g),z80,z39,z72]) [z82,(11,some q37),z38,z69,z84,z123,z90,z102] 15 ?_;obtain⟨v15,hv15,hh⟩:=bind_some hh;let z124:EV:=(102,.agg (sw 15 v15.Regs::cO v15 []));let z15:=DGuest.mk z1.Live v15 z1.Pages z1.In z1.Out;let z24:=List.set v3.1.Guests (Int.toNat x_g) z15;let q38:Root:=(rI_3 v15.Regs);let z125:=(15,some q38);refine ds (.call 69 [.t 99,.t 101,.c (ii 3),.c (ii 0)]) (some 102) (wI rfl (cf (.agg (sw 15 v15.Regs::cO v15 [])) [z125] 16 [14] (vW hv15) [.agg (sw 14 v5.1.Regs::cO v5.1 []),ii v5.1.Pc,ii 3,ii 0] rz (hn aY aR) (eY rz) (hn aY aR) ⟨⟨⟨by decide,nJ rfl rfl⟩,Hld.un ?_⟩⟩));refine dt (sp 214 [z37,z53,z56,z57,z88,z45,z79,(96,.ptr 6 [] 1),z64,(98,ii x_g),z80,z39,z72,z124]) [z125,z44,z82,(11,some q37),z38,z69,z84,z123,z90,z102] 16 ?_;obtain⟨hg98,hh⟩:=aL hh;refine yjc 2 [(0:Int)<=x_g/\x_g<((List.length v3.1.Guests:Nat):Int)] (sp 214 [z37,z53,z56,z57,z88,z45,z79,(96,.ptr 6 [] 1),z64,(98,ii x_g),z80,z39,z72,z124,(103,.ptr 11 [] (0+(Int.toNat x_g)*17)),(104,.ptr 11 [] (0+(Int.toNat x_g)*17+1))]) [z125,z44,z82,(11,some q37),z38,z69,z84,z123,z90,z102] 16 (.cons hg98 .nil) ?_;obtain⟨hg97,hh⟩:=aL hh;refine ys (.store 13 (.t 104) (.t 102)) none (nK (c:=bK) (xs:=z18) (cs:=z27) (e:=38) (r:=11) (o:=0+(Int.toNat x_g)*17+1) (i:=(Int.toNat x_g)) (off:=1) (vs:=(sw 15 v15.Regs::cO v15 [])) aZ kr kr kr kr (aBy aBu ltn ltn) ltn ltn dd ?_);refine yt (sp 214 [z53,z56]) [z38,z69,z84,(11,some ⟨38,aQ (fl bK z18) (0+(Int.toNat x_g)*17+1) (sw 15 v15.Regs::cO v15 [])⟩),z125] 16 ?_;let q39:Root:=⟨26,[sw 4 v3.1.Words,.sref 16 [] 0 (List.length v3.1.Guests) 17]⟩;refine Aw.ent (Ent.foldPE (c:=bK) (xs:=z18) (i:=(Int.toNat x_g)) (off:=1) (o:=0+(Int.toNat x_g)*17+1) (y:=z15) (R:=11) (e:=38) (us2:=sp 214 [z53,z56]) (H2:=[z38,z69,(6,some q39)]) (L:=[some (some 15),none,none,none,none,none,none,none,none,none,none,none,none]) (ws:=(.own 3 1 (List.length v15.Regs) (fl (eI .i64) v15.Regs)::cO v15 [])) (aI ltn) (List.set_set ..) aZ kr ltn ltn (Nat.le_of_ble_eq_true rfl) kr (aGy kr eqn (aJ (aJ (aJ (aJ (aJ (aJ (aJ (aJ (aJ (aJ (aJ (aJ yR))))))))))))) (by rfl) (by rfl) (uR kr (jU (u:=pp 1) kr (.same _) (jU (u:=pp 6) kr (.same _) zC))) (iX (t:=⟨26,[.nil,.nil]⟩) rfl kr rfl fB (iX (t:=q4) rfl kr rfl fB (iX (t:=q14) rfl kr rfl (dR (.same _) (dR (.sref _ _ _ _ eqn) wK)) aFj)))) (sy [4,5] [1,4,16] (sp 214 [z53,z54]) [(1,some q39),z69,(16,some (rO38 z24))] 17 (Aw.ret (aLu ?_)));obtain rfl:=aP hh;refine hR10 _ _ _ ?_;rw[aP hk10];exact iH (r':= .tup [.agg [sw 4 v3.1.Words,.sref 16 [] 0 (List.length v3.1.Guests) 17],bb true]) kr (Ent.clov (.tup _ _ (dJ (iA (aE (cJ (c:=(eI .i64)) (xs:=v3.1.Words) (e:=3) eqn bH cE cN kr) (aE (kE (B:=dO) (xs:=z24) (e:=38) kK aZ eqn kr) fT))) (cz1 eK))))};refine cF hb (Aw.sreg [1,4,6,9,11,14,106] [1,4,6,10,11,12,13] (yu 1 [(107,.agg (dX v9))] [z38,z69,z84,z85,z86,z90,z102] 14 ?_));obtain⟨v16,hv16,hh⟩:=bind_some hh;let z126:=(106,bb v16);refine ys (.call 71 [.t 107]) (some 108) (oc (sF hv16) ?_);refine yt (sp 214 [z37,z53,z56,z57,z88,z45,z126]) [z38,z69,z84,z85,z86,z90,z102] 14 ?_;rcases iV hh with⟨hb,hh⟩|⟨hb,hh⟩;{refine cT hb ?_;let q40:Root:=⟨26,[bo (eI .i64) v3.1.Words,.sref 11 [] 0 (List.length v3.1.Guests) 17]⟩;refine Aw.freeze 4 (cs:=(fl (eI .i64) v3.1.Words)) (e:=3) (env2:=sp 214 [z37,z53,z56,z57,z88,z45,z126]) (H2:=[z38,(6,some q40),z85,z86,z90,z102]) kr (dV cE) (aSa kr (gY (u:=ii x_g) kr (.same _) (gY (u:=pp 1) kr (.same _) (gY (u:=pp 6) kr (.same _) (gY (u:=pp 10) kr (.same _) (gY (u:= .sref 12 [] 0 (List.length v6) 6) kr (.same _) (gY (u:=pp 13) kr (.same _) (gY (u:=bb v16) kr (.same _) bId)))))))) (lI (t:=⟨26,[.nil,.nil]⟩) rfl kr rfl (aU (.same _) (aU (.same _) mV)) (lI (t:=q14) rfl kr rfl (aU (aKc bH eqn) (aU (.same _) mV)) (lI (t:=q15) rfl kr rfl (aU (.same _) (aU (.same _) (aU (.same _) (aU (.same _) (aU (.same _) (aU (.same _) (aU (.same _) (aU (.same _) (aU (.same _) (aU (.same _) (aU (.same _) (aU (.same _) (aU (.same _) mV))))))))))))) (lI (t:=q16) rfl kr rfl tW (lI (t:=(rC103 v6)) rfl kr rfl tW (lI (t:=⟨89,dX v9⟩) rfl kr rfl (aU (.same _) (aU (.same _) (aU (.same _) mV))) bGn)))))) ?_;let q41:Root:=⟨26,[bo (eI .i64) v3.1.Words,bo dO z18]⟩;let q42:Root:=⟨35,.unk::cO v5.1 []⟩;refine Aw.ent (Ent.freezeO (R:=11) (O:=bK) (B:=dO) (xs:=z18) (e:=38) (us2:=sp 214 [z37,z53,z56,z57,z88,z45,z126]) (H2:=[z38,(6,some q41),(10,some q42),z90,z102]) kr bCw aTq (aSa kr (gY (u:=ii x_g) kr (.same _) (gY (u:=pp 1) kr (.same _) (gY (u:=pp 6) kr (.same _) (gY (u:=pp 10) kr (.same _) (gY (u:= .sref 12 [] 0 (List.length v6) 6) kr (.same _) (gY (u:=pp 13) kr (.same _) (gY (u:=bb v16) kr (.same _) bId)))))))) (lI (t:=⟨26,[.nil,.nil]⟩) rfl kr rfl (aU (.same _) (aU (.same _) mV)) (lI (t:=q40) rfl kr rfl (aU (.same _) (aU (aKc aEw eqn) mV)) (lI (t:=q15) rfl kr rfl (aU (.unk _) (aU (.same _) (aU (.same _) (aU (.same _) (aU (.same _) (aU (.same _) (aU (.same _) (aU (.same _) (aU (.same _) (aU (.same _) (aU (.same _) (aU (.same _) (aU (.same _) mV))))))))))))) (lI (t:=(rC103 v6)) rfl kr rfl tW (lI (t:=⟨89,dX v9⟩) rfl kr rfl (aU (.same _) (aU (.same _) (aU (.same _) mV))) bGn)))))) (Aw.sreg [4,5] [1] (yj 3  (sp 214 [z37,z53,z56,z57,z88,z45,z126,z81,(110,ii x_g),(111,.agg (dX v9))]) [z38,(6,some q41),(10,some q42),z90,z102] 14 ?_));obtain⟨v17,hv17,hh⟩:=bind_some hh;refine ys (.call 72 [.t 109,.t 110,.t 111]) (some 112) (aBk (r:= .tup [.agg (fH v17.1),bb v17.2]) (v:= .tup [.agg (fH v17.1),bb v17.2]) (Hr:=[]) (n':=14) (vI hv17) (nT (vs:=[.agg [bo (eI .i64) v3.1.Words,bo dO z18],ii x_g,.agg (dX v9)]) kr (dJ (iA cz) (cz1 (cz1 eK)))) nrr kr ?_);refine yt (sp 214 [z53,(5,bb v17.2)]) [(1,some (rB26 v17.1))] 14 (Aw.ret (aLu ?_));obtain rfl:=aP hh;refine hR10 _ _ _ ?_;rw[aP hk10];exact iH (r':= .tup [.agg (fH v17.1),bb v17.2]) kr (Ent.clov (.tup _ _ (dJ (aD (uG (qX _))) (cz1 eK))))};refine cF hb (Aw.sreg [1,4,6,9,11,14,115] [1,4,6,10,11,12,13] (yu 4 [(116,pp 13),(117,ii v9.Op),z99,z100] [z38,z69,z84,z85,z86,z90,z102] 14 ?_));rcases jB hh with⟨hb,hh⟩|⟨hb,hh⟩;{refine yb 118 hb (yb 119 hb (yt (sp 214 [z37,z53,z56,z57,z88,z45,(115,bb false)]) [z38,z69,z84,z85,z86,z90,z102] 14 (cF rfl (Aw.skip (aGq ?_)))));obtain rfl:=aP hh;exact hN10 () _ _ _ hk10 (el [some 1,some 6,some 4,some 11,some 10,some 12,some 13] (eE kr (ri (rp 1 (rp 6 (rp 10 (rs (.sref 12 [] 0 (List.length v6) 6) (rp 13 mL))))))) (hq ⟨26,[.nil,.nil]⟩ rz (hq q14 rz (hn aY (hn cH (hq q15 (bG (uL dd rfl (by first|rfl|omega|(rw[aI ltn];done)|(rw[aI ltn];simp+zetaDelta only[List.length_set];done)|(rw[aI (by simp only[List.length_set];omega)];done)|(rw[aI (by simp only[List.length_set];omega)];simp+zetaDelta only[List.length_set];done))) rz) (hn qO (hq ⟨89,dX v9⟩ (aG (sA _)) aR))))))))};refine yb 118 hb (yb 119 hb (yt (sp 214 [z37,z53,z56,z57,z88,z45,z98]) [z38,z69,z84,z85,z86,z90,z102] 14 ?_));rcases jB hh with⟨hb,hh⟩|⟨hb,hh⟩;{refine cF hb (Aw.skip (aGq ?_));obtain rfl:=aP hh;exact hN10 () _ _ _ hk10 (el [some 1,some 6,some 4,some 11,some 10,some 12,some 13] (eE kr (ri (rp 1 (rp 6 (rp 10 (rs (.sref 12 [] 0 (List.length v6) 6) (rp 13 mL))))))) (hq ⟨26,[.nil,.nil]⟩ rz (hq q14 rz (hn aY (hn cH (hq q15 (bG (uL dd rfl (by first|rfl|omega|(rw[aI ltn];done)|(rw[aI ltn];simp+zetaDelta only[List.length_set];done)|(rw[aI (by simp only[List.length_set];omega)];done)|(rw[aI (by simp only[List.length_set];omega)];simp+zetaDelta only[List.length_set];done))) rz) (hn qO (hq ⟨89,dX v9⟩ (aG (sA _)) aR))))))))};refine cT hb ?_;let q43:Root:=⟨35,sw 14 v5.1.Regs::cO v5.1 []⟩;refine Aw.ent (Ent.unfold (R:=11) (j:=0+(Int.toNat x_g)*17+1+0) (e:=38) (e':=3) (cs:=(fl bK z18)) (ds:=(fl (eI .i64) v5.1.Regs)) (sz:=1) (k:=(List.length v5.1.Regs)) (xs2:=sp 214 [z37,z53,z56,z57,z88,z45,z98]) (H2:=[z38,z69,z84,(10,some q43),z90,z102]) kr (aBg (c:=bK) (xs:=z18) (i:=(Int.toNat x_g)) (off:=1) aZ ltn ltn dd (aI ltn) kr) (aAu kr (cC (u:=ii x_g) kr (.same _) (cC (u:=pp 1) kr (.same _) (cC (u:=pp 6) kr (.same _) (cC (u:=pp 10) kr (.same _) (cC (u:= .sref 12 [] 0 (List.length v6) 6) kr (.same _) (cC (u:=pp 13) kr (.same _) (cC (u:=bb (!decide (v9.Op=(4:Int)))) kr (.same _) aFf)))))))) (eH (t:=⟨26,[.nil,.nil]⟩) dd kr rfl bW (eH (t:=q4) dd kr rfl bW (eH (t:=q14) dd kr rfl bW (eH (t:=q15) dd kr rfl (aO (.sref _ _ _ _ rfl) (aO (.same _) (aO (.same _) (aO (.same _) (aO (.same _) (aO (.same _) (aO (.same _) (aO (.same _) (aO (.same _) (aO (.same _) (aO (.same _) (aO (.same _) (aO (.same _) aGz))))))))))))) (eH (t:=(rC103 v6)) dd kr rfl bW (eH (t:=⟨89,dX v9⟩) dd kr rfl bW aPd))))))) (Aw.sregd [4,6] [1,4,6,11,15] [14] kr ?_);let q44:Root:=⟨38,z27⟩;refine dj 5 (sp 214 [z37,z53,z56,z57,z88,z45,z98,z40,z59,z41,z73,z101]) [z82,(11,some q44),z38,z69,z84,(10,some q43),z90,z102] 15 ?_;obtain⟨v18,hv18,hh⟩:=bind_some hh;let z127:EV:=(129,.agg (sw 15 v18.Regs::cO v18 []));let z16:=DGuest.mk z1.Live v18 z1.Pages z1.In z1.Out;let z25:=List.set v3.1.Guests (Int.toNat x_g) z16;let q45:Root:=(rI_3 v18.Regs);refine ds (.call 73 [.t 127,.t 128]) (some 129) (wI rfl (cf (.agg (sw 15 v18.Regs::cO v18 [])) [(15,some q45)] 16 [14] (aBw hv18) [.agg (sw 14 v5.1.Regs::cO v5.1 []),.agg (dX v9)] rz (hn aY aR) (eY rz) (hn aY aR) ⟨⟨⟨by decide,nJ rfl rfl⟩,Hld.un ?_⟩⟩));refine dt (sp 214 [z37,z53,z56,z57,z88,z45,z98,z40,z59,z41,z73,z101,z127]) [(15,some q45),z44,z82,(11,some q44),z38,z69,z84,(10,some q43),z90,z102] 16 ?_;obtain⟨hg102,hh⟩:=aL hh;refine yjc 2 [(0:Int)<=x_g/\x_g<((List.length v3.1.Guests:Nat):Int)] (sp 214 [z37,z53,z56,z57,z88,z45,z98,z40,z59,z41,z73,z101,z127,z42,z43]) [(15,some q45),z44,z82,(11,some q44),z38,z69,z84,(10,some q43),z90,z102] 16 (.cons hg102 .nil) ?_;obtain⟨hg101,hh⟩:=aL hh;refine ys (.store 13 (.t 131) (.t 129)) none (nK (c:=bK) (xs:=z18) (cs:=z27) (e:=38) (r:=11) (o:=0+(Int.toNat x_g)*17+1) (i:=(Int.toNat x_g)) (off:=1) (vs:=(sw 15 v18.Regs::cO v18 [])) aZ kr kr kr kr (aBy aBu ltn ltn) ltn ltn dd ?_);refine yt (sp 214 [z53,z56]) [z38,z69,z84,(11,some ⟨38,aQ (fl bK z18) (0+(Int.toNat x_g)*17+1) (sw 15 v18.Regs::cO v18 [])⟩),(15,some q45)] 16 ?_;let q46:Root:=⟨26,[sw 4 v3.1.Words,.sref 16 [] 0 (List.length v3.1.Guests) 17]⟩;refine Aw.ent (Ent.foldPE (c:=bK) (xs:=z18) (i:=(Int.toNat x_g)) (off:=1) (o:=0+(Int.toNat x_g)*17+1) (y:=z16) (R:=11) (e:=38) (us2:=sp 214 [z53,z56]) (H2:=[z38,z69,(6,some q46)]) (L:=[some (some 15),none,none,none,none,none,none,none,none,none,none,none,none]) (ws:=(.own 3 1 (List.length v18.Regs) (fl (eI .i64) v18.Regs)::cO v18 [])) (aI ltn) (List.set_set ..) aZ kr ltn ltn (Nat.le_of_ble_eq_true rfl) kr (aGy kr eqn (aJ (aJ (aJ (aJ (aJ (aJ (aJ (aJ (aJ (aJ (aJ (aJ yR))))))))))))) (by rfl) (by rfl) (uR kr (jU (u:=pp 1) kr (.same _) (jU (u:=pp 6) kr (.same _) zC))) (iX (t:=⟨26,[.nil,.nil]⟩) rfl kr rfl fB (iX (t:=q4) rfl kr rfl fB (iX (t:=q14) rfl kr rfl (dR (.same _) (dR (.sref _ _ _ _ eqn) wK)) aFj)))) (sy [4,5] [1,4,16] (sp 214 [z53,z54]) [(1,some q46),z69,(16,some (rO38 z25))] 17 (Aw.ret (aLu ?_)));obtain rfl:=aP hh;refine hR10 _ _ _ ?_;rw[aP hk10];exact iH (r':= .tup [.agg [sw 4 v3.1.Words,.sref 16 [] 0 (List.length v3.1.Guests) 17],bb true]) kr (Ent.clov (.tup _ _ (dJ (iA (aE (cJ (c:=(eI .i64)) (xs:=v3.1.Words) (e:=3) eqn bH cE cN kr) (aE (kE (B:=dO) (xs:=z25) (e:=38) kK aZ eqn kr) fT))) (cz1 eK))))
noncomputable def g21:Sg tG:=⟨[.st 26,.i .i64],.two (.sb 26) .b,vG⟩
theorem s21:Sok 21 g21:=λx_h x_g R_ hh=>kc (aOw (x_h:=x_h) (x_g:=x_g) hh)
noncomputable def aMm  (s3:(List Int)×(List DGuest)×Int):Option (DHost×Int):=some ((DHost.mk s3.1 s3.2.1),s3.2.2)
noncomputable def sC (s4:(List Int)×(List DGuest)×Int×Int)(s5:(List Int)×(List DGuest)×Int):Option (LO ((List Int)×(List DGuest)×Int×Int) (JO ((List Int)×(List DGuest)×Int) (DHost×Int))):=some (.next (s5.1,s5.2.1,s5.2.2,w64 (s4.2.2.2+(1:Int))))
noncomputable def jQ (x_turns:List Int)(s4:(List Int)×(List DGuest)×Int×Int):Option (LO ((List Int)×(List DGuest)×Int×Int) (JO ((List Int)×(List DGuest)×Int) (DHost×Int))):=
 cond (decide (s4.2.2.2<((List.length x_turns:Nat):Int)))
  (Option.bind (grd ((0:Int)<=s4.2.2.2/\s4.2.2.2<((List.length x_turns:Nat):Int)) (Option.bind (pD (DHost.mk s4.1 s4.2.1) (List.getD x_turns (Int.toNat s4.2.2.2) default)) λv6=>
   cond v6.2
    (some (.go (v6.1.Words,v6.1.Guests,w64 (s4.2.2.1+(1:Int)))))
    (some (.go (s4.1,s4.2.1,s4.2.2.1))))) λj5=>
   JO.run j5 (sC s4))
  (some (.ret (.go (s4.1,s4.2.1,s4.2.2.1))))
noncomputable def mY (x_h:DHost)(x_turns:List Int):Option (DHost×Int):=
 Option.bind (jE x_h) λv1=>
 cond (!v1)
  (some ((DHost.mk ([]:List Int) ([]:List DGuest)),(0:Int)))
  (cond (decide ((200:Int)<((List.length x_turns:Nat):Int)))
   (some ((DHost.mk ([]:List Int) ([]:List DGuest)),(0:Int)))
   (Option.bind (dA x_h) λv2=>
   Option.bind (Option.bind (iter (jQ x_turns) (v2.Words,v2.Guests,(0:Int),(0:Int))) LO.val) λj3=>
    JO.run j3 aMm))
noncomputable def g14:Sg tG:=⟨[.st 26,.row 3],.two (.st 2026) (.i .i64),mY⟩
theorem s14:Sok 14 g14:=sgx [(15,.r g15),(51,.r g51),(20,.r g20)] ⟨s15,s51,s20,trivial⟩ (.s .o (.s .o (.s .o (.s .o (.j ⟨[4,6],[],[(.c 6 0,.ro 3),(.c 6 1,.ro 1038),(.s 7,.i .i64)]⟩ (.s .o (.k (.l ⟨[4,6,23,24],[],[(.c 6 0,.ro 3),(.c 6 1,.ro 1038),(.s 7,.i .i64),(.s 25,.i .i64)]⟩ (.s .o (.s .o (.j ⟨[4,6,23,24,25],[],[(.c 6 0,.ro 3),(.c 6 1,.ro 1038),(.s 7,.i .i64)]⟩ .o .o)))))) .o))))) kr kr kr
noncomputable def aMg  (s1:Int):Option Int:=some s1
noncomputable def sD (s2:Int×Int)(s3:Int):Option (LO (Int×Int) (JO Int Int)):=some (.next (s3,w64 (s2.2+(1:Int))))
noncomputable def jP (x_turns:List Int)(x_g:Int)(s2:Int×Int):Option (LO (Int×Int) (JO Int Int)):=
 cond (decide (s2.2<((List.length x_turns:Nat):Int)))
  (Option.bind (grd ((0:Int)<=s2.2/\s2.2<((List.length x_turns:Nat):Int)) (cond (decide ((List.getD x_turns (Int.toNat s2.2) default)=x_g))
   (some (.go (w64 (s2.1+(1:Int)))))
   (some (.go s2.1)))) λj3=>
   JO.run j3 (sD s2))
  (some (.ret (.go s2.1)))
noncomputable def nG (x_turns:List Int)(x_g:Int):Option Int:=
 Option.bind (Option.bind (iter (jP x_turns x_g) ((0:Int),(0:Int))) LO.val) λj1=>
  JO.run j1 aMg
noncomputable def g16:Sg tG:=⟨[.row 3,.i .i64],.one (.i .i64),nG⟩
theorem s16:Sok 16 g16:=sgx [] trivial (.s .o (.s .o (.j ⟨[],[],[(.s 5,.i .i64)]⟩ (.s .o (.k (.l ⟨[1,8,9],[],[(.s 5,.i .i64),(.s 10,.i .i64)]⟩ (.s .o (.s .o (.j ⟨[1,8,9,10],[],[(.s 5,.i .i64)]⟩ .o .o)))))) .o))) kr kr kr
noncomputable def aDi  (s3:List DGuest):Option (List DGuest):=some s3
noncomputable def sY (s4:(List DGuest)×Int)(s5:List DGuest):Option (LO ((List DGuest)×Int) (JO (List DGuest) (List DGuest))):=some (.next (s5,w64 (s4.2+(1:Int))))
noncomputable def iI (s6:(List DGuest)×Int)(s7:List DGuest):Option (LO ((List DGuest)×Int) (JO (List DGuest) (LO ((List DGuest)×Int) (JO (List DGuest) (List DGuest))))):=some (.next (s7,w64 (s6.2+(1:Int))))
noncomputable def mM (x_guests:List DGuest)(v1:List Int)(s4:(List DGuest)×Int)(s6:(List DGuest)×Int):Option (LO ((List DGuest)×Int) (JO (List DGuest) (LO ((List DGuest)×Int) (JO (List DGuest) (List DGuest))))):=
 cond (decide (s6.2<((List.length (List.getD x_guests (Int.toNat s4.2) default).Pages:Nat):Int)))
  (Option.bind (grd ((0:Int)<=s6.2/\s6.2<((List.length (List.getD x_guests (Int.toNat s4.2) default).Pages:Nat):Int)) (cond (List.getD (List.getD x_guests (Int.toNat s4.2) default).Pages (Int.toNat s6.2) default).Write
   (grd ((0:Int)<=(List.getD (List.getD x_guests (Int.toNat s4.2) default).Pages (Int.toNat s6.2) default).Frame/\(List.getD (List.getD x_guests (Int.toNat s4.2) default).Pages (Int.toNat s6.2) default).Frame<((List.length v1:Nat):Int)) (cond (decide ((1:Int)<(List.getD v1 (Int.toNat (List.getD (List.getD x_guests (Int.toNat s4.2) default).Pages (Int.toNat s6.2) default).Frame) default)))
    (grd ((0:Int)<=s4.2/\s4.2<((List.length s6.1:Nat):Int)) (grd ((0:Int)<=s6.2/\s6.2<((List.length (List.getD s6.1 (Int.toNat s4.2) default).Pages:Nat):Int)) (some (.go (List.set s6.1 (Int.toNat s4.2) (DGuest.mk (List.getD s6.1 (Int.toNat s4.2) default).Live (DCore.mk ((List.getD s6.1 (Int.toNat s4.2) default).C).Regs ((List.getD s6.1 (Int.toNat s4.2) default).C).Pc ((List.getD s6.1 (Int.toNat s4.2) default).C).Root ((List.getD s6.1 (Int.toNat s4.2) default).C).Vector ((List.getD s6.1 (Int.toNat s4.2) default).C).Saved ((List.getD s6.1 (Int.toNat s4.2) default).C).SavedUser ((List.getD s6.1 (Int.toNat s4.2) default).C).Cause ((List.getD s6.1 (Int.toNat s4.2) default).C).Bad ((List.getD s6.1 (Int.toNat s4.2) default).C).Timer ((List.getD s6.1 (Int.toNat s4.2) default).C).Waits ((List.getD s6.1 (Int.toNat s4.2) default).C).User ((List.getD s6.1 (Int.toNat s4.2) default).C).On ((List.getD s6.1 (Int.toNat s4.2) default).C).Stopped) (List.set (List.getD s6.1 (Int.toNat s4.2) default).Pages (Int.toNat s6.2) (DSlot.mk (List.getD (List.getD s6.1 (Int.toNat s4.2) default).Pages (Int.toNat s6.2) default).Frame false (List.getD (List.getD s6.1 (Int.toNat s4.2) default).Pages (Int.toNat s6.2) default).Dirty)) (List.getD s6.1 (Int.toNat s4.2) default).In (List.getD s6.1 (Int.toNat s4.2) default).Out))))))
    (some (.go s6.1))))
   (some (.go s6.1)))) λj7=>
   JO.run j7 (iI s6))
  (some (.ret (.go s6.1)))
noncomputable def iG (x_guests:List DGuest)(v1:List Int)(s4:(List DGuest)×Int):Option (LO ((List DGuest)×Int) (JO (List DGuest) (List DGuest))):=
 cond (decide (s4.2<((List.length x_guests:Nat):Int)))
  (Option.bind (grd ((0:Int)<=s4.2/\s4.2<((List.length x_guests:Nat):Int)) (Option.bind (iter (mM x_guests v1 s4) (s4.1,(0:Int))) LO.val)) λj5=>
   JO.run j5 (sY s4))
  (some (.ret (.go s4.1)))
noncomputable def lD (x_guests:List DGuest):Option (List DGuest):=
 Option.bind (dL x_guests) λv1=>
 Option.bind (fE x_guests) λv2=>
 Option.bind (Option.bind (iter (iG x_guests v1) (v2,(0:Int))) LO.val) λj3=>
  JO.run j3 aDi
noncomputable def g43:Sg tG:=⟨[.row 38],.one (.row 1038),lD⟩
theorem s43:Sok 43 g43:=sgx [(91,.r g91),(92,.r g92)] ⟨s91,s92,trivial⟩ (.s .o (.s .o (.s .o (.j ⟨[],[],[(.s 4,.ro 1038)]⟩ (.s .o (.k (.l ⟨[3,13,14],[],[(.s 4,.ro 1038),(.s 15,.i .i64)]⟩ (.s .o (.s .o (.j ⟨[3,13,14,15],[],[(.s 4,.ro 1038)]⟩ (.k (.s .o (.s .o (.k (.l ⟨[3,5,13,14,15,21,22],[],[(.s 4,.ro 1038),(.s 23,.i .i64)]⟩ (.s .o (.s .o (.j ⟨[3,5,13,14,15,21,22,23],[],[(.s 4,.ro 1038)]⟩ .o .o)))))))) .o)))))) .o)))) kr kr kr
noncomputable def aIe  (s1:Unit):Option Bool:=some true
noncomputable def lE (x_a:List Int)(x_b:List Int)(s2:Int):Option (LO Int (JO Unit Bool)):=
 cond (decide (s2<((List.length x_a:Nat):Int)))
  (grd ((0:Int)<=s2/\s2<((List.length x_a:Nat):Int)) (grd ((0:Int)<=s2/\s2<((List.length x_b:Nat):Int)) (cond (!decide ((List.getD x_a (Int.toNat s2) default)=(List.getD x_b (Int.toNat s2) default)))
   (some (.ret (.out false)))
   (some (.next (w64 (s2+(1:Int))))))))
  (some (.ret (.go ())))
noncomputable def nP (x_a:List Int)(x_b:List Int):Option Bool:=
 Option.bind (Option.bind (iter (lE x_a x_b) (0:Int)) LO.val) λj1=>
  JO.run j1 aIe
noncomputable def bUo:Sg tG:=⟨[.row 3,.row 3],.one .b,nP⟩
theorem cAi:Sok 141 bUo:=sgx [] trivial (.s .o (.j ⟨[],[],[]⟩ (.s .o (.k (.l ⟨[1,7,8],[],[(.s 9,.i .i64)]⟩ .o))) .o)) kr kr kr
noncomputable def vE (x_frame:Int)(s1:Unit):Option Int:=some x_frame
noncomputable def nM (s2:Int)(s3:Unit):Option (LO Int (JO Unit Int)):=some (.next (w64 (s2+(1:Int))))
noncomputable def gH (x_words:List Int)(x_takers:List Int)(x_frame:Int)(s2:Int):Option (LO Int (JO Unit Int)):=
 cond (decide (s2<x_frame))
  (Option.bind (grd ((0:Int)<=s2/\s2<((List.length x_takers:Nat):Int)) (cond (decide ((0:Int)<(List.getD x_takers (Int.toNat s2) default)))
   (Option.bind (gX x_words s2) λv4=>
   Option.bind (gX x_words x_frame) λv5=>
   Option.bind (nP v4 v5) λv6=>
   cond v6
    (some (.out (.ret (.out s2))))
    (some (.go ())))
   (some (.go ())))) λj3=>
   JO.run j3 (nM s2))
  (some (.ret (.go ())))
noncomputable def mR (x_words:List Int)(x_takers:List Int)(x_frame:Int):Option Int:=
 Option.bind (Option.bind (iter (gH x_words x_takers x_frame) (0:Int)) LO.val) λj1=>
  JO.run j1 (vE x_frame)
noncomputable def g93:Sg tG:=⟨[.row 3,.row 3,.i .i64],.one (.i .i64),mR⟩
theorem s93:Sok 93 g93:=sgx [(142,.r bNk),(141,.r bUo)] ⟨bNs,cAi,trivial⟩ (.s .o (.j ⟨[2],[],[]⟩ (.s .o (.k (.l ⟨[0,1,2],[],[(.s 7,.i .i64)]⟩ (.s .o (.j ⟨[0,1,2,7],[],[]⟩ .o .o))))) .o)) kr kr kr
noncomputable def aBs  (s3:List DGuest):Option (List DGuest):=some s3
noncomputable def sB (s4:(List DGuest)×Int)(s5:List DGuest):Option (LO ((List DGuest)×Int) (JO (List DGuest) (List DGuest))):=some (.next (s5,w64 (s4.2+(1:Int))))
noncomputable def lJ (s6:(List DGuest)×Int)(s7:List DGuest):Option (LO ((List DGuest)×Int) (JO (List DGuest) (LO ((List DGuest)×Int) (JO (List DGuest) (List DGuest))))):=some (.next (s7,w64 (s6.2+(1:Int))))
noncomputable def lH (x_h:DHost)(v1:List Int)(s4:(List DGuest)×Int)(s6:(List DGuest)×Int):Option (LO ((List DGuest)×Int) (JO (List DGuest) (LO ((List DGuest)×Int) (JO (List DGuest) (List DGuest))))):=
 cond (decide (s6.2<((List.length (List.getD x_h.Guests (Int.toNat s4.2) default).Pages:Nat):Int)))
  (Option.bind (grd ((0:Int)<=s6.2/\s6.2<((List.length (List.getD x_h.Guests (Int.toNat s4.2) default).Pages:Nat):Int)) (cond (!decide ((List.getD (List.getD x_h.Guests (Int.toNat s4.2) default).Pages (Int.toNat s6.2) default).Frame=(-1:Int)))
   (grd ((0:Int)<=s4.2/\s4.2<((List.length s6.1:Nat):Int)) (Option.bind (mR x_h.Words v1 (List.getD (List.getD x_h.Guests (Int.toNat s4.2) default).Pages (Int.toNat s6.2) default).Frame) λv8=>
    grd ((0:Int)<=s6.2/\s6.2<((List.length (List.getD s6.1 (Int.toNat s4.2) default).Pages:Nat):Int)) (some (.go (List.set s6.1 (Int.toNat s4.2) (DGuest.mk (List.getD s6.1 (Int.toNat s4.2) default).Live (DCore.mk ((List.getD s6.1 (Int.toNat s4.2) default).C).Regs ((List.getD s6.1 (Int.toNat s4.2) default).C).Pc ((List.getD s6.1 (Int.toNat s4.2) default).C).Root ((List.getD s6.1 (Int.toNat s4.2) default).C).Vector ((List.getD s6.1 (Int.toNat s4.2) default).C).Saved ((List.getD s6.1 (Int.toNat s4.2) default).C).SavedUser ((List.getD s6.1 (Int.toNat s4.2) default).C).Cause ((List.getD s6.1 (Int.toNat s4.2) default).C).Bad ((List.getD s6.1 (Int.toNat s4.2) default).C).Timer ((List.getD s6.1 (Int.toNat s4.2) default).C).Waits ((List.getD s6.1 (Int.toNat s4.2) default).C).User ((List.getD s6.1 (Int.toNat s4.2) default).C).On ((List.getD s6.1 (Int.toNat s4.2) default).C).Stopped) (List.set (List.getD s6.1 (Int.toNat s4.2) default).Pages (Int.toNat s6.2) (DSlot.mk v8 (List.getD (List.getD s6.1 (Int.toNat s4.2) default).Pages (Int.toNat s6.2) default).Write (List.getD (List.getD s6.1 (Int.toNat s4.2) default).Pages (Int.toNat s6.2) default).Dirty)) (List.getD s6.1 (Int.toNat s4.2) default).In (List.getD s6.1 (Int.toNat s4.2) default).Out))))))
   (some (.go s6.1)))) λj7=>
   JO.run j7 (lJ s6))
  (some (.ret (.go s6.1)))
noncomputable def gZ (x_h:DHost)(v1:List Int)(s4:(List DGuest)×Int):Option (LO ((List DGuest)×Int) (JO (List DGuest) (List DGuest))):=
 cond (decide (s4.2<((List.length x_h.Guests:Nat):Int)))
  (Option.bind (grd ((0:Int)<=s4.2/\s4.2<((List.length x_h.Guests:Nat):Int)) (Option.bind (iter (lH x_h v1 s4) (s4.1,(0:Int))) LO.val)) λj5=>
   JO.run j5 (sB s4))
  (some (.ret (.go s4.1)))
noncomputable def jR (x_h:DHost):Option (List DGuest):=
 Option.bind (dL x_h.Guests) λv1=>
 Option.bind (fE x_h.Guests) λv2=>
 Option.bind (Option.bind (iter (gZ x_h v1) (v2,(0:Int))) LO.val) λj3=>
  JO.run j3 aBs
noncomputable def g44:Sg tG:=⟨[.st 26],.one (.row 1038),jR⟩
theorem s44:Sok 44 g44:=sgx [(91,.r g91),(92,.r g92),(93,.r g93)] ⟨s91,s92,s93,trivial⟩ (.s .o (.s .o (.s .o (.j ⟨[],[],[(.s 4,.ro 1038)]⟩ (.s .o (.k (.l ⟨[1,3,16,17],[],[(.s 4,.ro 1038),(.s 18,.i .i64)]⟩ (.s .o (.s .o (.j ⟨[1,3,16,17,18],[],[(.s 4,.ro 1038)]⟩ (.k (.s .o (.s .o (.k (.l ⟨[1,3,5,16,17,18,24,25],[],[(.s 4,.ro 1038),(.s 26,.i .i64)]⟩ (.s .o (.s .o (.j ⟨[1,3,5,16,17,18,24,25,26],[],[(.s 4,.ro 1038)]⟩ .o .o)))))))) .o)))))) .o)))) kr kr kr
noncomputable def nY (x_h:DHost):Option DHost:=
 Option.bind (jE x_h) λv1=>
 cond (!v1)
  (some (DHost.mk ([]:List Int) ([]:List DGuest)))
  (Option.bind (cW x_h.Words) λv2=>
  Option.bind (jR x_h) λv3=>
  Option.bind (lD v3) λv4=>
  some (DHost.mk v2 v4))
noncomputable def g11:Sg tG:=⟨[.st 26],.one (.st 2026),nY⟩
theorem s11:Sok 11 g11:=sgx [(15,.r g15),(42,.r g42),(44,.r g44),(43,.r g43)] ⟨s15,s42,s44,s43,trivial⟩ .o kr kr kr
noncomputable def aPe  (s1:Unit):Option Bool:=some true
noncomputable def nS (x_h:DHost)(x_a:Int)(x_b:Int)(s2:Int):Option (LO Int (JO Unit Bool)):=
 cond (decide (s2<(8:Int)))
  (grd ((0:Int)<=(w64 ((w64 (x_a*(8:Int)))+s2))/\(w64 ((w64 (x_a*(8:Int)))+s2))<((List.length x_h.Words:Nat):Int)) (grd ((0:Int)<=(w64 ((w64 (x_b*(8:Int)))+s2))/\(w64 ((w64 (x_b*(8:Int)))+s2))<((List.length x_h.Words:Nat):Int)) (cond (!decide ((List.getD x_h.Words (Int.toNat (w64 ((w64 (x_a*(8:Int)))+s2))) default)=(List.getD x_h.Words (Int.toNat (w64 ((w64 (x_b*(8:Int)))+s2))) default)))
   (some (.ret (.out false)))
   (some (.next (w64 (s2+(1:Int))))))))
  (some (.ret (.go ())))
noncomputable def tJ (x_h:DHost)(x_a:Int)(x_b:Int):Option Bool:=
 Option.bind (Option.bind (iter (nS x_h x_a x_b) (0:Int)) LO.val) λj1=>
  JO.run j1 aPe
noncomputable def g50:Sg tG:=⟨[.st 26,.i .i64,.i .i64],.one .b,tJ⟩
theorem s50:Sok 50 g50:=sgx [] trivial (.s .o (.j ⟨[],[],[]⟩ (.s .o (.k (.l ⟨[1,2,3],[],[(.s 7,.i .i64)]⟩ .o))) .o)) kr kr kr
noncomputable def aIf (v2:DHost)(s6:List DGuest):Option DHost:=some (DHost.mk v2.Words s6)
noncomputable def vK (s7:(List DGuest)×Int)(s8:List DGuest):Option (LO ((List DGuest)×Int) (JO (List DGuest) DHost)):=some (.next (s8,w64 (s7.2+(1:Int))))
noncomputable def jT (s9:(List DGuest)×Int)(s10:List DGuest):Option (LO ((List DGuest)×Int) (JO (List DGuest) (LO ((List DGuest)×Int) (JO (List DGuest) DHost)))):=some (.next (s10,w64 (s9.2+(1:Int))))
noncomputable def oX (v5:List Int)(s7:(List DGuest)×Int)(s9:(List DGuest)×Int):Option (LO ((List DGuest)×Int) (JO (List DGuest) (LO ((List DGuest)×Int) (JO (List DGuest) DHost)))):=
 grd ((0:Int)<=s7.2/\s7.2<((List.length s9.1:Nat):Int)) (cond (decide (s9.2<((List.length (List.getD s9.1 (Int.toNat s7.2) default).Pages:Nat):Int)))
  (Option.bind (grd ((0:Int)<=s7.2/\s7.2<((List.length s9.1:Nat):Int)) (grd ((0:Int)<=s9.2/\s9.2<((List.length (List.getD s9.1 (Int.toNat s7.2) default).Pages:Nat):Int)) (cond (decide ((0:Int)<=(List.getD (List.getD s9.1 (Int.toNat s7.2) default).Pages (Int.toNat s9.2) default).Frame))
   (grd ((0:Int)<=(List.getD (List.getD s9.1 (Int.toNat s7.2) default).Pages (Int.toNat s9.2) default).Frame/\(List.getD (List.getD s9.1 (Int.toNat s7.2) default).Pages (Int.toNat s9.2) default).Frame<((List.length v5:Nat):Int)) (cond (decide ((1:Int)<(List.getD v5 (Int.toNat (List.getD (List.getD s9.1 (Int.toNat s7.2) default).Pages (Int.toNat s9.2) default).Frame) default)))
    (grd ((0:Int)<=s7.2/\s7.2<((List.length s9.1:Nat):Int)) (grd ((0:Int)<=s9.2/\s9.2<((List.length (List.getD s9.1 (Int.toNat s7.2) default).Pages:Nat):Int)) (some (.go (List.set s9.1 (Int.toNat s7.2) (DGuest.mk (List.getD s9.1 (Int.toNat s7.2) default).Live (DCore.mk ((List.getD s9.1 (Int.toNat s7.2) default).C).Regs ((List.getD s9.1 (Int.toNat s7.2) default).C).Pc ((List.getD s9.1 (Int.toNat s7.2) default).C).Root ((List.getD s9.1 (Int.toNat s7.2) default).C).Vector ((List.getD s9.1 (Int.toNat s7.2) default).C).Saved ((List.getD s9.1 (Int.toNat s7.2) default).C).SavedUser ((List.getD s9.1 (Int.toNat s7.2) default).C).Cause ((List.getD s9.1 (Int.toNat s7.2) default).C).Bad ((List.getD s9.1 (Int.toNat s7.2) default).C).Timer ((List.getD s9.1 (Int.toNat s7.2) default).C).Waits ((List.getD s9.1 (Int.toNat s7.2) default).C).User ((List.getD s9.1 (Int.toNat s7.2) default).C).On ((List.getD s9.1 (Int.toNat s7.2) default).C).Stopped) (List.set (List.getD s9.1 (Int.toNat s7.2) default).Pages (Int.toNat s9.2) (DSlot.mk (List.getD (List.getD s9.1 (Int.toNat s7.2) default).Pages (Int.toNat s9.2) default).Frame false (List.getD (List.getD s9.1 (Int.toNat s7.2) default).Pages (Int.toNat s9.2) default).Dirty)) (List.getD s9.1 (Int.toNat s7.2) default).In (List.getD s9.1 (Int.toNat s7.2) default).Out))))))
    (some (.go s9.1))))
   (some (.go s9.1))))) λj10=>
   JO.run j10 (jT s9))
  (some (.ret (.go s9.1))))
noncomputable def hG (v5:List Int)(s7:(List DGuest)×Int):Option (LO ((List DGuest)×Int) (JO (List DGuest) DHost)):=
 cond (decide (s7.2<(3:Int)))
  (Option.bind (Option.bind (iter (oX v5 s7) (s7.1,(0:Int))) LO.val) λj8=>
   JO.run j8 (vK s7))
  (some (.ret (.go s7.1)))
noncomputable def vL (v2:DHost)(s4:List DGuest):Option DHost:=
 Option.bind (fM (DHost.mk v2.Words s4)) λv5=>
 Option.bind (Option.bind (iter (hG v5) (s4,(0:Int))) LO.val) λj6=>
  JO.run j6 (aIf v2)
noncomputable def uK (s11:(List DGuest)×Int)(s12:List DGuest):Option (LO ((List DGuest)×Int) (JO (List DGuest) DHost)):=some (.next (s12,w64 (s11.2+(1:Int))))
noncomputable def gG (s13:(List DGuest)×Int)(s14:List DGuest):Option (LO ((List DGuest)×Int) (JO (List DGuest) (LO ((List DGuest)×Int) (JO (List DGuest) DHost)))):=some (.next (s14,w64 (s13.2+(1:Int))))
noncomputable def oF (x_h:DHost)(s11:(List DGuest)×Int)(s13:(List DGuest)×Int)(s15:Int):Option (JO (List DGuest) (LO ((List DGuest)×Int) (JO (List DGuest) (LO ((List DGuest)×Int) (JO (List DGuest) DHost))))):=grd ((0:Int)<=s11.2/\s11.2<((List.length s13.1:Nat):Int)) (grd ((0:Int)<=s13.2/\s13.2<((List.length (List.getD s13.1 (Int.toNat s11.2) default).Pages:Nat):Int)) (some (.go (List.set s13.1 (Int.toNat s11.2) (DGuest.mk (List.getD s13.1 (Int.toNat s11.2) default).Live (DCore.mk ((List.getD s13.1 (Int.toNat s11.2) default).C).Regs ((List.getD s13.1 (Int.toNat s11.2) default).C).Pc ((List.getD s13.1 (Int.toNat s11.2) default).C).Root ((List.getD s13.1 (Int.toNat s11.2) default).C).Vector ((List.getD s13.1 (Int.toNat s11.2) default).C).Saved ((List.getD s13.1 (Int.toNat s11.2) default).C).SavedUser ((List.getD s13.1 (Int.toNat s11.2) default).C).Cause ((List.getD s13.1 (Int.toNat s11.2) default).C).Bad ((List.getD s13.1 (Int.toNat s11.2) default).C).Timer ((List.getD s13.1 (Int.toNat s11.2) default).C).Waits ((List.getD s13.1 (Int.toNat s11.2) default).C).User ((List.getD s13.1 (Int.toNat s11.2) default).C).On ((List.getD s13.1 (Int.toNat s11.2) default).C).Stopped) (List.set (List.getD s13.1 (Int.toNat s11.2) default).Pages (Int.toNat s13.2) (DSlot.mk s15 (List.getD (List.getD x_h.Guests (Int.toNat s11.2) default).Pages (Int.toNat s13.2) default).Write (List.getD (List.getD x_h.Guests (Int.toNat s11.2) default).Pages (Int.toNat s13.2) default).Dirty)) (List.getD s13.1 (Int.toNat s11.2) default).In (List.getD s13.1 (Int.toNat s11.2) default).Out)))))
noncomputable def kB (s16:Int×Int)(s17:Int):Option (LO (Int×Int) (JO Int (JO (List DGuest) (LO ((List DGuest)×Int) (JO (List DGuest) (LO ((List DGuest)×Int) (JO (List DGuest) DHost))))))):=some (.next (s17,w64 (s16.2-(1:Int))))
noncomputable def dQ (x_h:DHost)(v3:List Int)(s11:(List DGuest)×Int)(s13:(List DGuest)×Int)(s16:Int×Int):Option (LO (Int×Int) (JO Int (JO (List DGuest) (LO ((List DGuest)×Int) (JO (List DGuest) (LO ((List DGuest)×Int) (JO (List DGuest) DHost))))))):=
 cond (decide ((0:Int)<=s16.2))
  (cond (decide ((0:Int)<=s16.1))
   (Option.bind (grd ((0:Int)<=s16.2/\s16.2<((List.length v3:Nat):Int)) (cond (decide ((0:Int)<(List.getD v3 (Int.toNat s16.2) default)))
    (grd ((0:Int)<=s11.2/\s11.2<((List.length x_h.Guests:Nat):Int)) (grd ((0:Int)<=s13.2/\s13.2<((List.length (List.getD x_h.Guests (Int.toNat s11.2) default).Pages:Nat):Int)) (Option.bind (tJ x_h s16.2 (List.getD (List.getD x_h.Guests (Int.toNat s11.2) default).Pages (Int.toNat s13.2) default).Frame) λv18=>
     cond v18
      (some (.go s16.2))
      (some (.go s16.1)))))
    (some (.go s16.1)))) λj17=>
    JO.run j17 (kB s16))
   (some (.ret (.go s16.1))))
  (some (.ret (.go s16.1)))
noncomputable def oE (x_h:DHost)(v3:List Int)(s11:(List DGuest)×Int)(s13:(List DGuest)×Int):Option (LO ((List DGuest)×Int) (JO (List DGuest) (LO ((List DGuest)×Int) (JO (List DGuest) DHost)))):=
 grd ((0:Int)<=s11.2/\s11.2<((List.length x_h.Guests:Nat):Int)) (cond (decide (s13.2<((List.length (List.getD x_h.Guests (Int.toNat s11.2) default).Pages:Nat):Int)))
  (Option.bind (grd ((0:Int)<=s11.2/\s11.2<((List.length x_h.Guests:Nat):Int)) (grd ((0:Int)<=s13.2/\s13.2<((List.length (List.getD x_h.Guests (Int.toNat s11.2) default).Pages:Nat):Int)) (Option.bind (Option.bind (iter (dQ x_h v3 s11 s13) ((List.getD (List.getD x_h.Guests (Int.toNat s11.2) default).Pages (Int.toNat s13.2) default).Frame,(19:Int))) LO.val) λj15=>
   JO.run j15 (oF x_h s11 s13)))) λj14=>
   JO.run j14 (gG s13))
  (some (.ret (.go s13.1))))
noncomputable def kA (x_h:DHost)(v3:List Int)(s11:(List DGuest)×Int):Option (LO ((List DGuest)×Int) (JO (List DGuest) DHost)):=
 cond (decide (s11.2<(3:Int)))
  (Option.bind (Option.bind (iter (oE x_h v3 s11) (s11.1,(0:Int))) LO.val) λj12=>
   JO.run j12 (uK s11))
  (some (.ret (.go s11.1)))
noncomputable def nV (x_h:DHost):Option DHost:=
 Option.bind (gU x_h) λv1=>
 cond (!v1)
  (some (DHost.mk ([]:List Int) ([]:List DGuest)))
  (Option.bind (dY x_h) λv2=>
  Option.bind (fM x_h) λv3=>
  Option.bind (Option.bind (iter (kA x_h v3) (v2.Guests,(0:Int))) LO.val) λj4=>
   JO.run j4 (vL v2))
noncomputable def g13:Sg tG:=⟨[.st 26],.one (.st 2026),nV⟩
theorem s13:Sok 13 g13:=sgx [(47,.r g47),(48,.r g48),(49,.r g49),(50,.r g50)] ⟨s47,s48,s49,s50,trivial⟩ (.s .o (.s .o (.s .o (.s .o (.j ⟨[2,3],[],[(.c 3 1,.ro 1038)]⟩ (.s .o (.k (.l ⟨[1,2,3,4],[],[(.c 3 1,.ro 1038),(.s 5,.i .i64)]⟩ (.s .o (.j ⟨[1,2,3,4,5],[],[(.c 3 1,.ro 1038)]⟩ (.k (.s .o (.k (.l ⟨[1,2,3,4,5],[],[(.c 3 1,.ro 1038),(.s 6,.i .i64)]⟩ (.s .o (.j ⟨[1,2,3,4,5,6],[],[(.c 3 1,.ro 1038)]⟩ (.k (.s .o (.j ⟨[1,2,3,4,5,6,7],[],[(.c 7 0,.i .i64)]⟩ (.s .o (.k (.l ⟨[1,2,3,4,5,6,7],[],[(.c 7 0,.i .i64),(.s 8,.i .i64)]⟩ (.s .o (.j ⟨[1,2,3,4,5,6,7,8],[],[(.c 7 0,.i .i64)]⟩ .o .o))))) .o))) .o)))))) .o))))) (.s .o (.j ⟨[2,3],[],[(.c 3 1,.ro 1038)]⟩ (.s .o (.k (.l ⟨[2,3,4],[],[(.c 3 1,.ro 1038),(.s 9,.i .i64)]⟩ (.s .o (.j ⟨[2,3,4,9],[],[(.c 3 1,.ro 1038)]⟩ (.k (.s .o (.k (.l ⟨[2,3,4,9],[],[(.c 3 1,.ro 1038),(.s 10,.i .i64)]⟩ (.s .o (.j ⟨[2,3,4,9,10],[],[(.c 3 1,.ro 1038)]⟩ .o .o)))))) .o))))) .o))))))) kr kr kr
noncomputable def xL  (s1:(List Int)×(List Int)×Int):Option (Dl20Rd×(List Int)):=some ((Dl20Rd.mk s1.2.1 s1.2.2),s1.1)
noncomputable def mG  (s3:(List Int)×Int×(List Int)×Int):Option (LO ((List Int)×Int×(List Int)×Int) (JO ((List Int)×(List Int)×Int) (Dl20Rd×(List Int)))):=
 cond (decide ((0:Int)<s3.2.2.2))
  (Option.bind (aA (Dl20Rd.mk s3.1 s3.2.1) (3:Int)) λv4=>
  Option.bind (aA v4.1 (30:Int)) λv5=>
  grd ((List.length s3.2.2.1+List.length ([w64 (v4.2-(w64 ((w64 (Int.tdiv v5.2 (29:Int)))*(4:Int))))]:List Int))*8<=2^47/\List.length s3.2.2.1+List.length ([w64 (v4.2-(w64 ((w64 (Int.tdiv v5.2 (29:Int)))*(4:Int))))]:List Int)<=2^47) (some (.next (v5.1.b,v5.1.p,s3.2.2.1++([w64 (v4.2-(w64 ((w64 (Int.tdiv v5.2 (29:Int)))*(4:Int))))]:List Int),w64 (s3.2.2.2-(1:Int))))))
  (some (.ret (.go (s3.2.2.1,s3.1,s3.2.1))))
noncomputable def lT (x_r:Dl20Rd)(x_most:Int):Option (Dl20Rd×(List Int)):=
 Option.bind (Option.bind (aA x_r (w64 (x_most+(1:Int)))) λv2=>
  Option.bind (iter mG (v2.1.b,v2.1.p,([]:List Int),v2.2)) LO.val) λj1=>
  JO.run j1 xL
noncomputable def g41:Sw tG:=⟨[.pt 118,.v (.i .i64)],.one (.row 3),lT⟩
theorem s41:Sjk 41 g41:=sgy [(57,.w g57)] ⟨s57,trivial⟩ (.s .o (.s .o (.j ⟨[],[0],[(.s 5,.ro 3),(.d 0 0,.rb 5),(.d 0 1,.i .i64)]⟩ (.s .o (.k (.l ⟨[0],[],[(.c 0 0,.rb 5),(.c 0 1,.i .i64),(.s 5,.ro 3),(.s 6,.i .i64)]⟩ .o))) .o))) kr kr kr
theorem aOy{x_r:Dl20Rd}{x_most:Int}{R_:Dl20Rd×(List Int)}(hh:lT x_r x_most=some R_):Inl Tryz.prog 41 [.ptr 0 [] 0,.int .i64 x_most] [(0,some (rB118 x_r))] 1 (.sref 1 [] 0 (List.length R_.2) 1) [(1,some (rI_3 R_.2)),(0,some ⟨118,[bo (eI .u8) R_.1.b,.int .i64 R_.1.p]⟩)] 2:=kc (s41 x_r x_most R_ hh)
theorem aDk:LW 10 ⟨11,[.cell 2 true 2,.tmp 3],.seq (.reg false (rg 10 0)) (.seq (.reg false (rg 10 1)) (.seq (.reg false (rg 10 2)) .ret))⟩:=kr
noncomputable def eT (x_code:List Int):Option (DHost×(List Int)):=
 Option.bind (kM x_code) λv1=>
 Option.bind (kL v1) λv2=>
 Option.bind (lT v2.1 (12:Int)) λv3=>
 some (v2.2,v3.2)
theorem aEs{x_code:List Int}{R_:DHost×(List Int)}(hh:eT x_code=some R_):Fn Tryz.prog 10 [bo (eI .u8) x_code] (.tup [.agg [.own 3 1 (List.length R_.1.Words) (fl (eI .i64) R_.1.Words),.own 38 17 (List.length R_.1.Guests) (fl bK R_.1.Guests)],.own 3 1 (List.length R_.2) (fl (eI .i64) R_.2)]):=by let z1:EH:=(0,some ⟨26,[.nil,.nil]⟩);unfold eT at hh;refine Fn.start aDk [0] (E:=sp 11 [(0,bo (eI .u8) x_code)]) kr (v:= .tup [.agg [sw 0 R_.1.Words,.sref 1 [] 0 (List.length R_.1.Guests) 17],sw 2 R_.2]) (Hr:=[(2,some (rI_3 R_.2)),(1,some (rO38 R_.1.Guests)),(0,some (rI_3 R_.1.Words))]) (k:=3) kr (sy [0,2] [0] (sp 11 [(0,bo (eI .u8) x_code),(2,pp 0)]) [z1] 1 (Aw.sreg [2,4] [0,1] (yu 1 [(5,bo (eI .u8) x_code)] [z1] 1 ?_)));obtain⟨v1,hv1,hh⟩:=bind_some hh;let z2:EH:=(1,some (rB118 v1));refine ys (.call 39 [.t 5]) (some 6) (cf (pp 1) [z2] 2 [] (aBx hv1) [bo (eI .u8) x_code] rz aR (aCn dd rfl) (hq (rB118 v1) (aG (cV _)) aR) ?_);refine yt (sp 11 [(2,pp 0),(4,pp 1)]) [z1,z2] 2 (Aw.sreg [2,3] [0,2,3,4] (yu 1 [(7,pp 1)] [z1,z2] 2 ?_));obtain⟨v2,hv2,hh⟩:=bind_some hh;let q1:Root:=(rO38 v2.2.Guests);let q2:Root:=(rI_3 v2.2.Words);refine ys (.call 40 [.t 7]) (some 8) (cf (.agg [sw 2 v2.2.Words,.sref 3 [] 0 (List.length v2.2.Guests) 17]) [(3,some q1),(2,some q2),(1,some (rB118 v2.1))] 4 [1] (aCk hv2) [pp 1] rz (hq (rB118 v1) (aG (cV _)) aR) (eY rz) (hn cH (hn aY (hq (rB118 v2.1) (aG (cV _)) aR))) ?_);refine yu 1 [(8,.agg [sw 2 v2.2.Words,.sref 3 [] 0 (List.length v2.2.Guests) 17]),(9,pp 1)] [(3,some q1),(2,some q2),(1,some (rB118 v2.1)),(1,none),z1,z2] 4 ?_;obtain⟨v3,hv3,hh⟩:=bind_some hh;let z3:EH:=(4,some (rI_3 v3.2));refine ys (.call 41 [.t 9,.c (ii 12)]) (some 10) (cf (sw 4 v3.2) [z3,(1,some (rB118 v3.1))] 5 [1] (aOy hv3) [pp 1,ii 12] rz (hq (rB118 v2.1) (aG (cV _)) aR) aBa (hn aY (hq (rB118 v3.1) (aG (cV _)) aR)) ?_);refine yt (sp 11 [(2,pp 0),(3,sw 4 v3.2)]) [(0,some ⟨26,[sw 2 v2.2.Words,.sref 3 [] 0 (List.length v2.2.Guests) 17]⟩),(2,some q2),(3,some q1),z3] 5 (Aw.ret ?_);rw[aP hh];exact iH (r':= .tup [.agg [sw 2 v2.2.Words,.sref 3 [] 0 (List.length v2.2.Guests) 17],sw 4 v3.2]) kr (Ent.list [some 2,some 3,some 4] rfl rfl (Nat.zero_le _) (sZ (rQ rz)) (hn aY (hn cH (hn aY aR))))
noncomputable def g10:Sg tG:=⟨[.row 5],.two (.st 2026) (.row 3),eT⟩
theorem s10:Sok 10 g10:=λx_code R_ hh=>kc (aEs (x_code:=x_code) hh)
noncomputable def nE (v5:DHost×Int)(v6:DHost×Int)(s7:Int):Option Bool:=
 cond (decide (v5.2<s7))
  (Option.bind kO  λv8=>
  some v8)
  (cond (decide (v6.2<s7))
   (Option.bind kO  λv9=>
   some v9)
   (Option.bind (nX v5.1 v6.1 (-1:Int)) λv10=>
   cond v10
    (Option.bind kO  λv11=>
    some v11)
    (some false)))
noncomputable def sU (s12:Int×Int)(s14:Int):Option (LO (Int×Int) (JO Int Bool)):=some (.next (s14,w64 (s12.2+(1:Int))))
noncomputable def dE (v1:DHost×(List Int))(s12:Int×Int):Option (LO (Int×Int) (JO Int Bool)):=
 cond (decide (s12.2<(3:Int)))
  (Option.bind (jE v1.1) λv13=>
  cond v13
   (Option.bind (grd ((0:Int)<=s12.2/\s12.2<((List.length v1.1.Guests:Nat):Int)) (cond (List.getD v1.1.Guests (Int.toNat s12.2) default).Live
    (Option.bind (nG v1.2 s12.2) λv15=>
    some (.go (w64 (s12.1+v15))))
    (some (.go s12.1)))) λj14=>
    JO.run j14 (sU s12))
   (some (.ret (.go s12.1))))
  (some (.ret (.go s12.1)))
noncomputable def iU (x_code:List Int):Option Bool:=
 cond (decide ((1048576:Int)<((List.length x_code:Nat):Int)))
  (some true)
  (Option.bind (eT x_code) λv1=>
  Option.bind (nY v1.1) λv2=>
  Option.bind (nV v1.1) λv3=>
  Option.bind (pI v2 v3) λv4=>
  cond (!v4)
   (some false)
   (Option.bind (mY v1.1 v1.2) λv5=>
   Option.bind (mY v2 v1.2) λv6=>
   Option.bind (Option.bind (iter (dE v1) ((0:Int),(0:Int))) LO.val) λj7=>
    JO.run j7 (nE v5 v6)))
noncomputable def g3:Sg tG:=⟨[.row 5],.one .b,iU⟩
theorem s3:Sok 3 g3:=sgx [(10,.r g10),(11,.r g11),(13,.r g13),(12,.r g12),(14,.r g14),(15,.r g15),(16,.r g16),(17,.r g17),(18,.r g18)] ⟨s10,s11,s13,s12,s14,s15,s16,s17,s18,trivial⟩ (.s .o (.s .o (.s .o (.s .o (.s .o (.s .o (.s .o (.s .o (.j ⟨[6,7,8,9],[],[(.s 10,.i .i64)]⟩ (.s .o (.k (.l ⟨[3,4,6,7,8,9],[],[(.s 10,.i .i64),(.s 11,.i .i64)]⟩ (.s .o (.j ⟨[3,4,6,7,8,9,11],[],[(.s 10,.i .i64)]⟩ .o .o))))) .o))))))))) kr kr kr
theorem aId{x_code:List Int}{R_:Bool}(hh:iU x_code=some R_):Fn Tryz.prog 3 [bo (eI .u8) x_code] (.bool R_):=kc (s3 x_code R_ hh)
end Go.Proofs.YtkjabgefacfpfaaGreat
