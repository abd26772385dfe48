/- Plain functions of the program, and that it hands back what they say. Made by program. -/
import Derived.Test.YtkjabgefacfpfaaGreatWTD
import Derived.Test.YtkjabgefacfpfaaGreatProg
namespace Go.Proofs.YtkjabgefacfpfaaGreat
open Go.RowKit
set_option maxRecDepth 100000
set_option linter.all false
set_option maxHeartbeats 0
noncomputable def jT (x_n:Int):Option Bool:=
 cond (decide ((0:Int)<=x_n))
  (some (decide (x_n<=(4095:Int))))
  (some false)
noncomputable def g55:Sg tG:=⟨[.i .i64],.one .b,jT⟩
theorem s55:Sok 55 g55:=sgx [] trivial .o kr kr kr
noncomputable def aJn  (s1:Unit):Option Bool:=some true
noncomputable def xC (x_list:List Int)(s2:Int):Option (LO Int (JO Unit Bool)):=
 cond (decide (s2<((List.length x_list:Nat):Int)))
  (grd ((0:Int)<=s2/\s2<((List.length x_list:Nat):Int)) (Option.bind (jT (List.getD x_list (Int.toNat s2) default)) λv3=>
   cond (!v3)
    (some (.ret (.out false)))
    (some (.next (w64 (s2+(1:Int)))))))
  (some (.ret (.go ())))
noncomputable def kS (x_list:List Int):Option Bool:=
 Option.bind (Option.bind (iter (xC x_list) (0:Int)) LO.val) λj1=>
  JO.run j1 aJn
noncomputable def g52:Sg tG:=⟨[.row 3],.one .b,kS⟩
theorem s52:Sok 52 g52:=sgx [(55,.r g55)] ⟨s55,trivial⟩ (.s .o (.j ⟨[],[],[]⟩ (.s .o (.k (.l ⟨[5,6],[],[(.s 7,.i .i64)]⟩ .o))) .o)) kr kr kr
noncomputable def dJ (x_addr:Int):Option Bool:=
 cond (decide ((0:Int)<=x_addr))
  (some (decide (x_addr<(64:Int))))
  (some false)
noncomputable def bNj:Sg tG:=⟨[.i .i64],.one .b,dJ⟩
theorem bUh:Sok 157 bNj:=sgx [] trivial .o kr kr kr
noncomputable def jO (x_page:Int):Option Bool:=
 cond (decide ((0:Int)<=x_page))
  (some (decide (x_page<(8:Int))))
  (some false)
noncomputable def aUy:Sg tG:=⟨[.i .i64],.one .b,jO⟩
theorem bDn:Sok 138 aUy:=sgx [] trivial .o kr kr kr
noncomputable def oS (x_root:Int):Option Bool:=
 cond (decide (x_root=(-1:Int)))
  (some true)
  (Option.bind (jO x_root) λv1=>
  some v1)
noncomputable def bQv:Sg tG:=⟨[.i .i64],.one .b,oS⟩
theorem bUa:Sok 158 bQv:=sgx [(138,.r aUy)] ⟨bDn,trivial⟩ .o kr kr kr
noncomputable def sC (x_c:DCore):Option Bool:=
 cond (decide (((List.length x_c.Regs:Nat):Int)=(4:Int)))
  (Option.bind (kS x_c.Regs) λv1=>
  Option.bind (dJ x_c.Pc) λv2=>
  cond v2
   (Option.bind (dJ x_c.Vector) λv3=>
   cond v3
    (Option.bind (dJ x_c.Saved) λv4=>
    cond v4
     (Option.bind (dJ x_c.Bad) λv5=>
     cond (decide ((0:Int)<=x_c.Cause))
      (cond v1
       (cond v5
        (Option.bind (oS x_c.Root) λv6=>
        cond v6
         (cond (decide (x_c.Cause<=(4:Int)))
          (Option.bind (jT x_c.Timer) λv7=>
          some v7)
          (some false))
         (some false))
        (some false))
       (some false))
      (cond v1
       (cond v5
        (Option.bind (oS x_c.Root) λv8=>
        cond v8
         (some false)
         (some false))
        (some false))
       (some false)))
     (cond (decide ((0:Int)<=x_c.Cause))
      (cond v1
       (some false)
       (some false))
      (cond v1
       (some false)
       (some false))))
    (cond (decide ((0:Int)<=x_c.Cause))
     (cond v1
      (some false)
      (some false))
     (cond v1
      (some false)
      (some false))))
   (cond (decide ((0:Int)<=x_c.Cause))
    (cond v1
     (some false)
     (some false))
    (cond v1
     (some false)
     (some false))))
  (Option.bind (dJ x_c.Pc) λv9=>
  cond v9
   (Option.bind (dJ x_c.Vector) λv10=>
   cond v10
    (Option.bind (dJ x_c.Saved) λv11=>
    cond v11
     (Option.bind (dJ x_c.Bad) λv12=>
     cond (decide ((0:Int)<=x_c.Cause))
      (some false)
      (some false))
     (cond (decide ((0:Int)<=x_c.Cause))
      (some false)
      (some false)))
    (cond (decide ((0:Int)<=x_c.Cause))
     (some false)
     (some false)))
   (cond (decide ((0:Int)<=x_c.Cause))
    (some false)
    (some false)))
noncomputable def bPg:Sg tG:=⟨[.st 35],.one .b,sC⟩
theorem bTj:Sok 123 bPg:=sgx [(52,.r g52),(157,.r bNj),(158,.r bQv),(55,.r g55)] ⟨s52,bUh,bUa,s55,trivial⟩ .o kr kr kr
noncomputable def qE (x_words:List Int):Option Bool:=
 cond (decide (((List.length x_words:Nat):Int)<=(30:Int)))
  (Option.bind (kS x_words) λv1=>
  some v1)
  (some false)
noncomputable def bMx:Sg tG:=⟨[.row 3],.one .b,qE⟩
theorem bSw:Sok 125 bMx:=sgx [(52,.r g52)] ⟨s52,trivial⟩ .o kr kr kr
noncomputable def dC (x_n:Int)(x_low:Int)(x_high:Int):Option Bool:=
 cond (decide (x_low<=x_n))
  (some (decide (x_n<=x_high)))
  (some false)
noncomputable def g97:Sg tG:=⟨[.i .i64,.i .i64,.i .i64],.one .b,dC⟩
theorem s97:Sok 97 g97:=sgx [] trivial .o kr kr kr
noncomputable def gY (x_n:Int):Option Bool:=
 Option.bind (dC x_n (0:Int) (4095:Int)) λv1=>
 some v1
noncomputable def aUd:Sg tG:=⟨[.i .i64],.one .b,gY⟩
theorem bDs:Sok 120 aUd:=sgx [(97,.r g97)] ⟨s97,trivial⟩ .o kr kr kr
noncomputable def rR (x_list:List Int)(x_most:Int)(s1:Unit):Option Bool:=some (decide (((List.length x_list:Nat):Int)<=x_most))
noncomputable def rL (x_list:List Int)(s2:Int):Option (LO Int (JO Unit Bool)):=
 cond (decide (s2<((List.length x_list:Nat):Int)))
  (grd ((0:Int)<=s2/\s2<((List.length x_list:Nat):Int)) (Option.bind (gY (List.getD x_list (Int.toNat s2) default)) λv3=>
   cond (!v3)
    (some (.ret (.out false)))
    (some (.next (w64 (s2+(1:Int)))))))
  (some (.ret (.go ())))
noncomputable def gE (x_list:List Int)(x_most:Int):Option Bool:=
 Option.bind (Option.bind (iter (rL x_list) (0:Int)) LO.val) λj1=>
  JO.run j1 (rR x_list x_most)
noncomputable def g94:Sg tG:=⟨[.row 3,.i .i64],.one .b,gE⟩
theorem s94:Sok 94 g94:=sgx [(120,.r aUd)] ⟨bDs,trivial⟩ (.s .o (.j ⟨[0,1],[],[]⟩ (.s .o (.k (.l ⟨[0,1],[],[(.s 5,.i .i64)]⟩ .o))) .o)) kr kr kr
noncomputable def yH (x_c:DCore)(s1:Unit):Option Bool:=
 cond (decide (((List.length x_c.Regs:Nat):Int)=(4:Int)))
  (Option.bind (dC x_c.Pc (0:Int) (63:Int)) λv2=>
  cond v2
   (Option.bind (dC x_c.Vector (0:Int) (63:Int)) λv3=>
   cond v3
    (Option.bind (dC x_c.Saved (0:Int) (63:Int)) λv4=>
    cond v4
     (Option.bind (dC x_c.Bad (0:Int) (63:Int)) λv5=>
     cond v5
      (Option.bind (dC x_c.Root (-1:Int) (7:Int)) λv6=>
      cond v6
       (Option.bind (dC x_c.Cause (0:Int) (4:Int)) λv7=>
       cond v7
        (Option.bind (gY x_c.Timer) λv8=>
        some v8)
        (some false))
       (some false))
      (some false))
     (some false))
    (some false))
   (some false))
  (some false)
noncomputable def zS (x_c:DCore)(s9:Int):Option (LO Int (JO Unit Bool)):=
 cond (decide (s9<((List.length x_c.Regs:Nat):Int)))
  (grd ((0:Int)<=s9/\s9<((List.length x_c.Regs:Nat):Int)) (Option.bind (gY (List.getD x_c.Regs (Int.toNat s9) default)) λv10=>
   cond (!v10)
    (some (.ret (.out false)))
    (some (.next (w64 (s9+(1:Int)))))))
  (some (.ret (.go ())))
noncomputable def oO (x_c:DCore):Option Bool:=
 Option.bind (Option.bind (iter (zS x_c) (0:Int)) LO.val) λj1=>
  JO.run j1 (yH x_c)
noncomputable def g96:Sg tG:=⟨[.st 35],.one .b,oO⟩
theorem s96:Sok 96 g96:=sgx [(120,.r aUd),(97,.r g97)] ⟨bDs,s97,trivial⟩ (.s .o (.j ⟨[1],[],[]⟩ (.s .o (.k (.l ⟨[1],[],[(.s 3,.i .i64)]⟩ .o))) .o)) kr kr kr
noncomputable def aLs  (s1:List Int):Option (List Int):=some s1
noncomputable def kV (x_a:List Int)(s2:(List Int)×Int):Option (LO ((List Int)×Int) (JO (List Int) (List Int))):=
 cond (decide (s2.2<((List.length x_a:Nat):Int)))
  (grd ((0:Int)<=s2.2/\s2.2<((List.length x_a:Nat):Int)) (grd ((0:Int)<=s2.2/\s2.2<((List.length s2.1:Nat):Int)) (some (.next ((List.set s2.1 (Int.toNat s2.2) (List.getD x_a (Int.toNat s2.2) default)),w64 (s2.2+(1:Int)))))))
  (some (.ret (.go s2.1)))
noncomputable def dX (x_a:List Int):Option (List Int):=
 grd ((0:Int)<=((List.length x_a:Nat):Int)/\((List.length x_a:Nat):Int)*8<=2^47/\((List.length x_a:Nat):Int)<=2^47) (Option.bind (Option.bind (iter (kV x_a) ((List.replicate (Int.toNat ((List.length x_a:Nat):Int)) (0:Int)),(0:Int))) LO.val) λj1=>
  JO.run j1 aLs)
noncomputable def g31:Sg tG:=⟨[.row 3],.one (.row 3),dX⟩
theorem s31:Sok 31 g31:=sgx [] trivial (.s .o (.s .o (.j ⟨[],[],[(.s 3,.ro 3)]⟩ (.s .o (.k (.l ⟨[0],[],[(.s 3,.ro 3),(.s 4,.i .i64)]⟩ .o))) .o))) kr kr kr
theorem qS{x_a:List Int}{R_:(List Int)}(hh:dX x_a=some R_):Fn Tryz.prog 31 [bo (eI .i64) x_a] (.own 3 1 (List.length R_) (fl (eI .i64) R_)):=kc (s31 x_a R_ hh)
noncomputable def yM  (s1:Unit):Option Bool:=some true
noncomputable def fT (x_a:List Int)(x_b:List Int)(s2:Int):Option (LO Int (JO Unit Bool)):=
 cond (decide (s2<((List.length x_a:Nat):Int)))
  (grd ((0:Int)<=s2/\s2<((List.length x_a:Nat):Int)) (grd ((0:Int)<=s2/\s2<((List.length x_b:Nat):Int)) (cond (!decide ((List.getD x_a (Int.toNat s2) default)=(List.getD x_b (Int.toNat s2) default)))
   (some (.ret (.out false)))
   (some (.next (w64 (s2+(1:Int))))))))
  (some (.ret (.go ())))
noncomputable def fS (x_a:List Int)(x_b:List Int):Option Bool:=
 cond (!decide (((List.length x_a:Nat):Int)=((List.length x_b:Nat):Int)))
  (some false)
  (Option.bind (Option.bind (iter (fT x_a x_b) (0:Int)) LO.val) λj1=>
   JO.run j1 yM)
noncomputable def g32:Sg tG:=⟨[.row 3,.row 3],.one .b,fS⟩
theorem s32:Sok 32 g32:=sgx [] trivial (.s .o (.s .o (.j ⟨[],[],[]⟩ (.s .o (.k (.l ⟨[0,1],[],[(.s 5,.i .i64)]⟩ .o))) .o))) kr kr kr
theorem aPq{x_a:List Int}{x_b:List Int}{R_:Bool}(hh:fS x_a x_b=some R_):Fn Tryz.prog 32 [bo (eI .i64) x_a,bo (eI .i64) x_b] (.bool R_):=kc (s32 x_a x_b R_ hh)
noncomputable def sK (x_a:DCore):Option DCore:=
 Option.bind (dX x_a.Regs) λv1=>
 some (DCore.mk v1 x_a.Pc x_a.Root x_a.Vector x_a.Saved x_a.SavedUser x_a.Cause x_a.Bad x_a.Timer x_a.Waits x_a.User x_a.On x_a.Stopped)
noncomputable def bNp:Sg tG:=⟨[.st 148],.one (.st 35),sK⟩
theorem bRz:Sok 165 bNp:=sgx [(31,.r g31)] ⟨s31,trivial⟩ .o kr kr kr
noncomputable def sL (x_a:DCore)(x_b:DCore):Option Bool:=
 Option.bind (fS x_a.Regs x_b.Regs) λv1=>
 cond (!v1)
  (some false)
  (cond (!decide (x_a.Pc=x_b.Pc))
   (some false)
   (cond (!decide (x_a.Root=x_b.Root))
    (some false)
    (cond (!decide (x_a.Vector=x_b.Vector))
     (some false)
     (cond (!decide (x_a.Saved=x_b.Saved))
      (some false)
      (cond (!(x_a.SavedUser==x_b.SavedUser))
       (some false)
       (cond (!decide (x_a.Cause=x_b.Cause))
        (some false)
        (cond (!decide (x_a.Bad=x_b.Bad))
         (some false)
         (cond (!decide (x_a.Timer=x_b.Timer))
          (some false)
          (cond (!(x_a.Waits==x_b.Waits))
           (some false)
           (cond (!(x_a.User==x_b.User))
            (some false)
            (cond (!(x_a.On==x_b.On))
             (some false)
             (cond (!(x_a.Stopped==x_b.Stopped))
              (some false)
              (some true)))))))))))))
noncomputable def bMz:Sg tG:=⟨[.st 35,.st 35],.one .b,sL⟩
theorem bTt:Sok 167 bMz:=sgx [(32,.r g32)] ⟨s32,trivial⟩ .o kr kr kr
noncomputable def jP (x_a:List Int)(x_left:Int):Option Int:=
 cond (decide ((w64 (x_left-((List.length x_a:Nat):Int)))<(0:Int)))
  (some (-1:Int))
  (some (w64 (x_left-((List.length x_a:Nat):Int))))
noncomputable def g79:Sg tG:=⟨[.row 3,.i .i64],.one (.i .i64),jP⟩
theorem s79:Sok 79 g79:=sgx [] trivial .o kr kr kr
noncomputable def sM (x_a:DCore)(x_left:Int):Option Int:=
 Option.bind (jP x_a.Regs x_left) λv1=>
 cond (decide (v1<(0:Int)))
  (some (-1:Int))
  (some v1)
noncomputable def bNz:Sg tG:=⟨[.st 148,.i .i64],.one (.i .i64),sM⟩
theorem bUj:Sok 163 bNz:=sgx [(79,.r g79)] ⟨s79,trivial⟩ .o kr kr kr
theorem aJj:LW 33 ⟨19,[.tmp 4],.seq (.reg false (rg 33 0)) (.seq (.seq (.reg false (rg 33 1)) (.block 0 (.loop (.seq (.seq (.reg false (rg 33 2)) (.cond (.t 9) .skip (.exit 0))) (.seq (.block 1 (.seq (.reg false (rg 33 3)) (.reg false (rg 33 4)))) (.reg false (rg 33 5))))))) (.seq (.reg false (rg 33 7)) .ret))⟩:=kr
noncomputable def pS  (s1:Int×(List Int)):Option ((List Int)×Int):=some (s1.2,s1.1)
noncomputable def gC  (s2:(List Int)×Int×Int):Option (LO ((List Int)×Int×Int) (JO (Int×(List Int)) ((List Int)×Int))):=
 cond (decide (s2.2.2<((List.length s2.1:Nat):Int)))
  (grd ((0:Int)<=s2.2.2/\s2.2.2<((List.length s2.1:Nat):Int)) (some (.next ((List.set s2.1 (Int.toNat s2.2.2) s2.2.1),w64 (s2.2.1+(1:Int)),w64 (s2.2.2+(1:Int))))))
  (some (.ret (.go (s2.2.1,s2.1))))
noncomputable def eP (x_a:List Int)(x_k:Int):Option ((List Int)×Int):=
 Option.bind (Option.bind (iter gC (x_a,x_k,(0:Int))) LO.val) λj1=>
  JO.run j1 pS
theorem lD{x_a:List Int}{x_k:Int}{R_:(List Int)×Int}(hh:eP x_a x_k=some R_):Inl Tryz.prog 33 [.sref 0 [] 0 (List.length x_a) 1,.int .i64 x_k] [(0,some (rI_3 x_a))] 1 (.int .i64 R_.2) [(0,some (rI_3 R_.1))] 1:=by let z2:EH:=(0,some (rI_3 x_a));unfold eP at hh;refine Inl.start aJj [0,1] [0] (E:=sp 19 [(0,sw 0 x_a),(1,ii x_k)]) (H1:=[z2]) kr kr (sy [0,1] [0] (sp 19 [(0,sw 0 x_a),(1,ii x_k)]) [z2] 1 ?_);obtain⟨j1,hh,hk1⟩:=bind_some hh;refine Aw.join (S:=Int×(List Int)) (λs1=>sp 19 [(1,ii s1.1)]) (λs1=>[(0,some (rI_3 s1.2))]) 1 (λs1=>pS s1=some R_) ?_ ?_;{intro s1 hh;unfold pS at hh;refine sy [4] [0] (sp 19 [(4,ii s1.1)]) [(0,some (rI_3 s1.2))] 1 (Aw.ret ?_);rw[bG hh];exact kJ (r':=ii s1.1) kr (el [some 0] (wC hT) (hn bK bB))};intro Q1 hN1 hR1 hE1;refine sy [0,1,5] [0] (sp 19 [(0,sw 0 x_a),(1,ii x_k),(5,ii 0)]) [z2] 1 (Aw.block ?_);obtain⟨o2,hi2,hk2⟩:=bind_some hh;refine Aw.iter (λ(s2:(List Int)×Int×Int)=>sp 19 [(0,sw 0 s2.1),(1,ii s2.2.1),(5,ii s2.2.2)]) (λ(s2:(List Int)×Int×Int)=>[(0,some (rI_3 s2.1))]) 1 hi2 (el [some 0] (iL kr (rs (sw 0 x_a) (ri (ri tC)))) (hn bK bB)) ?_;intro s2 u2 Q2 hh hN2 hX2 hR2;let z3:EH:=(0,some (rI_3 s2.1));let z4:=(0,sw 0 s2.1);let z5:=(1,ii (w64 (s2.2.1+(1:Int))));let z6:=(5,ii s2.2.2);let z7:=(9,bb (decide (s2.2.2<((List.length s2.1:Nat):Int))));let z1:=List.set s2.1 (Int.toNat s2.2.2) s2.2.1;unfold gC at hh;refine Aw.seq (sy [0,1,5,9] [0] (sp 19 [z4,(1,ii s2.2.1),z6,z7]) [z3] 1 ?_);rcases tK hh with⟨hb,hh⟩|⟨hb,hh⟩;{refine cF hb (Aw.exit (aVz (hX2 _ _ _ _ _ (bG hh) ?_)));intro hout;rw[hout]at hk2;refine aSt ?_;obtain rfl:=bG hk2;exact hN1 (s2.2.1,s2.1) _ _ _ hk1 (el [some 0] (iL kr (ri tC)) (hn bK bB))};refine cT hb (Aw.xskip (λ_ _ _ hq=>dH hq) (Aw.seq (Aw.block (Aw.sreg [0,1,5] [0] ?_))));obtain⟨hg24,hh⟩:=aF hh;refine yjc 4 [(0:Int)<=s2.2.2/\s2.2.2<((List.length s2.1:Nat):Int)] (sp 19 [z4,(1,ii s2.2.1),z6,z7,(12,sw 0 s2.1),(13,ii s2.2.2),(14,ii s2.2.1),(15,.ptr 0 [] (0+(Int.toNat s2.2.2)*1))]) [z3] 1 (.cons hg24 .nil) ?_;let q1:Root:=(rI_3 z1);refine ys (.store 1 (.t 15) (.t 14)) none (pR (c:=(eI .i64)) (xs:=s2.1) (e:=3) (r:=0) (π:=[]) (o:=0+(Int.toNat s2.2.2)*1) (i:=(Int.toNat s2.2.2)) (off:=0) (vs:=[ii s2.2.1]) (y:=s2.2.1) (H':=[(0,some q1),z3]) aP kr kr kr kr ltn ltn dd kr kr ?_);exact yt (sp 19 [z4,(1,ii s2.2.1),z6]) [(0,some q1)] 1 (Aw.xreg [0,1,5] [0] (λ_ _ _ hq=>aAp (dH hq)) (yt (sp 19 [z4,z5,z6]) [(0,some q1)] 1 (Aw.oreg (ye (sp 19 [z4,z5,(5,ii (w64 (s2.2.2+(1:Int)))),(10,ii s2.2.2),(11,ii (w64 (s2.2.2+(1:Int))))]) [(0,some q1)] 1 (hN2 (z1,w64 (s2.2.1+(1:Int)),w64 (s2.2.2+(1:Int))) _ _ _ (bG hh) (el [some 0] (iL kr (rs (sw 0 s2.1) (ri (ri tC)))) (hn bK bB)))))))
noncomputable def aFy  (s1:Int):Option Int:=some s1
noncomputable def iX (x_a:List Int)(s2:Int×Int):Option (LO (Int×Int) (JO Int Int)):=
 cond (decide (s2.2<((List.length x_a:Nat):Int)))
  (grd ((0:Int)<=s2.2/\s2.2<((List.length x_a:Nat):Int)) (cond (!decide ((List.getD x_a (Int.toNat s2.2) default)=s2.1))
   (some (.ret (.out (-1:Int))))
   (some (.next ((w64 (s2.1+(1:Int))),w64 (s2.2+(1:Int)))))))
  (some (.ret (.go s2.1)))
noncomputable def gJ (x_a:List Int)(x_k:Int):Option Int:=
 Option.bind (Option.bind (iter (iX x_a) (x_k,(0:Int))) LO.val) λj1=>
  JO.run j1 aFy
noncomputable def g84:Sg tG:=⟨[.row 3,.i .i64],.one (.i .i64),gJ⟩
theorem s84:Sok 84 g84:=sgx [] trivial (.s .o (.j ⟨[],[],[(.s 1,.i .i64)]⟩ (.s .o (.k (.l ⟨[0],[],[(.s 1,.i .i64),(.s 5,.i .i64)]⟩ .o))) .o)) kr kr kr
noncomputable def pA (x_c:DCore):Option Bool:=
 cond (decide (x_c.Pc=(0:Int)))
  (cond (decide (x_c.Root=(0:Int)))
   (cond (decide (x_c.Vector=(0:Int)))
    (cond (decide (x_c.Saved=(0:Int)))
     (cond x_c.SavedUser
      (cond (decide (((List.length x_c.Regs:Nat):Int)=(0:Int)))
       (cond (decide (x_c.Bad=(0:Int)))
        (cond (decide (x_c.Cause=(0:Int)))
         (cond (decide (x_c.Timer=(0:Int)))
          (some false)
          (some false))
         (some false))
        (some false))
       (some false))
      (cond x_c.Waits
       (cond (decide (((List.length x_c.Regs:Nat):Int)=(0:Int)))
        (cond (decide (x_c.Bad=(0:Int)))
         (cond (decide (x_c.Cause=(0:Int)))
          (cond (decide (x_c.Timer=(0:Int)))
           (some false)
           (some false))
          (some false))
         (some false))
        (some false))
       (cond x_c.User
        (cond (decide (((List.length x_c.Regs:Nat):Int)=(0:Int)))
         (cond (decide (x_c.Bad=(0:Int)))
          (cond (decide (x_c.Cause=(0:Int)))
           (cond (decide (x_c.Timer=(0:Int)))
            (some false)
            (some false))
           (some false))
          (some false))
         (some false))
        (cond x_c.On
         (cond (decide (((List.length x_c.Regs:Nat):Int)=(0:Int)))
          (cond (decide (x_c.Bad=(0:Int)))
           (cond (decide (x_c.Cause=(0:Int)))
            (cond (decide (x_c.Timer=(0:Int)))
             (some false)
             (some false))
            (some false))
           (some false))
          (some false))
         (cond (decide (((List.length x_c.Regs:Nat):Int)=(0:Int)))
          (cond (decide (x_c.Bad=(0:Int)))
           (cond (decide (x_c.Cause=(0:Int)))
            (cond (decide (x_c.Timer=(0:Int)))
             (some (!x_c.Stopped))
             (some false))
            (some false))
           (some false))
          (some false))))))
     (cond x_c.SavedUser
      (cond (decide (((List.length x_c.Regs:Nat):Int)=(0:Int)))
       (some false)
       (some false))
      (cond x_c.Waits
       (cond (decide (((List.length x_c.Regs:Nat):Int)=(0:Int)))
        (some false)
        (some false))
       (cond x_c.User
        (cond (decide (((List.length x_c.Regs:Nat):Int)=(0:Int)))
         (some false)
         (some false))
        (cond x_c.On
         (cond (decide (((List.length x_c.Regs:Nat):Int)=(0:Int)))
          (some false)
          (some false))
         (cond (decide (((List.length x_c.Regs:Nat):Int)=(0:Int)))
          (some false)
          (some false)))))))
    (cond x_c.SavedUser
     (cond (decide (((List.length x_c.Regs:Nat):Int)=(0:Int)))
      (some false)
      (some false))
     (cond x_c.Waits
      (cond (decide (((List.length x_c.Regs:Nat):Int)=(0:Int)))
       (some false)
       (some false))
      (cond x_c.User
       (cond (decide (((List.length x_c.Regs:Nat):Int)=(0:Int)))
        (some false)
        (some false))
       (cond x_c.On
        (cond (decide (((List.length x_c.Regs:Nat):Int)=(0:Int)))
         (some false)
         (some false))
        (cond (decide (((List.length x_c.Regs:Nat):Int)=(0:Int)))
         (some false)
         (some false)))))))
   (cond x_c.SavedUser
    (cond (decide (((List.length x_c.Regs:Nat):Int)=(0:Int)))
     (some false)
     (some false))
    (cond x_c.Waits
     (cond (decide (((List.length x_c.Regs:Nat):Int)=(0:Int)))
      (some false)
      (some false))
     (cond x_c.User
      (cond (decide (((List.length x_c.Regs:Nat):Int)=(0:Int)))
       (some false)
       (some false))
      (cond x_c.On
       (cond (decide (((List.length x_c.Regs:Nat):Int)=(0:Int)))
        (some false)
        (some false))
       (cond (decide (((List.length x_c.Regs:Nat):Int)=(0:Int)))
        (some false)
        (some false)))))))
  (cond x_c.SavedUser
   (cond (decide (((List.length x_c.Regs:Nat):Int)=(0:Int)))
    (some false)
    (some false))
   (cond x_c.Waits
    (cond (decide (((List.length x_c.Regs:Nat):Int)=(0:Int)))
     (some false)
     (some false))
    (cond x_c.User
     (cond (decide (((List.length x_c.Regs:Nat):Int)=(0:Int)))
      (some false)
      (some false))
     (cond x_c.On
      (cond (decide (((List.length x_c.Regs:Nat):Int)=(0:Int)))
       (some false)
       (some false))
      (cond (decide (((List.length x_c.Regs:Nat):Int)=(0:Int)))
       (some false)
       (some false))))))
noncomputable def bNy:Sg tG:=⟨[.st 35],.one .b,pA⟩
theorem bTu:Sok 176 bNy:=sgx [] trivial .o kr kr kr
noncomputable def mQ (x_guest:DGuest):Option Bool:=
 Option.bind (pA x_guest.C) λv1=>
 cond v1
  (cond (decide (((List.length x_guest.Pages:Nat):Int)=(0:Int)))
   (cond (decide (((List.length x_guest.In:Nat):Int)=(0:Int)))
    (some (decide (((List.length x_guest.Out:Nat):Int)=(0:Int))))
    (some false))
   (some false))
  (some false)
noncomputable def bNx:Sg tG:=⟨[.st 38],.one .b,mQ⟩
theorem bSq:Sok 144 bNx:=sgx [(176,.r bNy)] ⟨bTu,trivial⟩ .o kr kr kr
noncomputable def sB (x_s:DSlot):Option Bool:=
 cond (decide (x_s.Frame=(-1:Int)))
  (cond (!x_s.Write)
   (some (!x_s.Dirty))
   (some false))
  (cond (decide ((0:Int)<=x_s.Frame))
   (some (decide (x_s.Frame<(20:Int))))
   (some false))
noncomputable def bQp:Sg tG:=⟨[.st 53],.one .b,sB⟩
theorem bUd:Sok 177 bQp:=sgx [] trivial .o kr kr kr
noncomputable def aJh  (s1:Unit):Option Bool:=some true
noncomputable def xA (x_pages:List DSlot)(s2:Int):Option (LO Int (JO Unit Bool)):=
 cond (decide (s2<((List.length x_pages:Nat):Int)))
  (grd ((0:Int)<=s2/\s2<((List.length x_pages:Nat):Int)) (Option.bind (sB (DSlot.mk (List.getD x_pages (Int.toNat s2) default).Frame (List.getD x_pages (Int.toNat s2) default).Write (List.getD x_pages (Int.toNat s2) default).Dirty)) λv3=>
   cond (!v3)
    (some (.ret (.out false)))
    (some (.next (w64 (s2+(1:Int)))))))
  (some (.ret (.go ())))
noncomputable def rG (x_pages:List DSlot):Option Bool:=
 cond (!decide (((List.length x_pages:Nat):Int)=(8:Int)))
  (some false)
  (Option.bind (Option.bind (iter (xA x_pages) (0:Int)) LO.val) λj1=>
   JO.run j1 aJh)
noncomputable def bOb:Sg tG:=⟨[.row 53],.one .b,rG⟩
theorem bTs:Sok 145 bOb:=sgx [(177,.r bQp)] ⟨bUd,trivial⟩ (.s .o (.s .o (.j ⟨[],[],[]⟩ (.s .o (.k (.l ⟨[8,9],[],[(.s 10,.i .i64)]⟩ .o))) .o))) kr kr kr
noncomputable def nA (x_guest:DGuest):Option Bool:=
 cond (!x_guest.Live)
  (Option.bind (mQ x_guest) λv1=>
  some v1)
  (Option.bind (sC x_guest.C) λv2=>
  cond v2
   (Option.bind (rG x_guest.Pages) λv3=>
   cond v3
    (Option.bind (qE x_guest.In) λv4=>
    cond v4
     (Option.bind (qE x_guest.Out) λv5=>
     some v5)
     (some false))
    (some false))
   (some false))
noncomputable def g99:Sg tG:=⟨[.st 38],.one .b,nA⟩
theorem s99:Sok 99 g99:=sgx [(144,.r bNx),(123,.r bPg),(145,.r bOb),(125,.r bMx)] ⟨bSq,bTj,bTs,bSw,trivial⟩ .o kr kr kr
noncomputable def aIe  (s1:Unit):Option Bool:=some true
noncomputable def lU (x_guests:List DGuest)(s2:Int):Option (LO Int (JO Unit Bool)):=
 cond (decide (s2<((List.length x_guests:Nat):Int)))
  (grd ((0:Int)<=s2/\s2<((List.length x_guests:Nat):Int)) (Option.bind (nA (DGuest.mk (List.getD x_guests (Int.toNat s2) default).Live (DCore.mk ((List.getD x_guests (Int.toNat s2) default).C).Regs ((List.getD x_guests (Int.toNat s2) default).C).Pc ((List.getD x_guests (Int.toNat s2) default).C).Root ((List.getD x_guests (Int.toNat s2) default).C).Vector ((List.getD x_guests (Int.toNat s2) default).C).Saved ((List.getD x_guests (Int.toNat s2) default).C).SavedUser ((List.getD x_guests (Int.toNat s2) default).C).Cause ((List.getD x_guests (Int.toNat s2) default).C).Bad ((List.getD x_guests (Int.toNat s2) default).C).Timer ((List.getD x_guests (Int.toNat s2) default).C).Waits ((List.getD x_guests (Int.toNat s2) default).C).User ((List.getD x_guests (Int.toNat s2) default).C).On ((List.getD x_guests (Int.toNat s2) default).C).Stopped) (List.getD x_guests (Int.toNat s2) default).Pages (List.getD x_guests (Int.toNat s2) default).In (List.getD x_guests (Int.toNat s2) default).Out)) λv3=>
   cond (!v3)
    (some (.ret (.out false)))
    (some (.next (w64 (s2+(1:Int)))))))
  (some (.ret (.go ())))
noncomputable def pL (x_guests:List DGuest):Option Bool:=
 cond (!decide (((List.length x_guests:Nat):Int)=(3:Int)))
  (some false)
  (Option.bind (Option.bind (iter (lU x_guests) (0:Int)) LO.val) λj1=>
   JO.run j1 aIe)
noncomputable def g53:Sg tG:=⟨[.row 38],.one .b,pL⟩
theorem s53:Sok 53 g53:=sgx [(99,.r g99)] ⟨s99,trivial⟩ (.s .o (.s .o (.j ⟨[],[],[]⟩ (.s .o (.k (.l ⟨[8,9],[],[(.s 10,.i .i64)]⟩ .o))) .o))) kr kr kr
noncomputable def tN  (s1:List Int):Option (List Int):=some s1
noncomputable def tV (s2:(List Int)×Int)(s3:List Int):Option (LO ((List Int)×Int) (JO (List Int) (List Int))):=some (.next (s3,w64 (s2.2+(1:Int))))
noncomputable def tO (s4:(List Int)×Int)(s5:List Int):Option (LO ((List Int)×Int) (JO (List Int) (LO ((List Int)×Int) (JO (List Int) (List Int))))):=some (.next (s5,w64 (s4.2+(1:Int))))
noncomputable def gB (x_guests:List DGuest)(s2:(List Int)×Int)(s4:(List Int)×Int):Option (LO ((List Int)×Int) (JO (List Int) (LO ((List Int)×Int) (JO (List Int) (List Int))))):=
 cond (decide (s4.2<((List.length (List.getD x_guests (Int.toNat s2.2) default).Pages:Nat):Int)))
  (Option.bind (grd ((0:Int)<=s4.2/\s4.2<((List.length (List.getD x_guests (Int.toNat s2.2) default).Pages:Nat):Int)) (cond (!decide ((List.getD (List.getD x_guests (Int.toNat s2.2) default).Pages (Int.toNat s4.2) default).Frame=(-1:Int)))
   (grd ((0:Int)<=(List.getD (List.getD x_guests (Int.toNat s2.2) default).Pages (Int.toNat s4.2) default).Frame/\(List.getD (List.getD x_guests (Int.toNat s2.2) default).Pages (Int.toNat s4.2) default).Frame<((List.length s4.1:Nat):Int)) (grd ((0:Int)<=(List.getD (List.getD x_guests (Int.toNat s2.2) default).Pages (Int.toNat s4.2) default).Frame/\(List.getD (List.getD x_guests (Int.toNat s2.2) default).Pages (Int.toNat s4.2) default).Frame<((List.length s4.1:Nat):Int)) (some (.go (List.set s4.1 (Int.toNat (List.getD (List.getD x_guests (Int.toNat s2.2) default).Pages (Int.toNat s4.2) default).Frame) (w64 ((List.getD s4.1 (Int.toNat (List.getD (List.getD x_guests (Int.toNat s2.2) default).Pages (Int.toNat s4.2) default).Frame) default)+(1:Int))))))))
   (some (.go s4.1)))) λj5=>
   JO.run j5 (tO s4))
  (some (.ret (.go s4.1)))
noncomputable def jH (x_guests:List DGuest)(s2:(List Int)×Int):Option (LO ((List Int)×Int) (JO (List Int) (List Int))):=
 cond (decide (s2.2<((List.length x_guests:Nat):Int)))
  (Option.bind (grd ((0:Int)<=s2.2/\s2.2<((List.length x_guests:Nat):Int)) (Option.bind (iter (gB x_guests s2) (s2.1,(0:Int))) LO.val)) λj3=>
   JO.run j3 (tV s2))
  (some (.ret (.go s2.1)))
noncomputable def fW (x_guests:List DGuest):Option (List Int):=
 Option.bind (Option.bind (iter (jH x_guests) ((List.replicate (Int.toNat (20:Int)) (0:Int)),(0:Int))) LO.val) λj1=>
  JO.run j1 tN
noncomputable def g91:Sg tG:=⟨[.row 38],.one (.row 3),fW⟩
theorem s91:Sok 91 g91:=sgx [] trivial (.s .o (.s .o (.j ⟨[],[],[(.s 3,.ro 3)]⟩ (.s .o (.k (.l ⟨[9,10],[],[(.s 3,.ro 3),(.s 11,.i .i64)]⟩ (.s .o (.s .o (.j ⟨[9,10,11],[],[(.s 3,.ro 3)]⟩ (.k (.s .o (.s .o (.k (.l ⟨[9,10,11,16,17],[],[(.s 3,.ro 3),(.s 18,.i .i64)]⟩ (.s .o (.s .o (.j ⟨[9,10,11,16,17,18],[],[(.s 3,.ro 3)]⟩ .o .o)))))))) .o)))))) .o))) kr kr kr
noncomputable def xE  (s2:Unit):Option Bool:=some true
noncomputable def pC (s3:Int)(s4:Unit):Option (LO Int (JO Unit Bool)):=some (.next (w64 (s3+(1:Int))))
noncomputable def kE (s5:Int)(s6:Unit):Option (LO Int (JO Unit (LO Int (JO Unit Bool)))):=some (.next (w64 (s5+(1:Int))))
noncomputable def eT (x_guests:List DGuest)(v1:List Int)(s3:Int)(s5:Int):Option (LO Int (JO Unit (LO Int (JO Unit Bool)))):=
 cond (decide (s5<((List.length (List.getD x_guests (Int.toNat s3) default).Pages:Nat):Int)))
  (Option.bind (grd ((0:Int)<=s5/\s5<((List.length (List.getD x_guests (Int.toNat s3) default).Pages:Nat):Int)) (cond (List.getD (List.getD x_guests (Int.toNat s3) default).Pages (Int.toNat s5) default).Write
   (grd ((0:Int)<=(List.getD (List.getD x_guests (Int.toNat s3) default).Pages (Int.toNat s5) default).Frame/\(List.getD (List.getD x_guests (Int.toNat s3) default).Pages (Int.toNat s5) default).Frame<((List.length v1:Nat):Int)) (cond (decide ((1:Int)<(List.getD v1 (Int.toNat (List.getD (List.getD x_guests (Int.toNat s3) default).Pages (Int.toNat s5) default).Frame) default)))
    (some (.out (.ret (.out (.ret (.out false))))))
    (some (.go ()))))
   (some (.go ())))) λj6=>
   JO.run j6 (kE s5))
  (some (.ret (.go ())))
noncomputable def gF (x_guests:List DGuest)(v1:List Int)(s3:Int):Option (LO Int (JO Unit Bool)):=
 cond (decide (s3<((List.length x_guests:Nat):Int)))
  (Option.bind (grd ((0:Int)<=s3/\s3<((List.length x_guests:Nat):Int)) (Option.bind (iter (eT x_guests v1 s3) (0:Int)) LO.val)) λj4=>
   JO.run j4 (pC s3))
  (some (.ret (.go ())))
noncomputable def iS (x_guests:List DGuest):Option Bool:=
 Option.bind (fW x_guests) λv1=>
 Option.bind (Option.bind (iter (gF x_guests v1) (0:Int)) LO.val) λj2=>
  JO.run j2 xE
noncomputable def g54:Sg tG:=⟨[.row 38],.one .b,iS⟩
theorem s54:Sok 54 g54:=sgx [(91,.r g91)] ⟨s91,trivial⟩ (.s .o (.s .o (.j ⟨[],[],[]⟩ (.s .o (.k (.l ⟨[3,10,11],[],[(.s 12,.i .i64)]⟩ (.s .o (.s .o (.j ⟨[3,10,11,12],[],[]⟩ (.k (.s .o (.s .o (.k (.l ⟨[3,10,11,12,17,18],[],[(.s 19,.i .i64)]⟩ (.s .o (.s .o (.j ⟨[3,10,11,12,17,18,19],[],[]⟩ .o .o)))))))) .o)))))) .o))) kr kr kr
noncomputable def oR (x_h:DHost):Option Bool:=
 cond (decide (((List.length x_h.Words:Nat):Int)=(160:Int)))
  (Option.bind (kS x_h.Words) λv1=>
  cond v1
   (Option.bind (pL x_h.Guests) λv2=>
   cond v2
    (Option.bind (iS x_h.Guests) λv3=>
    some v3)
    (some false))
   (some false))
  (some false)
noncomputable def g15:Sg tG:=⟨[.st 26],.one .b,oR⟩
theorem s15:Sok 15 g15:=sgx [(52,.r g52),(53,.r g53),(54,.r g54)] ⟨s52,s53,s54,trivial⟩ .o kr kr kr
noncomputable def oK (x_g:DGuest):Option Bool:=
 cond (decide (((List.length x_g.C.Regs:Nat):Int)=(0:Int)))
  (cond (decide (x_g.C.Pc=(0:Int)))
   (cond (decide (x_g.C.Root=(0:Int)))
    (cond (decide (x_g.C.Vector=(0:Int)))
     (cond (decide (x_g.C.Saved=(0:Int)))
      (cond (!x_g.C.SavedUser)
       (cond (decide (x_g.C.Cause=(0:Int)))
        (cond (decide (x_g.C.Bad=(0:Int)))
         (cond (decide (x_g.C.Timer=(0:Int)))
          (cond (!x_g.C.Waits)
           (cond (!x_g.C.User)
            (cond (!x_g.C.On)
             (cond (!x_g.C.Stopped)
              (cond (decide (((List.length x_g.Pages:Nat):Int)=(0:Int)))
               (cond (decide (((List.length x_g.In:Nat):Int)=(0:Int)))
                (some (decide (((List.length x_g.Out:Nat):Int)=(0:Int))))
                (some false))
               (some false))
              (some false))
             (some false))
            (some false))
           (some false))
          (some false))
         (some false))
        (some false))
       (some false))
      (some false))
     (some false))
    (some false))
   (some false))
  (some false)
noncomputable def g95:Sg tG:=⟨[.st 38],.one .b,oK⟩
theorem s95:Sok 95 g95:=sgx [] trivial .o kr kr kr
noncomputable def aLw  (s3:Unit):Option Bool:=some true
noncomputable def sS (s4:Int)(s5:Unit):Option (LO Int (JO Unit Bool)):=some (.next (w64 (s4+(1:Int))))
noncomputable def oC (s2:(List Int)×(List Bool))(s4:Int):Option (LO Int (JO Unit Bool)):=
 cond (decide (s4<(20:Int)))
  (Option.bind (grd ((0:Int)<=s4/\s4<((List.length s2.1:Nat):Int)) (cond (decide ((1:Int)<(List.getD s2.1 (Int.toNat s4) default)))
   (grd ((0:Int)<=s4/\s4<((List.length s2.2:Nat):Int)) (cond (List.getD s2.2 (Int.toNat s4) default)
    (some (.out (.ret (.out false))))
    (some (.go ()))))
   (some (.go ())))) λj5=>
   JO.run j5 (sS s4))
  (some (.ret (.go ())))
noncomputable def yT  (s2:(List Int)×(List Bool)):Option Bool:=
 Option.bind (Option.bind (iter (oC s2) (0:Int)) LO.val) λj3=>
  JO.run j3 aLw
noncomputable def sT (s6:(List Int)×(List Bool)×Int)(s7:(List Int)×(List Bool)):Option (LO ((List Int)×(List Bool)×Int) (JO ((List Int)×(List Bool)) Bool)):=some (.next (s7.1,s7.2,w64 (s6.2.2+(1:Int))))
noncomputable def rN (s12:(List Int)×(List Bool)×Int)(s13:(List Bool)×(List Int)):Option (LO ((List Int)×(List Bool)×Int) (JO ((List Int)×(List Bool)) (LO ((List Int)×(List Bool)×Int) (JO ((List Int)×(List Bool)) Bool)))):=some (.next (s13.2,s13.1,w64 (s12.2.2+(1:Int))))
noncomputable def rO (x_h:DHost)(s6:(List Int)×(List Bool)×Int)(s12:(List Int)×(List Bool)×Int)(s14:Unit):Option (JO ((List Bool)×(List Int)) (LO ((List Int)×(List Bool)×Int) (JO ((List Int)×(List Bool)) (LO ((List Int)×(List Bool)×Int) (JO ((List Int)×(List Bool)) Bool))))):=
 cond (decide ((0:Int)<=(List.getD (List.getD x_h.Guests (Int.toNat s6.2.2) default).Pages (Int.toNat s12.2.2) default).Frame))
  (grd ((0:Int)<=(List.getD (List.getD x_h.Guests (Int.toNat s6.2.2) default).Pages (Int.toNat s12.2.2) default).Frame/\(List.getD (List.getD x_h.Guests (Int.toNat s6.2.2) default).Pages (Int.toNat s12.2.2) default).Frame<((List.length s12.1:Nat):Int)) (grd ((0:Int)<=(List.getD (List.getD x_h.Guests (Int.toNat s6.2.2) default).Pages (Int.toNat s12.2.2) default).Frame/\(List.getD (List.getD x_h.Guests (Int.toNat s6.2.2) default).Pages (Int.toNat s12.2.2) default).Frame<((List.length s12.1:Nat):Int)) (grd ((0:Int)<=(List.getD (List.getD x_h.Guests (Int.toNat s6.2.2) default).Pages (Int.toNat s12.2.2) default).Frame/\(List.getD (List.getD x_h.Guests (Int.toNat s6.2.2) default).Pages (Int.toNat s12.2.2) default).Frame<((List.length s12.2.1:Nat):Int)) (cond (List.getD s12.2.1 (Int.toNat (List.getD (List.getD x_h.Guests (Int.toNat s6.2.2) default).Pages (Int.toNat s12.2.2) default).Frame) default)
   (grd ((0:Int)<=(List.getD (List.getD x_h.Guests (Int.toNat s6.2.2) default).Pages (Int.toNat s12.2.2) default).Frame/\(List.getD (List.getD x_h.Guests (Int.toNat s6.2.2) default).Pages (Int.toNat s12.2.2) default).Frame<((List.length s12.2.1:Nat):Int)) (some (.go ((List.set s12.2.1 (Int.toNat (List.getD (List.getD x_h.Guests (Int.toNat s6.2.2) default).Pages (Int.toNat s12.2.2) default).Frame) true),List.set s12.1 (Int.toNat (List.getD (List.getD x_h.Guests (Int.toNat s6.2.2) default).Pages (Int.toNat s12.2.2) default).Frame) (w64 ((List.getD s12.1 (Int.toNat (List.getD (List.getD x_h.Guests (Int.toNat s6.2.2) default).Pages (Int.toNat s12.2.2) default).Frame) default)+(1:Int)))))))
   (grd ((0:Int)<=(List.getD (List.getD x_h.Guests (Int.toNat s6.2.2) default).Pages (Int.toNat s12.2.2) default).Frame/\(List.getD (List.getD x_h.Guests (Int.toNat s6.2.2) default).Pages (Int.toNat s12.2.2) default).Frame<((List.length s12.2.1:Nat):Int)) (some (.go ((List.set s12.2.1 (Int.toNat (List.getD (List.getD x_h.Guests (Int.toNat s6.2.2) default).Pages (Int.toNat s12.2.2) default).Frame) (List.getD (List.getD x_h.Guests (Int.toNat s6.2.2) default).Pages (Int.toNat s12.2.2) default).Write),List.set s12.1 (Int.toNat (List.getD (List.getD x_h.Guests (Int.toNat s6.2.2) default).Pages (Int.toNat s12.2.2) default).Frame) (w64 ((List.getD s12.1 (Int.toNat (List.getD (List.getD x_h.Guests (Int.toNat s6.2.2) default).Pages (Int.toNat s12.2.2) default).Frame) default)+(1:Int)))))))))))
  (some (.go (s12.2.1,s12.1)))
noncomputable def jU (x_h:DHost)(s6:(List Int)×(List Bool)×Int)(s12:(List Int)×(List Bool)×Int):Option (LO ((List Int)×(List Bool)×Int) (JO ((List Int)×(List Bool)) (LO ((List Int)×(List Bool)×Int) (JO ((List Int)×(List Bool)) Bool)))):=
 cond (decide (s12.2.2<((List.length (List.getD x_h.Guests (Int.toNat s6.2.2) default).Pages:Nat):Int)))
  (Option.bind (grd ((0:Int)<=s12.2.2/\s12.2.2<((List.length (List.getD x_h.Guests (Int.toNat s6.2.2) default).Pages:Nat):Int)) (Option.bind (Option.bind (dC (List.getD (List.getD x_h.Guests (Int.toNat s6.2.2) default).Pages (Int.toNat s12.2.2) default).Frame (-1:Int) (19:Int)) λv15=>
   cond (!v15)
    (some (.out (.out (.ret (.out (.ret (.out false)))))))
    (cond (decide ((List.getD (List.getD x_h.Guests (Int.toNat s6.2.2) default).Pages (Int.toNat s12.2.2) default).Frame=(-1:Int)))
     (cond (List.getD (List.getD x_h.Guests (Int.toNat s6.2.2) default).Pages (Int.toNat s12.2.2) default).Write
      (some (.out (.out (.ret (.out (.ret (.out false)))))))
      (cond (List.getD (List.getD x_h.Guests (Int.toNat s6.2.2) default).Pages (Int.toNat s12.2.2) default).Dirty
       (some (.out (.out (.ret (.out (.ret (.out false)))))))
       (some (.go ()))))
     (some (.go ())))) λj14=>
   JO.run j14 (rO x_h s6 s12))) λj13=>
   JO.run j13 (rN s12))
  (some (.ret (.go (s12.1,s12.2.1))))
noncomputable def kZ (x_h:DHost)(s6:(List Int)×(List Bool)×Int):Option (LO ((List Int)×(List Bool)×Int) (JO ((List Int)×(List Bool)) Bool)):=
 cond (decide (s6.2.2<((List.length x_h.Guests:Nat):Int)))
  (Option.bind (grd ((0:Int)<=s6.2.2/\s6.2.2<((List.length x_h.Guests:Nat):Int)) (cond (!(List.getD x_h.Guests (Int.toNat s6.2.2) default).Live)
   (Option.bind (oK (DGuest.mk (List.getD x_h.Guests (Int.toNat s6.2.2) default).Live (DCore.mk ((List.getD x_h.Guests (Int.toNat s6.2.2) default).C).Regs ((List.getD x_h.Guests (Int.toNat s6.2.2) default).C).Pc ((List.getD x_h.Guests (Int.toNat s6.2.2) default).C).Root ((List.getD x_h.Guests (Int.toNat s6.2.2) default).C).Vector ((List.getD x_h.Guests (Int.toNat s6.2.2) default).C).Saved ((List.getD x_h.Guests (Int.toNat s6.2.2) default).C).SavedUser ((List.getD x_h.Guests (Int.toNat s6.2.2) default).C).Cause ((List.getD x_h.Guests (Int.toNat s6.2.2) default).C).Bad ((List.getD x_h.Guests (Int.toNat s6.2.2) default).C).Timer ((List.getD x_h.Guests (Int.toNat s6.2.2) default).C).Waits ((List.getD x_h.Guests (Int.toNat s6.2.2) default).C).User ((List.getD x_h.Guests (Int.toNat s6.2.2) default).C).On ((List.getD x_h.Guests (Int.toNat s6.2.2) default).C).Stopped) (List.getD x_h.Guests (Int.toNat s6.2.2) default).Pages (List.getD x_h.Guests (Int.toNat s6.2.2) default).In (List.getD x_h.Guests (Int.toNat s6.2.2) default).Out)) λv8=>
   cond (!v8)
    (some (.out (.ret (.out false))))
    (some (.go (s6.1,s6.2.1))))
   (Option.bind (oO (DCore.mk ((List.getD x_h.Guests (Int.toNat s6.2.2) default).C).Regs ((List.getD x_h.Guests (Int.toNat s6.2.2) default).C).Pc ((List.getD x_h.Guests (Int.toNat s6.2.2) default).C).Root ((List.getD x_h.Guests (Int.toNat s6.2.2) default).C).Vector ((List.getD x_h.Guests (Int.toNat s6.2.2) default).C).Saved ((List.getD x_h.Guests (Int.toNat s6.2.2) default).C).SavedUser ((List.getD x_h.Guests (Int.toNat s6.2.2) default).C).Cause ((List.getD x_h.Guests (Int.toNat s6.2.2) default).C).Bad ((List.getD x_h.Guests (Int.toNat s6.2.2) default).C).Timer ((List.getD x_h.Guests (Int.toNat s6.2.2) default).C).Waits ((List.getD x_h.Guests (Int.toNat s6.2.2) default).C).User ((List.getD x_h.Guests (Int.toNat s6.2.2) default).C).On ((List.getD x_h.Guests (Int.toNat s6.2.2) default).C).Stopped)) λv9=>
   cond (!v9)
    (some (.out (.ret (.out false))))
    (cond (!decide (((List.length (List.getD x_h.Guests (Int.toNat s6.2.2) default).Pages:Nat):Int)=(8:Int)))
     (some (.out (.ret (.out false))))
     (Option.bind (gE (List.getD x_h.Guests (Int.toNat s6.2.2) default).In (30:Int)) λv10=>
     cond (!v10)
      (some (.out (.ret (.out false))))
      (Option.bind (gE (List.getD x_h.Guests (Int.toNat s6.2.2) default).Out (30:Int)) λv11=>
      cond (!v11)
       (some (.out (.ret (.out false))))
       (Option.bind (iter (jU x_h s6) (s6.1,s6.2.1,(0:Int))) LO.val))))))) λj7=>
   JO.run j7 (sT s6))
  (some (.ret (.go (s6.1,s6.2.1))))
noncomputable def lR (x_h:DHost):Option Bool:=
 Option.bind (gE x_h.Words (160:Int)) λv1=>
 cond (!v1)
  (some false)
  (cond (!decide (((List.length x_h.Words:Nat):Int)=(160:Int)))
   (some false)
   (cond (!decide (((List.length x_h.Guests:Nat):Int)=(3:Int)))
    (some false)
    (Option.bind (Option.bind (iter (kZ x_h) ((List.replicate (Int.toNat (20:Int)) (0:Int)),List.replicate (Int.toNat (20:Int)) false,(0:Int))) LO.val) λj2=>
     JO.run j2 yT)))
noncomputable def g47:Sg tG:=⟨[.st 26],.one .b,lR⟩
theorem s47:Sok 47 g47:=sgx [(94,.r g94),(95,.r g95),(96,.r g96),(97,.r g97)] ⟨s94,s95,s96,s97,trivial⟩ (.s .o (.s .o (.s .o (.s .o (.j ⟨[],[],[(.s 3,.ro 3),(.s 4,.ro 4)]⟩ (.s .o (.k (.l ⟨[1],[],[(.s 3,.ro 3),(.s 4,.ro 4),(.s 5,.i .i64)]⟩ (.s .o (.j ⟨[1,5],[],[(.s 3,.ro 3),(.s 4,.ro 4)]⟩ (.k (.s .o (.s .o (.s .o (.s .o (.k (.l ⟨[1,5,6],[],[(.s 3,.ro 3),(.s 4,.ro 4),(.s 7,.i .i64)]⟩ (.s .o (.j ⟨[1,5,6,7],[],[(.s 4,.ro 4),(.s 3,.ro 3)]⟩ (.k (.s .o (.j ⟨[1,3,4,5,6,7,8],[],[]⟩ .o .o))) .o))))))))) .o))))) (.j ⟨[],[],[]⟩ (.s .o (.k (.l ⟨[3,4],[],[(.s 9,.i .i64)]⟩ (.s .o (.j ⟨[3,4,9],[],[]⟩ .o .o))))) .o)))))) kr kr kr
noncomputable def aFi (x_a:DSlot):Option DSlot:=some x_a
noncomputable def bOk:Sg tG:=⟨[.st 184],.one (.st 53),aFi⟩
theorem bTx:Sok 187 bOk:=sgx [] trivial .o kr kr kr
noncomputable def aJg  (s1:List DSlot):Option (List DSlot):=some s1
noncomputable def mT (x_a:List DSlot)(s2:(List DSlot)×Int):Option (LO ((List DSlot)×Int) (JO (List DSlot) (List DSlot))):=
 cond (decide (s2.2<((List.length x_a:Nat):Int)))
  (grd ((0:Int)<=s2.2/\s2.2<((List.length x_a:Nat):Int)) (Option.bind (aFi (DSlot.mk (List.getD x_a (Int.toNat s2.2) default).Frame (List.getD x_a (Int.toNat s2.2) default).Write (List.getD x_a (Int.toNat s2.2) default).Dirty)) λv3=>
   grd ((0:Int)<=s2.2/\s2.2<((List.length s2.1:Nat):Int)) (some (.next ((List.set s2.1 (Int.toNat s2.2) v3),w64 (s2.2+(1:Int)))))))
  (some (.ret (.go s2.1)))
noncomputable def qW (x_a:List DSlot):Option (List DSlot):=
 grd ((0:Int)<=((List.length x_a:Nat):Int)/\((List.length x_a:Nat):Int)*16<=2^47/\((List.length x_a:Nat):Int)<=2^47) (Option.bind (Option.bind (iter (mT x_a) ((List.replicate (Int.toNat ((List.length x_a:Nat):Int)) (DSlot.mk (0:Int) false false)),(0:Int))) LO.val) λj1=>
  JO.run j1 aJg)
noncomputable def bQn:Sg tG:=⟨[.row 184],.one (.row 53),qW⟩
theorem bSs:Sok 166 bQn:=sgx [(187,.r bOk)] ⟨bTx,trivial⟩ (.s .o (.s .o (.j ⟨[],[],[(.s 3,.ro 53)]⟩ (.s .o (.k (.l ⟨[0],[],[(.s 3,.ro 53),(.s 4,.i .i64)]⟩ .o))) .o))) kr kr kr
noncomputable def nJ (x_a:DGuest):Option DGuest:=
 Option.bind (sK x_a.C) λv1=>
 Option.bind (qW x_a.Pages) λv2=>
 Option.bind (dX x_a.In) λv3=>
 Option.bind (dX x_a.Out) λv4=>
 some (DGuest.mk x_a.Live v1 v2 v3 v4)
noncomputable def bNm:Sg tG:=⟨[.st 151],.one (.st 38),nJ⟩
theorem bUg:Sok 129 bNm:=sgx [(165,.r bNp),(166,.r bQn),(31,.r g31)] ⟨bRz,bSs,s31,trivial⟩ .o kr kr kr
noncomputable def aGk  (s1:List DGuest):Option (List DGuest):=some s1
noncomputable def mD (x_a:List DGuest)(s2:(List DGuest)×Int):Option (LO ((List DGuest)×Int) (JO (List DGuest) (List DGuest))):=
 cond (decide (s2.2<((List.length x_a:Nat):Int)))
  (grd ((0:Int)<=s2.2/\s2.2<((List.length x_a:Nat):Int)) (Option.bind (nJ (DGuest.mk (List.getD x_a (Int.toNat s2.2) default).Live (DCore.mk ((List.getD x_a (Int.toNat s2.2) default).C).Regs ((List.getD x_a (Int.toNat s2.2) default).C).Pc ((List.getD x_a (Int.toNat s2.2) default).C).Root ((List.getD x_a (Int.toNat s2.2) default).C).Vector ((List.getD x_a (Int.toNat s2.2) default).C).Saved ((List.getD x_a (Int.toNat s2.2) default).C).SavedUser ((List.getD x_a (Int.toNat s2.2) default).C).Cause ((List.getD x_a (Int.toNat s2.2) default).C).Bad ((List.getD x_a (Int.toNat s2.2) default).C).Timer ((List.getD x_a (Int.toNat s2.2) default).C).Waits ((List.getD x_a (Int.toNat s2.2) default).C).User ((List.getD x_a (Int.toNat s2.2) default).C).On ((List.getD x_a (Int.toNat s2.2) default).C).Stopped) (List.getD x_a (Int.toNat s2.2) default).Pages (List.getD x_a (Int.toNat s2.2) default).In (List.getD x_a (Int.toNat s2.2) default).Out)) λv3=>
   grd ((0:Int)<=s2.2/\s2.2<((List.length s2.1:Nat):Int)) (some (.next ((List.set s2.1 (Int.toNat s2.2) v3),w64 (s2.2+(1:Int)))))))
  (some (.ret (.go s2.1)))
noncomputable def pI (x_a:List DGuest):Option (List DGuest):=
 grd ((0:Int)<=((List.length x_a:Nat):Int)/\((List.length x_a:Nat):Int)*176<=2^47/\((List.length x_a:Nat):Int)<=2^47) (Option.bind (Option.bind (iter (mD x_a) ((List.replicate (Int.toNat ((List.length x_a:Nat):Int)) (DGuest.mk false (DCore.mk ([]:List Int) (0:Int) (0:Int) (0:Int) (0:Int) false (0:Int) (0:Int) (0:Int) false false false false) ([]:List DSlot) ([]:List Int) ([]:List Int))),(0:Int))) LO.val) λj1=>
  JO.run j1 aGk)
noncomputable def g81:Sg tG:=⟨[.row 151],.one (.row 1038),pI⟩
theorem s81:Sok 81 g81:=sgx [(129,.r bNm)] ⟨bUg,trivial⟩ (.s .o (.s (.g [] [] [.fo (.s 3) 0]) (.j ⟨[],[],[(.s 3,.ro 1038)]⟩ (.s .o (.k (.l ⟨[0],[],[(.s 3,.ro 1038),(.s 4,.i .i64)]⟩ (.s .o (.s (.k (.g [] [] [.fo (.s 3) 0])) .o))))) .o))) kr kr kr
noncomputable def dW (x_a:DHost):Option DHost:=
 Option.bind (dX x_a.Words) λv1=>
 Option.bind (pI x_a.Guests) λv2=>
 some (DHost.mk v1 v2)
noncomputable def g26:Sg tG:=⟨[.st 56],.one (.st 2026),dW⟩
theorem s26:Sok 26 g26:=sgx [(31,.r g31),(81,.r g81)] ⟨s31,s81,trivial⟩ .o kr kr kr
theorem fX{x_a:DHost}{R_:DHost}(hh:dW x_a=some R_):Fn Tryz.prog 26 [.agg [bo (eI .i64) x_a.Words,bo cX x_a.Guests]] (.agg [.own 3 1 (List.length R_.Words) (fl (eI .i64) R_.Words),.own 38 17 (List.length R_.Guests) (fl aQ R_.Guests)]):=kc (s26 x_a R_ hh)
noncomputable def oJ (x_a:DSlot)(x_b:DSlot):Option Bool:=
 cond (!decide (x_a.Frame=x_b.Frame))
  (some false)
  (cond (!(x_a.Write==x_b.Write))
   (some false)
   (cond (!(x_a.Dirty==x_b.Dirty))
    (some false)
    (some true)))
noncomputable def bOa:Sg tG:=⟨[.st 53,.st 53],.one .b,oJ⟩
theorem bUk:Sok 188 bOa:=sgx [] trivial .o kr kr kr
noncomputable def aJl  (s1:Unit):Option Bool:=some true
noncomputable def mR (x_a:List DSlot)(x_b:List DSlot)(s2:Int):Option (LO Int (JO Unit Bool)):=
 cond (decide (s2<((List.length x_a:Nat):Int)))
  (grd ((0:Int)<=s2/\s2<((List.length x_a:Nat):Int)) (grd ((0:Int)<=s2/\s2<((List.length x_b:Nat):Int)) (Option.bind (oJ (DSlot.mk (List.getD x_a (Int.toNat s2) default).Frame (List.getD x_a (Int.toNat s2) default).Write (List.getD x_a (Int.toNat s2) default).Dirty) (DSlot.mk (List.getD x_b (Int.toNat s2) default).Frame (List.getD x_b (Int.toNat s2) default).Write (List.getD x_b (Int.toNat s2) default).Dirty)) λv3=>
   cond (!v3)
    (some (.ret (.out false)))
    (some (.next (w64 (s2+(1:Int))))))))
  (some (.ret (.go ())))
noncomputable def qH (x_a:List DSlot)(x_b:List DSlot):Option Bool:=
 cond (!decide (((List.length x_a:Nat):Int)=((List.length x_b:Nat):Int)))
  (some false)
  (Option.bind (Option.bind (iter (mR x_a x_b) (0:Int)) LO.val) λj1=>
   JO.run j1 aJl)
noncomputable def bQa:Sg tG:=⟨[.row 53,.row 53],.one .b,qH⟩
theorem bSm:Sok 168 bQa:=sgx [(188,.r bOa)] ⟨bUk,trivial⟩ (.s .o (.s .o (.j ⟨[],[],[]⟩ (.s .o (.k (.l ⟨[0,1],[],[(.s 5,.i .i64)]⟩ .o))) .o))) kr kr kr
noncomputable def nD (x_a:DGuest)(x_b:DGuest):Option Bool:=
 cond (!(x_a.Live==x_b.Live))
  (some false)
  (Option.bind (sL x_a.C x_b.C) λv1=>
  cond (!v1)
   (some false)
   (Option.bind (qH x_a.Pages x_b.Pages) λv2=>
   cond (!v2)
    (some false)
    (Option.bind (fS x_a.In x_b.In) λv3=>
    cond (!v3)
     (some false)
     (Option.bind (fS x_a.Out x_b.Out) λv4=>
     cond (!v4)
      (some false)
      (some true)))))
noncomputable def bQd:Sg tG:=⟨[.st 38,.st 38],.one .b,nD⟩
theorem bTf:Sok 130 bQd:=sgx [(167,.r bMz),(168,.r bQa),(32,.r g32)] ⟨bTt,bSm,s32,trivial⟩ .o kr kr kr
noncomputable def aGi  (s1:Unit):Option Bool:=some true
noncomputable def lZ (x_a:List DGuest)(x_b:List DGuest)(s2:Int):Option (LO Int (JO Unit Bool)):=
 cond (decide (s2<((List.length x_a:Nat):Int)))
  (grd ((0:Int)<=s2/\s2<((List.length x_a:Nat):Int)) (grd ((0:Int)<=s2/\s2<((List.length x_b:Nat):Int)) (Option.bind (nD (DGuest.mk (List.getD x_a (Int.toNat s2) default).Live (DCore.mk ((List.getD x_a (Int.toNat s2) default).C).Regs ((List.getD x_a (Int.toNat s2) default).C).Pc ((List.getD x_a (Int.toNat s2) default).C).Root ((List.getD x_a (Int.toNat s2) default).C).Vector ((List.getD x_a (Int.toNat s2) default).C).Saved ((List.getD x_a (Int.toNat s2) default).C).SavedUser ((List.getD x_a (Int.toNat s2) default).C).Cause ((List.getD x_a (Int.toNat s2) default).C).Bad ((List.getD x_a (Int.toNat s2) default).C).Timer ((List.getD x_a (Int.toNat s2) default).C).Waits ((List.getD x_a (Int.toNat s2) default).C).User ((List.getD x_a (Int.toNat s2) default).C).On ((List.getD x_a (Int.toNat s2) default).C).Stopped) (List.getD x_a (Int.toNat s2) default).Pages (List.getD x_a (Int.toNat s2) default).In (List.getD x_a (Int.toNat s2) default).Out) (DGuest.mk (List.getD x_b (Int.toNat s2) default).Live (DCore.mk ((List.getD x_b (Int.toNat s2) default).C).Regs ((List.getD x_b (Int.toNat s2) default).C).Pc ((List.getD x_b (Int.toNat s2) default).C).Root ((List.getD x_b (Int.toNat s2) default).C).Vector ((List.getD x_b (Int.toNat s2) default).C).Saved ((List.getD x_b (Int.toNat s2) default).C).SavedUser ((List.getD x_b (Int.toNat s2) default).C).Cause ((List.getD x_b (Int.toNat s2) default).C).Bad ((List.getD x_b (Int.toNat s2) default).C).Timer ((List.getD x_b (Int.toNat s2) default).C).Waits ((List.getD x_b (Int.toNat s2) default).C).User ((List.getD x_b (Int.toNat s2) default).C).On ((List.getD x_b (Int.toNat s2) default).C).Stopped) (List.getD x_b (Int.toNat s2) default).Pages (List.getD x_b (Int.toNat s2) default).In (List.getD x_b (Int.toNat s2) default).Out)) λv3=>
   cond (!v3)
    (some (.ret (.out false)))
    (some (.next (w64 (s2+(1:Int))))))))
  (some (.ret (.go ())))
noncomputable def pH (x_a:List DGuest)(x_b:List DGuest):Option Bool:=
 cond (!decide (((List.length x_a:Nat):Int)=((List.length x_b:Nat):Int)))
  (some false)
  (Option.bind (Option.bind (iter (lZ x_a x_b) (0:Int)) LO.val) λj1=>
   JO.run j1 aGi)
noncomputable def g82:Sg tG:=⟨[.row 38,.row 38],.one .b,pH⟩
theorem s82:Sok 82 g82:=sgx [(130,.r bQd)] ⟨bTf,trivial⟩ (.s .o (.s .o (.j ⟨[],[],[]⟩ (.s .o (.k (.l ⟨[0,1],[],[(.s 5,.i .i64)]⟩ .o))) .o))) kr kr kr
noncomputable def dV (x_a:DHost)(x_b:DHost):Option Bool:=
 Option.bind (fS x_a.Words x_b.Words) λv1=>
 cond (!v1)
  (some false)
  (Option.bind (pH x_a.Guests x_b.Guests) λv2=>
  cond (!v2)
   (some false)
   (some true))
noncomputable def g27:Sg tG:=⟨[.st 26,.st 26],.one .b,dV⟩
theorem s27:Sok 27 g27:=sgx [(32,.r g32),(82,.r g82)] ⟨s32,s82,trivial⟩ .o kr kr kr
theorem fY{x_a:DHost}{x_b:DHost}{R_:Bool}(hh:dV x_a x_b=some R_):Fn Tryz.prog 27 [.agg [bo (eI .i64) x_a.Words,bo cB x_a.Guests],.agg [bo (eI .i64) x_b.Words,bo cB x_b.Guests]] (.bool R_):=kc (s27 x_a x_b R_ hh)
noncomputable def rA (x_a:List DSlot)(x_left:Int):Option Int:=
 cond (decide ((w64 (x_left-((List.length x_a:Nat):Int)))<(0:Int)))
  (some (-1:Int))
  (some (w64 (x_left-((List.length x_a:Nat):Int))))
noncomputable def bMy:Sg tG:=⟨[.row 184,.i .i64],.one (.i .i64),rA⟩
theorem bSt:Sok 164 bMy:=sgx [] trivial .o kr kr kr
noncomputable def mX (x_a:DGuest)(x_left:Int):Option Int:=
 Option.bind (sM x_a.C x_left) λv1=>
 cond (decide (v1<(0:Int)))
  (some (-1:Int))
  (Option.bind (rA x_a.Pages v1) λv2=>
  cond (decide (v2<(0:Int)))
   (some (-1:Int))
   (Option.bind (jP x_a.In v2) λv3=>
   cond (decide (v3<(0:Int)))
    (some (-1:Int))
    (Option.bind (jP x_a.Out v3) λv4=>
    cond (decide (v4<(0:Int)))
     (some (-1:Int))
     (some v4))))
noncomputable def bOd:Sg tG:=⟨[.st 151,.i .i64],.one (.i .i64),mX⟩
theorem bTb:Sok 128 bOd:=sgx [(163,.r bNz),(164,.r bMy),(79,.r g79)] ⟨bUj,bSt,s79,trivial⟩ .o kr kr kr
noncomputable def aHc  (s1:Int):Option Int:=some s1
noncomputable def iZ (x_a:List DGuest)(s2:Int×Int):Option (LO (Int×Int) (JO Int Int)):=
 cond (decide (s2.2<((List.length x_a:Nat):Int)))
  (grd ((0:Int)<=s2.2/\s2.2<((List.length x_a:Nat):Int)) (Option.bind (mX (DGuest.mk (List.getD x_a (Int.toNat s2.2) default).Live (DCore.mk ((List.getD x_a (Int.toNat s2.2) default).C).Regs ((List.getD x_a (Int.toNat s2.2) default).C).Pc ((List.getD x_a (Int.toNat s2.2) default).C).Root ((List.getD x_a (Int.toNat s2.2) default).C).Vector ((List.getD x_a (Int.toNat s2.2) default).C).Saved ((List.getD x_a (Int.toNat s2.2) default).C).SavedUser ((List.getD x_a (Int.toNat s2.2) default).C).Cause ((List.getD x_a (Int.toNat s2.2) default).C).Bad ((List.getD x_a (Int.toNat s2.2) default).C).Timer ((List.getD x_a (Int.toNat s2.2) default).C).Waits ((List.getD x_a (Int.toNat s2.2) default).C).User ((List.getD x_a (Int.toNat s2.2) default).C).On ((List.getD x_a (Int.toNat s2.2) default).C).Stopped) (List.getD x_a (Int.toNat s2.2) default).Pages (List.getD x_a (Int.toNat s2.2) default).In (List.getD x_a (Int.toNat s2.2) default).Out) s2.1) λv3=>
   cond (decide (v3<(0:Int)))
    (some (.ret (.out (-1:Int))))
    (some (.next (v3,w64 (s2.2+(1:Int)))))))
  (some (.ret (.go s2.1)))
noncomputable def pE (x_a:List DGuest)(x_left:Int):Option Int:=
 cond (decide ((w64 (x_left-((List.length x_a:Nat):Int)))<(0:Int)))
  (some (-1:Int))
  (Option.bind (Option.bind (iter (iZ x_a) ((w64 (x_left-((List.length x_a:Nat):Int))),(0:Int))) LO.val) λj1=>
   JO.run j1 aHc)
noncomputable def g80:Sg tG:=⟨[.row 151,.i .i64],.one (.i .i64),pE⟩
theorem s80:Sok 80 g80:=sgx [(128,.r bOd)] ⟨bTb,trivial⟩ (.s .o (.s .o (.s .o (.j ⟨[],[],[(.s 1,.i .i64)]⟩ (.s .o (.k (.l ⟨[0],[],[(.s 1,.i .i64),(.s 5,.i .i64)]⟩ .o))) .o)))) kr kr kr
noncomputable def lP (x_a:DHost)(x_left:Int):Option Int:=
 Option.bind (jP x_a.Words x_left) λv1=>
 cond (decide (v1<(0:Int)))
  (some (-1:Int))
  (Option.bind (pE x_a.Guests v1) λv2=>
  cond (decide (v2<(0:Int)))
   (some (-1:Int))
   (some v2))
noncomputable def g25:Sg tG:=⟨[.st 56,.i .i64],.one (.i .i64),lP⟩
theorem s25:Sok 25 g25:=sgx [(79,.r g79),(80,.r g80)] ⟨s79,s80,trivial⟩ .o kr kr kr
theorem aBz{x_a:DHost}{x_left:Int}{R_:Int}(hh:lP x_a x_left=some R_):Fn Tryz.prog 25 [.agg [bo (eI .i64) x_a.Words,bo cX x_a.Guests],.int .i64 x_left] (.int .i64 R_):=kc (s25 x_a x_left R_ hh)
noncomputable def dQ (x_list:List Int):Option (List Int):=grd ((0:Int)<=((List.length x_list:Nat):Int)/\((List.length x_list:Nat):Int)*8<=2^47/\((List.length x_list:Nat):Int)<=2^47) (some (over (List.replicate (Int.toNat ((List.length x_list:Nat):Int)) (0:Int)) 0 (List.length (List.replicate (Int.toNat ((List.length x_list:Nat):Int)) (0:Int))) x_list))
noncomputable def g42:Sg tG:=⟨[.row 3],.one (.row 3),dQ⟩
theorem s42:Sok 42 g42:=sgx [] trivial .o kr kr kr
noncomputable def lQ (x_c:DCore):Option DCore:=grd ((List.length ([]:List Int)+List.length x_c.Regs)*8<=2^47/\List.length ([]:List Int)+List.length x_c.Regs<=2^47) (some (DCore.mk (([]:List Int)++x_c.Regs) x_c.Pc x_c.Root x_c.Vector x_c.Saved x_c.SavedUser x_c.Cause x_c.Bad x_c.Timer x_c.Waits x_c.User x_c.On x_c.Stopped))
noncomputable def bKj:Sg tG:=⟨[.st 35],.one (.st 35),lQ⟩
theorem bOl:Sok 143 bKj:=sgx [] trivial .o kr kr kr
noncomputable def qG (x_guests:List DGuest)(x_g:Int):Option Bool:=
 cond (decide ((0:Int)<=x_g))
  (cond (decide (x_g<(3:Int)))
   (grd ((0:Int)<=x_g/\x_g<((List.length x_guests:Nat):Int)) (some (List.getD x_guests (Int.toNat x_g) default).Live))
   (some false))
  (some false)
noncomputable def bOf:Sg tG:=⟨[.row 38,.i .i64],.one .b,qG⟩
theorem bRw:Sok 102 bOf:=sgx [] trivial .o kr kr kr
noncomputable def jL (x_h:DHost)(x_g:Int):Option Bool:=
 Option.bind (oR x_h) λv1=>
 cond v1
  (Option.bind (qG x_h.Guests x_g) λv2=>
  some v2)
  (some false)
noncomputable def g62:Sg tG:=⟨[.st 26,.i .i64],.one .b,jL⟩
theorem s62:Sok 62 g62:=sgx [(15,.r g15),(102,.r bOf)] ⟨s15,bRw,trivial⟩ .o kr kr kr
noncomputable def eZ (x_h:DHost)(x_g:Int):Option Bool:=
 Option.bind (lR x_h) λv1=>
 cond v1
  (Option.bind (dC x_g (0:Int) (2:Int)) λv2=>
  cond v2
   (grd ((0:Int)<=x_g/\x_g<((List.length x_h.Guests:Nat):Int)) (some (List.getD x_h.Guests (Int.toNat x_g) default).Live))
   (some false))
  (some false)
noncomputable def g58:Sg tG:=⟨[.st 26,.i .i64],.one .b,eZ⟩
theorem s58:Sok 58 g58:=sgx [(47,.r g47),(97,.r g97)] ⟨s47,s97,trivial⟩ .o kr kr kr
theorem aPp{x_h:DHost}{x_g:Int}{R_:Bool}(hh:eZ x_h x_g=some R_):Fn Tryz.prog 58 [.agg (cP x_h),.int .i64 x_g] (.bool R_):=kc (s58 x_h x_g R_ hh)
noncomputable def mU (x_b:DBare):Option DBare:=
 Option.bind (dQ x_b.C.Regs) λv1=>
 Option.bind (dQ x_b.Mem) λv2=>
 Option.bind (dQ x_b.In) λv3=>
 Option.bind (dQ x_b.Out) λv4=>
 some (DBare.mk (DCore.mk v1 x_b.C.Pc x_b.C.Root x_b.C.Vector x_b.C.Saved x_b.C.SavedUser x_b.C.Cause x_b.C.Bad x_b.C.Timer x_b.C.Waits x_b.C.User x_b.C.On x_b.C.Stopped) v2 v3 v4)
noncomputable def g74:Sg tG:=⟨[.st 47],.one (.st 47),mU⟩
theorem s74:Sok 74 g74:=sgx [(42,.r g42)] ⟨s42,trivial⟩ .o kr kr kr
theorem aNi:LW 142 ⟨12,[.tmp 4],.seq (.reg false (rg 142 0)) (.seq (.reg false (rg 142 1)) .ret)⟩:=kr
noncomputable def sJ (x_words:List Int)(x_page:Int):Option (List Int):=grd ((0:Int)<=(w64 (x_page*(8:Int)))/\(w64 (x_page*(8:Int)))<=(w64 ((w64 (x_page+(1:Int)))*(8:Int)))/\(w64 ((w64 (x_page+(1:Int)))*(8:Int)))<=((List.length x_words:Nat):Int)) (some (List.take (Int.toNat (w64 ((w64 (x_page+(1:Int)))*(8:Int)))-Int.toNat (w64 (x_page*(8:Int)))) (List.drop (Int.toNat (w64 (x_page*(8:Int)))) x_words)))
noncomputable def bRa:Sg tG:=⟨[.row 3,.i .i64],.one (.rb 3),sJ⟩
theorem bSc:Sok 142 bRa:=sgx [] trivial .o kr kr kr
noncomputable def lV (x_words:List Int)(x_page:Int):Option ((List Int)×(Nat×Nat)):=grd ((0:Int)<=(w64 (x_page*(8:Int)))/\(w64 (x_page*(8:Int)))<=(w64 ((w64 (x_page+(1:Int)))*(8:Int)))/\(w64 ((w64 (x_page+(1:Int)))*(8:Int)))<=((List.length x_words:Nat):Int)) (some (x_words,((Int.toNat (w64 (x_page*(8:Int)))),(Int.toNat (w64 ((w64 (x_page+(1:Int)))*(8:Int)))-Int.toNat (w64 (x_page*(8:Int)))))))
theorem aMb{x_words:List Int}{x_page:Int}{R_:(List Int)×(Nat×Nat)}(hh:lV x_words x_page=some R_):Inl Tryz.prog 142 [.sref 0 [] 0 (List.length x_words) 1,.int .i64 x_page] [(0,some (rI_3 x_words))] 1 (.sref 0 [] (0+R_.2.1*1) R_.2.2 1) [(0,some (rI_3 R_.1))] 1:=by unfold lV at hh;let q1:Root:=(rI_3 x_words);refine Inl.start aNi [0,1] [0] (E:=sp 12 [(0,sw 0 x_words),(1,ii x_page)]) (H1:=[(0,some q1)]) kr kr (sy [0,1] [0] (sp 12 [(0,sw 0 x_words),(1,ii x_page)]) [(0,some q1)] 1 (Aw.sreg [4] [0] (yu 6 [(5,sw 0 x_words),(6,ii x_page),(7,ii (w64 (x_page*(8:Int)))),(8,ii x_page),(9,ii (w64 (x_page+(1:Int)))),(10,ii (w64 ((w64 (x_page+(1:Int)))*(8:Int))))] [(0,some q1)] 1 ?_)));obtain⟨hg2,hh⟩:=aF hh;refine ys (.slc 1 (.t 5) (some (.t 7)) (some (.t 10))) (some 11) (aVb (r:=0) (π:=[]) (o:=0) (k:=(List.length x_words)) (sz:=1) (l:=(w64 (x_page*(8:Int)))) (h:=(w64 ((w64 (x_page+(1:Int)))*(8:Int)))) kr kr kr hg2 ?_);refine yt (sp 12 [(4,.sref 0 [] (0+Int.toNat (w64 (x_page*(8:Int)))*1) (Int.toNat (w64 ((w64 (x_page+(1:Int)))*(8:Int)))-Int.toNat (w64 (x_page*(8:Int)))) 1)]) [(0,some q1)] 1 (Aw.ret ?_);rw[bG hh];exact kJ (r':= .sref 0 [] (0+Int.toNat (w64 (x_page*(8:Int)))*1) (Int.toNat (w64 ((w64 (x_page+(1:Int)))*(8:Int)))-Int.toNat (w64 (x_page*(8:Int)))) 1) kr (el [some 0] (wC aOq) (hn bK bB))
noncomputable def nP (x_w:Int):Option DEntry:=
 Option.bind (gY x_w) λv1=>
 cond (!v1)
  (some (DEntry.mk false false false (0:Int)))
  (some (DEntry.mk (decide ((Int.tmod x_w (2:Int))=(1:Int))) (decide ((Int.tmod (w64 (Int.tdiv x_w (2:Int))) (2:Int))=(1:Int))) (decide ((Int.tmod (w64 (Int.tdiv x_w (4:Int))) (2:Int))=(1:Int))) (Int.tmod (w64 (Int.tdiv x_w (8:Int))) (8:Int))))
noncomputable def bPf:Sg tG:=⟨[.i .i64],.one (.st 139),nP⟩
theorem bUe:Sok 118 bPf:=sgx [(120,.r aUd)] ⟨bDs,trivial⟩ .o kr kr kr
noncomputable def sN (x_h:DHost)(x_g:Int)(x_at:Int):Option Int:=
 grd ((0:Int)<=x_g/\x_g<((List.length x_h.Guests:Nat):Int)) (grd ((0:Int)<=(w64 (Int.tdiv x_at (8:Int)))/\(w64 (Int.tdiv x_at (8:Int)))<((List.length (List.getD x_h.Guests (Int.toNat x_g) default).Pages:Nat):Int)) (cond (decide ((List.getD (List.getD x_h.Guests (Int.toNat x_g) default).Pages (Int.toNat (w64 (Int.tdiv x_at (8:Int)))) default).Frame<(0:Int)))
  (some (0:Int))
  (grd ((0:Int)<=(w64 ((w64 ((List.getD (List.getD x_h.Guests (Int.toNat x_g) default).Pages (Int.toNat (w64 (Int.tdiv x_at (8:Int)))) default).Frame*(8:Int)))+(Int.tmod x_at (8:Int))))/\(w64 ((w64 ((List.getD (List.getD x_h.Guests (Int.toNat x_g) default).Pages (Int.toNat (w64 (Int.tdiv x_at (8:Int)))) default).Frame*(8:Int)))+(Int.tmod x_at (8:Int))))<((List.length x_h.Words:Nat):Int)) (some (List.getD x_h.Words (Int.toNat (w64 ((w64 ((List.getD (List.getD x_h.Guests (Int.toNat x_g) default).Pages (Int.toNat (w64 (Int.tdiv x_at (8:Int)))) default).Frame*(8:Int)))+(Int.tmod x_at (8:Int))))) default)))))
noncomputable def bPo:Sg tG:=⟨[.st 26,.i .i64,.i .i64],.one (.i .i64),sN⟩
theorem bSa:Sok 119 bPo:=sgx [] trivial .o kr kr kr
noncomputable def aHg  (s2:List DShade):Option (List DShade):=some s2
noncomputable def qD (x_h:DHost)(x_g:Int)(s3:(List DShade)×Int)(s4:Bool×Bool×Bool×Int):Option (LO ((List DShade)×Int) (JO (List DShade) (List DShade))):=grd ((0:Int)<=x_g/\x_g<((List.length x_h.Guests:Nat):Int)) (grd ((0:Int)<=s4.2.2.2/\s4.2.2.2<((List.length (List.getD x_h.Guests (Int.toNat x_g) default).Pages:Nat):Int)) (grd ((List.length s3.1+List.length ([DShade.mk s4.1 s4.2.1 s4.2.2.1 s4.2.2.2 (List.getD (List.getD x_h.Guests (Int.toNat x_g) default).Pages (Int.toNat s4.2.2.2) default).Frame (List.getD (List.getD x_h.Guests (Int.toNat x_g) default).Pages (Int.toNat s4.2.2.2) default).Write]:List DShade))*32<=2^47/\List.length s3.1+List.length ([DShade.mk s4.1 s4.2.1 s4.2.2.1 s4.2.2.2 (List.getD (List.getD x_h.Guests (Int.toNat x_g) default).Pages (Int.toNat s4.2.2.2) default).Frame (List.getD (List.getD x_h.Guests (Int.toNat x_g) default).Pages (Int.toNat s4.2.2.2) default).Write]:List DShade)<=2^47) (some (.next ((s3.1++([DShade.mk s4.1 s4.2.1 s4.2.2.1 s4.2.2.2 (List.getD (List.getD x_h.Guests (Int.toNat x_g) default).Pages (Int.toNat s4.2.2.2) default).Frame (List.getD (List.getD x_h.Guests (Int.toNat x_g) default).Pages (Int.toNat s4.2.2.2) default).Write]:List DShade)),w64 (s3.2+(1:Int)))))))
noncomputable def mF (x_h:DHost)(x_g:Int)(s3:(List DShade)×Int):Option (LO ((List DShade)×Int) (JO (List DShade) (List DShade))):=
 cond (decide (s3.2<(8:Int)))
  (Option.bind (grd ((0:Int)<=x_g/\x_g<((List.length x_h.Guests:Nat):Int)) (cond (decide ((0:Int)<=((List.getD x_h.Guests (Int.toNat x_g) default).C).Root))
   (Option.bind (sN x_h x_g (w64 ((w64 (((List.getD x_h.Guests (Int.toNat x_g) default).C).Root*(8:Int)))+s3.2))) λv5=>
   Option.bind (nP v5) λv6=>
   some (.go (v6.There,v6.Write,v6.User,v6.Page)))
   (some (.go (true,true,true,s3.2))))) λj4=>
   JO.run j4 (qD x_h x_g s3))
  (some (.ret (.go s3.1)))
noncomputable def gO (x_h:DHost)(x_g:Int):Option (List DShade):=
 Option.bind (eZ x_h x_g) λv1=>
 cond (!v1)
  (some ([]:List DShade))
  (Option.bind (Option.bind (iter (mF x_h x_g) (([]:List DShade),(0:Int))) LO.val) λj2=>
   JO.run j2 aHg)
noncomputable def g67:Sg tG:=⟨[.st 26,.i .i64],.one (.row 103),gO⟩
theorem s67:Sok 67 g67:=sgx [(58,.r g58),(119,.r bPo),(118,.r bPf)] ⟨s58,bSa,bUe,trivial⟩ (.s .o (.s .o (.s .o (.j ⟨[],[],[(.s 5,.ro 103)]⟩ (.s .o (.k (.l ⟨[1,2],[],[(.s 5,.ro 103),(.s 6,.i .i64)]⟩ (.s .o (.s (.k (.s .o (.j ⟨[1,2,5,6,7],[],[(.c 7 0,.b),(.c 7 1,.b),(.c 7 2,.b),(.c 7 3,.i .i64)]⟩ .o .o))) .o))))) .o)))) kr kr kr
theorem aMn{x_h:DHost}{x_g:Int}{R_:(List DShade)}(hh:gO x_h x_g=some R_):Fn Tryz.prog 67 [.agg (cP x_h),.int .i64 x_g] (.own 103 6 (List.length R_) (fl pB R_)):=kc (s67 x_h x_g R_ hh)
noncomputable def nS (x_w:Int):Option DEntry:=
 Option.bind (jT x_w) λv1=>
 cond (!v1)
  (some (DEntry.mk false false false (0:Int)))
  (some (DEntry.mk (decide ((Int.tmod (w64 (Int.tdiv x_w (1:Int))) (2:Int))=(1:Int))) (decide ((Int.tmod (w64 (Int.tdiv x_w (2:Int))) (2:Int))=(1:Int))) (decide ((Int.tmod (w64 (Int.tdiv x_w (4:Int))) (2:Int))=(1:Int))) (Int.tmod (w64 (Int.tdiv x_w (8:Int))) (8:Int))))
noncomputable def bPh:Sg tG:=⟨[.i .i64],.one (.st 139),nS⟩
theorem bRx:Sok 159 bPh:=sgx [(55,.r g55)] ⟨s55,trivial⟩ .o kr kr kr
noncomputable def eY (x_words:List Int)(x_s:DSlot):Option (List Int):=
 cond (decide (x_s.Frame=(-1:Int)))
  (some (List.replicate (Int.toNat (8:Int)) (0:Int)))
  (Option.bind (sJ x_words x_s.Frame) λv1=>
  some v1)
noncomputable def bQx:Sg tG:=⟨[.row 3,.st 53],.one (.rb 3),eY⟩
theorem bPi:Sok 191 bQx:=sgx [(142,.r bRa)] ⟨bSc,trivial⟩ .o kr kr kr
theorem aJk{x_words:List Int}{x_s:DSlot}{R_:(List Int)}(hh:eY x_words x_s=some R_):Fn Tryz.prog 191 [bo (eI .i64) x_words,.agg (hG x_s)] (bo (eI .i64) R_):=kc (bPi x_words x_s R_ hh)
noncomputable def qM (x_h:DHost)(x_g:Int)(x_number:Int):Option DEntry:=
 grd ((0:Int)<=x_g/\x_g<((List.length x_h.Guests:Nat):Int)) (cond (decide (((List.getD x_h.Guests (Int.toNat x_g) default).C).Root=(-1:Int)))
  (some (DEntry.mk true true true x_number))
  (grd ((0:Int)<=((List.getD x_h.Guests (Int.toNat x_g) default).C).Root/\((List.getD x_h.Guests (Int.toNat x_g) default).C).Root<((List.length (List.getD x_h.Guests (Int.toNat x_g) default).Pages:Nat):Int)) (Option.bind (eY x_h.Words (DSlot.mk (List.getD (List.getD x_h.Guests (Int.toNat x_g) default).Pages (Int.toNat ((List.getD x_h.Guests (Int.toNat x_g) default).C).Root) default).Frame (List.getD (List.getD x_h.Guests (Int.toNat x_g) default).Pages (Int.toNat ((List.getD x_h.Guests (Int.toNat x_g) default).C).Root) default).Write (List.getD (List.getD x_h.Guests (Int.toNat x_g) default).Pages (Int.toNat ((List.getD x_h.Guests (Int.toNat x_g) default).C).Root) default).Dirty)) λv1=>
   grd ((0:Int)<=x_number/\x_number<((List.length v1:Nat):Int)) (Option.bind (nS (List.getD v1 (Int.toNat x_number) default)) λv2=>
    some v2))))
noncomputable def bNt:Sg tG:=⟨[.st 26,.i .i64,.i .i64],.one (.st 139),qM⟩
theorem bUm:Sok 174 bNt:=sgx [(191,.r bQx),(159,.r bPh)] ⟨bPi,bRx,trivial⟩ .o kr kr kr
noncomputable def rD (x_h:DHost)(x_g:Int)(x_number:Int):Option DShade:=
 Option.bind (qM x_h x_g x_number) λv1=>
 grd ((0:Int)<=x_g/\x_g<((List.length x_h.Guests:Nat):Int)) (grd ((0:Int)<=v1.Page/\v1.Page<((List.length (List.getD x_h.Guests (Int.toNat x_g) default).Pages:Nat):Int)) (some (DShade.mk v1.There v1.Write v1.User v1.Page (List.getD (List.getD x_h.Guests (Int.toNat x_g) default).Pages (Int.toNat v1.Page) default).Frame (List.getD (List.getD x_h.Guests (Int.toNat x_g) default).Pages (Int.toNat v1.Page) default).Write)))
noncomputable def bQg:Sg tG:=⟨[.st 26,.i .i64,.i .i64],.one (.st 103),rD⟩
theorem bSr:Sok 139 bQg:=sgx [(174,.r bNt)] ⟨bUm,trivial⟩ .o kr kr kr
noncomputable def sY (x_e:DEntry)(x_user:Bool)(x_write:Bool):Option Bool:=
 cond x_e.There
  (cond x_e.Write
   (cond x_e.User
    (some true)
    (some (!x_user)))
   (cond (!x_write)
    (cond x_e.User
     (some true)
     (some (!x_user)))
    (some false)))
  (some false)
noncomputable def bPy:Sg tG:=⟨[.st 139,.b,.b],.one .b,sY⟩
theorem bSl:Sok 160 bPy:=sgx [] trivial .o kr kr kr
noncomputable def uF (x_i:DIns):Option Bool:=
 Option.bind (dC x_i.Op (0:Int) (15:Int)) λv1=>
 cond v1
  (Option.bind (dC x_i.A (0:Int) (3:Int)) λv2=>
  cond v2
   (Option.bind (dC x_i.N (0:Int) (63:Int)) λv3=>
   some v3)
   (some false))
  (some false)
noncomputable def bOg:Sg tG:=⟨[.st 89],.one .b,uF⟩
theorem bTe:Sok 100 bOg:=sgx [(97,.r g97)] ⟨s97,trivial⟩ .o kr kr kr
noncomputable def uO (x_i:DIns):Option Bool:=
 cond (decide ((0:Int)<=x_i.Op))
  (cond (decide ((0:Int)<=x_i.A))
   (cond (decide ((0:Int)<=x_i.N))
    (cond (decide (x_i.Op<=(15:Int)))
     (cond (decide (x_i.A<(4:Int)))
      (some (decide (x_i.N<(64:Int))))
      (some false))
     (some false))
    (cond (decide (x_i.Op<=(15:Int)))
     (cond (decide (x_i.A<(4:Int)))
      (some false)
      (some false))
     (some false)))
   (cond (decide ((0:Int)<=x_i.N))
    (cond (decide (x_i.Op<=(15:Int)))
     (some false)
     (some false))
    (cond (decide (x_i.Op<=(15:Int)))
     (some false)
     (some false))))
  (cond (decide ((0:Int)<=x_i.A))
   (cond (decide ((0:Int)<=x_i.N))
    (some false)
    (some false))
   (cond (decide ((0:Int)<=x_i.N))
    (some false)
    (some false)))
noncomputable def bOp:Sg tG:=⟨[.st 89],.one .b,uO⟩
theorem bTq:Sok 192 bOp:=sgx [] trivial .o kr kr kr
noncomputable def aFn  (s2:Bool):Option Bool:=
 cond s2
  (some true)
  (some false)
noncomputable def kT (x_i:DIns):Option Bool:=
 Option.bind (uO x_i) λv1=>
 cond (!v1)
  (some false)
  (Option.bind (cond (decide (x_i.Op=(0:Int)))
   (some (.go (decide (x_i.Op=(0:Int)))))
   (cond (decide (x_i.Op=(8:Int)))
    (some (.go (decide (x_i.Op=(8:Int)))))
    (cond (decide (x_i.Op=(9:Int)))
     (some (.go (decide (x_i.Op=(9:Int)))))
     (cond (decide (x_i.Op=(10:Int)))
      (some (.go (decide (x_i.Op=(10:Int)))))
      (cond (decide (x_i.Op=(11:Int)))
       (some (.go (decide (x_i.Op=(11:Int)))))
       (cond (decide (x_i.Op=(12:Int)))
        (some (.go (decide (x_i.Op=(12:Int)))))
        (cond (decide (x_i.Op=(13:Int)))
         (some (.go (decide (x_i.Op=(13:Int)))))
         (some (.go (decide (x_i.Op=(14:Int)))))))))))) λj2=>
   JO.run j2 aFn)
noncomputable def bIp:Sg tG:=⟨[.st 89],.one .b,kT⟩
theorem bRc:Sok 178 bIp:=sgx [(192,.r bOp)] ⟨bTq,trivial⟩ (.s .o (.s .o (.s (.s .o (.k (.j ⟨[],[],[(.s 8,.b)]⟩ .o .o))) .o))) kr kr kr
noncomputable def nI (x_w:Int):Option DIns:=
 Option.bind (jT x_w) λv1=>
 cond (!v1)
  (some (DIns.mk (0:Int) (0:Int) (0:Int)))
  (some (DIns.mk (w64 (Int.tdiv x_w (256:Int))) (Int.tmod (w64 (Int.tdiv x_w (64:Int))) (4:Int)) (Int.tmod x_w (64:Int))))
noncomputable def bJj:Sg tG:=⟨[.i .i64],.one (.st 89),nI⟩
theorem bPs:Sok 114 bJj:=sgx [(55,.r g55)] ⟨s55,trivial⟩ .o kr kr kr
noncomputable def dD (x_i:DIns):Option Bool:=
 Option.bind (uF x_i) λv1=>
 cond v1
  (cond (decide (x_i.Op=(0:Int)))
   (some true)
   (Option.bind (dC x_i.Op (8:Int) (14:Int)) λv2=>
   some v2))
  (some false)
noncomputable def g71:Sg tG:=⟨[.st 89],.one .b,dD⟩
theorem s71:Sok 71 g71:=sgx [(100,.r bOg),(97,.r g97)] ⟨bTe,s97,trivial⟩ .o kr kr kr
theorem rK{x_i:DIns}{R_:Bool}(hh:dD x_i=some R_):Fn Tryz.prog 71 [.agg (fD x_i)] (.bool R_):=kc (s71 x_i R_ hh)
noncomputable def kQ (x_w:Int):Option DIns:=
 Option.bind (gY x_w) λv1=>
 cond (!v1)
  (some (DIns.mk (0:Int) (0:Int) (0:Int)))
  (some (DIns.mk (w64 (Int.tdiv x_w (256:Int))) (Int.tmod (w64 (Int.tdiv x_w (64:Int))) (4:Int)) (Int.tmod x_w (64:Int))))
noncomputable def g70:Sg tG:=⟨[.i .i64],.one (.st 89),kQ⟩
theorem s70:Sok 70 g70:=sgx [(120,.r aUd)] ⟨bDs,trivial⟩ .o kr kr kr
theorem aNq{x_w:Int}{R_:DIns}(hh:kQ x_w=some R_):Fn Tryz.prog 70 [.int .i64 x_w] (.agg [.int .i64 R_.Op,.int .i64 R_.A,.int .i64 R_.N]):=kc (s70 x_w R_ hh)
noncomputable def yU (x_c:DCore)(s1:Bool):Option DCore:=some (DCore.mk x_c.Regs x_c.Pc x_c.Root x_c.Vector x_c.Saved x_c.SavedUser x_c.Cause x_c.Bad (w64 (x_c.Timer-(1:Int))) s1 x_c.User x_c.On x_c.Stopped)
noncomputable def jR (x_c:DCore):Option DCore:=
 cond (decide (x_c.Timer=(0:Int)))
  (some x_c)
  (Option.bind (cond (decide ((w64 (x_c.Timer-(1:Int)))=(0:Int)))
   (some (.go true))
   (some (.go x_c.Waits))) λj1=>
   JO.run j1 (yU x_c))
noncomputable def bKg:Sg tG:=⟨[.st 35],.one (.sb 35),jR⟩
theorem bPv:Sok 107 bKg:=sgx [] trivial (.s .o (.s .o (.s .o (.j ⟨[1,2],[],[(.c 1 9,.b)]⟩ .o .o)))) kr kr kr
noncomputable def gQ (x_c:DCore):Option Bool:=
 cond x_c.Waits
  (some x_c.On)
  (some false)
noncomputable def bKe:Sg tG:=⟨[.st 35],.one .b,gQ⟩
theorem bNw:Sok 108 bKe:=sgx [] trivial .o kr kr kr
noncomputable def gW (x_c:DCore)(x_from:Int)(x_cause:Int)(x_bad:Int):Option DCore:=some (DCore.mk x_c.Regs x_c.Vector x_c.Root x_c.Vector x_from x_c.User x_cause x_bad x_c.Timer x_c.Waits false false x_c.Stopped)
noncomputable def g69:Sw tG:=⟨[.os 35,.v (.i .i64),.v (.i .i64),.v (.i .i64)],.one (.st 35),gW⟩
theorem s69:Sjk 69 g69:=sgy [] trivial .o kr kr kr
theorem vB{x_c:DCore}{x_from:Int}{x_cause:Int}{x_bad:Int}{R_:DCore}(hh:gW x_c x_from x_cause x_bad=some R_):Inl Tryz.prog 69 [.agg [.sref 0 [] 0 (List.length x_c.Regs) 1,.int .i64 x_c.Pc,.int .i64 x_c.Root,.int .i64 x_c.Vector,.int .i64 x_c.Saved,.bool x_c.SavedUser,.int .i64 x_c.Cause,.int .i64 x_c.Bad,.int .i64 x_c.Timer,.bool x_c.Waits,.bool x_c.User,.bool x_c.On,.bool x_c.Stopped],.int .i64 x_from,.int .i64 x_cause,.int .i64 x_bad] [(0,some (rI_3 x_c.Regs))] 1 (.agg [.sref 1 [] 0 (List.length R_.Regs) 1,.int .i64 R_.Pc,.int .i64 R_.Root,.int .i64 R_.Vector,.int .i64 R_.Saved,.bool R_.SavedUser,.int .i64 R_.Cause,.int .i64 R_.Bad,.int .i64 R_.Timer,.bool R_.Waits,.bool R_.User,.bool R_.On,.bool R_.Stopped]) [(1,some (rI_3 R_.Regs))] 2:=kc (s69 x_c x_from x_cause x_bad R_ hh)
noncomputable def wD (x_c:DCore)(s1:Bool×Int)(s2:Unit):Option (DCore×Bool):=some ((DCore.mk x_c.Regs x_c.Pc x_c.Root x_c.Vector x_c.Saved x_c.SavedUser x_c.Cause x_c.Bad s1.2 s1.1 x_c.User x_c.On x_c.Stopped),false)
noncomputable def vZ (x_c:DCore)(s1:Bool×Int):Option (DCore×Bool):=
 Option.bind (cond s1.1
  (cond x_c.On
   (Option.bind (gW (DCore.mk x_c.Regs x_c.Pc x_c.Root x_c.Vector x_c.Saved x_c.SavedUser x_c.Cause x_c.Bad s1.2 false x_c.User x_c.On x_c.Stopped) x_c.Pc (4:Int) (0:Int)) λv3=>
   some (.out (v3,true)))
   (some (.go ())))
  (some (.go ()))) λj2=>
  JO.run j2 (wD x_c s1)
noncomputable def gI (x_c:DCore):Option (DCore×Bool):=
 Option.bind (cond (decide ((0:Int)<x_c.Timer))
  (cond (decide ((w64 (x_c.Timer-(1:Int)))=(0:Int)))
   (some (.go (true,w64 (x_c.Timer-(1:Int)))))
   (some (.go (x_c.Waits,w64 (x_c.Timer-(1:Int))))))
  (some (.go (x_c.Waits,x_c.Timer)))) λj1=>
  JO.run j1 (vZ x_c)
noncomputable def g66:Sw tG:=⟨[.os 35],.two (.st 35) .b,gI⟩
theorem s66:Sjk 66 g66:=sgy [(69,.w g69)] ⟨s69,trivial⟩ (.s .o (.j ⟨[1,2],[],[(.c 1 9,.b),(.c 1 8,.i .i64)]⟩ .o (.j ⟨[1,2],[],[]⟩ .o .o))) kr kr kr
theorem aLh{x_c:DCore}{R_:DCore×Bool}(hh:gI x_c=some R_):Inl Tryz.prog 66 [.agg [.sref 0 [] 0 (List.length x_c.Regs) 1,.int .i64 x_c.Pc,.int .i64 x_c.Root,.int .i64 x_c.Vector,.int .i64 x_c.Saved,.bool x_c.SavedUser,.int .i64 x_c.Cause,.int .i64 x_c.Bad,.int .i64 x_c.Timer,.bool x_c.Waits,.bool x_c.User,.bool x_c.On,.bool x_c.Stopped]] [(0,some (rI_3 x_c.Regs))] 1 (.tup [.agg [.sref 1 [] 0 (List.length R_.1.Regs) 1,.int .i64 R_.1.Pc,.int .i64 R_.1.Root,.int .i64 R_.1.Vector,.int .i64 R_.1.Saved,.bool R_.1.SavedUser,.int .i64 R_.1.Cause,.int .i64 R_.1.Bad,.int .i64 R_.1.Timer,.bool R_.1.Waits,.bool R_.1.User,.bool R_.1.On,.bool R_.1.Stopped],.bool R_.2]) [(1,some (rI_3 R_.1.Regs))] 2:=kc (s66 x_c R_ hh)
noncomputable def eF (x_c:DCore)(x_i:DIns):Option Int:=grd ((0:Int)<=(Int.tmod x_i.N (4:Int))/\(Int.tmod x_i.N (4:Int))<((List.length x_c.Regs:Nat):Int)) (some (Int.tmod (List.getD x_c.Regs (Int.toNat (Int.tmod x_i.N (4:Int))) default) (64:Int)))
noncomputable def bBx:Sg tG:=⟨[.st 35,.st 89],.one (.i .i64),eF⟩
theorem bIu:Sok 179 bBx:=sgx [] trivial .o kr kr kr
noncomputable def lW (x_pages:List DSlot):Option (List DSlot):=grd ((0:Int)<=((List.length x_pages:Nat):Int)/\((List.length x_pages:Nat):Int)*16<=2^47/\((List.length x_pages:Nat):Int)<=2^47) (some (over (List.replicate (Int.toNat ((List.length x_pages:Nat):Int)) (DSlot.mk (0:Int) false false)) 0 (List.length (List.replicate (Int.toNat ((List.length x_pages:Nat):Int)) (DSlot.mk (0:Int) false false))) x_pages))
noncomputable def bOs:Sg tG:=⟨[.row 53],.one (.row 53),lW⟩
theorem bTv:Sok 175 bOs:=sgx [] trivial .o kr kr kr
noncomputable def jF (x_guest:DGuest):Option DGuest:=
 cond (!x_guest.Live)
  (some (DGuest.mk false (DCore.mk ([]:List Int) (0:Int) (0:Int) (0:Int) (0:Int) false (0:Int) (0:Int) (0:Int) false false false false) ([]:List DSlot) ([]:List Int) ([]:List Int)))
  (Option.bind (dQ x_guest.C.Regs) λv1=>
  Option.bind (lW x_guest.Pages) λv2=>
  Option.bind (dQ x_guest.In) λv3=>
  Option.bind (dQ x_guest.Out) λv4=>
  some (DGuest.mk x_guest.Live (DCore.mk v1 x_guest.C.Pc x_guest.C.Root x_guest.C.Vector x_guest.C.Saved x_guest.C.SavedUser x_guest.C.Cause x_guest.C.Bad x_guest.C.Timer x_guest.C.Waits x_guest.C.User x_guest.C.On x_guest.C.Stopped) v2 v3 v4))
noncomputable def bMw:Sg tG:=⟨[.st 38],.one (.st 38),jF⟩
theorem bTk:Sok 140 bMw:=sgx [(42,.r g42),(175,.r bOs)] ⟨s42,bTv,trivial⟩ .o kr kr kr
noncomputable def aBf  (s1:List DGuest):Option (List DGuest):=some s1
noncomputable def fO (x_guests:List DGuest)(s2:(List DGuest)×Int):Option (LO ((List DGuest)×Int) (JO (List DGuest) (List DGuest))):=
 cond (decide (s2.2<((List.length x_guests:Nat):Int)))
  (grd ((0:Int)<=s2.2/\s2.2<((List.length x_guests:Nat):Int)) (Option.bind (jF (DGuest.mk (List.getD x_guests (Int.toNat s2.2) default).Live (DCore.mk ((List.getD x_guests (Int.toNat s2.2) default).C).Regs ((List.getD x_guests (Int.toNat s2.2) default).C).Pc ((List.getD x_guests (Int.toNat s2.2) default).C).Root ((List.getD x_guests (Int.toNat s2.2) default).C).Vector ((List.getD x_guests (Int.toNat s2.2) default).C).Saved ((List.getD x_guests (Int.toNat s2.2) default).C).SavedUser ((List.getD x_guests (Int.toNat s2.2) default).C).Cause ((List.getD x_guests (Int.toNat s2.2) default).C).Bad ((List.getD x_guests (Int.toNat s2.2) default).C).Timer ((List.getD x_guests (Int.toNat s2.2) default).C).Waits ((List.getD x_guests (Int.toNat s2.2) default).C).User ((List.getD x_guests (Int.toNat s2.2) default).C).On ((List.getD x_guests (Int.toNat s2.2) default).C).Stopped) (List.getD x_guests (Int.toNat s2.2) default).Pages (List.getD x_guests (Int.toNat s2.2) default).In (List.getD x_guests (Int.toNat s2.2) default).Out)) λv3=>
   grd ((0:Int)<=s2.2/\s2.2<((List.length s2.1:Nat):Int)) (some (.next ((List.set s2.1 (Int.toNat s2.2) v3),w64 (s2.2+(1:Int)))))))
  (some (.ret (.go s2.1)))
noncomputable def lG (x_guests:List DGuest):Option (List DGuest):=
 grd ((0:Int)<=((List.length x_guests:Nat):Int)/\((List.length x_guests:Nat):Int)*176<=2^47/\((List.length x_guests:Nat):Int)<=2^47) (Option.bind (Option.bind (iter (fO x_guests) ((List.replicate (Int.toNat ((List.length x_guests:Nat):Int)) (DGuest.mk false (DCore.mk ([]:List Int) (0:Int) (0:Int) (0:Int) (0:Int) false (0:Int) (0:Int) (0:Int) false false false false) ([]:List DSlot) ([]:List Int) ([]:List Int))),(0:Int))) LO.val) λj1=>
  JO.run j1 aBf)
noncomputable def g92:Sg tG:=⟨[.row 38],.one (.row 1038),lG⟩
theorem s92:Sok 92 g92:=sgx [(140,.r bMw)] ⟨bTk,trivial⟩ (.s .o (.s (.g [] [] [.fo (.s 3) 0]) (.j ⟨[],[],[(.s 3,.ro 1038)]⟩ (.s .o (.k (.l ⟨[9,10],[],[(.s 3,.ro 1038),(.s 11,.i .i64)]⟩ (.s .o (.s .o (.s (.k (.s .o (.g [] [] [.fo (.s 3) 0]))) .o)))))) .o))) kr kr kr
noncomputable def mV (x_g:DGuest):Option DGuest:=
 cond (!x_g.Live)
  (some (DGuest.mk false (DCore.mk ([]:List Int) (0:Int) (0:Int) (0:Int) (0:Int) false (0:Int) (0:Int) (0:Int) false false false false) ([]:List DSlot) ([]:List Int) ([]:List Int)))
  (Option.bind (lQ x_g.C) λv1=>
  grd (List.length x_g.Pages*16<=2^47/\List.length x_g.Pages<=2^47) (grd (List.length x_g.In*8<=2^47/\List.length x_g.In<=2^47) (grd (List.length x_g.Out*8<=2^47/\List.length x_g.Out<=2^47) (some (DGuest.mk true v1 x_g.Pages x_g.In x_g.Out)))))
noncomputable def g98:Sg tG:=⟨[.st 38],.one (.st 38),mV⟩
theorem s98:Sok 98 g98:=sgx [(143,.r bKj)] ⟨bOl,trivial⟩ .o kr kr kr
noncomputable def aLv (x_h:DHost)(s1:List DGuest):Option DHost:=some (DHost.mk (([]:List Int)++x_h.Words) s1)
noncomputable def nR (x_h:DHost)(s2:(List DGuest)×Int):Option (LO ((List DGuest)×Int) (JO (List DGuest) DHost)):=
 cond (decide (s2.2<((List.length x_h.Guests:Nat):Int)))
  (grd ((0:Int)<=s2.2/\s2.2<((List.length x_h.Guests:Nat):Int)) (Option.bind (mV (DGuest.mk (List.getD x_h.Guests (Int.toNat s2.2) default).Live (DCore.mk ((List.getD x_h.Guests (Int.toNat s2.2) default).C).Regs ((List.getD x_h.Guests (Int.toNat s2.2) default).C).Pc ((List.getD x_h.Guests (Int.toNat s2.2) default).C).Root ((List.getD x_h.Guests (Int.toNat s2.2) default).C).Vector ((List.getD x_h.Guests (Int.toNat s2.2) default).C).Saved ((List.getD x_h.Guests (Int.toNat s2.2) default).C).SavedUser ((List.getD x_h.Guests (Int.toNat s2.2) default).C).Cause ((List.getD x_h.Guests (Int.toNat s2.2) default).C).Bad ((List.getD x_h.Guests (Int.toNat s2.2) default).C).Timer ((List.getD x_h.Guests (Int.toNat s2.2) default).C).Waits ((List.getD x_h.Guests (Int.toNat s2.2) default).C).User ((List.getD x_h.Guests (Int.toNat s2.2) default).C).On ((List.getD x_h.Guests (Int.toNat s2.2) default).C).Stopped) (List.getD x_h.Guests (Int.toNat s2.2) default).Pages (List.getD x_h.Guests (Int.toNat s2.2) default).In (List.getD x_h.Guests (Int.toNat s2.2) default).Out)) λv3=>
   grd ((List.length s2.1+1)*176<=2^47/\List.length s2.1+1<=2^47) (some (.next ((s2.1++([v3]:List DGuest)),w64 (s2.2+(1:Int)))))))
  (some (.ret (.go s2.1)))
noncomputable def fA (x_h:DHost):Option DHost:=
 grd ((List.length ([]:List Int)+List.length x_h.Words)*8<=2^47/\List.length ([]:List Int)+List.length x_h.Words<=2^47) (Option.bind (Option.bind (iter (nR x_h) (([]:List DGuest),(0:Int))) LO.val) λj1=>
  JO.run j1 (aLv x_h))
noncomputable def g48:Sg tG:=⟨[.st 26],.one (.st 2026),fA⟩
theorem s48:Sok 48 g48:=sgx [(98,.r g98)] ⟨s98,trivial⟩ (.s .o (.s .o (.j ⟨[2,3],[],[(.c 3 1,.ro 1038)]⟩ (.s .o (.k (.l ⟨[1,2,3],[],[(.c 3 1,.ro 1038),(.s 4,.i .i64)]⟩ (.s .o (.s (.k (.g [] [] [.fo (.c 3 1) 0])) .o))))) .o))) kr kr kr
theorem aBp{x_h:DHost}{R_:DHost}(hh:fA x_h=some R_):Fn Tryz.prog 48 [.agg (cP x_h)] (.agg [.own 3 1 (List.length R_.Words) (fl (eI .i64) R_.Words),.own 38 17 (List.length R_.Guests) (fl aQ R_.Guests)]):=kc (s48 x_h R_ hh)
noncomputable def aFd  (s1:List Int):Option (List Int):=some s1
noncomputable def uC (s3:(List Int)×Int)(s4:List Int):Option (LO ((List Int)×Int) (JO (List Int) (List Int))):=some (.next (s4,w64 (s3.2+(1:Int))))
noncomputable def kK (v2:List Int)(s3:(List Int)×Int):Option (LO ((List Int)×Int) (JO (List Int) (List Int))):=
 cond (decide (s3.2<((List.length v2:Nat):Int)))
  (Option.bind (grd ((0:Int)<=s3.2/\s3.2<((List.length v2:Nat):Int)) (cond (decide ((List.getD v2 (Int.toNat s3.2) default)=(0:Int)))
   (grd ((List.length s3.1+List.length ([s3.2]:List Int))*8<=2^47/\List.length s3.1+List.length ([s3.2]:List Int)<=2^47) (some (.go (s3.1++([s3.2]:List Int)))))
   (some (.go s3.1)))) λj4=>
   JO.run j4 (uC s3))
  (some (.ret (.go s3.1)))
noncomputable def mO (x_guests:List DGuest):Option (List Int):=
 Option.bind (Option.bind (fW x_guests) λv2=>
  Option.bind (iter (kK v2) (([]:List Int),(0:Int))) LO.val) λj1=>
  JO.run j1 aFd
noncomputable def bNl:Sg tG:=⟨[.row 38],.one (.row 3),mO⟩
theorem bSg:Sok 193 bNl:=sgx [(91,.r g91)] ⟨s91,trivial⟩ (.s .o (.s .o (.j ⟨[],[],[(.s 3,.ro 3)]⟩ (.s .o (.k (.l ⟨[8,9],[],[(.s 3,.ro 3),(.s 10,.i .i64)]⟩ (.s .o (.s .o (.j ⟨[8,9,10],[],[(.s 3,.ro 3)]⟩ .o .o)))))) .o))) kr kr kr
noncomputable def yV  (s1:List Int):Option (List Int):=some s1
noncomputable def yY (s2:(List Int)×Int)(s3:List Int):Option (LO ((List Int)×Int) (JO (List Int) (List Int))):=some (.next (s3,w64 (s2.2+(1:Int))))
noncomputable def sX (s4:(List Int)×Int)(s5:List Int):Option (LO ((List Int)×Int) (JO (List Int) (LO ((List Int)×Int) (JO (List Int) (List Int))))):=some (.next (s5,w64 (s4.2+(1:Int))))
noncomputable def lB (x_h:DHost)(s2:(List Int)×Int)(s4:(List Int)×Int):Option (LO ((List Int)×Int) (JO (List Int) (LO ((List Int)×Int) (JO (List Int) (List Int))))):=
 grd ((0:Int)<=s2.2/\s2.2<((List.length x_h.Guests:Nat):Int)) (cond (decide (s4.2<((List.length (List.getD x_h.Guests (Int.toNat s2.2) default).Pages:Nat):Int)))
  (Option.bind (grd ((0:Int)<=s2.2/\s2.2<((List.length x_h.Guests:Nat):Int)) (grd ((0:Int)<=s4.2/\s4.2<((List.length (List.getD x_h.Guests (Int.toNat s2.2) default).Pages:Nat):Int)) (cond (decide ((0:Int)<=(List.getD (List.getD x_h.Guests (Int.toNat s2.2) default).Pages (Int.toNat s4.2) default).Frame))
   (grd ((0:Int)<=(List.getD (List.getD x_h.Guests (Int.toNat s2.2) default).Pages (Int.toNat s4.2) default).Frame/\(List.getD (List.getD x_h.Guests (Int.toNat s2.2) default).Pages (Int.toNat s4.2) default).Frame<((List.length s4.1:Nat):Int)) (grd ((0:Int)<=(List.getD (List.getD x_h.Guests (Int.toNat s2.2) default).Pages (Int.toNat s4.2) default).Frame/\(List.getD (List.getD x_h.Guests (Int.toNat s2.2) default).Pages (Int.toNat s4.2) default).Frame<((List.length s4.1:Nat):Int)) (some (.go (List.set s4.1 (Int.toNat (List.getD (List.getD x_h.Guests (Int.toNat s2.2) default).Pages (Int.toNat s4.2) default).Frame) (w64 ((List.getD s4.1 (Int.toNat (List.getD (List.getD x_h.Guests (Int.toNat s2.2) default).Pages (Int.toNat s4.2) default).Frame) default)+(1:Int))))))))
   (some (.go s4.1))))) λj5=>
   JO.run j5 (sX s4))
  (some (.ret (.go s4.1))))
noncomputable def nY (x_h:DHost)(s2:(List Int)×Int):Option (LO ((List Int)×Int) (JO (List Int) (List Int))):=
 cond (decide (s2.2<((List.length x_h.Guests:Nat):Int)))
  (Option.bind (Option.bind (iter (lB x_h s2) (s2.1,(0:Int))) LO.val) λj3=>
   JO.run j3 (yY s2))
  (some (.ret (.go s2.1)))
noncomputable def lT (x_h:DHost):Option (List Int):=
 Option.bind (Option.bind (iter (nY x_h) ((List.replicate (Int.toNat (20:Int)) (0:Int)),(0:Int))) LO.val) λj1=>
  JO.run j1 yV
noncomputable def g49:Sg tG:=⟨[.st 26],.one (.row 3),lT⟩
theorem s49:Sok 49 g49:=sgx [] trivial (.s .o (.s .o (.j ⟨[],[],[(.s 3,.ro 3)]⟩ (.s .o (.k (.l ⟨[1],[],[(.s 3,.ro 3),(.s 4,.i .i64)]⟩ (.s .o (.j ⟨[1,4],[],[(.s 3,.ro 3)]⟩ (.k (.s .o (.k (.l ⟨[1,4],[],[(.s 3,.ro 3),(.s 5,.i .i64)]⟩ (.s .o (.j ⟨[1,4,5],[],[(.s 3,.ro 3)]⟩ .o .o)))))) .o))))) .o))) kr kr kr
noncomputable def aHu  (s3:List Int):Option (List Int):=some s3
noncomputable def wG (s4:(List Int)×Int)(s5:List Int):Option (LO ((List Int)×Int) (JO (List Int) (List Int))):=some (.next (s5,w64 (s4.2+(1:Int))))
noncomputable def lX (v2:List Int)(s4:(List Int)×Int):Option (LO ((List Int)×Int) (JO (List Int) (List Int))):=
 cond (decide (s4.2<(20:Int)))
  (Option.bind (grd ((0:Int)<=s4.2/\s4.2<((List.length v2:Nat):Int)) (cond (decide ((List.getD v2 (Int.toNat s4.2) default)=(0:Int)))
   (grd ((List.length s4.1+List.length ([s4.2]:List Int))*8<=2^47/\List.length s4.1+List.length ([s4.2]:List Int)<=2^47) (some (.go (s4.1++([s4.2]:List Int)))))
   (some (.go s4.1)))) λj5=>
   JO.run j5 (wG s4))
  (some (.ret (.go s4.1)))
noncomputable def mB (x_h:DHost):Option (List Int):=
 Option.bind (lR x_h) λv1=>
 cond (!v1)
  (some ([]:List Int))
  (Option.bind (lT x_h) λv2=>
  Option.bind (Option.bind (iter (lX v2) (([]:List Int),(0:Int))) LO.val) λj3=>
   JO.run j3 aHu)
noncomputable def g90:Sg tG:=⟨[.st 26],.one (.row 3),mB⟩
theorem s90:Sok 90 g90:=sgx [(47,.r g47),(49,.r g49)] ⟨s47,s49,trivial⟩ (.s .o (.s .o (.s .o (.s .o (.j ⟨[],[],[(.s 3,.ro 3)]⟩ (.s .o (.k (.l ⟨[4],[],[(.s 3,.ro 3),(.s 5,.i .i64)]⟩ (.s .o (.j ⟨[4,5],[],[(.s 3,.ro 3)]⟩ .o .o))))) .o))))) kr kr kr
noncomputable def dK (x_h:DHost):Option DHost:=
 Option.bind (dQ x_h.Words) λv1=>
 Option.bind (lG x_h.Guests) λv2=>
 some (DHost.mk v1 v2)
noncomputable def g51:Sg tG:=⟨[.st 26],.one (.st 2026),dK⟩
theorem s51:Sok 51 g51:=sgx [(42,.r g42),(92,.r g92)] ⟨s42,s92,trivial⟩ .o kr kr kr
theorem aGt{x_h:DHost}{R_:DHost}(hh:dK x_h=some R_):Fn Tryz.prog 51 [.agg (cP x_h)] (.agg [.own 3 1 (List.length R_.Words) (fl (eI .i64) R_.Words),.own 38 17 (List.length R_.Guests) (fl aQ R_.Guests)]):=kc (s51 x_h R_ hh)
theorem aKq:LW 181 ⟨44,[.cell 8 true 2],.seq (.reg false (rg 181 0)) (.seq (.reg false (rg 181 1)) (.seq (.reg false (rg 181 2)) (.seq (.regd (rg 181 3) (rg 181 4)) (.seq (.regt (rg 181 5) (rg 181 6)) (.seq (.reg false (rg 181 7)) .ret)))))⟩:=kr
noncomputable def iJ (x_h:DHost)(x_g:Int)(x_page:Int)(x_frame:Int):Option DHost:=
 Option.bind (dK x_h) λv1=>
 grd ((0:Int)<=x_g/\x_g<((List.length x_h.Guests:Nat):Int)) (grd ((0:Int)<=x_page/\x_page<((List.length (List.getD x_h.Guests (Int.toNat x_g) default).Pages:Nat):Int)) (Option.bind (lV v1.Words x_frame) λv2=>
  grd (List.length v2.1=(List.length v1.Words)) (grd (v2.2.1+v2.2.2<=List.length v2.1) (Option.bind (eY x_h.Words (DSlot.mk (List.getD (List.getD x_h.Guests (Int.toNat x_g) default).Pages (Int.toNat x_page) default).Frame (List.getD (List.getD x_h.Guests (Int.toNat x_g) default).Pages (Int.toNat x_page) default).Write (List.getD (List.getD x_h.Guests (Int.toNat x_g) default).Pages (Int.toNat x_page) default).Dirty)) λv3=>
   grd ((0:Int)<=x_g/\x_g<((List.length v1.Guests:Nat):Int)) (grd ((0:Int)<=x_page/\x_page<((List.length (List.getD v1.Guests (Int.toNat x_g) default).Pages:Nat):Int)) (some (DHost.mk (over v2.1 v2.2.1 v2.2.2 v3) (List.set v1.Guests (Int.toNat x_g) (DGuest.mk (List.getD v1.Guests (Int.toNat x_g) default).Live (DCore.mk ((List.getD v1.Guests (Int.toNat x_g) default).C).Regs ((List.getD v1.Guests (Int.toNat x_g) default).C).Pc ((List.getD v1.Guests (Int.toNat x_g) default).C).Root ((List.getD v1.Guests (Int.toNat x_g) default).C).Vector ((List.getD v1.Guests (Int.toNat x_g) default).C).Saved ((List.getD v1.Guests (Int.toNat x_g) default).C).SavedUser ((List.getD v1.Guests (Int.toNat x_g) default).C).Cause ((List.getD v1.Guests (Int.toNat x_g) default).C).Bad ((List.getD v1.Guests (Int.toNat x_g) default).C).Timer ((List.getD v1.Guests (Int.toNat x_g) default).C).Waits ((List.getD v1.Guests (Int.toNat x_g) default).C).User ((List.getD v1.Guests (Int.toNat x_g) default).C).On ((List.getD v1.Guests (Int.toNat x_g) default).C).Stopped) (List.set (List.getD v1.Guests (Int.toNat x_g) default).Pages (Int.toNat x_page) (DSlot.mk x_frame true (List.getD (List.getD x_h.Guests (Int.toNat x_g) default).Pages (Int.toNat x_page) default).Dirty)) (List.getD v1.Guests (Int.toNat x_g) default).In (List.getD v1.Guests (Int.toNat x_g) default).Out)))))))))
theorem aNu{x_h:DHost}{x_g:Int}{x_page:Int}{x_frame:Int}{R_:DHost}(hh:iJ x_h x_g x_page x_frame=some R_):Fn Tryz.prog 181 [.agg (cP x_h),.int .i64 x_g,.int .i64 x_page,.int .i64 x_frame] (.agg [.own 3 1 (List.length R_.Words) (fl (eI .i64) R_.Words),.own 38 17 (List.length R_.Guests) (fl aQ R_.Guests)]):=by let z7:EH:=(0,some (rB26 x_h));let z8:=(1,ii x_g);let z9:EH:=(1,some ⟨26,[.nil,.nil]⟩);let z10:=(10,pp 5);let z11:=(2,ii x_page);let z12:=(3,ii x_frame);let z13:EV:=(34,.ptr 3 [] (0+(Int.toNat x_g)*17));let z14:EV:=(35,.ptr 3 [] (0+(Int.toNat x_g)*17+14));let z15:=(8,pp 1);let z16:=(9,pp 4);let z1:=List.getD x_h.Guests (Int.toNat x_g) default;let z3:=List.getD z1.Pages (Int.toNat x_page) default;let z4:=DSlot.mk x_frame true z3.Dirty;unfold iJ at hh;refine Fn.start aKq [0,1,2,3] (E:=sp 44 [(0,.agg (cP x_h)),z8,z11,z12]) kr (v:= .agg [sw 0 R_.Words,.sref 1 [] 0 (List.length R_.Guests) 17]) (Hr:=[(1,some (rO38 R_.Guests)),(0,some (rI_3 R_.Words))]) (k:=2) kr (sy [1,2,3,4,8] [0,1] (sp 44 [z8,z11,z12,(4,pp 0),z15]) [z7,z9] 2 (Aw.sreg [1,2,3,4,8,9] [0,1,2,3,4] (yu 1 [(11,.agg (cP x_h))] [z7,z9] 2 ?_)));obtain⟨v1,hv1,hh⟩:=bind_some hh;let z17:EV:=(32,.sref 3 [] 0 (List.length v1.Guests) 17);let z2:=List.getD v1.Guests (Int.toNat x_g) default;let z5:=List.set z2.Pages (Int.toNat x_page) z4;let z6:=DGuest.mk z2.Live z2.C z5 z2.In z2.Out;let q1:Root:=(rO38 v1.Guests);let z18:=(3,some q1);let q2:Root:=(rI_3 v1.Words);let z19:=(2,some q2);refine ys (.call 51 [.t 11]) (some 12) (bX (r:= .agg [.own 3 1 (List.length v1.Words) (fl (eI .i64) v1.Words),.own 38 17 (List.length v1.Guests) (fl aQ v1.Guests)]) (v:= .agg [sw 2 v1.Words,.sref 3 [] 0 (List.length v1.Guests) 17]) (Hr:=[z18,z19]) (n':=4) (aGt hv1) (cV (vs:=[.agg (cP x_h)]) kr (aY (aD (fM (gD _))) bU)) nrr nrr kr ?_);let q3:Root:=⟨26,[sw 2 v1.Words,.sref 3 [] 0 (List.length v1.Guests) 17]⟩;let z20:=(4,some q3);refine yt (sp 44 [z8,z11,z12,(4,pp 0),z15,z16]) [z7,z9,z19,z18,z20] 5 (Aw.sreg [1,2,3,4,8,9,10] [0,1,2,3,4,5] (yu 3 [(13,.ptr 0 [] 1),(14,bo cB x_h.Guests),(15,ii x_g)] [z7,z9,z19,z18,z20] 5 ?_));obtain⟨hg3,hh⟩:=aF hh;refine ys (.iadr 17 (.t 14) (.t 15)) (some 16) (bAr (kd:= .i64) (c:=cB) (xs:=x_h.Guests) uW dd kr kr hg3 ?_);refine yu 1 [(16,.bptr (fl cB x_h.Guests) (Int.toNat x_g*17)),(17,.bptr (fl cB x_h.Guests) (Int.toNat x_g*17+14))] [z7,z9,z19,z18,z20] 5 (ys (.load false 1 (.t 17)) (some 18) (bKa (c:=cB) (xs:=x_h.Guests) (o:=Int.toNat x_g*17+14) (i:=(Int.toNat x_g)) (off:=14) (v:=bo hG z1.Pages) uW kr ltn ltn dd kr ?_));refine yu 1 [(18,bo hG z1.Pages),(19,ii x_page)] [z7,z9,z19,z18,z20] 5 ?_;obtain⟨hg4,hh⟩:=aF hh;refine ys (.iadr 3 (.t 18) (.t 19)) (some 20) (bAr (kd:= .i64) (c:=hG) (xs:=z1.Pages) nW dd kr kr hg4 ?_);refine ys (.load true 3 (.t 20)) (some 21) (bFc (c:=hG) (xs:=z1.Pages) (o:=Int.toNat x_page*3) (i:=(Int.toNat x_page)) (off:=0) (v:= .agg [ii z3.Frame,bb z3.Write,bb z3.Dirty]) nW kr ltn ltn dd kr ?_);let q4:Root:=⟨53,[ii z3.Frame,bb z3.Write,bb z3.Dirty]⟩;let z21:=(5,some q4);refine yt (sp 44 [z8,z11,z12,(4,pp 0),z15,z16,z10]) [z7,z9,z19,z18,z20,z21] 6 (Aw.sregd [1,2,3,8,9,10] [1,2,3,4,5] [2] kr (dj 3 (sp 44 [z8,z11,z12,(4,pp 0),z15,z16,z10,(22,pp 4),(23,sw 2 v1.Words),(24,ii x_frame)]) [z7,z9,z19,z18,z20,z21] 6 ?_));obtain⟨v2,hv2,hh⟩:=bind_some hh;let z22:EH:=(2,some (rI_3 v2.1));obtain⟨hg7,hh⟩:=aF hh;obtain⟨hg8,hh⟩:=aF hh;refine ds (.call 142 [.t 23,.t 24]) (some 25) (aBa rfl (cf (.sref 2 [] (0+v2.2.1*1) v2.2.2 1) [z22] 6 [2] (aMb hv2) [sw 2 v1.Words,ii x_frame] rz (hn bK bB) aOq (hn bK bB) ⟨⟨⟨by decide,tJ rfl rfl⟩,Hld.un ?_⟩⟩));refine dt (sp 44 [z8,z11,z12,(4,pp 0),z15,z16,z10,(22,pp 4),(23,sw 2 v1.Words),(24,ii x_frame),(25,.sref 2 [] (0+v2.2.1*1) v2.2.2 1),(26,pp 0),(27,bo (eI .i64) x_h.Words),(28,.agg [ii z3.Frame,bb z3.Write,bb z3.Dirty])]) [z22,(2,none),z7,z9,z19,z18,z20,z21] 6 ?_;obtain⟨v3,hv3,hh⟩:=bind_some hh;refine ys (.call 191 [.t 27,.t 28]) (some 29) (aDs (r:=bo (eI .i64) v3) (v:=bo (eI .i64) v3) (Hr:=[]) (n':=6) (aJk hv3) (cV (vs:=[bo (eI .i64) x_h.Words,.agg [ii z3.Frame,bb z3.Write,bb z3.Dirty]]) kr (aY (aD (cM (aX bI))) (cz1 bU))) nrr kr ?_);let q5:Root:=(rI_3 (over v2.1 v2.2.1 v2.2.2 v3));let z23:=(2,some q5);refine ys (.cpy 1 (.t 25) (.t 29)) (some 30) (aVl (c:=(eI .i64)) (xs:=v2.1) (ys:=v3) (e:=3) (r:=2) (π:=[]) (o:=0+v2.2.1*1) (k:=v2.2.2) (i:=v2.2.1) (H':=[z23,z22,(2,none),z7,z9,z19,z18,z20,z21]) aP (rpv kr (bEp (c:=(eI .i64)) (xs:=v3) aP)) kr kr ltn ltn kr ?_);refine yt (sp 44 [z8,z11,z12,z15,z16,z10]) [z9,z23,z18,z20,z21] 6 (Aw.sregt [8,9] [1,2,3,4] ?_);obtain⟨hg12,hh⟩:=aF hh;refine qc (cs:=[(0:Int)<=x_g/\x_g<((List.length v1.Guests:Nat):Int)]) (E':=(sp 44 [z8,z11,z12,z15,z16,z10,(31,.ptr 4 [] 1),z17,(33,ii x_g),z13,z14])) (pre:=(List.take 5 (rg 181 5))) (L':=(List.drop 5 (rg 181 5))) kr (λK=>by kernel_rfl) (.cons hg12 .nil) (qs (.load false 1 (.t 35)) (some 36) (aXw rfl (vE (c:=aQ) (xs:=v1.Guests) (e:=38) (r:=3) (π:=[]) (o:=0+(Int.toNat x_g)*17+14) (i:=(Int.toNat x_g)) (off:=14) (v:= .sref 3 [0+(Int.toNat x_g)*17+14+0] 0 (List.length z2.Pages) 3) aG kr kr ltn ltn dd kr ?_)));obtain⟨hg11,hh⟩:=aF hh;refine qtt (cs:=[(0:Int)<=x_page/\x_page<((List.length z2.Pages:Nat):Int)]) (E':=(sp 44 [z8,z11,z12,z15,z16,z10,(31,.ptr 4 [] 1),z17,(33,ii x_g),z13,z14,(36,.sref 3 [0+(Int.toNat x_g)*17+14+0] 0 (List.length z2.Pages) 3),(37,ii x_page),(38,ii x_frame),(39,.ptr 5 [] 2),(40,bb z3.Dirty),(41,.agg [ii x_frame,bb true,bb z3.Dirty]),(42,.ptr 3 [0+(Int.toNat x_g)*17+14+0] (0+(Int.toNat x_page)*3))])) (λK=>by kernel_rfl) (.cons hg11 .nil) ?_;let q6:Root:=(rO38 (List.set v1.Guests (Int.toNat x_g) z6));refine ys (.store 3 (.t 42) (.t 41)) none (pR (c:=hG) (xs:=z2.Pages) (e:=53) (r:=3) (π:=[0+(Int.toNat x_g)*17+14+0]) (o:=0+(Int.toNat x_page)*3) (i:=(Int.toNat x_page)) (off:=0) (vs:=[ii x_frame,bb true,bb z3.Dirty]) (y:=z4) (H':=[(3,some q6),z9,z23,z18,z20,z21]) nW kr kr kr (uB (e:=38) (e':=53) (sz':=3) (m':=(List.length z2.Pages)) (cs':=(fl hG z2.Pages)) (c:=aQ) (xs:=v1.Guests) (i:=(Int.toNat x_g)) (off:=14) aG kr ltn ltn dd rfl kr) ltn ltn dd kr (aOk (e:=38) (e':=53) (sz':=3) (m':=(List.length z2.Pages)) (cs':=(fl hG z2.Pages)) (ds:=(fl hG z5)) (c:=aQ) (xs:=v1.Guests) (i:=(Int.toNat x_g)) (off:=14) (y:=z6) (m2:=(List.length z5)) aG kr ltn ltn dd rfl kr eqn kr rfl kr) ?_);refine yt (sp 44 [z15,z16]) [z9,z23,(3,some q6),z20] 6 (sy [8] [1,2,3] (sp 44 [z15]) [(1,some q3),z23,(3,some q6)] 6 (Aw.ret ?_));rw[bG hh];exact kJ (r':= .agg [sw 2 v1.Words,.sref 3 [] 0 (List.length v1.Guests) 17]) kr (Ent.list [some 2,some 3] rfl rfl (Nat.zero_le _) (wC (jM rz)) (hn cZ (hn bK bB)))
noncomputable def bJs:Sg tG:=⟨[.st 26,.i .i64,.i .i64,.i .i64],.one (.st 2026),iJ⟩
theorem bPw:Sok 181 bJs:=λx_h x_g x_page x_frame R_ hh=>kc (aNu (x_h:=x_h) (x_g:=x_g) (x_page:=x_page) (x_frame:=x_frame) hh)
noncomputable def jC (x_h:DHost)(x_g:Int)(x_page:Int):Option (DHost×Bool):=
 Option.bind (mO x_h.Guests) λv1=>
 cond (decide (((List.length v1:Nat):Int)=(0:Int)))
  (some ((DHost.mk ([]:List Int) ([]:List DGuest)),false))
  (grd ((0:Int)<=(0:Int)/\(0:Int)<((List.length v1:Nat):Int)) (Option.bind (iJ x_h x_g x_page (List.getD v1 0 default)) λv2=>
   some (v2,true)))
noncomputable def bIo:Sg tG:=⟨[.st 26,.i .i64,.i .i64],.two (.st 2026) .b,jC⟩
theorem bNi:Sok 180 bIo:=sgx [(193,.r bNl),(181,.r bJs)] ⟨bSg,bPw,trivial⟩ .o kr kr kr
noncomputable def pG (x_h:DHost)(x_g:Int)(x_page:Int):Option (DHost×Bool):=
 Option.bind (jL x_h x_g) λv1=>
 cond (!v1)
  (some ((DHost.mk ([]:List Int) ([]:List DGuest)),false))
  (Option.bind (jO x_page) λv2=>
  cond (!v2)
   (some ((DHost.mk ([]:List Int) ([]:List DGuest)),false))
   (grd ((0:Int)<=x_g/\x_g<((List.length x_h.Guests:Nat):Int)) (grd ((0:Int)<=x_page/\x_page<((List.length (List.getD x_h.Guests (Int.toNat x_g) default).Pages:Nat):Int)) (cond (!decide ((List.getD (List.getD x_h.Guests (Int.toNat x_g) default).Pages (Int.toNat x_page) default).Frame=(-1:Int)))
    (Option.bind (dK x_h) λv3=>
    some (v3,true))
    (Option.bind (jC x_h x_g x_page) λv4=>
    some (v4.1,v4.2))))))
noncomputable def bNa:Sg tG:=⟨[.st 26,.i .i64,.i .i64],.two (.st 2026) .b,pG⟩
theorem bUl:Sok 148 bNa:=sgx [(62,.r g62),(138,.r aUy),(51,.r g51),(180,.r bIo)] ⟨s62,bDn,s51,bNi,trivial⟩ .o kr kr kr
noncomputable def wL (x_g:Int)(x_page:Int)(v3:DHost)(v4:List Int)(s5:List Int):Option (DHost×Bool):=grd ((0:Int)<=x_g/\x_g<((List.length v3.Guests:Nat):Int)) (grd ((0:Int)<=(0:Int)/\(0:Int)<((List.length v4:Nat):Int)) (grd ((0:Int)<=x_page/\x_page<((List.length (List.getD v3.Guests (Int.toNat x_g) default).Pages:Nat):Int)) (some ((DHost.mk s5 (List.set v3.Guests (Int.toNat x_g) (DGuest.mk (List.getD v3.Guests (Int.toNat x_g) default).Live (DCore.mk ((List.getD v3.Guests (Int.toNat x_g) default).C).Regs ((List.getD v3.Guests (Int.toNat x_g) default).C).Pc ((List.getD v3.Guests (Int.toNat x_g) default).C).Root ((List.getD v3.Guests (Int.toNat x_g) default).C).Vector ((List.getD v3.Guests (Int.toNat x_g) default).C).Saved ((List.getD v3.Guests (Int.toNat x_g) default).C).SavedUser ((List.getD v3.Guests (Int.toNat x_g) default).C).Cause ((List.getD v3.Guests (Int.toNat x_g) default).C).Bad ((List.getD v3.Guests (Int.toNat x_g) default).C).Timer ((List.getD v3.Guests (Int.toNat x_g) default).C).Waits ((List.getD v3.Guests (Int.toNat x_g) default).C).User ((List.getD v3.Guests (Int.toNat x_g) default).C).On ((List.getD v3.Guests (Int.toNat x_g) default).C).Stopped) (List.set (List.getD v3.Guests (Int.toNat x_g) default).Pages (Int.toNat x_page) (DSlot.mk (List.getD v4 0 default) true false)) (List.getD v3.Guests (Int.toNat x_g) default).In (List.getD v3.Guests (Int.toNat x_g) default).Out))),true))))
noncomputable def iW (v4:List Int)(s6:(List Int)×Int):Option (LO ((List Int)×Int) (JO (List Int) (DHost×Bool))):=
 cond (decide (s6.2<(8:Int)))
  (grd ((0:Int)<=(0:Int)/\(0:Int)<((List.length v4:Nat):Int)) (grd ((0:Int)<=(w64 ((w64 ((List.getD v4 0 default)*(8:Int)))+s6.2))/\(w64 ((w64 ((List.getD v4 0 default)*(8:Int)))+s6.2))<((List.length s6.1:Nat):Int)) (some (.next ((List.set s6.1 (Int.toNat (w64 ((w64 ((List.getD v4 0 default)*(8:Int)))+s6.2))) (0:Int)),w64 (s6.2+(1:Int)))))))
  (some (.ret (.go s6.1)))
noncomputable def jI (x_h:DHost)(x_g:Int)(x_page:Int):Option (DHost×Bool):=
 Option.bind (eZ x_h x_g) λv1=>
 cond (!v1)
  (some ((DHost.mk ([]:List Int) ([]:List DGuest)),false))
  (Option.bind (dC x_page (0:Int) (7:Int)) λv2=>
  cond (!v2)
   (some ((DHost.mk ([]:List Int) ([]:List DGuest)),false))
   (Option.bind (fA x_h) λv3=>
   grd ((0:Int)<=x_g/\x_g<((List.length x_h.Guests:Nat):Int)) (grd ((0:Int)<=x_page/\x_page<((List.length (List.getD x_h.Guests (Int.toNat x_g) default).Pages:Nat):Int)) (cond (decide ((0:Int)<=(List.getD (List.getD x_h.Guests (Int.toNat x_g) default).Pages (Int.toNat x_page) default).Frame))
    (some (v3,true))
    (Option.bind (mB x_h) λv4=>
    cond (decide (((List.length v4:Nat):Int)=(0:Int)))
     (some ((DHost.mk ([]:List Int) ([]:List DGuest)),false))
     (Option.bind (Option.bind (iter (iW v4) (v3.Words,(0:Int))) LO.val) λj5=>
      JO.run j5 (wL x_g x_page v3 v4)))))))
noncomputable def bPa:Sg tG:=⟨[.st 26,.i .i64,.i .i64],.two (.st 2026) .b,jI⟩
theorem bSz:Sok 116 bPa:=sgx [(58,.r g58),(97,.r g97),(48,.r g48),(90,.r g90)] ⟨s58,s97,s48,s90,trivial⟩ (.s .o (.s .o (.s .o (.s .o (.s .o (.s .o (.j ⟨[1,2,6,8,9],[],[(.c 8 0,.ro 3)]⟩ (.s .o (.k (.l ⟨[1,2,6,8,9],[],[(.c 8 0,.ro 3),(.s 10,.i .i64)]⟩ .o))) .o))))))) kr kr kr
noncomputable def pF (x_h:DHost)(x_g:Int)(x_page:Int):Option (DHost×Bool):=
 Option.bind (jL x_h x_g) λv1=>
 cond (!v1)
  (some ((DHost.mk ([]:List Int) ([]:List DGuest)),false))
  (Option.bind (jO x_page) λv2=>
  cond (!v2)
   (some ((DHost.mk ([]:List Int) ([]:List DGuest)),false))
   (grd ((0:Int)<=x_g/\x_g<((List.length x_h.Guests:Nat):Int)) (grd ((0:Int)<=x_page/\x_page<((List.length (List.getD x_h.Guests (Int.toNat x_g) default).Pages:Nat):Int)) (cond (decide ((List.getD (List.getD x_h.Guests (Int.toNat x_g) default).Pages (Int.toNat x_page) default).Frame=(-1:Int)))
    (some ((DHost.mk ([]:List Int) ([]:List DGuest)),false))
    (Option.bind (fW x_h.Guests) λv3=>
    grd ((0:Int)<=(List.getD (List.getD x_h.Guests (Int.toNat x_g) default).Pages (Int.toNat x_page) default).Frame/\(List.getD (List.getD x_h.Guests (Int.toNat x_g) default).Pages (Int.toNat x_page) default).Frame<((List.length v3:Nat):Int)) (cond (decide ((List.getD v3 (Int.toNat (List.getD (List.getD x_h.Guests (Int.toNat x_g) default).Pages (Int.toNat x_page) default).Frame) default)=(1:Int)))
     (Option.bind (iJ x_h x_g x_page (List.getD (List.getD x_h.Guests (Int.toNat x_g) default).Pages (Int.toNat x_page) default).Frame) λv4=>
     some (v4,true))
     (Option.bind (jC x_h x_g x_page) λv5=>
     some (v5.1,v5.2))))))))
noncomputable def bPz:Sg tG:=⟨[.st 26,.i .i64,.i .i64],.two (.st 2026) .b,pF⟩
theorem bSp:Sok 149 bPz:=sgx [(62,.r g62),(138,.r aUy),(91,.r g91),(181,.r bJs),(180,.r bIo)] ⟨s62,bDn,s91,bPw,bNi,trivial⟩ .o kr kr kr
noncomputable def mH (x_h:DHost)(x_g:Int)(x_page:Int)(v3:DHost)(s4:(List Int)×Int):Option (DHost×Bool):=grd ((0:Int)<=x_g/\x_g<((List.length v3.Guests:Nat):Int)) (grd ((0:Int)<=x_page/\x_page<((List.length (List.getD v3.Guests (Int.toNat x_g) default).Pages:Nat):Int)) (some ((DHost.mk s4.1 (List.set v3.Guests (Int.toNat x_g) (DGuest.mk (List.getD v3.Guests (Int.toNat x_g) default).Live (DCore.mk ((List.getD v3.Guests (Int.toNat x_g) default).C).Regs ((List.getD v3.Guests (Int.toNat x_g) default).C).Pc ((List.getD v3.Guests (Int.toNat x_g) default).C).Root ((List.getD v3.Guests (Int.toNat x_g) default).C).Vector ((List.getD v3.Guests (Int.toNat x_g) default).C).Saved ((List.getD v3.Guests (Int.toNat x_g) default).C).SavedUser ((List.getD v3.Guests (Int.toNat x_g) default).C).Cause ((List.getD v3.Guests (Int.toNat x_g) default).C).Bad ((List.getD v3.Guests (Int.toNat x_g) default).C).Timer ((List.getD v3.Guests (Int.toNat x_g) default).C).Waits ((List.getD v3.Guests (Int.toNat x_g) default).C).User ((List.getD v3.Guests (Int.toNat x_g) default).C).On ((List.getD v3.Guests (Int.toNat x_g) default).C).Stopped) (List.set (List.getD v3.Guests (Int.toNat x_g) default).Pages (Int.toNat x_page) (DSlot.mk s4.2 true (List.getD (List.getD x_h.Guests (Int.toNat x_g) default).Pages (Int.toNat x_page) default).Dirty)) (List.getD v3.Guests (Int.toNat x_g) default).In (List.getD v3.Guests (Int.toNat x_g) default).Out))),true)))
noncomputable def jK (x_h:DHost)(x_g:Int)(x_page:Int):Option (DHost×Bool):=
 Option.bind (eZ x_h x_g) λv1=>
 cond (!v1)
  (some ((DHost.mk ([]:List Int) ([]:List DGuest)),false))
  (Option.bind (dC x_page (0:Int) (7:Int)) λv2=>
  cond (!v2)
   (some ((DHost.mk ([]:List Int) ([]:List DGuest)),false))
   (grd ((0:Int)<=x_g/\x_g<((List.length x_h.Guests:Nat):Int)) (grd ((0:Int)<=x_page/\x_page<((List.length (List.getD x_h.Guests (Int.toNat x_g) default).Pages:Nat):Int)) (cond (decide ((List.getD (List.getD x_h.Guests (Int.toNat x_g) default).Pages (Int.toNat x_page) default).Frame<(0:Int)))
    (some ((DHost.mk ([]:List Int) ([]:List DGuest)),false))
    (Option.bind (fA x_h) λv3=>
    grd ((0:Int)<=x_g/\x_g<((List.length x_h.Guests:Nat):Int)) (grd ((0:Int)<=x_page/\x_page<((List.length (List.getD x_h.Guests (Int.toNat x_g) default).Pages:Nat):Int)) (Option.bind (cond (!(List.getD (List.getD x_h.Guests (Int.toNat x_g) default).Pages (Int.toNat x_page) default).Write)
     (Option.bind (lT x_h) λv5=>
     grd ((0:Int)<=(List.getD (List.getD x_h.Guests (Int.toNat x_g) default).Pages (Int.toNat x_page) default).Frame/\(List.getD (List.getD x_h.Guests (Int.toNat x_g) default).Pages (Int.toNat x_page) default).Frame<((List.length v5:Nat):Int)) (cond (decide ((1:Int)<(List.getD v5 (Int.toNat (List.getD (List.getD x_h.Guests (Int.toNat x_g) default).Pages (Int.toNat x_page) default).Frame) default)))
      (Option.bind (mB x_h) λv6=>
      cond (decide (((List.length v6:Nat):Int)=(0:Int)))
       (some (.out ((DHost.mk ([]:List Int) ([]:List DGuest)),false)))
       (grd ((0:Int)<=(0:Int)/\(0:Int)<((List.length v6:Nat):Int)) (grd ((0:Int)<=(0:Int)/\(0:Int)<((List.length v6:Nat):Int)) (grd ((0:Int)<=(w64 ((List.getD v6 0 default)*(8:Int)))/\(w64 ((List.getD v6 0 default)*(8:Int)))<=(w64 ((w64 ((List.getD v6 0 default)+(1:Int)))*(8:Int)))/\(w64 ((w64 ((List.getD v6 0 default)+(1:Int)))*(8:Int)))<=((List.length v3.Words:Nat):Int)) (grd ((0:Int)<=(w64 ((List.getD (List.getD x_h.Guests (Int.toNat x_g) default).Pages (Int.toNat x_page) default).Frame*(8:Int)))/\(w64 ((List.getD (List.getD x_h.Guests (Int.toNat x_g) default).Pages (Int.toNat x_page) default).Frame*(8:Int)))<=((List.length x_h.Words:Nat):Int)/\((List.length x_h.Words:Nat):Int)<=((List.length x_h.Words:Nat):Int)) (grd ((0:Int)<=(0:Int)/\(0:Int)<((List.length v6:Nat):Int)) (some (.go ((over v3.Words (Int.toNat (w64 ((List.getD v6 0 default)*(8:Int)))) (Int.toNat (w64 ((w64 ((List.getD v6 0 default)+(1:Int)))*(8:Int)))-Int.toNat (w64 ((List.getD v6 0 default)*(8:Int)))) (List.take (Int.toNat ((List.length x_h.Words:Nat):Int)-Int.toNat (w64 ((List.getD (List.getD x_h.Guests (Int.toNat x_g) default).Pages (Int.toNat x_page) default).Frame*(8:Int)))) (List.drop (Int.toNat (w64 ((List.getD (List.getD x_h.Guests (Int.toNat x_g) default).Pages (Int.toNat x_page) default).Frame*(8:Int)))) x_h.Words))),List.getD v6 0 default)))))))))
      (some (.go (v3.Words,(List.getD (List.getD x_h.Guests (Int.toNat x_g) default).Pages (Int.toNat x_page) default).Frame)))))
     (some (.go (v3.Words,(List.getD (List.getD x_h.Guests (Int.toNat x_g) default).Pages (Int.toNat x_page) default).Frame)))) λj4=>
     JO.run j4 (mH x_h x_g x_page v3))))))))
noncomputable def bQy:Sg tG:=⟨[.st 26,.i .i64,.i .i64],.two (.st 2026) .b,jK⟩
theorem bTp:Sok 117 bQy:=sgx [(58,.r g58),(97,.r g97),(48,.r g48),(49,.r g49),(90,.r g90)] ⟨s58,s97,s48,s49,s90,trivial⟩ (.s .o (.s .o (.s .o (.s .o (.j ⟨[1,2,6,8,9],[],[(.c 8 0,.ro 3),(.c 9 0,.i .i64)]⟩ .o .o))))) kr kr kr
theorem aFz:LW 131 ⟨38,[.tmp 4],.seq (.reg false (rg 131 0)) (.seq (.seq (.reg false (rg 131 1)) (.block 0 (.loop (.seq (.seq (.reg false (rg 131 2)) (.cond (.t 9) .skip (.exit 0))) (.seq (.block 1 (.seq (.reg false (rg 131 3)) (.seq (.reg false (rg 131 4)) (.seq (.reg false (rg 131 5)) (.seq (.reg false (rg 131 6)) (.seq (.reg false (rg 131 7)) (.reg false (rg 131 8)))))))) (.reg false (rg 131 9))))))) (.seq (.reg false (rg 131 11)) .ret))⟩:=kr
noncomputable def oY  (s1:Int×(List DSlot)):Option ((List DSlot)×Int):=some (s1.2,s1.1)
noncomputable def iB  (s2:(List DSlot)×Int×Int):Option (LO ((List DSlot)×Int×Int) (JO (Int×(List DSlot)) ((List DSlot)×Int))):=
 cond (decide (s2.2.2<((List.length s2.1:Nat):Int)))
  (grd ((0:Int)<=s2.2.2/\s2.2.2<((List.length s2.1:Nat):Int)) (grd ((0:Int)<=s2.2.2/\s2.2.2<((List.length s2.1:Nat):Int)) (grd ((0:Int)<=s2.2.2/\s2.2.2<((List.length s2.1:Nat):Int)) (some (.next ((List.set s2.1 (Int.toNat s2.2.2) (DSlot.mk s2.2.1 (decide ((Int.tmod (w64 (s2.2.1+(1:Int))) (3:Int))=(0:Int))) (decide ((Int.tmod (w64 ((w64 (s2.2.1+(1:Int)))+(1:Int))) (3:Int))=(0:Int))))),w64 ((w64 ((w64 (s2.2.1+(1:Int)))+(1:Int)))+(1:Int)),w64 (s2.2.2+(1:Int))))))))
  (some (.ret (.go (s2.2.1,s2.1))))
noncomputable def lC (x_a:List DSlot)(x_k:Int):Option ((List DSlot)×Int):=
 Option.bind (Option.bind (iter iB (x_a,x_k,(0:Int))) LO.val) λj1=>
  JO.run j1 oY
theorem aJf{x_a:List DSlot}{x_k:Int}{R_:(List DSlot)×Int}(hh:lC x_a x_k=some R_):Inl Tryz.prog 131 [.sref 0 [] 0 (List.length x_a) 3,.int .i64 x_k] [(0,some (rC53 x_a))] 1 (.int .i64 R_.2) [(0,some (rC53 R_.1))] 1:=by let z8:EV:=(0,.sref 0 [] 0 (List.length x_a) 3);let z9:EH:=(0,some (rC53 x_a));unfold lC at hh;refine Inl.start aFz [0,1] [0] (E:=sp 38 [z8,(1,ii x_k)]) (H1:=[z9]) kr kr (sy [0,1] [0] (sp 38 [z8,(1,ii x_k)]) [z9] 1 ?_);obtain⟨j1,hh,hk1⟩:=bind_some hh;refine Aw.join (S:=Int×(List DSlot)) (λs1=>sp 38 [(1,ii s1.1)]) (λs1=>[(0,some (rC53 s1.2))]) 1 (λs1=>oY s1=some R_) ?_ ?_;{intro s1 hh;unfold oY at hh;refine sy [4] [0] (sp 38 [(4,ii s1.1)]) [(0,some (rC53 s1.2))] 1 (Aw.ret ?_);rw[bG hh];exact kJ (r':=ii s1.1) kr (el [some 0] (wC hT) (hn lM bB))};intro Q1 hN1 hR1 hE1;refine sy [0,1,5] [0] (sp 38 [z8,(1,ii x_k),(5,ii 0)]) [z9] 1 (Aw.block ?_);obtain⟨o2,hi2,hk2⟩:=bind_some hh;refine Aw.iter (λ(s2:(List DSlot)×Int×Int)=>sp 38 [(0,.sref 0 [] 0 (List.length s2.1) 3),(1,ii s2.2.1),(5,ii s2.2.2)]) (λ(s2:(List DSlot)×Int×Int)=>[(0,some (rC53 s2.1))]) 1 hi2 (el [some 0] (iL kr (rs (.sref 0 [] 0 (List.length x_a) 3) (ri (ri tC)))) (hn lM bB)) ?_;intro s2 u2 Q2 hh hN2 hX2 hR2;let z10:EV:=(0,.sref 0 [] 0 (List.length s2.1) 3);let z11:EH:=(0,some (rC53 s2.1));let z12:=(1,ii (w64 ((w64 ((w64 (s2.2.1+(1:Int)))+(1:Int)))+(1:Int))));let z13:=(1,ii (w64 ((w64 (s2.2.1+(1:Int)))+(1:Int))));let z14:=(1,ii (w64 (s2.2.1+(1:Int))));let z15:=(5,ii s2.2.2);let z16:=(9,bb (decide (s2.2.2<((List.length s2.1:Nat):Int))));let z1:=DSlot.mk s2.2.1 (decide ((Int.tmod (w64 (s2.2.1+(1:Int))) (3:Int))=(0:Int))) (decide ((Int.tmod (w64 ((w64 (s2.2.1+(1:Int)))+(1:Int))) (3:Int))=(0:Int)));let z3:=List.set s2.1 (Int.toNat s2.2.2) z1;let z2:=List.getD s2.1 (Int.toNat s2.2.2) default;let z4:=DSlot.mk s2.2.1 (decide ((Int.tmod (w64 (s2.2.1+(1:Int))) (3:Int))=(0:Int))) z2.Dirty;let z6:=List.set s2.1 (Int.toNat s2.2.2) z4;let z5:=DSlot.mk s2.2.1 z2.Write z2.Dirty;let z7:=List.set s2.1 (Int.toNat s2.2.2) z5;unfold iB at hh;refine Aw.seq (sy [0,1,5,9] [0] (sp 38 [z10,(1,ii s2.2.1),z15,z16]) [z11] 1 ?_);rcases tK hh with⟨hb,hh⟩|⟨hb,hh⟩;{refine cF hb (Aw.exit (aVz (hX2 _ _ _ _ _ (bG hh) ?_)));intro hout;rw[hout]at hk2;refine aSt ?_;obtain rfl:=bG hk2;exact hN1 (s2.2.1,s2.1) _ _ _ hk1 (el [some 0] (iL kr (ri tC)) (hn lM bB))};refine cT hb (Aw.xskip (λ_ _ _ hq=>dH hq) (Aw.seq (Aw.block (Aw.sreg [0,1,5] [0] ?_))));obtain⟨hg72,hh⟩:=aF hh;refine yjc 5 [(0:Int)<=s2.2.2/\s2.2.2<((List.length s2.1:Nat):Int)] (sp 38 [z10,(1,ii s2.2.1),z15,z16,(12,.sref 0 [] 0 (List.length s2.1) 3),(13,ii s2.2.2),(14,ii s2.2.1),(15,.ptr 0 [] (0+(Int.toNat s2.2.2)*3)),(16,.ptr 0 [] (0+(Int.toNat s2.2.2)*3+0))]) [z11] 1 (.cons hg72 .nil) ?_;let q1:Root:=(rC53 z7);let z17:=(0,some q1);refine ys (.store 1 (.t 16) (.t 14)) none (pR (c:=hG) (xs:=s2.1) (e:=53) (r:=0) (π:=[]) (o:=0+(Int.toNat s2.2.2)*3+0) (i:=(Int.toNat s2.2.2)) (off:=0) (vs:=[ii s2.2.1]) (y:=z5) (H':=[z17,z11]) nW kr kr kr kr ltn ltn dd kr kr ?_);refine yt (sp 38 [z10,(1,ii s2.2.1),z15]) [z17] 1 (sy [0,1,5] [0] (sp 38 [z10,z14,z15]) [z17] 1 (Aw.sreg [0,1,5] [0] ?_));obtain⟨hg71,hh⟩:=aF hh;refine yjc 7 [(3:Int)≠0,(0:Int)<=s2.2.2/\s2.2.2<((List.length s2.1:Nat):Int)] (sp 38 [z10,z14,z15,(19,.sref 0 [] 0 (List.length s2.1) 3),(20,ii s2.2.2),(21,ii (w64 (s2.2.1+(1:Int)))),(22,ii (Int.tmod (w64 (s2.2.1+(1:Int))) (3:Int))),(23,bb (decide ((Int.tmod (w64 (s2.2.1+(1:Int))) (3:Int))=(0:Int)))),(24,.ptr 0 [] (0+(Int.toNat s2.2.2)*3)),(25,.ptr 0 [] (0+(Int.toNat s2.2.2)*3+1))]) [z17] 1 (.cons dd (.cons hg71 .nil)) ?_;let q2:Root:=(rC53 z6);let z18:=(0,some q2);refine ys (.store 1 (.t 25) (.t 23)) none (fK (aC ltn) (List.set_set ..) (c:=hG) (xs:=z7) (e:=53) (r:=0) (π:=[]) (o:=0+(Int.toNat s2.2.2)*3+1) (i:=(Int.toNat s2.2.2)) (off:=1) (vs:=[bb (decide ((Int.tmod (w64 (s2.2.1+(1:Int))) (3:Int))=(0:Int)))]) (y:=z4) (H':=[z18,z17]) nW kr kr kr kr ltn ltn dd kr kr ?_);refine yt (sp 38 [z10,z14,z15]) [z18] 1 (sy [0,1,5] [0] (sp 38 [z10,z13,z15]) [z18] 1 (Aw.sreg [0,1,5] [0] ?_));obtain⟨hg70,hh⟩:=aF hh;refine yjc 7 [(3:Int)≠0,(0:Int)<=s2.2.2/\s2.2.2<((List.length s2.1:Nat):Int)] (sp 38 [z10,z13,z15,(28,.sref 0 [] 0 (List.length s2.1) 3),(29,ii s2.2.2),(30,ii (w64 ((w64 (s2.2.1+(1:Int)))+(1:Int)))),(31,ii (Int.tmod (w64 ((w64 (s2.2.1+(1:Int)))+(1:Int))) (3:Int))),(32,bb (decide ((Int.tmod (w64 ((w64 (s2.2.1+(1:Int)))+(1:Int))) (3:Int))=(0:Int)))),(33,.ptr 0 [] (0+(Int.toNat s2.2.2)*3)),(34,.ptr 0 [] (0+(Int.toNat s2.2.2)*3+2))]) [z18] 1 (.cons dd (.cons hg70 .nil)) ?_;let q3:Root:=(rC53 z3);refine ys (.store 1 (.t 34) (.t 32)) none (fK (aC ltn) (List.set_set ..) (c:=hG) (xs:=z6) (e:=53) (r:=0) (π:=[]) (o:=0+(Int.toNat s2.2.2)*3+2) (i:=(Int.toNat s2.2.2)) (off:=2) (vs:=[bb (decide ((Int.tmod (w64 ((w64 (s2.2.1+(1:Int)))+(1:Int))) (3:Int))=(0:Int)))]) (y:=z1) (H':=[(0,some q3),z18]) nW kr kr kr kr ltn ltn dd kr kr ?_);exact yt (sp 38 [z10,z13,z15]) [(0,some q3)] 1 (Aw.xreg [0,1,5] [0] (λ_ _ _ hq=>aAp (dH hq)) (yt (sp 38 [z10,z12,z15]) [(0,some q3)] 1 (Aw.oreg (ye (sp 38 [z10,z12,(5,ii (w64 (s2.2.2+(1:Int)))),(10,ii s2.2.2),(11,ii (w64 (s2.2.2+(1:Int))))]) [(0,some q3)] 1 (hN2 (z3,w64 ((w64 ((w64 (s2.2.1+(1:Int)))+(1:Int)))+(1:Int)),w64 (s2.2.2+(1:Int))) _ _ _ (bG hh) (el [some 0] (iL kr (rs (.sref 0 [] 0 (List.length s2.1) 3) (ri (ri tC)))) (hn lM bB)))))))
theorem aFk:LW 83 ⟨157,[.tmp 4],.seq (.reg false (rg 83 0)) (.seq (.seq (.reg false (rg 83 1)) (.block 0 (.loop (.seq (.seq (.reg false (rg 83 2)) (.cond (.t 9) .skip (.exit 0))) (.seq (.block 1 (.seq (.reg false (rg 83 3)) (.seq (.reg false (rg 83 4)) (.seq (.reg false (rg 83 5)) (.seq (.reg false (rg 83 6)) (.seq (.reg false (rg 83 7)) (.seq (.reg false (rg 83 8)) (.seq (.reg false (rg 83 9)) (.seq (.reg false (rg 83 10)) (.seq (.reg false (rg 83 11)) (.seq (.reg false (rg 83 12)) (.seq (.reg false (rg 83 13)) (.seq (.reg false (rg 83 14)) (.seq (.reg false (rg 83 15)) (.seq (.reg false (rg 83 16)) (.seq (.reg false (rg 83 17)) (.seq (.reg false (rg 83 18)) (.seq (.reg false (rg 83 19)) (.seq (.reg false (rg 83 20)) (.seq (.reg false (rg 83 21)) (.seq (.reg false (rg 83 22)) (.seq (.reg false (rg 83 23)) (.seq (.reg false (rg 83 24)) (.seq (.reg false (rg 83 25)) (.seq (.reg false (rg 83 26)) (.seq (.reg false (rg 83 27)) (.seq (.reg false (rg 83 28)) (.seq (.reg false (rg 83 29)) (.seq (.reg false (rg 83 30)) (.seq (.reg false (rg 83 31)) (.reg false (rg 83 32)))))))))))))))))))))))))))))))) (.reg false (rg 83 33))))))) (.seq (.reg false (rg 83 35)) .ret))⟩:=kr
noncomputable def oF  (s1:Int×(List DGuest)):Option ((List DGuest)×Int):=some (s1.2,s1.1)
noncomputable def gP  (s2:(List DGuest)×Int×Int):Option (LO ((List DGuest)×Int×Int) (JO (Int×(List DGuest)) ((List DGuest)×Int))):=
 cond (decide (s2.2.2<((List.length s2.1:Nat):Int)))
  (grd ((0:Int)<=s2.2.2/\s2.2.2<((List.length s2.1:Nat):Int)) (grd ((0:Int)<=s2.2.2/\s2.2.2<((List.length s2.1:Nat):Int)) (Option.bind (eP ((List.getD s2.1 (Int.toNat s2.2.2) default).C).Regs (w64 (s2.2.1+(1:Int)))) λv3=>
   grd (List.length v3.1=(List.length ((List.getD s2.1 (Int.toNat s2.2.2) default).C).Regs)) (grd ((0:Int)<=s2.2.2/\s2.2.2<((List.length s2.1:Nat):Int)) (grd ((0:Int)<=s2.2.2/\s2.2.2<((List.length s2.1:Nat):Int)) (grd ((0:Int)<=s2.2.2/\s2.2.2<((List.length s2.1:Nat):Int)) (grd ((0:Int)<=s2.2.2/\s2.2.2<((List.length s2.1:Nat):Int)) (grd ((0:Int)<=s2.2.2/\s2.2.2<((List.length s2.1:Nat):Int)) (grd ((0:Int)<=s2.2.2/\s2.2.2<((List.length s2.1:Nat):Int)) (grd ((0:Int)<=s2.2.2/\s2.2.2<((List.length s2.1:Nat):Int)) (grd ((0:Int)<=s2.2.2/\s2.2.2<((List.length s2.1:Nat):Int)) (grd ((0:Int)<=s2.2.2/\s2.2.2<((List.length s2.1:Nat):Int)) (grd ((0:Int)<=s2.2.2/\s2.2.2<((List.length s2.1:Nat):Int)) (grd ((0:Int)<=s2.2.2/\s2.2.2<((List.length s2.1:Nat):Int)) (grd ((0:Int)<=s2.2.2/\s2.2.2<((List.length s2.1:Nat):Int)) (grd ((0:Int)<=s2.2.2/\s2.2.2<((List.length s2.1:Nat):Int)) (Option.bind (lC (List.getD s2.1 (Int.toNat s2.2.2) default).Pages (w64 ((w64 ((w64 ((w64 ((w64 ((w64 ((w64 ((w64 ((w64 ((w64 ((w64 ((w64 (v3.2+(1:Int)))+(1:Int)))+(1:Int)))+(1:Int)))+(1:Int)))+(1:Int)))+(1:Int)))+(1:Int)))+(1:Int)))+(1:Int)))+(1:Int)))+(1:Int)))) λv4=>
    grd (List.length v4.1=(List.length (List.getD s2.1 (Int.toNat s2.2.2) default).Pages)) (grd ((0:Int)<=s2.2.2/\s2.2.2<((List.length s2.1:Nat):Int)) (Option.bind (eP (List.getD s2.1 (Int.toNat s2.2.2) default).In v4.2) λv5=>
     grd (List.length v5.1=(List.length (List.getD s2.1 (Int.toNat s2.2.2) default).In)) (grd ((0:Int)<=s2.2.2/\s2.2.2<((List.length s2.1:Nat):Int)) (Option.bind (eP (List.getD s2.1 (Int.toNat s2.2.2) default).Out v5.2) λv6=>
      grd (List.length v6.1=(List.length (List.getD s2.1 (Int.toNat s2.2.2) default).Out)) (some (.next ((List.set s2.1 (Int.toNat s2.2.2) (DGuest.mk (decide ((Int.tmod s2.2.1 (3:Int))=(0:Int))) (DCore.mk v3.1 v3.2 (w64 (v3.2+(1:Int))) (w64 ((w64 (v3.2+(1:Int)))+(1:Int))) (w64 ((w64 ((w64 (v3.2+(1:Int)))+(1:Int)))+(1:Int))) (decide ((Int.tmod (w64 ((w64 ((w64 ((w64 (v3.2+(1:Int)))+(1:Int)))+(1:Int)))+(1:Int))) (3:Int))=(0:Int))) (w64 ((w64 ((w64 ((w64 ((w64 (v3.2+(1:Int)))+(1:Int)))+(1:Int)))+(1:Int)))+(1:Int))) (w64 ((w64 ((w64 ((w64 ((w64 ((w64 (v3.2+(1:Int)))+(1:Int)))+(1:Int)))+(1:Int)))+(1:Int)))+(1:Int))) (w64 ((w64 ((w64 ((w64 ((w64 ((w64 ((w64 (v3.2+(1:Int)))+(1:Int)))+(1:Int)))+(1:Int)))+(1:Int)))+(1:Int)))+(1:Int))) (decide ((Int.tmod (w64 ((w64 ((w64 ((w64 ((w64 ((w64 ((w64 ((w64 (v3.2+(1:Int)))+(1:Int)))+(1:Int)))+(1:Int)))+(1:Int)))+(1:Int)))+(1:Int)))+(1:Int))) (3:Int))=(0:Int))) (decide ((Int.tmod (w64 ((w64 ((w64 ((w64 ((w64 ((w64 ((w64 ((w64 ((w64 (v3.2+(1:Int)))+(1:Int)))+(1:Int)))+(1:Int)))+(1:Int)))+(1:Int)))+(1:Int)))+(1:Int)))+(1:Int))) (3:Int))=(0:Int))) (decide ((Int.tmod (w64 ((w64 ((w64 ((w64 ((w64 ((w64 ((w64 ((w64 ((w64 ((w64 (v3.2+(1:Int)))+(1:Int)))+(1:Int)))+(1:Int)))+(1:Int)))+(1:Int)))+(1:Int)))+(1:Int)))+(1:Int)))+(1:Int))) (3:Int))=(0:Int))) (decide ((Int.tmod (w64 ((w64 ((w64 ((w64 ((w64 ((w64 ((w64 ((w64 ((w64 ((w64 ((w64 (v3.2+(1:Int)))+(1:Int)))+(1:Int)))+(1:Int)))+(1:Int)))+(1:Int)))+(1:Int)))+(1:Int)))+(1:Int)))+(1:Int)))+(1:Int))) (3:Int))=(0:Int)))) v4.1 v5.1 v6.1)),v6.2,w64 (s2.2.2+(1:Int))))))))))))))))))))))))))
  (some (.ret (.go (s2.2.1,s2.1))))
noncomputable def jY (x_a:List DGuest)(x_k:Int):Option ((List DGuest)×Int):=
 Option.bind (Option.bind (iter gP (x_a,x_k,(0:Int))) LO.val) λj1=>
  JO.run j1 oF
theorem aHp{x_a:List DGuest}{x_k:Int}{R_:(List DGuest)×Int}(hh:jY x_a x_k=some R_):Inl Tryz.prog 83 [.sref 0 [] 0 (List.length x_a) 17,.int .i64 x_k] [(0,some (rO38 x_a))] 1 (.int .i64 R_.2) [(0,some (rO38 R_.1))] 1:=by let z49:EV:=(0,.sref 0 [] 0 (List.length x_a) 17);let z50:EH:=(0,some (rO38 x_a));unfold jY at hh;refine Inl.start aFk [0,1] [0] (E:=sp 157 [z49,(1,ii x_k)]) (H1:=[z50]) kr kr (sy [0,1] [0] (sp 157 [z49,(1,ii x_k)]) [z50] 1 ?_);obtain⟨j1,hh,hk1⟩:=bind_some hh;refine Aw.join (S:=Int×(List DGuest)) (λs1=>sp 157 [(1,ii s1.1)]) (λs1=>[(0,some (rO38 s1.2))]) 1 (λs1=>oF s1=some R_) ?_ ?_;{intro s1 hh;unfold oF at hh;refine sy [4] [0] (sp 157 [(4,ii s1.1)]) [(0,some (rO38 s1.2))] 1 (Aw.ret ?_);rw[bG hh];exact kJ (r':=ii s1.1) kr (el [some 0] (wC hT) (hn cZ bB))};intro Q1 hN1 hR1 hE1;refine sy [0,1,5] [0] (sp 157 [z49,(1,ii x_k),(5,ii 0)]) [z50] 1 (Aw.block ?_);obtain⟨o2,hi2,hk2⟩:=bind_some hh;refine Aw.iter (λ(s2:(List DGuest)×Int×Int)=>sp 157 [(0,.sref 0 [] 0 (List.length s2.1) 17),(1,ii s2.2.1),(5,ii s2.2.2)]) (λ(s2:(List DGuest)×Int×Int)=>[(0,some (rO38 s2.1))]) 1 hi2 (el [some 0] (iL kr (rs (.sref 0 [] 0 (List.length x_a) 17) (ri (ri tC)))) (hn cZ bB)) ?_;intro s2 u2 Q2 hh hN2 hX2 hR2;let z51:EV:=(0,.sref 0 [] 0 (List.length s2.1) 17);let z52:EH:=(0,some (rO38 s2.1));let z53:=(1,ii (w64 (s2.2.1+(1:Int))));let z54:=(5,ii s2.2.2);let z55:=(9,bb (decide (s2.2.2<((List.length s2.1:Nat):Int))));let z1:=List.getD s2.1 (Int.toNat s2.2.2) default;let z3:=DGuest.mk (decide ((Int.tmod s2.2.1 (3:Int))=(0:Int))) z1.C z1.Pages z1.In z1.Out;let z20:=List.set s2.1 (Int.toNat s2.2.2) z3;unfold gP at hh;refine Aw.seq (sy [0,1,5,9] [0] (sp 157 [z51,(1,ii s2.2.1),z54,z55]) [z52] 1 ?_);rcases tK hh with⟨hb,hh⟩|⟨hb,hh⟩;{refine cF hb (Aw.exit (aVz (hX2 _ _ _ _ _ (bG hh) ?_)));intro hout;rw[hout]at hk2;refine aSt ?_;obtain rfl:=bG hk2;exact hN1 (s2.2.1,s2.1) _ _ _ hk1 (el [some 0] (iL kr (ri tC)) (hn cZ bB))};refine cT hb (Aw.xskip (λ_ _ _ hq=>dH hq) (Aw.seq (Aw.block (Aw.sreg [0,1,5] [0] ?_))));obtain⟨hg504,hh⟩:=aF hh;refine yjc 7 [(3:Int)≠0,(0:Int)<=s2.2.2/\s2.2.2<((List.length s2.1:Nat):Int)] (sp 157 [z51,(1,ii s2.2.1),z54,z55,(12,.sref 0 [] 0 (List.length s2.1) 17),(13,ii s2.2.2),(14,ii s2.2.1),(15,ii (Int.tmod s2.2.1 (3:Int))),(16,bb (decide ((Int.tmod s2.2.1 (3:Int))=(0:Int)))),(17,.ptr 0 [] (0+(Int.toNat s2.2.2)*17)),(18,.ptr 0 [] (0+(Int.toNat s2.2.2)*17+0))]) [z52] 1 (.cons dd (.cons hg504 .nil)) ?_;let q1:Root:=(rO38 z20);let z56:=(0,some q1);refine ys (.store 1 (.t 18) (.t 16)) none (pR (c:=aQ) (xs:=s2.1) (e:=38) (r:=0) (π:=[]) (o:=0+(Int.toNat s2.2.2)*17+0) (i:=(Int.toNat s2.2.2)) (off:=0) (vs:=[bb (decide ((Int.tmod s2.2.1 (3:Int))=(0:Int)))]) (y:=z3) (H':=[z56,z52]) aG kr kr kr kr ltn ltn dd kr kr ?_);refine yt (sp 157 [z51,(1,ii s2.2.1),z54]) [z56] 1 (sy [0,1,5] [0] (sp 157 [z51,z53,z54]) [z56] 1 (Aw.sreg [0,1,5] [0] ?_));obtain⟨hg503,hh⟩:=aF hh;refine yjc 5 [(0:Int)<=s2.2.2/\s2.2.2<((List.length s2.1:Nat):Int)] (sp 157 [z51,z53,z54,(21,.sref 0 [] 0 (List.length s2.1) 17),(22,ii s2.2.2),(23,.ptr 0 [] (0+(Int.toNat s2.2.2)*17)),(24,.ptr 0 [] (0+(Int.toNat s2.2.2)*17+1)),(25,.ptr 0 [] (0+(Int.toNat s2.2.2)*17+1+0))]) [z56] 1 (.cons hg503 .nil) (ys (.load false 1 (.t 25)) (some 26) (yO (aC ltn) (c:=aQ) (xs:=z20) (e:=38) (r:=0) (π:=[]) (o:=0+(Int.toNat s2.2.2)*17+1+0) (i:=(Int.toNat s2.2.2)) (off:=1) (v:= .sref 0 [0+(Int.toNat s2.2.2)*17+1+0+0] 0 (List.length (z1.C).Regs) 1) aG kr kr ltn ltn dd kr ?_));refine yu 1 [(26,.sref 0 [0+(Int.toNat s2.2.2)*17+1+0+0] 0 (List.length (z1.C).Regs) 1),(27,ii (w64 (s2.2.1+(1:Int))))] [z56] 1 ?_;obtain⟨v3,hv3,hh⟩:=bind_some hh;let z57:=(1,ii (w64 ((w64 ((w64 ((w64 ((w64 ((w64 ((w64 ((w64 ((w64 ((w64 ((w64 ((w64 (v3.2+(1:Int)))+(1:Int)))+(1:Int)))+(1:Int)))+(1:Int)))+(1:Int)))+(1:Int)))+(1:Int)))+(1:Int)))+(1:Int)))+(1:Int)))+(1:Int))));let z58:=(1,ii (w64 ((w64 ((w64 ((w64 ((w64 ((w64 ((w64 ((w64 ((w64 ((w64 ((w64 (v3.2+(1:Int)))+(1:Int)))+(1:Int)))+(1:Int)))+(1:Int)))+(1:Int)))+(1:Int)))+(1:Int)))+(1:Int)))+(1:Int)))+(1:Int))));let z59:=(1,ii (w64 ((w64 ((w64 ((w64 ((w64 ((w64 ((w64 ((w64 ((w64 ((w64 (v3.2+(1:Int)))+(1:Int)))+(1:Int)))+(1:Int)))+(1:Int)))+(1:Int)))+(1:Int)))+(1:Int)))+(1:Int)))+(1:Int))));let z60:=(1,ii (w64 ((w64 ((w64 ((w64 ((w64 ((w64 ((w64 ((w64 ((w64 (v3.2+(1:Int)))+(1:Int)))+(1:Int)))+(1:Int)))+(1:Int)))+(1:Int)))+(1:Int)))+(1:Int)))+(1:Int))));let z61:=(1,ii (w64 ((w64 ((w64 ((w64 ((w64 ((w64 ((w64 ((w64 (v3.2+(1:Int)))+(1:Int)))+(1:Int)))+(1:Int)))+(1:Int)))+(1:Int)))+(1:Int)))+(1:Int))));let z62:=(1,ii (w64 ((w64 ((w64 ((w64 ((w64 ((w64 ((w64 (v3.2+(1:Int)))+(1:Int)))+(1:Int)))+(1:Int)))+(1:Int)))+(1:Int)))+(1:Int))));let z63:=(1,ii (w64 ((w64 ((w64 ((w64 ((w64 ((w64 (v3.2+(1:Int)))+(1:Int)))+(1:Int)))+(1:Int)))+(1:Int)))+(1:Int))));let z64:=(1,ii (w64 ((w64 ((w64 ((w64 ((w64 (v3.2+(1:Int)))+(1:Int)))+(1:Int)))+(1:Int)))+(1:Int))));let z65:=(1,ii (w64 ((w64 ((w64 ((w64 (v3.2+(1:Int)))+(1:Int)))+(1:Int)))+(1:Int))));let z66:=(1,ii (w64 ((w64 ((w64 (v3.2+(1:Int)))+(1:Int)))+(1:Int))));let z67:=(1,ii (w64 ((w64 (v3.2+(1:Int)))+(1:Int))));let z68:=(1,ii (w64 (v3.2+(1:Int))));let z4:=DCore.mk v3.1 (z1.C).Pc (z1.C).Root (z1.C).Vector (z1.C).Saved (z1.C).SavedUser (z1.C).Cause (z1.C).Bad (z1.C).Timer (z1.C).Waits (z1.C).User (z1.C).On (z1.C).Stopped;let z21:=DGuest.mk (decide ((Int.tmod s2.2.1 (3:Int))=(0:Int))) z4 z1.Pages z1.In z1.Out;let z37:=List.set s2.1 (Int.toNat s2.2.2) z21;let z5:=DCore.mk v3.1 v3.2 (z1.C).Root (z1.C).Vector (z1.C).Saved (z1.C).SavedUser (z1.C).Cause (z1.C).Bad (z1.C).Timer (z1.C).Waits (z1.C).User (z1.C).On (z1.C).Stopped;let z22:=DGuest.mk (decide ((Int.tmod s2.2.1 (3:Int))=(0:Int))) z5 z1.Pages z1.In z1.Out;let z38:=List.set s2.1 (Int.toNat s2.2.2) z22;let z6:=DCore.mk v3.1 v3.2 (w64 (v3.2+(1:Int))) (z1.C).Vector (z1.C).Saved (z1.C).SavedUser (z1.C).Cause (z1.C).Bad (z1.C).Timer (z1.C).Waits (z1.C).User (z1.C).On (z1.C).Stopped;let z23:=DGuest.mk (decide ((Int.tmod s2.2.1 (3:Int))=(0:Int))) z6 z1.Pages z1.In z1.Out;let z39:=List.set s2.1 (Int.toNat s2.2.2) z23;let z7:=DCore.mk v3.1 v3.2 (w64 (v3.2+(1:Int))) (w64 ((w64 (v3.2+(1:Int)))+(1:Int))) (z1.C).Saved (z1.C).SavedUser (z1.C).Cause (z1.C).Bad (z1.C).Timer (z1.C).Waits (z1.C).User (z1.C).On (z1.C).Stopped;let z24:=DGuest.mk (decide ((Int.tmod s2.2.1 (3:Int))=(0:Int))) z7 z1.Pages z1.In z1.Out;let z40:=List.set s2.1 (Int.toNat s2.2.2) z24;let z8:=DCore.mk v3.1 v3.2 (w64 (v3.2+(1:Int))) (w64 ((w64 (v3.2+(1:Int)))+(1:Int))) (w64 ((w64 ((w64 (v3.2+(1:Int)))+(1:Int)))+(1:Int))) (z1.C).SavedUser (z1.C).Cause (z1.C).Bad (z1.C).Timer (z1.C).Waits (z1.C).User (z1.C).On (z1.C).Stopped;let z25:=DGuest.mk (decide ((Int.tmod s2.2.1 (3:Int))=(0:Int))) z8 z1.Pages z1.In z1.Out;let z41:=List.set s2.1 (Int.toNat s2.2.2) z25;let z9:=DCore.mk v3.1 v3.2 (w64 (v3.2+(1:Int))) (w64 ((w64 (v3.2+(1:Int)))+(1:Int))) (w64 ((w64 ((w64 (v3.2+(1:Int)))+(1:Int)))+(1:Int))) (decide ((Int.tmod (w64 ((w64 ((w64 ((w64 (v3.2+(1:Int)))+(1:Int)))+(1:Int)))+(1:Int))) (3:Int))=(0:Int))) (z1.C).Cause (z1.C).Bad (z1.C).Timer (z1.C).Waits (z1.C).User (z1.C).On (z1.C).Stopped;let z26:=DGuest.mk (decide ((Int.tmod s2.2.1 (3:Int))=(0:Int))) z9 z1.Pages z1.In z1.Out;let z42:=List.set s2.1 (Int.toNat s2.2.2) z26;let z10:=DCore.mk v3.1 v3.2 (w64 (v3.2+(1:Int))) (w64 ((w64 (v3.2+(1:Int)))+(1:Int))) (w64 ((w64 ((w64 (v3.2+(1:Int)))+(1:Int)))+(1:Int))) (decide ((Int.tmod (w64 ((w64 ((w64 ((w64 (v3.2+(1:Int)))+(1:Int)))+(1:Int)))+(1:Int))) (3:Int))=(0:Int))) (w64 ((w64 ((w64 ((w64 ((w64 (v3.2+(1:Int)))+(1:Int)))+(1:Int)))+(1:Int)))+(1:Int))) (z1.C).Bad (z1.C).Timer (z1.C).Waits (z1.C).User (z1.C).On (z1.C).Stopped;let z27:=DGuest.mk (decide ((Int.tmod s2.2.1 (3:Int))=(0:Int))) z10 z1.Pages z1.In z1.Out;let z43:=List.set s2.1 (Int.toNat s2.2.2) z27;let z11:=DCore.mk v3.1 v3.2 (w64 (v3.2+(1:Int))) (w64 ((w64 (v3.2+(1:Int)))+(1:Int))) (w64 ((w64 ((w64 (v3.2+(1:Int)))+(1:Int)))+(1:Int))) (decide ((Int.tmod (w64 ((w64 ((w64 ((w64 (v3.2+(1:Int)))+(1:Int)))+(1:Int)))+(1:Int))) (3:Int))=(0:Int))) (w64 ((w64 ((w64 ((w64 ((w64 (v3.2+(1:Int)))+(1:Int)))+(1:Int)))+(1:Int)))+(1:Int))) (w64 ((w64 ((w64 ((w64 ((w64 ((w64 (v3.2+(1:Int)))+(1:Int)))+(1:Int)))+(1:Int)))+(1:Int)))+(1:Int))) (z1.C).Timer (z1.C).Waits (z1.C).User (z1.C).On (z1.C).Stopped;let z28:=DGuest.mk (decide ((Int.tmod s2.2.1 (3:Int))=(0:Int))) z11 z1.Pages z1.In z1.Out;let z44:=List.set s2.1 (Int.toNat s2.2.2) z28;let z12:=DCore.mk v3.1 v3.2 (w64 (v3.2+(1:Int))) (w64 ((w64 (v3.2+(1:Int)))+(1:Int))) (w64 ((w64 ((w64 (v3.2+(1:Int)))+(1:Int)))+(1:Int))) (decide ((Int.tmod (w64 ((w64 ((w64 ((w64 (v3.2+(1:Int)))+(1:Int)))+(1:Int)))+(1:Int))) (3:Int))=(0:Int))) (w64 ((w64 ((w64 ((w64 ((w64 (v3.2+(1:Int)))+(1:Int)))+(1:Int)))+(1:Int)))+(1:Int))) (w64 ((w64 ((w64 ((w64 ((w64 ((w64 (v3.2+(1:Int)))+(1:Int)))+(1:Int)))+(1:Int)))+(1:Int)))+(1:Int))) (w64 ((w64 ((w64 ((w64 ((w64 ((w64 ((w64 (v3.2+(1:Int)))+(1:Int)))+(1:Int)))+(1:Int)))+(1:Int)))+(1:Int)))+(1:Int))) (z1.C).Waits (z1.C).User (z1.C).On (z1.C).Stopped;let z29:=DGuest.mk (decide ((Int.tmod s2.2.1 (3:Int))=(0:Int))) z12 z1.Pages z1.In z1.Out;let z45:=List.set s2.1 (Int.toNat s2.2.2) z29;let z13:=DCore.mk v3.1 v3.2 (w64 (v3.2+(1:Int))) (w64 ((w64 (v3.2+(1:Int)))+(1:Int))) (w64 ((w64 ((w64 (v3.2+(1:Int)))+(1:Int)))+(1:Int))) (decide ((Int.tmod (w64 ((w64 ((w64 ((w64 (v3.2+(1:Int)))+(1:Int)))+(1:Int)))+(1:Int))) (3:Int))=(0:Int))) (w64 ((w64 ((w64 ((w64 ((w64 (v3.2+(1:Int)))+(1:Int)))+(1:Int)))+(1:Int)))+(1:Int))) (w64 ((w64 ((w64 ((w64 ((w64 ((w64 (v3.2+(1:Int)))+(1:Int)))+(1:Int)))+(1:Int)))+(1:Int)))+(1:Int))) (w64 ((w64 ((w64 ((w64 ((w64 ((w64 ((w64 (v3.2+(1:Int)))+(1:Int)))+(1:Int)))+(1:Int)))+(1:Int)))+(1:Int)))+(1:Int))) (decide ((Int.tmod (w64 ((w64 ((w64 ((w64 ((w64 ((w64 ((w64 ((w64 (v3.2+(1:Int)))+(1:Int)))+(1:Int)))+(1:Int)))+(1:Int)))+(1:Int)))+(1:Int)))+(1:Int))) (3:Int))=(0:Int))) (z1.C).User (z1.C).On (z1.C).Stopped;let z30:=DGuest.mk (decide ((Int.tmod s2.2.1 (3:Int))=(0:Int))) z13 z1.Pages z1.In z1.Out;let z46:=List.set s2.1 (Int.toNat s2.2.2) z30;let z14:=DCore.mk v3.1 v3.2 (w64 (v3.2+(1:Int))) (w64 ((w64 (v3.2+(1:Int)))+(1:Int))) (w64 ((w64 ((w64 (v3.2+(1:Int)))+(1:Int)))+(1:Int))) (decide ((Int.tmod (w64 ((w64 ((w64 ((w64 (v3.2+(1:Int)))+(1:Int)))+(1:Int)))+(1:Int))) (3:Int))=(0:Int))) (w64 ((w64 ((w64 ((w64 ((w64 (v3.2+(1:Int)))+(1:Int)))+(1:Int)))+(1:Int)))+(1:Int))) (w64 ((w64 ((w64 ((w64 ((w64 ((w64 (v3.2+(1:Int)))+(1:Int)))+(1:Int)))+(1:Int)))+(1:Int)))+(1:Int))) (w64 ((w64 ((w64 ((w64 ((w64 ((w64 ((w64 (v3.2+(1:Int)))+(1:Int)))+(1:Int)))+(1:Int)))+(1:Int)))+(1:Int)))+(1:Int))) (decide ((Int.tmod (w64 ((w64 ((w64 ((w64 ((w64 ((w64 ((w64 ((w64 (v3.2+(1:Int)))+(1:Int)))+(1:Int)))+(1:Int)))+(1:Int)))+(1:Int)))+(1:Int)))+(1:Int))) (3:Int))=(0:Int))) (decide ((Int.tmod (w64 ((w64 ((w64 ((w64 ((w64 ((w64 ((w64 ((w64 ((w64 (v3.2+(1:Int)))+(1:Int)))+(1:Int)))+(1:Int)))+(1:Int)))+(1:Int)))+(1:Int)))+(1:Int)))+(1:Int))) (3:Int))=(0:Int))) (z1.C).On (z1.C).Stopped;let z31:=DGuest.mk (decide ((Int.tmod s2.2.1 (3:Int))=(0:Int))) z14 z1.Pages z1.In z1.Out;let z47:=List.set s2.1 (Int.toNat s2.2.2) z31;let z15:=DCore.mk v3.1 v3.2 (w64 (v3.2+(1:Int))) (w64 ((w64 (v3.2+(1:Int)))+(1:Int))) (w64 ((w64 ((w64 (v3.2+(1:Int)))+(1:Int)))+(1:Int))) (decide ((Int.tmod (w64 ((w64 ((w64 ((w64 (v3.2+(1:Int)))+(1:Int)))+(1:Int)))+(1:Int))) (3:Int))=(0:Int))) (w64 ((w64 ((w64 ((w64 ((w64 (v3.2+(1:Int)))+(1:Int)))+(1:Int)))+(1:Int)))+(1:Int))) (w64 ((w64 ((w64 ((w64 ((w64 ((w64 (v3.2+(1:Int)))+(1:Int)))+(1:Int)))+(1:Int)))+(1:Int)))+(1:Int))) (w64 ((w64 ((w64 ((w64 ((w64 ((w64 ((w64 (v3.2+(1:Int)))+(1:Int)))+(1:Int)))+(1:Int)))+(1:Int)))+(1:Int)))+(1:Int))) (decide ((Int.tmod (w64 ((w64 ((w64 ((w64 ((w64 ((w64 ((w64 ((w64 (v3.2+(1:Int)))+(1:Int)))+(1:Int)))+(1:Int)))+(1:Int)))+(1:Int)))+(1:Int)))+(1:Int))) (3:Int))=(0:Int))) (decide ((Int.tmod (w64 ((w64 ((w64 ((w64 ((w64 ((w64 ((w64 ((w64 ((w64 (v3.2+(1:Int)))+(1:Int)))+(1:Int)))+(1:Int)))+(1:Int)))+(1:Int)))+(1:Int)))+(1:Int)))+(1:Int))) (3:Int))=(0:Int))) (decide ((Int.tmod (w64 ((w64 ((w64 ((w64 ((w64 ((w64 ((w64 ((w64 ((w64 ((w64 (v3.2+(1:Int)))+(1:Int)))+(1:Int)))+(1:Int)))+(1:Int)))+(1:Int)))+(1:Int)))+(1:Int)))+(1:Int)))+(1:Int))) (3:Int))=(0:Int))) (z1.C).Stopped;let z32:=DGuest.mk (decide ((Int.tmod s2.2.1 (3:Int))=(0:Int))) z15 z1.Pages z1.In z1.Out;let z48:=List.set s2.1 (Int.toNat s2.2.2) z32;let z2:=DCore.mk v3.1 v3.2 (w64 (v3.2+(1:Int))) (w64 ((w64 (v3.2+(1:Int)))+(1:Int))) (w64 ((w64 ((w64 (v3.2+(1:Int)))+(1:Int)))+(1:Int))) (decide ((Int.tmod (w64 ((w64 ((w64 ((w64 (v3.2+(1:Int)))+(1:Int)))+(1:Int)))+(1:Int))) (3:Int))=(0:Int))) (w64 ((w64 ((w64 ((w64 ((w64 (v3.2+(1:Int)))+(1:Int)))+(1:Int)))+(1:Int)))+(1:Int))) (w64 ((w64 ((w64 ((w64 ((w64 ((w64 (v3.2+(1:Int)))+(1:Int)))+(1:Int)))+(1:Int)))+(1:Int)))+(1:Int))) (w64 ((w64 ((w64 ((w64 ((w64 ((w64 ((w64 (v3.2+(1:Int)))+(1:Int)))+(1:Int)))+(1:Int)))+(1:Int)))+(1:Int)))+(1:Int))) (decide ((Int.tmod (w64 ((w64 ((w64 ((w64 ((w64 ((w64 ((w64 ((w64 (v3.2+(1:Int)))+(1:Int)))+(1:Int)))+(1:Int)))+(1:Int)))+(1:Int)))+(1:Int)))+(1:Int))) (3:Int))=(0:Int))) (decide ((Int.tmod (w64 ((w64 ((w64 ((w64 ((w64 ((w64 ((w64 ((w64 ((w64 (v3.2+(1:Int)))+(1:Int)))+(1:Int)))+(1:Int)))+(1:Int)))+(1:Int)))+(1:Int)))+(1:Int)))+(1:Int))) (3:Int))=(0:Int))) (decide ((Int.tmod (w64 ((w64 ((w64 ((w64 ((w64 ((w64 ((w64 ((w64 ((w64 ((w64 (v3.2+(1:Int)))+(1:Int)))+(1:Int)))+(1:Int)))+(1:Int)))+(1:Int)))+(1:Int)))+(1:Int)))+(1:Int)))+(1:Int))) (3:Int))=(0:Int))) (decide ((Int.tmod (w64 ((w64 ((w64 ((w64 ((w64 ((w64 ((w64 ((w64 ((w64 ((w64 ((w64 (v3.2+(1:Int)))+(1:Int)))+(1:Int)))+(1:Int)))+(1:Int)))+(1:Int)))+(1:Int)))+(1:Int)))+(1:Int)))+(1:Int)))+(1:Int))) (3:Int))=(0:Int)));let z16:=DGuest.mk (decide ((Int.tmod s2.2.1 (3:Int))=(0:Int))) z2 z1.Pages z1.In z1.Out;let z33:=List.set s2.1 (Int.toNat s2.2.2) z16;obtain⟨hg466,hh⟩:=aF hh;have hgqv3:=Eq.symm hg466;refine ys (.call 33 [.t 26,.t 27]) (some 28) (aEg (e':=3) (sz':=1) (m':=(List.length (z1.C).Regs)) (cs':=(fl (eI .i64) (z1.C).Regs)) (ds:=(fl (eI .i64) v3.1)) (c:=aQ) (xs:=z20) (R:=0) (e:=38) (o:=0+(Int.toNat s2.2.2)*17+1+0+0) (i:=(Int.toNat s2.2.2)) (off:=1) (y:=z21) (m2:=(List.length v3.1)) (args:=[.sref 0 [0+(Int.toNat s2.2.2)*17+1+0+0] 0 (List.length (z1.C).Regs) 1,ii (w64 (s2.2.1+(1:Int)))]) (args2:=[.sref 1 [] 0 (List.length (z1.C).Regs) 1,ii (w64 (s2.2.1+(1:Int)))]) kr aG kr ltn ltn dd (aC ltn) kr (aAq (.sref _ _ _) (aAq (.same _) aSm)) (Inl.frameB (v':=ii v3.2) (Hp':=[(1,some (rI_3 v3.1))]) (n':=2) [1] (lD hv3) rfl rfl rfl rz rfl (hn bK bB) hT rfl (hn bK bB) rfl) kr kr hgqv3 kr (List.set_set ..) ?_);let q2:Root:=(rO38 z37);refine yt (sp 157 [z51,(1,ii v3.2),z54]) [(0,some q2)] 2 (Aw.sreg [0,1,5] [0] ?_);obtain⟨hg502,hh⟩:=aF hh;refine yjc 6 [(0:Int)<=s2.2.2/\s2.2.2<((List.length s2.1:Nat):Int)] (sp 157 [z51,(1,ii v3.2),z54,(29,.sref 0 [] 0 (List.length s2.1) 17),(30,ii s2.2.2),(31,ii v3.2),(32,.ptr 0 [] (0+(Int.toNat s2.2.2)*17)),(33,.ptr 0 [] (0+(Int.toNat s2.2.2)*17+1)),(34,.ptr 0 [] (0+(Int.toNat s2.2.2)*17+1+1))]) [(0,some q2)] 2 (.cons hg502 .nil) ?_;let q3:Root:=(rO38 z38);let z69:=(0,some q3);refine ys (.store 1 (.t 34) (.t 31)) none (fK (aC ltn) (List.set_set ..) (c:=aQ) (xs:=z37) (e:=38) (r:=0) (π:=[]) (o:=0+(Int.toNat s2.2.2)*17+1+1) (i:=(Int.toNat s2.2.2)) (off:=2) (vs:=[ii v3.2]) (y:=z22) (H':=[z69,(0,some q2)]) aG kr kr kr kr ltn ltn dd kr kr ?_);refine yt (sp 157 [z51,(1,ii v3.2),z54]) [z69] 2 (sy [0,1,5] [0] (sp 157 [z51,z68,z54]) [z69] 2 (Aw.sreg [0,1,5] [0] ?_));obtain⟨hg501,hh⟩:=aF hh;refine yjc 6 [(0:Int)<=s2.2.2/\s2.2.2<((List.length s2.1:Nat):Int)] (sp 157 [z51,z68,z54,(37,.sref 0 [] 0 (List.length s2.1) 17),(38,ii s2.2.2),(39,ii (w64 (v3.2+(1:Int)))),(40,.ptr 0 [] (0+(Int.toNat s2.2.2)*17)),(41,.ptr 0 [] (0+(Int.toNat s2.2.2)*17+1)),(42,.ptr 0 [] (0+(Int.toNat s2.2.2)*17+1+2))]) [z69] 2 (.cons hg501 .nil) ?_;let q4:Root:=(rO38 z39);let z70:=(0,some q4);refine ys (.store 1 (.t 42) (.t 39)) none (fK (aC ltn) (List.set_set ..) (c:=aQ) (xs:=z38) (e:=38) (r:=0) (π:=[]) (o:=0+(Int.toNat s2.2.2)*17+1+2) (i:=(Int.toNat s2.2.2)) (off:=3) (vs:=[ii (w64 (v3.2+(1:Int)))]) (y:=z23) (H':=[z70,z69]) aG kr kr kr kr ltn ltn dd kr kr ?_);refine yt (sp 157 [z51,z68,z54]) [z70] 2 (sy [0,1,5] [0] (sp 157 [z51,z67,z54]) [z70] 2 (Aw.sreg [0,1,5] [0] ?_));obtain⟨hg500,hh⟩:=aF hh;refine yjc 6 [(0:Int)<=s2.2.2/\s2.2.2<((List.length s2.1:Nat):Int)] (sp 157 [z51,z67,z54,(45,.sref 0 [] 0 (List.length s2.1) 17),(46,ii s2.2.2),(47,ii (w64 ((w64 (v3.2+(1:Int)))+(1:Int)))),(48,.ptr 0 [] (0+(Int.toNat s2.2.2)*17)),(49,.ptr 0 [] (0+(Int.toNat s2.2.2)*17+1)),(50,.ptr 0 [] (0+(Int.toNat s2.2.2)*17+1+3))]) [z70] 2 (.cons hg500 .nil) ?_;let q5:Root:=(rO38 z40);let z71:=(0,some q5);refine ys (.store 1 (.t 50) (.t 47)) none (fK (aC ltn) (List.set_set ..) (c:=aQ) (xs:=z39) (e:=38) (r:=0) (π:=[]) (o:=0+(Int.toNat s2.2.2)*17+1+3) (i:=(Int.toNat s2.2.2)) (off:=4) (vs:=[ii (w64 ((w64 (v3.2+(1:Int)))+(1:Int)))]) (y:=z24) (H':=[z71,z70]) aG kr kr kr kr ltn ltn dd kr kr ?_);refine yt (sp 157 [z51,z67,z54]) [z71] 2 (sy [0,1,5] [0] (sp 157 [z51,z66,z54]) [z71] 2 (Aw.sreg [0,1,5] [0] ?_));obtain⟨hg499,hh⟩:=aF hh;refine yjc 6 [(0:Int)<=s2.2.2/\s2.2.2<((List.length s2.1:Nat):Int)] (sp 157 [z51,z66,z54,(53,.sref 0 [] 0 (List.length s2.1) 17),(54,ii s2.2.2),(55,ii (w64 ((w64 ((w64 (v3.2+(1:Int)))+(1:Int)))+(1:Int)))),(56,.ptr 0 [] (0+(Int.toNat s2.2.2)*17)),(57,.ptr 0 [] (0+(Int.toNat s2.2.2)*17+1)),(58,.ptr 0 [] (0+(Int.toNat s2.2.2)*17+1+4))]) [z71] 2 (.cons hg499 .nil) ?_;let q6:Root:=(rO38 z41);let z72:=(0,some q6);refine ys (.store 1 (.t 58) (.t 55)) none (fK (aC ltn) (List.set_set ..) (c:=aQ) (xs:=z40) (e:=38) (r:=0) (π:=[]) (o:=0+(Int.toNat s2.2.2)*17+1+4) (i:=(Int.toNat s2.2.2)) (off:=5) (vs:=[ii (w64 ((w64 ((w64 (v3.2+(1:Int)))+(1:Int)))+(1:Int)))]) (y:=z25) (H':=[z72,z71]) aG kr kr kr kr ltn ltn dd kr kr ?_);refine yt (sp 157 [z51,z66,z54]) [z72] 2 (sy [0,1,5] [0] (sp 157 [z51,z65,z54]) [z72] 2 (Aw.sreg [0,1,5] [0] ?_));obtain⟨hg498,hh⟩:=aF hh;refine yjc 8 [(3:Int)≠0,(0:Int)<=s2.2.2/\s2.2.2<((List.length s2.1:Nat):Int)] (sp 157 [z51,z65,z54,(61,.sref 0 [] 0 (List.length s2.1) 17),(62,ii s2.2.2),(63,ii (w64 ((w64 ((w64 ((w64 (v3.2+(1:Int)))+(1:Int)))+(1:Int)))+(1:Int)))),(64,ii (Int.tmod (w64 ((w64 ((w64 ((w64 (v3.2+(1:Int)))+(1:Int)))+(1:Int)))+(1:Int))) (3:Int))),(65,bb (decide ((Int.tmod (w64 ((w64 ((w64 ((w64 (v3.2+(1:Int)))+(1:Int)))+(1:Int)))+(1:Int))) (3:Int))=(0:Int)))),(66,.ptr 0 [] (0+(Int.toNat s2.2.2)*17)),(67,.ptr 0 [] (0+(Int.toNat s2.2.2)*17+1)),(68,.ptr 0 [] (0+(Int.toNat s2.2.2)*17+1+5))]) [z72] 2 (.cons dd (.cons hg498 .nil)) ?_;let q7:Root:=(rO38 z42);let z73:=(0,some q7);refine ys (.store 1 (.t 68) (.t 65)) none (fK (aC ltn) (List.set_set ..) (c:=aQ) (xs:=z41) (e:=38) (r:=0) (π:=[]) (o:=0+(Int.toNat s2.2.2)*17+1+5) (i:=(Int.toNat s2.2.2)) (off:=6) (vs:=[bb (decide ((Int.tmod (w64 ((w64 ((w64 ((w64 (v3.2+(1:Int)))+(1:Int)))+(1:Int)))+(1:Int))) (3:Int))=(0:Int)))]) (y:=z26) (H':=[z73,z72]) aG kr kr kr kr ltn ltn dd kr kr ?_);refine yt (sp 157 [z51,z65,z54]) [z73] 2 (sy [0,1,5] [0] (sp 157 [z51,z64,z54]) [z73] 2 (Aw.sreg [0,1,5] [0] ?_));obtain⟨hg497,hh⟩:=aF hh;refine yjc 6 [(0:Int)<=s2.2.2/\s2.2.2<((List.length s2.1:Nat):Int)] (sp 157 [z51,z64,z54,(71,.sref 0 [] 0 (List.length s2.1) 17),(72,ii s2.2.2),(73,ii (w64 ((w64 ((w64 ((w64 ((w64 (v3.2+(1:Int)))+(1:Int)))+(1:Int)))+(1:Int)))+(1:Int)))),(74,.ptr 0 [] (0+(Int.toNat s2.2.2)*17)),(75,.ptr 0 [] (0+(Int.toNat s2.2.2)*17+1)),(76,.ptr 0 [] (0+(Int.toNat s2.2.2)*17+1+6))]) [z73] 2 (.cons hg497 .nil) ?_;let q8:Root:=(rO38 z43);let z74:=(0,some q8);refine ys (.store 1 (.t 76) (.t 73)) none (fK (aC ltn) (List.set_set ..) (c:=aQ) (xs:=z42) (e:=38) (r:=0) (π:=[]) (o:=0+(Int.toNat s2.2.2)*17+1+6) (i:=(Int.toNat s2.2.2)) (off:=7) (vs:=[ii (w64 ((w64 ((w64 ((w64 ((w64 (v3.2+(1:Int)))+(1:Int)))+(1:Int)))+(1:Int)))+(1:Int)))]) (y:=z27) (H':=[z74,z73]) aG kr kr kr kr ltn ltn dd kr kr ?_);refine yt (sp 157 [z51,z64,z54]) [z74] 2 (sy [0,1,5] [0] (sp 157 [z51,z63,z54]) [z74] 2 (Aw.sreg [0,1,5] [0] ?_));obtain⟨hg496,hh⟩:=aF hh;refine yjc 6 [(0:Int)<=s2.2.2/\s2.2.2<((List.length s2.1:Nat):Int)] (sp 157 [z51,z63,z54,(79,.sref 0 [] 0 (List.length s2.1) 17),(80,ii s2.2.2),(81,ii (w64 ((w64 ((w64 ((w64 ((w64 ((w64 (v3.2+(1:Int)))+(1:Int)))+(1:Int)))+(1:Int)))+(1:Int)))+(1:Int)))),(82,.ptr 0 [] (0+(Int.toNat s2.2.2)*17)),(83,.ptr 0 [] (0+(Int.toNat s2.2.2)*17+1)),(84,.ptr 0 [] (0+(Int.toNat s2.2.2)*17+1+7))]) [z74] 2 (.cons hg496 .nil) ?_;let q9:Root:=(rO38 z44);let z75:=(0,some q9);refine ys (.store 1 (.t 84) (.t 81)) none (fK (aC ltn) (List.set_set ..) (c:=aQ) (xs:=z43) (e:=38) (r:=0) (π:=[]) (o:=0+(Int.toNat s2.2.2)*17+1+7) (i:=(Int.toNat s2.2.2)) (off:=8) (vs:=[ii (w64 ((w64 ((w64 ((w64 ((w64 ((w64 (v3.2+(1:Int)))+(1:Int)))+(1:Int)))+(1:Int)))+(1:Int)))+(1:Int)))]) (y:=z28) (H':=[z75,z74]) aG kr kr kr kr ltn ltn dd kr kr ?_);refine yt (sp 157 [z51,z63,z54]) [z75] 2 (sy [0,1,5] [0] (sp 157 [z51,z62,z54]) [z75] 2 (Aw.sreg [0,1,5] [0] ?_));obtain⟨hg495,hh⟩:=aF hh;refine yjc 6 [(0:Int)<=s2.2.2/\s2.2.2<((List.length s2.1:Nat):Int)] (sp 157 [z51,z62,z54,(87,.sref 0 [] 0 (List.length s2.1) 17),(88,ii s2.2.2),(89,ii (w64 ((w64 ((w64 ((w64 ((w64 ((w64 ((w64 (v3.2+(1:Int)))+(1:Int)))+(1:Int)))+(1:Int)))+(1:Int)))+(1:Int)))+(1:Int)))),(90,.ptr 0 [] (0+(Int.toNat s2.2.2)*17)),(91,.ptr 0 [] (0+(Int.toNat s2.2.2)*17+1)),(92,.ptr 0 [] (0+(Int.toNat s2.2.2)*17+1+8))]) [z75] 2 (.cons hg495 .nil) ?_;let q10:Root:=(rO38 z45);let z76:=(0,some q10);refine ys (.store 1 (.t 92) (.t 89)) none (fK (aC ltn) (List.set_set ..) (c:=aQ) (xs:=z44) (e:=38) (r:=0) (π:=[]) (o:=0+(Int.toNat s2.2.2)*17+1+8) (i:=(Int.toNat s2.2.2)) (off:=9) (vs:=[ii (w64 ((w64 ((w64 ((w64 ((w64 ((w64 ((w64 (v3.2+(1:Int)))+(1:Int)))+(1:Int)))+(1:Int)))+(1:Int)))+(1:Int)))+(1:Int)))]) (y:=z29) (H':=[z76,z75]) aG kr kr kr kr ltn ltn dd kr kr ?_);refine yt (sp 157 [z51,z62,z54]) [z76] 2 (sy [0,1,5] [0] (sp 157 [z51,z61,z54]) [z76] 2 (Aw.sreg [0,1,5] [0] ?_));obtain⟨hg494,hh⟩:=aF hh;refine yjc 8 [(3:Int)≠0,(0:Int)<=s2.2.2/\s2.2.2<((List.length s2.1:Nat):Int)] (sp 157 [z51,z61,z54,(95,.sref 0 [] 0 (List.length s2.1) 17),(96,ii s2.2.2),(97,ii (w64 ((w64 ((w64 ((w64 ((w64 ((w64 ((w64 ((w64 (v3.2+(1:Int)))+(1:Int)))+(1:Int)))+(1:Int)))+(1:Int)))+(1:Int)))+(1:Int)))+(1:Int)))),(98,ii (Int.tmod (w64 ((w64 ((w64 ((w64 ((w64 ((w64 ((w64 ((w64 (v3.2+(1:Int)))+(1:Int)))+(1:Int)))+(1:Int)))+(1:Int)))+(1:Int)))+(1:Int)))+(1:Int))) (3:Int))),(99,bb (decide ((Int.tmod (w64 ((w64 ((w64 ((w64 ((w64 ((w64 ((w64 ((w64 (v3.2+(1:Int)))+(1:Int)))+(1:Int)))+(1:Int)))+(1:Int)))+(1:Int)))+(1:Int)))+(1:Int))) (3:Int))=(0:Int)))),(100,.ptr 0 [] (0+(Int.toNat s2.2.2)*17)),(101,.ptr 0 [] (0+(Int.toNat s2.2.2)*17+1)),(102,.ptr 0 [] (0+(Int.toNat s2.2.2)*17+1+9))]) [z76] 2 (.cons dd (.cons hg494 .nil)) ?_;let q11:Root:=(rO38 z46);let z77:=(0,some q11);refine ys (.store 1 (.t 102) (.t 99)) none (fK (aC ltn) (List.set_set ..) (c:=aQ) (xs:=z45) (e:=38) (r:=0) (π:=[]) (o:=0+(Int.toNat s2.2.2)*17+1+9) (i:=(Int.toNat s2.2.2)) (off:=10) (vs:=[bb (decide ((Int.tmod (w64 ((w64 ((w64 ((w64 ((w64 ((w64 ((w64 ((w64 (v3.2+(1:Int)))+(1:Int)))+(1:Int)))+(1:Int)))+(1:Int)))+(1:Int)))+(1:Int)))+(1:Int))) (3:Int))=(0:Int)))]) (y:=z30) (H':=[z77,z76]) aG kr kr kr kr ltn ltn dd kr kr ?_);refine yt (sp 157 [z51,z61,z54]) [z77] 2 (sy [0,1,5] [0] (sp 157 [z51,z60,z54]) [z77] 2 (Aw.sreg [0,1,5] [0] ?_));obtain⟨hg493,hh⟩:=aF hh;refine yjc 8 [(3:Int)≠0,(0:Int)<=s2.2.2/\s2.2.2<((List.length s2.1:Nat):Int)] (sp 157 [z51,z60,z54,(105,.sref 0 [] 0 (List.length s2.1) 17),(106,ii s2.2.2),(107,ii (w64 ((w64 ((w64 ((w64 ((w64 ((w64 ((w64 ((w64 ((w64 (v3.2+(1:Int)))+(1:Int)))+(1:Int)))+(1:Int)))+(1:Int)))+(1:Int)))+(1:Int)))+(1:Int)))+(1:Int)))),(108,ii (Int.tmod (w64 ((w64 ((w64 ((w64 ((w64 ((w64 ((w64 ((w64 ((w64 (v3.2+(1:Int)))+(1:Int)))+(1:Int)))+(1:Int)))+(1:Int)))+(1:Int)))+(1:Int)))+(1:Int)))+(1:Int))) (3:Int))),(109,bb (decide ((Int.tmod (w64 ((w64 ((w64 ((w64 ((w64 ((w64 ((w64 ((w64 ((w64 (v3.2+(1:Int)))+(1:Int)))+(1:Int)))+(1:Int)))+(1:Int)))+(1:Int)))+(1:Int)))+(1:Int)))+(1:Int))) (3:Int))=(0:Int)))),(110,.ptr 0 [] (0+(Int.toNat s2.2.2)*17)),(111,.ptr 0 [] (0+(Int.toNat s2.2.2)*17+1)),(112,.ptr 0 [] (0+(Int.toNat s2.2.2)*17+1+10))]) [z77] 2 (.cons dd (.cons hg493 .nil)) ?_;let q12:Root:=(rO38 z47);let z78:=(0,some q12);refine ys (.store 1 (.t 112) (.t 109)) none (fK (aC ltn) (List.set_set ..) (c:=aQ) (xs:=z46) (e:=38) (r:=0) (π:=[]) (o:=0+(Int.toNat s2.2.2)*17+1+10) (i:=(Int.toNat s2.2.2)) (off:=11) (vs:=[bb (decide ((Int.tmod (w64 ((w64 ((w64 ((w64 ((w64 ((w64 ((w64 ((w64 ((w64 (v3.2+(1:Int)))+(1:Int)))+(1:Int)))+(1:Int)))+(1:Int)))+(1:Int)))+(1:Int)))+(1:Int)))+(1:Int))) (3:Int))=(0:Int)))]) (y:=z31) (H':=[z78,z77]) aG kr kr kr kr ltn ltn dd kr kr ?_);refine yt (sp 157 [z51,z60,z54]) [z78] 2 (sy [0,1,5] [0] (sp 157 [z51,z59,z54]) [z78] 2 (Aw.sreg [0,1,5] [0] ?_));obtain⟨hg492,hh⟩:=aF hh;refine yjc 8 [(3:Int)≠0,(0:Int)<=s2.2.2/\s2.2.2<((List.length s2.1:Nat):Int)] (sp 157 [z51,z59,z54,(115,.sref 0 [] 0 (List.length s2.1) 17),(116,ii s2.2.2),(117,ii (w64 ((w64 ((w64 ((w64 ((w64 ((w64 ((w64 ((w64 ((w64 ((w64 (v3.2+(1:Int)))+(1:Int)))+(1:Int)))+(1:Int)))+(1:Int)))+(1:Int)))+(1:Int)))+(1:Int)))+(1:Int)))+(1:Int)))),(118,ii (Int.tmod (w64 ((w64 ((w64 ((w64 ((w64 ((w64 ((w64 ((w64 ((w64 ((w64 (v3.2+(1:Int)))+(1:Int)))+(1:Int)))+(1:Int)))+(1:Int)))+(1:Int)))+(1:Int)))+(1:Int)))+(1:Int)))+(1:Int))) (3:Int))),(119,bb (decide ((Int.tmod (w64 ((w64 ((w64 ((w64 ((w64 ((w64 ((w64 ((w64 ((w64 ((w64 (v3.2+(1:Int)))+(1:Int)))+(1:Int)))+(1:Int)))+(1:Int)))+(1:Int)))+(1:Int)))+(1:Int)))+(1:Int)))+(1:Int))) (3:Int))=(0:Int)))),(120,.ptr 0 [] (0+(Int.toNat s2.2.2)*17)),(121,.ptr 0 [] (0+(Int.toNat s2.2.2)*17+1)),(122,.ptr 0 [] (0+(Int.toNat s2.2.2)*17+1+11))]) [z78] 2 (.cons dd (.cons hg492 .nil)) ?_;let q13:Root:=(rO38 z48);let z79:=(0,some q13);refine ys (.store 1 (.t 122) (.t 119)) none (fK (aC ltn) (List.set_set ..) (c:=aQ) (xs:=z47) (e:=38) (r:=0) (π:=[]) (o:=0+(Int.toNat s2.2.2)*17+1+11) (i:=(Int.toNat s2.2.2)) (off:=12) (vs:=[bb (decide ((Int.tmod (w64 ((w64 ((w64 ((w64 ((w64 ((w64 ((w64 ((w64 ((w64 ((w64 (v3.2+(1:Int)))+(1:Int)))+(1:Int)))+(1:Int)))+(1:Int)))+(1:Int)))+(1:Int)))+(1:Int)))+(1:Int)))+(1:Int))) (3:Int))=(0:Int)))]) (y:=z32) (H':=[z79,z78]) aG kr kr kr kr ltn ltn dd kr kr ?_);refine yt (sp 157 [z51,z59,z54]) [z79] 2 (sy [0,1,5] [0] (sp 157 [z51,z58,z54]) [z79] 2 (Aw.sreg [0,1,5] [0] ?_));obtain⟨hg491,hh⟩:=aF hh;refine yjc 8 [(3:Int)≠0,(0:Int)<=s2.2.2/\s2.2.2<((List.length s2.1:Nat):Int)] (sp 157 [z51,z58,z54,(125,.sref 0 [] 0 (List.length s2.1) 17),(126,ii s2.2.2),(127,ii (w64 ((w64 ((w64 ((w64 ((w64 ((w64 ((w64 ((w64 ((w64 ((w64 ((w64 (v3.2+(1:Int)))+(1:Int)))+(1:Int)))+(1:Int)))+(1:Int)))+(1:Int)))+(1:Int)))+(1:Int)))+(1:Int)))+(1:Int)))+(1:Int)))),(128,ii (Int.tmod (w64 ((w64 ((w64 ((w64 ((w64 ((w64 ((w64 ((w64 ((w64 ((w64 ((w64 (v3.2+(1:Int)))+(1:Int)))+(1:Int)))+(1:Int)))+(1:Int)))+(1:Int)))+(1:Int)))+(1:Int)))+(1:Int)))+(1:Int)))+(1:Int))) (3:Int))),(129,bb (decide ((Int.tmod (w64 ((w64 ((w64 ((w64 ((w64 ((w64 ((w64 ((w64 ((w64 ((w64 ((w64 (v3.2+(1:Int)))+(1:Int)))+(1:Int)))+(1:Int)))+(1:Int)))+(1:Int)))+(1:Int)))+(1:Int)))+(1:Int)))+(1:Int)))+(1:Int))) (3:Int))=(0:Int)))),(130,.ptr 0 [] (0+(Int.toNat s2.2.2)*17)),(131,.ptr 0 [] (0+(Int.toNat s2.2.2)*17+1)),(132,.ptr 0 [] (0+(Int.toNat s2.2.2)*17+1+12))]) [z79] 2 (.cons dd (.cons hg491 .nil)) ?_;let q14:Root:=(rO38 z33);let z80:=(0,some q14);refine ys (.store 1 (.t 132) (.t 129)) none (fK (aC ltn) (List.set_set ..) (c:=aQ) (xs:=z48) (e:=38) (r:=0) (π:=[]) (o:=0+(Int.toNat s2.2.2)*17+1+12) (i:=(Int.toNat s2.2.2)) (off:=13) (vs:=[bb (decide ((Int.tmod (w64 ((w64 ((w64 ((w64 ((w64 ((w64 ((w64 ((w64 ((w64 ((w64 ((w64 (v3.2+(1:Int)))+(1:Int)))+(1:Int)))+(1:Int)))+(1:Int)))+(1:Int)))+(1:Int)))+(1:Int)))+(1:Int)))+(1:Int)))+(1:Int))) (3:Int))=(0:Int)))]) (y:=z16) (H':=[z80,z79]) aG kr kr kr kr ltn ltn dd kr kr ?_);refine yt (sp 157 [z51,z58,z54]) [z80] 2 (sy [0,1,5] [0] (sp 157 [z51,z57,z54]) [z80] 2 (Aw.sreg [0,1,5] [0] ?_));obtain⟨hg490,hh⟩:=aF hh;refine yjc 4 [(0:Int)<=s2.2.2/\s2.2.2<((List.length s2.1:Nat):Int)] (sp 157 [z51,z57,z54,(135,.sref 0 [] 0 (List.length s2.1) 17),(136,ii s2.2.2),(137,.ptr 0 [] (0+(Int.toNat s2.2.2)*17)),(138,.ptr 0 [] (0+(Int.toNat s2.2.2)*17+14))]) [z80] 2 (.cons hg490 .nil) (ys (.load false 1 (.t 138)) (some 139) (yO (aC ltn) (c:=aQ) (xs:=z33) (e:=38) (r:=0) (π:=[]) (o:=0+(Int.toNat s2.2.2)*17+14) (i:=(Int.toNat s2.2.2)) (off:=14) (v:= .sref 0 [0+(Int.toNat s2.2.2)*17+14+0] 0 (List.length z1.Pages) 3) aG kr kr ltn ltn dd kr ?_));refine yu 1 [(139,.sref 0 [0+(Int.toNat s2.2.2)*17+14+0] 0 (List.length z1.Pages) 3),(140,ii (w64 ((w64 ((w64 ((w64 ((w64 ((w64 ((w64 ((w64 ((w64 ((w64 ((w64 ((w64 (v3.2+(1:Int)))+(1:Int)))+(1:Int)))+(1:Int)))+(1:Int)))+(1:Int)))+(1:Int)))+(1:Int)))+(1:Int)))+(1:Int)))+(1:Int)))+(1:Int))))] [z80] 2 ?_;obtain⟨v4,hv4,hh⟩:=bind_some hh;let z17:=DGuest.mk (decide ((Int.tmod s2.2.1 (3:Int))=(0:Int))) z2 v4.1 z1.In z1.Out;let z34:=List.set s2.1 (Int.toNat s2.2.2) z17;obtain⟨hg481,hh⟩:=aF hh;have hgqv4:=Eq.symm hg481;refine ys (.call 131 [.t 139,.t 140]) (some 141) (aEg (e':=53) (sz':=3) (m':=(List.length z1.Pages)) (cs':=(fl hG z1.Pages)) (ds:=(fl hG v4.1)) (c:=aQ) (xs:=z33) (R:=0) (e:=38) (o:=0+(Int.toNat s2.2.2)*17+14+0) (i:=(Int.toNat s2.2.2)) (off:=14) (y:=z17) (m2:=(List.length v4.1)) (args:=[.sref 0 [0+(Int.toNat s2.2.2)*17+14+0] 0 (List.length z1.Pages) 3,ii (w64 ((w64 ((w64 ((w64 ((w64 ((w64 ((w64 ((w64 ((w64 ((w64 ((w64 ((w64 (v3.2+(1:Int)))+(1:Int)))+(1:Int)))+(1:Int)))+(1:Int)))+(1:Int)))+(1:Int)))+(1:Int)))+(1:Int)))+(1:Int)))+(1:Int)))+(1:Int)))]) (args2:=[.sref 2 [] 0 (List.length z1.Pages) 3,ii (w64 ((w64 ((w64 ((w64 ((w64 ((w64 ((w64 ((w64 ((w64 ((w64 ((w64 ((w64 (v3.2+(1:Int)))+(1:Int)))+(1:Int)))+(1:Int)))+(1:Int)))+(1:Int)))+(1:Int)))+(1:Int)))+(1:Int)))+(1:Int)))+(1:Int)))+(1:Int)))]) kr aG kr ltn ltn dd (aC ltn) kr (aAq (.sref _ _ _) (aAq (.same _) aSm)) (Inl.frameB (v':=ii v4.2) (Hp':=[(2,some (rC53 v4.1))]) (n':=3) [2] (aJf hv4) rfl rfl rfl rz rfl (hn lM bB) hT rfl (hn lM bB) rfl) kr kr hgqv4 kr (List.set_set ..) ?_);let q15:Root:=(rO38 z34);refine yt (sp 157 [z51,(1,ii v4.2),z54]) [(0,some q15)] 3 (Aw.sreg [0,1,5] [0] ?_);obtain⟨hg489,hh⟩:=aF hh;refine yjc 4 [(0:Int)<=s2.2.2/\s2.2.2<((List.length s2.1:Nat):Int)] (sp 157 [z51,(1,ii v4.2),z54,(142,.sref 0 [] 0 (List.length s2.1) 17),(143,ii s2.2.2),(144,.ptr 0 [] (0+(Int.toNat s2.2.2)*17)),(145,.ptr 0 [] (0+(Int.toNat s2.2.2)*17+15))]) [(0,some q15)] 3 (.cons hg489 .nil) (ys (.load false 1 (.t 145)) (some 146) (yO (aC ltn) (c:=aQ) (xs:=z34) (e:=38) (r:=0) (π:=[]) (o:=0+(Int.toNat s2.2.2)*17+15) (i:=(Int.toNat s2.2.2)) (off:=15) (v:= .sref 0 [0+(Int.toNat s2.2.2)*17+15+0] 0 (List.length z1.In) 1) aG kr kr ltn ltn dd kr ?_));refine yu 1 [(146,.sref 0 [0+(Int.toNat s2.2.2)*17+15+0] 0 (List.length z1.In) 1),(147,ii v4.2)] [(0,some q15)] 3 ?_;obtain⟨v5,hv5,hh⟩:=bind_some hh;let z18:=DGuest.mk (decide ((Int.tmod s2.2.1 (3:Int))=(0:Int))) z2 v4.1 v5.1 z1.Out;let z35:=List.set s2.1 (Int.toNat s2.2.2) z18;obtain⟨hg484,hh⟩:=aF hh;have hgqv5:=Eq.symm hg484;refine ys (.call 33 [.t 146,.t 147]) (some 148) (aEg (e':=3) (sz':=1) (m':=(List.length z1.In)) (cs':=(fl (eI .i64) z1.In)) (ds:=(fl (eI .i64) v5.1)) (c:=aQ) (xs:=z34) (R:=0) (e:=38) (o:=0+(Int.toNat s2.2.2)*17+15+0) (i:=(Int.toNat s2.2.2)) (off:=15) (y:=z18) (m2:=(List.length v5.1)) (args:=[.sref 0 [0+(Int.toNat s2.2.2)*17+15+0] 0 (List.length z1.In) 1,ii v4.2]) (args2:=[.sref 3 [] 0 (List.length z1.In) 1,ii v4.2]) kr aG kr ltn ltn dd (aC ltn) kr (aAq (.sref _ _ _) (aAq (.same _) aSm)) (Inl.frameB (v':=ii v5.2) (Hp':=[(3,some (rI_3 v5.1))]) (n':=4) [3] (lD hv5) rfl rfl rfl rz rfl (hn bK bB) hT rfl (hn bK bB) rfl) kr kr hgqv5 kr (List.set_set ..) ?_);let q16:Root:=(rO38 z35);refine yt (sp 157 [z51,(1,ii v5.2),z54]) [(0,some q16)] 4 (Aw.xreg [0,1,5] [0] (λ_ _ _ hq=>aAp (dH hq)) ?_);obtain⟨hg488,hh⟩:=aF hh;refine yjc 4 [(0:Int)<=s2.2.2/\s2.2.2<((List.length s2.1:Nat):Int)] (sp 157 [z51,(1,ii v5.2),z54,(149,.sref 0 [] 0 (List.length s2.1) 17),(150,ii s2.2.2),(151,.ptr 0 [] (0+(Int.toNat s2.2.2)*17)),(152,.ptr 0 [] (0+(Int.toNat s2.2.2)*17+16))]) [(0,some q16)] 4 (.cons hg488 .nil) (ys (.load false 1 (.t 152)) (some 153) (yO (aC ltn) (c:=aQ) (xs:=z35) (e:=38) (r:=0) (π:=[]) (o:=0+(Int.toNat s2.2.2)*17+16) (i:=(Int.toNat s2.2.2)) (off:=16) (v:= .sref 0 [0+(Int.toNat s2.2.2)*17+16+0] 0 (List.length z1.Out) 1) aG kr kr ltn ltn dd kr ?_));refine yu 1 [(153,.sref 0 [0+(Int.toNat s2.2.2)*17+16+0] 0 (List.length z1.Out) 1),(154,ii v5.2)] [(0,some q16)] 4 ?_;obtain⟨v6,hv6,hh⟩:=bind_some hh;let z19:=DGuest.mk (decide ((Int.tmod s2.2.1 (3:Int))=(0:Int))) z2 v4.1 v5.1 v6.1;let z36:=List.set s2.1 (Int.toNat s2.2.2) z19;obtain⟨hg487,hh⟩:=aF hh;have hgqv6:=Eq.symm hg487;refine ys (.call 33 [.t 153,.t 154]) (some 155) (aEg (e':=3) (sz':=1) (m':=(List.length z1.Out)) (cs':=(fl (eI .i64) z1.Out)) (ds:=(fl (eI .i64) v6.1)) (c:=aQ) (xs:=z35) (R:=0) (e:=38) (o:=0+(Int.toNat s2.2.2)*17+16+0) (i:=(Int.toNat s2.2.2)) (off:=16) (y:=z19) (m2:=(List.length v6.1)) (args:=[.sref 0 [0+(Int.toNat s2.2.2)*17+16+0] 0 (List.length z1.Out) 1,ii v5.2]) (args2:=[.sref 4 [] 0 (List.length z1.Out) 1,ii v5.2]) kr aG kr ltn ltn dd (aC ltn) kr (aAq (.sref _ _ _) (aAq (.same _) aSm)) (Inl.frameB (v':=ii v6.2) (Hp':=[(4,some (rI_3 v6.1))]) (n':=5) [4] (lD hv6) rfl rfl rfl rz rfl (hn bK bB) hT rfl (hn bK bB) rfl) kr kr hgqv6 kr (List.set_set ..) ?_);let q17:Root:=(rO38 z36);exact yt (sp 157 [z51,(1,ii v6.2),z54]) [(0,some q17)] 5 (Aw.oreg (ye (sp 157 [z51,(1,ii v6.2),(5,ii (w64 (s2.2.2+(1:Int)))),(10,ii s2.2.2),(11,ii (w64 (s2.2.2+(1:Int))))]) [(0,some q17)] 5 (hN2 (z36,v6.2,w64 (s2.2.2+(1:Int))) _ _ _ (bG hh) (el [some 0] (iL kr (rs (.sref 0 [] 0 (List.length s2.1) 17) (ri (ri tC)))) (hn cZ bB)))))
theorem aJm:LW 28 ⟨14,[.tmp 4],.seq (.reg false (rg 28 0)) (.seq (.reg false (rg 28 1)) (.seq (.reg false (rg 28 2)) (.seq (.reg false (rg 28 3)) .ret)))⟩:=kr
noncomputable def fL (x_a:DHost)(x_k:Int):Option ((List Int)×(List DGuest)×Int):=
 Option.bind (eP x_a.Words x_k) λv1=>
 grd (List.length v1.1=(List.length x_a.Words)) (Option.bind (jY x_a.Guests v1.2) λv2=>
  grd (List.length v2.1=(List.length x_a.Guests)) (some (v1.1,v2.1,v2.2)))
theorem nT{x_a:DHost}{x_k:Int}{R_:(List Int)×(List DGuest)×Int}(hh:fL x_a x_k=some R_):Inl Tryz.prog 28 [.agg [.sref 0 [] 0 (List.length x_a.Words) 1,.sref 1 [] 0 (List.length x_a.Guests) 17],.int .i64 x_k] [(1,some (rO38 x_a.Guests)),(0,some (rI_3 x_a.Words))] 2 (.int .i64 R_.2.2) [(0,some (rI_3 R_.1)),(1,some (rO38 R_.2.1))] 2:=by unfold fL at hh;let q1:Root:=(rI_3 x_a.Words);let q2:Root:=(rO38 x_a.Guests);let z1:=(1,some q2);refine Inl.start aJm [0,1] [0,1] (E:=sp 14 [(0,.agg [sw 0 x_a.Words,.sref 1 [] 0 (List.length x_a.Guests) 17]),(1,ii x_k)]) (H1:=[(0,some q1),z1]) kr kr (Aw.sreg [1,2] [0,1,2] ?_);let q3:Root:=⟨26,[sw 0 x_a.Words,.sref 1 [] 0 (List.length x_a.Guests) 17]⟩;refine yt (sp 14 [(1,ii x_k),(2,pp 2)]) [(0,some q1),z1,(2,some q3)] 3 (Aw.sreg [1,2] [0,1,2] (yu 3 [(5,pp 2),(6,sw 0 x_a.Words),(7,ii x_k)] [(0,some q1),z1,(2,some q3)] 3 ?_));obtain⟨v1,hv1,hh⟩:=bind_some hh;let z2:EH:=(0,some (rI_3 v1.1));obtain⟨hg2,hh⟩:=aF hh;refine ys (.call 33 [.t 6,.t 7]) (some 8) (cf (ii v1.2) [z2] 3 [0] (lD hv1) [sw 0 x_a.Words,ii x_k] rz (hn bK bB) hT (hn bK bB) ?_);refine yt (sp 14 [(1,ii v1.2),(2,pp 2)]) [z2,z1,(2,some q3)] 3 (Aw.sreg [1] [0,1] (yu 3 [(9,.ptr 2 [] 1),(10,.sref 1 [] 0 (List.length x_a.Guests) 17),(11,ii v1.2)] [z2,z1,(2,some q3)] 3 ?_));obtain⟨v2,hv2,hh⟩:=bind_some hh;let z3:EH:=(1,some (rO38 v2.1));obtain⟨hg4,hh⟩:=aF hh;refine ys (.call 83 [.t 10,.t 11]) (some 12) (cf (ii v2.2) [z3] 3 [1] (aHp hv2) [.sref 1 [] 0 (List.length x_a.Guests) 17,ii v1.2] rz (hn cZ bB) hT (hn cZ bB) ?_);refine yt (sp 14 [(1,ii v2.2)]) [z2,z3] 3 (sy [4] [0,1] (sp 14 [(4,ii v2.2)]) [z2,z3] 3 (Aw.ret ?_));rw[bG hh];exact kJ (r':=ii v2.2) kr (el [some 0,some 1] (wC hT) (hn bK (hn cZ bB)))
noncomputable def aFl  (s1:Int):Option Int:=some s1
noncomputable def lF (x_a:List DSlot)(s2:Int×Int):Option (LO (Int×Int) (JO Int Int)):=
 cond (decide (s2.2<((List.length x_a:Nat):Int)))
  (grd ((0:Int)<=s2.2/\s2.2<((List.length x_a:Nat):Int)) (cond (!decide ((List.getD x_a (Int.toNat s2.2) default).Frame=s2.1))
   (some (.ret (.out (-1:Int))))
   (grd ((0:Int)<=s2.2/\s2.2<((List.length x_a:Nat):Int)) (cond (!((List.getD x_a (Int.toNat s2.2) default).Write==(decide ((Int.tmod (w64 (s2.1+(1:Int))) (3:Int))=(0:Int)))))
    (some (.ret (.out (-1:Int))))
    (grd ((0:Int)<=s2.2/\s2.2<((List.length x_a:Nat):Int)) (cond (!((List.getD x_a (Int.toNat s2.2) default).Dirty==(decide ((Int.tmod (w64 ((w64 (s2.1+(1:Int)))+(1:Int))) (3:Int))=(0:Int)))))
     (some (.ret (.out (-1:Int))))
     (some (.next ((w64 ((w64 ((w64 (s2.1+(1:Int)))+(1:Int)))+(1:Int))),w64 (s2.2+(1:Int)))))))))))
  (some (.ret (.go s2.1)))
noncomputable def oA (x_a:List DSlot)(x_k:Int):Option Int:=
 Option.bind (Option.bind (iter (lF x_a) (x_k,(0:Int))) LO.val) λj1=>
  JO.run j1 aFl
noncomputable def bQw:Sg tG:=⟨[.row 53,.i .i64],.one (.i .i64),oA⟩
theorem bTn:Sok 132 bQw:=sgx [] trivial (.s .o (.j ⟨[],[],[(.s 1,.i .i64)]⟩ (.s .o (.k (.l ⟨[0],[],[(.s 1,.i .i64),(.s 5,.i .i64)]⟩ .o))) .o)) kr kr kr
noncomputable def aEe  (s1:Int):Option Int:=some s1
noncomputable def kI (x_a:List DGuest)(s2:Int×Int):Option (LO (Int×Int) (JO Int Int)):=
 cond (decide (s2.2<((List.length x_a:Nat):Int)))
  (grd ((0:Int)<=s2.2/\s2.2<((List.length x_a:Nat):Int)) (cond (!((List.getD x_a (Int.toNat s2.2) default).Live==(decide ((Int.tmod s2.1 (3:Int))=(0:Int)))))
   (some (.ret (.out (-1:Int))))
   (grd ((0:Int)<=s2.2/\s2.2<((List.length x_a:Nat):Int)) (Option.bind (gJ ((List.getD x_a (Int.toNat s2.2) default).C).Regs (w64 (s2.1+(1:Int)))) λv3=>
    cond (decide (v3<(0:Int)))
     (some (.ret (.out (-1:Int))))
     (grd ((0:Int)<=s2.2/\s2.2<((List.length x_a:Nat):Int)) (cond (!decide (((List.getD x_a (Int.toNat s2.2) default).C).Pc=v3))
      (some (.ret (.out (-1:Int))))
      (grd ((0:Int)<=s2.2/\s2.2<((List.length x_a:Nat):Int)) (cond (!decide (((List.getD x_a (Int.toNat s2.2) default).C).Root=(w64 (v3+(1:Int)))))
       (some (.ret (.out (-1:Int))))
       (grd ((0:Int)<=s2.2/\s2.2<((List.length x_a:Nat):Int)) (cond (!decide (((List.getD x_a (Int.toNat s2.2) default).C).Vector=(w64 ((w64 (v3+(1:Int)))+(1:Int)))))
        (some (.ret (.out (-1:Int))))
        (grd ((0:Int)<=s2.2/\s2.2<((List.length x_a:Nat):Int)) (cond (!decide (((List.getD x_a (Int.toNat s2.2) default).C).Saved=(w64 ((w64 ((w64 (v3+(1:Int)))+(1:Int)))+(1:Int)))))
         (some (.ret (.out (-1:Int))))
         (grd ((0:Int)<=s2.2/\s2.2<((List.length x_a:Nat):Int)) (cond (!(((List.getD x_a (Int.toNat s2.2) default).C).SavedUser==(decide ((Int.tmod (w64 ((w64 ((w64 ((w64 (v3+(1:Int)))+(1:Int)))+(1:Int)))+(1:Int))) (3:Int))=(0:Int)))))
          (some (.ret (.out (-1:Int))))
          (grd ((0:Int)<=s2.2/\s2.2<((List.length x_a:Nat):Int)) (cond (!decide (((List.getD x_a (Int.toNat s2.2) default).C).Cause=(w64 ((w64 ((w64 ((w64 ((w64 (v3+(1:Int)))+(1:Int)))+(1:Int)))+(1:Int)))+(1:Int)))))
           (some (.ret (.out (-1:Int))))
           (grd ((0:Int)<=s2.2/\s2.2<((List.length x_a:Nat):Int)) (cond (!decide (((List.getD x_a (Int.toNat s2.2) default).C).Bad=(w64 ((w64 ((w64 ((w64 ((w64 ((w64 (v3+(1:Int)))+(1:Int)))+(1:Int)))+(1:Int)))+(1:Int)))+(1:Int)))))
            (some (.ret (.out (-1:Int))))
            (grd ((0:Int)<=s2.2/\s2.2<((List.length x_a:Nat):Int)) (cond (!decide (((List.getD x_a (Int.toNat s2.2) default).C).Timer=(w64 ((w64 ((w64 ((w64 ((w64 ((w64 ((w64 (v3+(1:Int)))+(1:Int)))+(1:Int)))+(1:Int)))+(1:Int)))+(1:Int)))+(1:Int)))))
             (some (.ret (.out (-1:Int))))
             (grd ((0:Int)<=s2.2/\s2.2<((List.length x_a:Nat):Int)) (cond (!(((List.getD x_a (Int.toNat s2.2) default).C).Waits==(decide ((Int.tmod (w64 ((w64 ((w64 ((w64 ((w64 ((w64 ((w64 ((w64 (v3+(1:Int)))+(1:Int)))+(1:Int)))+(1:Int)))+(1:Int)))+(1:Int)))+(1:Int)))+(1:Int))) (3:Int))=(0:Int)))))
              (some (.ret (.out (-1:Int))))
              (grd ((0:Int)<=s2.2/\s2.2<((List.length x_a:Nat):Int)) (cond (!(((List.getD x_a (Int.toNat s2.2) default).C).User==(decide ((Int.tmod (w64 ((w64 ((w64 ((w64 ((w64 ((w64 ((w64 ((w64 ((w64 (v3+(1:Int)))+(1:Int)))+(1:Int)))+(1:Int)))+(1:Int)))+(1:Int)))+(1:Int)))+(1:Int)))+(1:Int))) (3:Int))=(0:Int)))))
               (some (.ret (.out (-1:Int))))
               (grd ((0:Int)<=s2.2/\s2.2<((List.length x_a:Nat):Int)) (cond (!(((List.getD x_a (Int.toNat s2.2) default).C).On==(decide ((Int.tmod (w64 ((w64 ((w64 ((w64 ((w64 ((w64 ((w64 ((w64 ((w64 ((w64 (v3+(1:Int)))+(1:Int)))+(1:Int)))+(1:Int)))+(1:Int)))+(1:Int)))+(1:Int)))+(1:Int)))+(1:Int)))+(1:Int))) (3:Int))=(0:Int)))))
                (some (.ret (.out (-1:Int))))
                (grd ((0:Int)<=s2.2/\s2.2<((List.length x_a:Nat):Int)) (cond (!(((List.getD x_a (Int.toNat s2.2) default).C).Stopped==(decide ((Int.tmod (w64 ((w64 ((w64 ((w64 ((w64 ((w64 ((w64 ((w64 ((w64 ((w64 ((w64 (v3+(1:Int)))+(1:Int)))+(1:Int)))+(1:Int)))+(1:Int)))+(1:Int)))+(1:Int)))+(1:Int)))+(1:Int)))+(1:Int)))+(1:Int))) (3:Int))=(0:Int)))))
                 (some (.ret (.out (-1:Int))))
                 (grd ((0:Int)<=s2.2/\s2.2<((List.length x_a:Nat):Int)) (Option.bind (oA (List.getD x_a (Int.toNat s2.2) default).Pages (w64 ((w64 ((w64 ((w64 ((w64 ((w64 ((w64 ((w64 ((w64 ((w64 ((w64 ((w64 (v3+(1:Int)))+(1:Int)))+(1:Int)))+(1:Int)))+(1:Int)))+(1:Int)))+(1:Int)))+(1:Int)))+(1:Int)))+(1:Int)))+(1:Int)))+(1:Int)))) λv4=>
                  cond (decide (v4<(0:Int)))
                   (some (.ret (.out (-1:Int))))
                   (grd ((0:Int)<=s2.2/\s2.2<((List.length x_a:Nat):Int)) (Option.bind (gJ (List.getD x_a (Int.toNat s2.2) default).In v4) λv5=>
                    cond (decide (v5<(0:Int)))
                     (some (.ret (.out (-1:Int))))
                     (grd ((0:Int)<=s2.2/\s2.2<((List.length x_a:Nat):Int)) (Option.bind (gJ (List.getD x_a (Int.toNat s2.2) default).Out v5) λv6=>
                      cond (decide (v6<(0:Int)))
                       (some (.ret (.out (-1:Int))))
                       (some (.next (v6,w64 (s2.2+(1:Int)))))))))))))))))))))))))))))))))))))))
  (some (.ret (.go s2.1)))
noncomputable def mN (x_a:List DGuest)(x_k:Int):Option Int:=
 Option.bind (Option.bind (iter (kI x_a) (x_k,(0:Int))) LO.val) λj1=>
  JO.run j1 aEe
noncomputable def g85:Sg tG:=⟨[.row 38,.i .i64],.one (.i .i64),mN⟩
theorem s85:Sok 85 g85:=sgx [(84,.r g84),(132,.r bQw)] ⟨s84,bTn,trivial⟩ (.s .o (.j ⟨[],[],[(.s 1,.i .i64)]⟩ (.s .o (.k (.l ⟨[0],[],[(.s 1,.i .i64),(.s 5,.i .i64)]⟩ .o))) .o)) kr kr kr
noncomputable def eR (x_a:DHost)(x_k:Int):Option Int:=
 Option.bind (gJ x_a.Words x_k) λv1=>
 cond (decide (v1<(0:Int)))
  (some (-1:Int))
  (Option.bind (mN x_a.Guests v1) λv2=>
  cond (decide (v2<(0:Int)))
   (some (-1:Int))
   (some v2))
noncomputable def g29:Sg tG:=⟨[.st 26,.i .i64],.one (.i .i64),eR⟩
theorem s29:Sok 29 g29:=sgx [(84,.r g84),(85,.r g85)] ⟨s84,s85,trivial⟩ .o kr kr kr
theorem nZ{x_a:DHost}{x_k:Int}{R_:Int}(hh:eR x_a x_k=some R_):Fn Tryz.prog 29 [.agg [bo (eI .i64) x_a.Words,bo cB x_a.Guests],.int .i64 x_k] (.int .i64 R_):=kc (s29 x_a x_k R_ hh)
noncomputable def aGv  (s1:Unit):Option Bool:=some true
noncomputable def aHr (x_a:List Int)(x_b:List Int)(s2:Int):Option (LO Int (JO Unit Bool)):=
 cond (decide (s2<((List.length x_a:Nat):Int)))
  (grd ((0:Int)<=s2/\s2<((List.length x_a:Nat):Int)) (grd ((0:Int)<=s2/\s2<((List.length x_b:Nat):Int)) (cond (!decide ((List.getD x_a (Int.toNat s2) default)=(List.getD x_b (Int.toNat s2) default)))
   (some (.ret (.out false)))
   (some (.next (w64 (s2+(1:Int))))))))
  (some (.ret (.go ())))
noncomputable def mA (x_a:List Int)(x_b:List Int):Option Bool:=
 cond (!decide (((List.length x_a:Nat):Int)=((List.length x_b:Nat):Int)))
  (some false)
  (Option.bind (Option.bind (iter (aHr x_a x_b) (0:Int)) LO.val) λj1=>
   JO.run j1 aGv)
noncomputable def g45:Sg tG:=⟨[.row 3,.row 3],.one .b,mA⟩
theorem s45:Sok 45 g45:=sgx [] trivial (.s .o (.s .o (.j ⟨[],[],[]⟩ (.s .o (.k (.l ⟨[0,1],[],[(.s 5,.i .i64)]⟩ .o))) .o))) kr kr kr
noncomputable def aAy (x_a:DCore)(x_b:DCore):Option Bool:=
 Option.bind (mA x_a.Regs x_b.Regs) λv1=>
 cond (!v1)
  (some false)
  (cond (!decide (x_a.Pc=x_b.Pc))
   (some false)
   (cond (!decide (x_a.Root=x_b.Root))
    (some false)
    (cond (!decide (x_a.Vector=x_b.Vector))
     (some false)
     (cond (!decide (x_a.Saved=x_b.Saved))
      (some false)
      (cond (!(x_a.SavedUser==x_b.SavedUser))
       (some false)
       (cond (decide (x_a.Cause=x_b.Cause))
        (cond (decide (x_a.Bad=x_b.Bad))
         (cond (decide (x_a.Timer=x_b.Timer))
          (cond (x_a.Waits==x_b.Waits)
           (cond (x_a.User==x_b.User)
            (cond (x_a.On==x_b.On)
             (some (x_a.Stopped==x_b.Stopped))
             (some false))
            (some false))
           (some false))
          (some false))
         (some false))
        (some false)))))))
noncomputable def g76:Sg tG:=⟨[.st 35,.st 35],.one .b,aAy⟩
theorem s76:Sok 76 g76:=sgx [(45,.r g45)] ⟨s45,trivial⟩ .o kr kr kr
noncomputable def aFm  (s4:Unit):Option Bool:=some true
noncomputable def aFo (x_a:DGuest)(x_b:DGuest)(s5:Int):Option (LO Int (JO Unit Bool)):=
 cond (decide (s5<((List.length x_a.Pages:Nat):Int)))
  (grd ((0:Int)<=s5/\s5<((List.length x_a.Pages:Nat):Int)) (grd ((0:Int)<=s5/\s5<((List.length x_b.Pages:Nat):Int)) (cond (!(decide ((List.getD x_a.Pages (Int.toNat s5) default).Frame=(List.getD x_b.Pages (Int.toNat s5) default).Frame)&&(((List.getD x_a.Pages (Int.toNat s5) default).Write==(List.getD x_b.Pages (Int.toNat s5) default).Write)&&(((List.getD x_a.Pages (Int.toNat s5) default).Dirty==(List.getD x_b.Pages (Int.toNat s5) default).Dirty)&&true))))
   (some (.ret (.out false)))
   (some (.next (w64 (s5+(1:Int))))))))
  (some (.ret (.go ())))
noncomputable def zE (x_a:DGuest)(x_b:DGuest):Option Bool:=
 cond (!(x_a.Live==x_b.Live))
  (some false)
  (Option.bind (aAy x_a.C x_b.C) λv1=>
  cond (!v1)
   (some false)
   (Option.bind (mA x_a.In x_b.In) λv2=>
   cond (!v2)
    (some false)
    (Option.bind (mA x_a.Out x_b.Out) λv3=>
    cond (!v3)
     (some false)
     (cond (!decide (((List.length x_a.Pages:Nat):Int)=((List.length x_b.Pages:Nat):Int)))
      (some false)
      (Option.bind (Option.bind (iter (aFo x_a x_b) (0:Int)) LO.val) λj4=>
       JO.run j4 aFm)))))
noncomputable def g46:Sg tG:=⟨[.st 38,.st 38],.one .b,zE⟩
theorem s46:Sok 46 g46:=sgx [(76,.r g76),(45,.r g45)] ⟨s76,s45,trivial⟩ (.s .o (.s .o (.j ⟨[],[],[]⟩ (.s .o (.k (.l ⟨[2,3],[],[(.s 5,.i .i64)]⟩ .o))) .o))) kr kr kr
noncomputable def aGc  (s2:Unit):Option Bool:=some true
noncomputable def aGy (x_a:DHost)(x_b:DHost)(s3:Int):Option (LO Int (JO Unit Bool)):=
 cond (decide (s3<((List.length x_a.Guests:Nat):Int)))
  (grd ((0:Int)<=s3/\s3<((List.length x_a.Guests:Nat):Int)) (grd ((0:Int)<=s3/\s3<((List.length x_b.Guests:Nat):Int)) (Option.bind (zE (DGuest.mk (List.getD x_a.Guests (Int.toNat s3) default).Live (DCore.mk ((List.getD x_a.Guests (Int.toNat s3) default).C).Regs ((List.getD x_a.Guests (Int.toNat s3) default).C).Pc ((List.getD x_a.Guests (Int.toNat s3) default).C).Root ((List.getD x_a.Guests (Int.toNat s3) default).C).Vector ((List.getD x_a.Guests (Int.toNat s3) default).C).Saved ((List.getD x_a.Guests (Int.toNat s3) default).C).SavedUser ((List.getD x_a.Guests (Int.toNat s3) default).C).Cause ((List.getD x_a.Guests (Int.toNat s3) default).C).Bad ((List.getD x_a.Guests (Int.toNat s3) default).C).Timer ((List.getD x_a.Guests (Int.toNat s3) default).C).Waits ((List.getD x_a.Guests (Int.toNat s3) default).C).User ((List.getD x_a.Guests (Int.toNat s3) default).C).On ((List.getD x_a.Guests (Int.toNat s3) default).C).Stopped) (List.getD x_a.Guests (Int.toNat s3) default).Pages (List.getD x_a.Guests (Int.toNat s3) default).In (List.getD x_a.Guests (Int.toNat s3) default).Out) (DGuest.mk (List.getD x_b.Guests (Int.toNat s3) default).Live (DCore.mk ((List.getD x_b.Guests (Int.toNat s3) default).C).Regs ((List.getD x_b.Guests (Int.toNat s3) default).C).Pc ((List.getD x_b.Guests (Int.toNat s3) default).C).Root ((List.getD x_b.Guests (Int.toNat s3) default).C).Vector ((List.getD x_b.Guests (Int.toNat s3) default).C).Saved ((List.getD x_b.Guests (Int.toNat s3) default).C).SavedUser ((List.getD x_b.Guests (Int.toNat s3) default).C).Cause ((List.getD x_b.Guests (Int.toNat s3) default).C).Bad ((List.getD x_b.Guests (Int.toNat s3) default).C).Timer ((List.getD x_b.Guests (Int.toNat s3) default).C).Waits ((List.getD x_b.Guests (Int.toNat s3) default).C).User ((List.getD x_b.Guests (Int.toNat s3) default).C).On ((List.getD x_b.Guests (Int.toNat s3) default).C).Stopped) (List.getD x_b.Guests (Int.toNat s3) default).Pages (List.getD x_b.Guests (Int.toNat s3) default).In (List.getD x_b.Guests (Int.toNat s3) default).Out)) λv4=>
   cond (!v4)
    (some (.ret (.out false)))
    (some (.next (w64 (s3+(1:Int))))))))
  (some (.ret (.go ())))
noncomputable def aOl (x_a:DHost)(x_b:DHost):Option Bool:=
 Option.bind (mA x_a.Words x_b.Words) λv1=>
 cond (!v1)
  (some false)
  (cond (!decide (((List.length x_a.Guests:Nat):Int)=((List.length x_b.Guests:Nat):Int)))
   (some false)
   (Option.bind (Option.bind (iter (aGy x_a x_b) (0:Int)) LO.val) λj2=>
    JO.run j2 aGc))
noncomputable def g12:Sg tG:=⟨[.st 26,.st 26],.one .b,aOl⟩
theorem s12:Sok 12 g12:=sgx [(45,.r g45),(46,.r g46)] ⟨s45,s46,trivial⟩ (.s .o (.s .o (.j ⟨[],[],[]⟩ (.s .o (.k (.l ⟨[2,3],[],[(.s 5,.i .i64)]⟩ .o))) .o))) kr kr kr
noncomputable def oD (x_s:DShade)(x_addr:Int)(s2:Unit):Option (Int×Int):=some ((w64 ((w64 (x_s.Frame*(8:Int)))+(Int.tmod x_addr (8:Int)))),(0:Int))
noncomputable def mP (x_s:DShade)(x_addr:Int)(x_user:Bool)(x_write:Bool):Option (Int×Int):=
 Option.bind (sY (DEntry.mk x_s.There x_s.Write x_s.User x_s.Page) x_user x_write) λv1=>
 cond (!v1)
  (some ((-1:Int),(1:Int)))
  (cond (decide (x_s.Frame=(-1:Int)))
   (some ((-1:Int),(2:Int)))
   (Option.bind (cond x_write
    (cond (!x_s.Ready)
     (some (.out ((-1:Int),(3:Int))))
     (some (.go ())))
    (some (.go ()))) λj2=>
    JO.run j2 (oD x_s x_addr)))
noncomputable def bOz:Sg tG:=⟨[.st 103,.i .i64,.b,.b],.two (.i .i64) (.i .i64),mP⟩
theorem bTy:Sok 151 bOz:=sgx [(160,.r bPy)] ⟨bSl,trivial⟩ (.s .o (.s .o (.s .o (.s .o (.j ⟨[1,4],[],[]⟩ .o .o))))) kr kr kr
noncomputable def wY (x_table:List DShade)(x_addr:Int)(s1:Unit):Option (Int×Int):=some ((w64 ((w64 ((List.getD x_table (Int.toNat (w64 (Int.tdiv x_addr (8:Int)))) default).Frame*(8:Int)))+(Int.tmod x_addr (8:Int)))),(0:Int))
noncomputable def dI (x_table:List DShade)(x_addr:Int)(x_user:Bool)(x_write:Bool):Option (Int×Int):=
 grd ((0:Int)<=(w64 (Int.tdiv x_addr (8:Int)))/\(w64 (Int.tdiv x_addr (8:Int)))<((List.length x_table:Nat):Int)) (Option.bind (cond (!(List.getD x_table (Int.toNat (w64 (Int.tdiv x_addr (8:Int)))) default).There)
  (some (.out ((-1:Int),(1:Int))))
  (cond x_write
   (cond (!(List.getD x_table (Int.toNat (w64 (Int.tdiv x_addr (8:Int)))) default).Write)
    (some (.out ((-1:Int),(1:Int))))
    (cond x_user
     (cond (!(List.getD x_table (Int.toNat (w64 (Int.tdiv x_addr (8:Int)))) default).User)
      (some (.out ((-1:Int),(1:Int))))
      (cond (decide ((List.getD x_table (Int.toNat (w64 (Int.tdiv x_addr (8:Int)))) default).Frame<(0:Int)))
       (some (.out ((-1:Int),(2:Int))))
       (cond x_write
        (cond (!(List.getD x_table (Int.toNat (w64 (Int.tdiv x_addr (8:Int)))) default).Ready)
         (some (.out ((-1:Int),(3:Int))))
         (some (.go ())))
        (some (.go ())))))
     (cond (decide ((List.getD x_table (Int.toNat (w64 (Int.tdiv x_addr (8:Int)))) default).Frame<(0:Int)))
      (some (.out ((-1:Int),(2:Int))))
      (cond x_write
       (cond (!(List.getD x_table (Int.toNat (w64 (Int.tdiv x_addr (8:Int)))) default).Ready)
        (some (.out ((-1:Int),(3:Int))))
        (some (.go ())))
       (some (.go ()))))))
   (cond x_user
    (cond (!(List.getD x_table (Int.toNat (w64 (Int.tdiv x_addr (8:Int)))) default).User)
     (some (.out ((-1:Int),(1:Int))))
     (cond (decide ((List.getD x_table (Int.toNat (w64 (Int.tdiv x_addr (8:Int)))) default).Frame<(0:Int)))
      (some (.out ((-1:Int),(2:Int))))
      (cond x_write
       (cond (!(List.getD x_table (Int.toNat (w64 (Int.tdiv x_addr (8:Int)))) default).Ready)
        (some (.out ((-1:Int),(3:Int))))
        (some (.go ())))
       (some (.go ())))))
    (cond (decide ((List.getD x_table (Int.toNat (w64 (Int.tdiv x_addr (8:Int)))) default).Frame<(0:Int)))
     (some (.out ((-1:Int),(2:Int))))
     (cond x_write
      (cond (!(List.getD x_table (Int.toNat (w64 (Int.tdiv x_addr (8:Int)))) default).Ready)
       (some (.out ((-1:Int),(3:Int))))
       (some (.go ())))
      (some (.go ()))))))) λj1=>
  JO.run j1 (wY x_table x_addr))
noncomputable def g68:Sg tG:=⟨[.row 103,.i .i64,.b,.b],.two (.i .i64) (.i .i64),dI⟩
theorem s68:Sok 68 g68:=sgx [] trivial (.s .o (.s .o (.j ⟨[1,10],[],[]⟩ .o .o))) kr kr kr
theorem zY{x_table:List DShade}{x_addr:Int}{x_user:Bool}{x_write:Bool}{R_:Int×Int}(hh:dI x_table x_addr x_user x_write=some R_):Fn Tryz.prog 68 [bo pB x_table,.int .i64 x_addr,.bool x_user,.bool x_write] (.tup [.int .i64 R_.1,.int .i64 R_.2]):=kc (s68 x_table x_addr x_user x_write R_ hh)
noncomputable def gV (x_h:DHost)(x_g:Int)(x_addr:Int):Option DShade:=
 Option.bind (rD x_h x_g (w64 (Int.tdiv x_addr (8:Int)))) λv1=>
 some v1
noncomputable def bDy:Sg tG:=⟨[.st 26,.i .i64,.i .i64],.one (.st 103),gV⟩
theorem bIx:Sok 152 bDy:=sgx [(139,.r bQg)] ⟨bSr,trivial⟩ .o kr kr kr
noncomputable def eE (x_h:DHost)(x_g:Int)(x_addr:Int)(x_write:Bool):Option (Int×Int):=
 Option.bind (gV x_h x_g x_addr) λv1=>
 grd ((0:Int)<=x_g/\x_g<((List.length x_h.Guests:Nat):Int)) (Option.bind (mP v1 x_addr ((List.getD x_h.Guests (Int.toNat x_g) default).C).User x_write) λv2=>
  some (v2.1,v2.2))
noncomputable def aPf:Sg tG:=⟨[.st 26,.i .i64,.i .i64,.b],.two (.i .i64) (.i .i64),eE⟩
theorem aXv:Sok 111 aPf:=sgx [(152,.r bDy),(151,.r bOz)] ⟨bIx,bTy,trivial⟩ .o kr kr kr
noncomputable def jB (x_h:DHost)(x_g:Int)(x_addr:Int)(x_why:Int):Option DExit:=
 Option.bind (gV x_h x_g x_addr) λv1=>
 cond (decide (x_why=(2:Int)))
  (some (DExit.mk (2:Int) v1.Page (DIns.mk (0:Int) (0:Int) (0:Int))))
  (cond (decide (x_why=(3:Int)))
   (some (DExit.mk (3:Int) v1.Page (DIns.mk (0:Int) (0:Int) (0:Int))))
   (some (DExit.mk (0:Int) (0:Int) (DIns.mk (0:Int) (0:Int) (0:Int)))))
noncomputable def bIq:Sg tG:=⟨[.st 26,.i .i64,.i .i64,.i .i64],.one (.st 129),jB⟩
theorem bQf:Sok 146 bIq:=sgx [(152,.r bDy)] ⟨bIx,trivial⟩ .o kr kr kr
noncomputable def rP (x_h:DHost)(x_g:Int)(x_i:DIns)(s2:Unit):Option DExit:=
 Option.bind (eF (DCore.mk ((List.getD x_h.Guests (Int.toNat x_g) default).C).Regs ((List.getD x_h.Guests (Int.toNat x_g) default).C).Pc ((List.getD x_h.Guests (Int.toNat x_g) default).C).Root ((List.getD x_h.Guests (Int.toNat x_g) default).C).Vector ((List.getD x_h.Guests (Int.toNat x_g) default).C).Saved ((List.getD x_h.Guests (Int.toNat x_g) default).C).SavedUser ((List.getD x_h.Guests (Int.toNat x_g) default).C).Cause ((List.getD x_h.Guests (Int.toNat x_g) default).C).Bad ((List.getD x_h.Guests (Int.toNat x_g) default).C).Timer ((List.getD x_h.Guests (Int.toNat x_g) default).C).Waits ((List.getD x_h.Guests (Int.toNat x_g) default).C).User ((List.getD x_h.Guests (Int.toNat x_g) default).C).On ((List.getD x_h.Guests (Int.toNat x_g) default).C).Stopped) x_i) λv3=>
 Option.bind (eE x_h x_g v3 (decide (x_i.Op=(4:Int)))) λv4=>
 Option.bind (jB x_h x_g v3 v4.2) λv5=>
 some v5
noncomputable def rT (x_h:DHost)(x_g:Int)(x_i:DIns)(s1:Unit):Option DExit:=
 Option.bind (cond (!decide (x_i.Op=(3:Int)))
  (cond (!decide (x_i.Op=(4:Int)))
   (some (.out (DExit.mk (0:Int) (0:Int) (DIns.mk (0:Int) (0:Int) (0:Int)))))
   (some (.go ())))
  (some (.go ()))) λj2=>
  JO.run j2 (rP x_h x_g x_i)
noncomputable def qI (x_h:DHost)(x_g:Int)(x_i:DIns):Option DExit:=
 grd ((0:Int)<=x_g/\x_g<((List.length x_h.Guests:Nat):Int)) (Option.bind (Option.bind (kT x_i) λv6=>
  cond v6
   (cond (!((List.getD x_h.Guests (Int.toNat x_g) default).C).User)
    (some (.out (DExit.mk (1:Int) (0:Int) x_i)))
    (some (.go ())))
   (some (.go ()))) λj1=>
  JO.run j1 (rT x_h x_g x_i))
noncomputable def bOv:Sg tG:=⟨[.st 26,.i .i64,.st 89],.one (.st 129),qI⟩
theorem bUf:Sok 147 bOv:=sgx [(178,.r bIp),(179,.r bBx),(111,.r aPf),(146,.r bIq)] ⟨bRc,bIu,aXv,bQf,trivial⟩ (.s .o (.s .o (.j ⟨[1,3,5,6,7],[],[]⟩ .o (.j ⟨[1,3,5,6,7],[],[]⟩ .o .o)))) kr kr kr
noncomputable def oP (x_h:DHost)(x_g:Int):Option DExit:=
 grd ((0:Int)<=x_g/\x_g<((List.length x_h.Guests:Nat):Int)) (cond ((List.getD x_h.Guests (Int.toNat x_g) default).C).Stopped
  (some (DExit.mk (0:Int) (0:Int) (DIns.mk (0:Int) (0:Int) (0:Int))))
  (Option.bind (jR (DCore.mk ((List.getD x_h.Guests (Int.toNat x_g) default).C).Regs ((List.getD x_h.Guests (Int.toNat x_g) default).C).Pc ((List.getD x_h.Guests (Int.toNat x_g) default).C).Root ((List.getD x_h.Guests (Int.toNat x_g) default).C).Vector ((List.getD x_h.Guests (Int.toNat x_g) default).C).Saved ((List.getD x_h.Guests (Int.toNat x_g) default).C).SavedUser ((List.getD x_h.Guests (Int.toNat x_g) default).C).Cause ((List.getD x_h.Guests (Int.toNat x_g) default).C).Bad ((List.getD x_h.Guests (Int.toNat x_g) default).C).Timer ((List.getD x_h.Guests (Int.toNat x_g) default).C).Waits ((List.getD x_h.Guests (Int.toNat x_g) default).C).User ((List.getD x_h.Guests (Int.toNat x_g) default).C).On ((List.getD x_h.Guests (Int.toNat x_g) default).C).Stopped)) λv1=>
  Option.bind (gQ v1) λv2=>
  cond v2
   (some (DExit.mk (0:Int) (0:Int) (DIns.mk (0:Int) (0:Int) (0:Int))))
   (Option.bind (eE x_h x_g ((List.getD x_h.Guests (Int.toNat x_g) default).C).Pc false) λv3=>
   cond (!decide (v3.2=(0:Int)))
    (Option.bind (jB x_h x_g ((List.getD x_h.Guests (Int.toNat x_g) default).C).Pc v3.2) λv4=>
    some v4)
    (grd ((0:Int)<=v3.1/\v3.1<((List.length x_h.Words:Nat):Int)) (Option.bind (nI (List.getD x_h.Words (Int.toNat v3.1) default)) λv5=>
     Option.bind (qI x_h x_g v5) λv6=>
     some v6)))))
noncomputable def bNe:Sg tG:=⟨[.st 26,.i .i64],.one (.st 129),oP⟩
theorem bSy:Sok 103 bNe:=sgx [(107,.r bKg),(108,.r bKe),(111,.r aPf),(146,.r bIq),(114,.r bJj),(147,.r bOv)] ⟨bPv,bNw,aXv,bQf,bPs,bUf,trivial⟩ .o kr kr kr
noncomputable def zL (x_table:List DShade)(x_addr:Int)(s1:Int):Option DExit:=some (DExit.mk s1 (List.getD x_table (Int.toNat (w64 (Int.tdiv x_addr (8:Int)))) default).Page (DIns.mk (0:Int) (0:Int) (0:Int)))
noncomputable def fR (x_table:List DShade)(x_addr:Int)(x_why:Int):Option DExit:=
 grd ((0:Int)<=(w64 (Int.tdiv x_addr (8:Int)))/\(w64 (Int.tdiv x_addr (8:Int)))<((List.length x_table:Nat):Int)) (Option.bind (cond (decide (x_why=(2:Int)))
  (some (.go (2:Int)))
  (cond (decide (x_why=(3:Int)))
   (some (.go (3:Int)))
   (some (.out (DExit.mk (0:Int) (0:Int) (DIns.mk (0:Int) (0:Int) (0:Int))))))) λj1=>
  JO.run j1 (zL x_table x_addr))
noncomputable def bNh:Sg tG:=⟨[.row 103,.i .i64,.i .i64],.one (.st 129),fR⟩
theorem bSk:Sok 156 bNh:=sgx [] trivial (.s .o (.s .o (.j ⟨[6,7],[],[(.c 7 0,.i .i64)]⟩ .o .o))) kr kr kr
noncomputable def aFp  (s8:Unit):Option DExit:=some (DExit.mk (0:Int) (0:Int) (DIns.mk (0:Int) (0:Int) (0:Int)))
noncomputable def kU (x_h:DHost)(x_g:Int):Option DExit:=
 Option.bind (eZ x_h x_g) λv1=>
 cond (!v1)
  (some (DExit.mk (0:Int) (0:Int) (DIns.mk (0:Int) (0:Int) (0:Int))))
  (grd ((0:Int)<=x_g/\x_g<((List.length x_h.Guests:Nat):Int)) (cond ((List.getD x_h.Guests (Int.toNat x_g) default).C).Stopped
   (some (DExit.mk (0:Int) (0:Int) (DIns.mk (0:Int) (0:Int) (0:Int))))
   (grd ((0:Int)<=x_g/\x_g<((List.length x_h.Guests:Nat):Int)) (Option.bind (lQ (DCore.mk ((List.getD x_h.Guests (Int.toNat x_g) default).C).Regs ((List.getD x_h.Guests (Int.toNat x_g) default).C).Pc ((List.getD x_h.Guests (Int.toNat x_g) default).C).Root ((List.getD x_h.Guests (Int.toNat x_g) default).C).Vector ((List.getD x_h.Guests (Int.toNat x_g) default).C).Saved ((List.getD x_h.Guests (Int.toNat x_g) default).C).SavedUser ((List.getD x_h.Guests (Int.toNat x_g) default).C).Cause ((List.getD x_h.Guests (Int.toNat x_g) default).C).Bad ((List.getD x_h.Guests (Int.toNat x_g) default).C).Timer ((List.getD x_h.Guests (Int.toNat x_g) default).C).Waits ((List.getD x_h.Guests (Int.toNat x_g) default).C).User ((List.getD x_h.Guests (Int.toNat x_g) default).C).On ((List.getD x_h.Guests (Int.toNat x_g) default).C).Stopped)) λv2=>
    Option.bind (gI v2) λv3=>
    cond v3.2
     (some (DExit.mk (0:Int) (0:Int) (DIns.mk (0:Int) (0:Int) (0:Int))))
     (Option.bind (gO x_h x_g) λv4=>
     Option.bind (dI v4 v3.1.Pc v3.1.User false) λv5=>
     cond (!decide (v5.2=(0:Int)))
      (Option.bind (fR v4 v3.1.Pc v5.2) λv6=>
      some v6)
      (grd ((0:Int)<=v5.1/\v5.1<((List.length x_h.Words:Nat):Int)) (Option.bind (kQ (List.getD x_h.Words (Int.toNat v5.1) default)) λv7=>
       Option.bind (Option.bind (dD v7) λv9=>
        cond v9
         (cond (!v3.1.User)
          (some (.out (DExit.mk (1:Int) (0:Int) v7)))
          (cond (decide (v7.Op=(3:Int)))
           (grd ((0:Int)<=(Int.tmod v7.N (4:Int))/\(Int.tmod v7.N (4:Int))<((List.length v3.1.Regs:Nat):Int)) (Option.bind (dI v4 (Int.tmod (List.getD v3.1.Regs (Int.toNat (Int.tmod v7.N (4:Int))) default) (64:Int)) v3.1.User (decide (v7.Op=(4:Int)))) λv10=>
            Option.bind (fR v4 (Int.tmod (List.getD v3.1.Regs (Int.toNat (Int.tmod v7.N (4:Int))) default) (64:Int)) v10.2) λv11=>
            some (.out v11)))
           (cond (decide (v7.Op=(4:Int)))
            (grd ((0:Int)<=(Int.tmod v7.N (4:Int))/\(Int.tmod v7.N (4:Int))<((List.length v3.1.Regs:Nat):Int)) (Option.bind (dI v4 (Int.tmod (List.getD v3.1.Regs (Int.toNat (Int.tmod v7.N (4:Int))) default) (64:Int)) v3.1.User (decide (v7.Op=(4:Int)))) λv12=>
             Option.bind (fR v4 (Int.tmod (List.getD v3.1.Regs (Int.toNat (Int.tmod v7.N (4:Int))) default) (64:Int)) v12.2) λv13=>
             some (.out v13)))
            (some (.go ())))))
         (cond (decide (v7.Op=(3:Int)))
          (grd ((0:Int)<=(Int.tmod v7.N (4:Int))/\(Int.tmod v7.N (4:Int))<((List.length v3.1.Regs:Nat):Int)) (Option.bind (dI v4 (Int.tmod (List.getD v3.1.Regs (Int.toNat (Int.tmod v7.N (4:Int))) default) (64:Int)) v3.1.User (decide (v7.Op=(4:Int)))) λv14=>
           Option.bind (fR v4 (Int.tmod (List.getD v3.1.Regs (Int.toNat (Int.tmod v7.N (4:Int))) default) (64:Int)) v14.2) λv15=>
           some (.out v15)))
          (cond (decide (v7.Op=(4:Int)))
           (grd ((0:Int)<=(Int.tmod v7.N (4:Int))/\(Int.tmod v7.N (4:Int))<((List.length v3.1.Regs:Nat):Int)) (Option.bind (dI v4 (Int.tmod (List.getD v3.1.Regs (Int.toNat (Int.tmod v7.N (4:Int))) default) (64:Int)) v3.1.User (decide (v7.Op=(4:Int)))) λv16=>
            Option.bind (fR v4 (Int.tmod (List.getD v3.1.Regs (Int.toNat (Int.tmod v7.N (4:Int))) default) (64:Int)) v16.2) λv17=>
            some (.out v17)))
           (some (.go ()))))) λj8=>
        JO.run j8 aFp)))))))
noncomputable def bOi:Sg tG:=⟨[.st 26,.i .i64],.one (.st 129),kU⟩
theorem bTa:Sok 115 bOi:=sgx [(58,.r g58),(143,.r bKj),(66,.w g66),(67,.r g67),(68,.r g68),(156,.r bNh),(70,.r g70),(71,.r g71)] ⟨s58,bOl,s66,s67,s68,bSk,s70,s71,trivial⟩ (.s .o (.s .o (.s .o (.s .o (.s .o (.s .o (.s .o (.s .o (.j ⟨[4],[],[]⟩ .o .o))))))))) kr kr kr
noncomputable def lA (x_pc:Int):Option Int:=some (Int.tmod (w64 (x_pc+(1:Int))) (64:Int))
noncomputable def bIw:Sg tG:=⟨[.i .i64],.one (.i .i64),lA⟩
theorem bOe:Sok 194 bIw:=sgx [] trivial .o kr kr kr
noncomputable def gX (x_b:DBare):Option DBare:=
 Option.bind (lA x_b.C.Pc) λv1=>
 some (DBare.mk (DCore.mk x_b.C.Regs v1 x_b.C.Root x_b.C.Vector x_b.C.Saved x_b.C.SavedUser x_b.C.Cause x_b.C.Bad x_b.C.Timer x_b.C.Waits x_b.C.User x_b.C.On x_b.C.Stopped) x_b.Mem x_b.In x_b.Out)
noncomputable def aUb:Sg tG:=⟨[.st 47],.one (.sb 47),gX⟩
theorem bCk:Sok 183 aUb:=sgx [(194,.r bIw)] ⟨bOe,trivial⟩ .o kr kr kr
noncomputable def aAd (x_c:DCore):Option DCore:=some (DCore.mk x_c.Regs x_c.Saved x_c.Root x_c.Vector x_c.Saved x_c.SavedUser x_c.Cause x_c.Bad x_c.Timer x_c.Waits x_c.SavedUser true x_c.Stopped)
noncomputable def bQb:Sg tG:=⟨[.st 35],.one (.sb 35),aAd⟩
theorem bUb:Sok 197 bQb:=sgx [] trivial .o kr kr kr
noncomputable def pJ (x_word:Int):Option Int:=
 Option.bind (jO (Int.tmod x_word (16:Int))) λv1=>
 cond (!v1)
  (some (-1:Int))
  (some (Int.tmod x_word (16:Int)))
noncomputable def bPc:Sg tG:=⟨[.i .i64],.one (.i .i64),pJ⟩
theorem bSv:Sok 198 bPc:=sgx [(138,.r aUy)] ⟨bDn,trivial⟩ .o kr kr kr
noncomputable def qJ (x_out:List Int)(x_word:Int):Option (List Int):=
 cond (decide ((30:Int)<=((List.length x_out:Nat):Int)))
  (some x_out)
  (Option.bind (dQ x_out) λv1=>
  grd ((List.length v1+List.length ([x_word]:List Int))*8<=2^47/\List.length v1+List.length ([x_word]:List Int)<=2^47) (some (v1++([x_word]:List Int))))
noncomputable def bQm:Sg tG:=⟨[.row 3,.i .i64],.one (.rb 3),qJ⟩
theorem bTd:Sok 199 bQm:=sgx [(42,.r g42)] ⟨s42,trivial⟩ .o kr kr kr
noncomputable def mY (x_list:List Int)(x_at:Int)(x_w:Int):Option (List Int):=
 Option.bind (dQ x_list) λv1=>
 grd ((0:Int)<=x_at/\x_at<((List.length v1:Nat):Int)) (some (List.set v1 (Int.toNat x_at) x_w))
noncomputable def bKm:Sg tG:=⟨[.row 3,.i .i64,.i .i64],.one (.row 3),mY⟩
theorem bQe:Sok 186 bKm:=sgx [(42,.r g42)] ⟨s42,trivial⟩ .o kr kr kr
noncomputable def qR (x_b:DBare)(x_kind:Int):Option Int:=
 cond (decide (x_kind=(1:Int)))
  (some x_b.C.Cause)
  (cond (decide (x_kind=(2:Int)))
   (some x_b.C.Bad)
   (cond (decide (x_kind=(3:Int)))
    (some x_b.C.Saved)
    (cond (decide (((List.length x_b.In:Nat):Int)=(0:Int)))
     (some (0:Int))
     (grd ((0:Int)<=(0:Int)/\(0:Int)<((List.length x_b.In:Nat):Int)) (some (List.getD x_b.In (Int.toNat (0:Int)) default))))))
noncomputable def bQo:Sg tG:=⟨[.st 47,.i .i64],.one (.i .i64),qR⟩
theorem bSf:Sok 201 bQo:=sgx [] trivial .o kr kr kr
noncomputable def aLp (x_b:DBare)(v2:List Int)(s3:List Int):Option DBare:=some (DBare.mk (DCore.mk v2 x_b.C.Pc x_b.C.Root x_b.C.Vector x_b.C.Saved x_b.C.SavedUser x_b.C.Cause x_b.C.Bad x_b.C.Timer x_b.C.Waits x_b.C.User x_b.C.On x_b.C.Stopped) x_b.Mem s3 x_b.Out)
noncomputable def sD (x_b:DBare)(x_i:DIns):Option DBare:=
 Option.bind (qR x_b (Int.tmod x_i.N (4:Int))) λv1=>
 Option.bind (mY x_b.C.Regs x_i.A v1) λv2=>
 Option.bind (cond (decide ((Int.tmod x_i.N (4:Int))=(0:Int)))
  (cond (decide ((0:Int)<((List.length x_b.In:Nat):Int)))
   (grd ((0:Int)<=(1:Int)/\(1:Int)<=((List.length x_b.In:Nat):Int)/\((List.length x_b.In:Nat):Int)<=((List.length x_b.In:Nat):Int)) (some (.go (List.take (Int.toNat ((List.length x_b.In:Nat):Int)-Int.toNat (1:Int)) (List.drop (Int.toNat (1:Int)) x_b.In)))))
   (some (.go x_b.In)))
  (some (.go x_b.In))) λj3=>
  JO.run j3 (aLp x_b v2)
noncomputable def bNc:Sg tG:=⟨[.st 47,.st 89],.one (.sb 47),sD⟩
theorem bSj:Sok 200 bNc:=sgx [(201,.r bQo),(186,.r bKm)] ⟨bSf,bQe,trivial⟩ (.s .o (.s .o (.s .o (.j ⟨[2,4],[],[(.c 2 14,.rb 3)]⟩ .o .o)))) kr kr kr
noncomputable def iA  (s1:Int×Int×Int×Bool×(List Int)×(List Int)×Int×Int×Bool×Int×Int×Bool×Bool×Bool×(List Int)×(List Int)):Option DBare:=
 Option.bind (gX (DBare.mk (DCore.mk s1.2.2.2.2.2.1 s1.2.2.2.2.2.2.1 s1.1 s1.2.1 s1.2.2.2.2.2.2.2.1 s1.2.2.2.2.2.2.2.2.1 s1.2.2.2.2.2.2.2.2.2.1 s1.2.2.2.2.2.2.2.2.2.2.1 s1.2.2.1 s1.2.2.2.2.2.2.2.2.2.2.2.1 s1.2.2.2.2.2.2.2.2.2.2.2.2.1 s1.2.2.2.1 s1.2.2.2.2.2.2.2.2.2.2.2.2.2.1) s1.2.2.2.2.2.2.2.2.2.2.2.2.2.2.1 s1.2.2.2.2.2.2.2.2.2.2.2.2.2.2.2 s1.2.2.2.2.1)) λv2=>
 some v2
noncomputable def oH (x_b:DBare)(x_i:DIns):Option DBare:=
 grd ((0:Int)<=x_i.A/\x_i.A<((List.length x_b.C.Regs:Nat):Int)) (Option.bind (cond (decide (x_i.Op=(0:Int)))
  (some (.out (DBare.mk (DCore.mk x_b.C.Regs x_b.C.Pc x_b.C.Root x_b.C.Vector x_b.C.Saved x_b.C.SavedUser x_b.C.Cause x_b.C.Bad x_b.C.Timer x_b.C.Waits x_b.C.User x_b.C.On true) x_b.Mem x_b.In x_b.Out)))
  (cond (decide (x_i.Op=(11:Int)))
   (Option.bind (aAd x_b.C) λv3=>
   some (.out (DBare.mk v3 x_b.Mem x_b.In x_b.Out)))
   (cond (decide (x_i.Op=(8:Int)))
    (Option.bind (pJ (List.getD x_b.C.Regs (Int.toNat x_i.A) default)) λv4=>
    some (.go (v4,x_b.C.Vector,x_b.C.Timer,x_b.C.On,x_b.Out,x_b.C.Regs,x_b.C.Pc,x_b.C.Saved,x_b.C.SavedUser,x_b.C.Cause,x_b.C.Bad,x_b.C.Waits,x_b.C.User,x_b.C.Stopped,x_b.Mem,x_b.In)))
    (cond (decide (x_i.Op=(9:Int)))
     (some (.go (x_b.C.Root,Int.tmod (List.getD x_b.C.Regs (Int.toNat x_i.A) default) (64:Int),x_b.C.Timer,x_b.C.On,x_b.Out,x_b.C.Regs,x_b.C.Pc,x_b.C.Saved,x_b.C.SavedUser,x_b.C.Cause,x_b.C.Bad,x_b.C.Waits,x_b.C.User,x_b.C.Stopped,x_b.Mem,x_b.In)))
     (cond (decide (x_i.Op=(10:Int)))
      (some (.go (x_b.C.Root,x_b.C.Vector,List.getD x_b.C.Regs (Int.toNat x_i.A) default,x_b.C.On,x_b.Out,x_b.C.Regs,x_b.C.Pc,x_b.C.Saved,x_b.C.SavedUser,x_b.C.Cause,x_b.C.Bad,x_b.C.Waits,x_b.C.User,x_b.C.Stopped,x_b.Mem,x_b.In)))
      (cond (decide (x_i.Op=(12:Int)))
       (some (.go (x_b.C.Root,x_b.C.Vector,x_b.C.Timer,decide ((Int.tmod x_i.N (2:Int))=(1:Int)),x_b.Out,x_b.C.Regs,x_b.C.Pc,x_b.C.Saved,x_b.C.SavedUser,x_b.C.Cause,x_b.C.Bad,x_b.C.Waits,x_b.C.User,x_b.C.Stopped,x_b.Mem,x_b.In)))
       (cond (decide (x_i.Op=(13:Int)))
        (Option.bind (qJ x_b.Out (List.getD x_b.C.Regs (Int.toNat x_i.A) default)) λv5=>
        some (.go (x_b.C.Root,x_b.C.Vector,x_b.C.Timer,x_b.C.On,v5,x_b.C.Regs,x_b.C.Pc,x_b.C.Saved,x_b.C.SavedUser,x_b.C.Cause,x_b.C.Bad,x_b.C.Waits,x_b.C.User,x_b.C.Stopped,x_b.Mem,x_b.In)))
        (cond (decide (x_i.Op=(14:Int)))
         (Option.bind (sD x_b x_i) λv6=>
         some (.go (v6.C.Root,v6.C.Vector,v6.C.Timer,v6.C.On,v6.Out,v6.C.Regs,v6.C.Pc,v6.C.Saved,v6.C.SavedUser,v6.C.Cause,v6.C.Bad,v6.C.Waits,v6.C.User,v6.C.Stopped,v6.Mem,v6.In)))
         (some (.go (x_b.C.Root,x_b.C.Vector,x_b.C.Timer,x_b.C.On,x_b.Out,x_b.C.Regs,x_b.C.Pc,x_b.C.Saved,x_b.C.SavedUser,x_b.C.Cause,x_b.C.Bad,x_b.C.Waits,x_b.C.User,x_b.C.Stopped,x_b.Mem,x_b.In))))))))))) λj1=>
  JO.run j1 iA)
noncomputable def bPp:Sg tG:=⟨[.st 47,.st 89],.one (.sb 47),oH⟩
theorem bSd:Sok 185 bPp:=sgx [(197,.r bQb),(198,.r bPc),(199,.r bQm),(200,.r bNc),(183,.r aUb)] ⟨bUb,bSv,bTd,bSj,bCk,trivial⟩ (.s .o (.s .o (.j ⟨[2,4],[],[(.c 2 2,.i .i64),(.c 2 3,.i .i64),(.c 2 8,.i .i64),(.c 2 11,.b),(.c 2 15,.rb 3),(.c 2 0,.rb 3),(.c 2 1,.i .i64),(.c 2 4,.i .i64),(.c 2 5,.b),(.c 2 6,.i .i64),(.c 2 7,.i .i64),(.c 2 9,.b),(.c 2 10,.b),(.c 2 12,.b),(.c 2 13,.rb 3),(.c 2 14,.rb 3)]⟩ .o .o))) kr kr kr
noncomputable def wR (x_c:DCore)(s1:Int×Int×Int×Bool×Bool×Int×(List Int)×(List Int)×(List Int)):Option (DCore×(List Int)×(List Int)):=some ((DCore.mk s1.2.2.2.2.2.2.2.2 s1.2.2.2.2.2.1 s1.1 s1.2.1 x_c.Saved x_c.SavedUser x_c.Cause x_c.Bad s1.2.2.1 x_c.Waits s1.2.2.2.1 s1.2.2.2.2.1 x_c.Stopped),s1.2.2.2.2.2.2.2.1,s1.2.2.2.2.2.2.1)
noncomputable def wM (x_c:DCore)(x_out:List Int)(x_i:DIns)(s2:(List Int)×Int):Option (JO (Int×Int×Int×Bool×Bool×Int×(List Int)×(List Int)×(List Int)) (DCore×(List Int)×(List Int))):=grd ((0:Int)<=x_i.A/\x_i.A<((List.length x_c.Regs:Nat):Int)) (some (.go (x_c.Root,x_c.Vector,x_c.Timer,x_c.User,x_c.On,Int.tmod (w64 (x_c.Pc+(1:Int))) (64:Int),x_out,s2.1,List.set x_c.Regs (Int.toNat x_i.A) s2.2)))
noncomputable def mG (x_c:DCore)(x_in:List Int)(x_out:List Int)(x_i:DIns):Option (DCore×(List Int)×(List Int)):=
 Option.bind (cond (decide (x_i.Op=(0:Int)))
  (some (.out ((DCore.mk x_c.Regs x_c.Pc x_c.Root x_c.Vector x_c.Saved x_c.SavedUser x_c.Cause x_c.Bad x_c.Timer x_c.Waits x_c.User x_c.On true),x_in,x_out)))
  (cond (decide (x_i.Op=(8:Int)))
   (grd ((0:Int)<=x_i.A/\x_i.A<((List.length x_c.Regs:Nat):Int)) (cond (decide ((Int.tmod (List.getD x_c.Regs (Int.toNat x_i.A) default) (16:Int))<(8:Int)))
    (grd ((0:Int)<=x_i.A/\x_i.A<((List.length x_c.Regs:Nat):Int)) (some (.go ((Int.tmod (List.getD x_c.Regs (Int.toNat x_i.A) default) (16:Int)),x_c.Vector,x_c.Timer,x_c.User,x_c.On,Int.tmod (w64 (x_c.Pc+(1:Int))) (64:Int),x_out,x_in,x_c.Regs))))
    (some (.go ((-1:Int),x_c.Vector,x_c.Timer,x_c.User,x_c.On,Int.tmod (w64 (x_c.Pc+(1:Int))) (64:Int),x_out,x_in,x_c.Regs)))))
   (cond (decide (x_i.Op=(9:Int)))
    (grd ((0:Int)<=x_i.A/\x_i.A<((List.length x_c.Regs:Nat):Int)) (some (.go (x_c.Root,Int.tmod (List.getD x_c.Regs (Int.toNat x_i.A) default) (64:Int),x_c.Timer,x_c.User,x_c.On,Int.tmod (w64 (x_c.Pc+(1:Int))) (64:Int),x_out,x_in,x_c.Regs))))
    (cond (decide (x_i.Op=(10:Int)))
     (grd ((0:Int)<=x_i.A/\x_i.A<((List.length x_c.Regs:Nat):Int)) (some (.go (x_c.Root,x_c.Vector,List.getD x_c.Regs (Int.toNat x_i.A) default,x_c.User,x_c.On,Int.tmod (w64 (x_c.Pc+(1:Int))) (64:Int),x_out,x_in,x_c.Regs))))
     (cond (decide (x_i.Op=(11:Int)))
      (some (.go (x_c.Root,x_c.Vector,x_c.Timer,x_c.SavedUser,true,x_c.Saved,x_out,x_in,x_c.Regs)))
      (cond (decide (x_i.Op=(12:Int)))
       (some (.go (x_c.Root,x_c.Vector,x_c.Timer,x_c.User,decide ((Int.tmod x_i.N (2:Int))=(1:Int)),Int.tmod (w64 (x_c.Pc+(1:Int))) (64:Int),x_out,x_in,x_c.Regs)))
       (cond (decide (x_i.Op=(13:Int)))
        (cond (decide (((List.length x_out:Nat):Int)<(30:Int)))
         (grd ((0:Int)<=x_i.A/\x_i.A<((List.length x_c.Regs:Nat):Int)) (grd ((List.length x_out+List.length ([List.getD x_c.Regs (Int.toNat x_i.A) default]:List Int))*8<=2^47/\List.length x_out+List.length ([List.getD x_c.Regs (Int.toNat x_i.A) default]:List Int)<=2^47) (some (.go (x_c.Root,x_c.Vector,x_c.Timer,x_c.User,x_c.On,Int.tmod (w64 (x_c.Pc+(1:Int))) (64:Int),x_out++([List.getD x_c.Regs (Int.toNat x_i.A) default]:List Int),x_in,x_c.Regs)))))
         (some (.go (x_c.Root,x_c.Vector,x_c.Timer,x_c.User,x_c.On,Int.tmod (w64 (x_c.Pc+(1:Int))) (64:Int),x_out,x_in,x_c.Regs))))
        (cond (decide (x_i.Op=(14:Int)))
         (grd ((0:Int)<=(Int.tmod x_i.N (4:Int))/\(Int.tmod x_i.N (4:Int))<((4:Nat):Int)) (Option.bind (cond (decide ((Int.tmod x_i.N (4:Int))=(0:Int)))
          (cond (decide ((0:Int)<((List.length x_in:Nat):Int)))
           (grd ((0:Int)<=(0:Int)/\(0:Int)<((List.length x_in:Nat):Int)) (grd ((0:Int)<=(1:Int)/\(1:Int)<=((List.length x_in:Nat):Int)/\((List.length x_in:Nat):Int)<=((List.length x_in:Nat):Int)) (some (.go ((List.take (Int.toNat ((List.length x_in:Nat):Int)-Int.toNat (1:Int)) (List.drop (Int.toNat (1:Int)) x_in)),List.getD x_in (Int.toNat (0:Int)) default)))))
           (some (.go (x_in,List.getD ([(0:Int),x_c.Cause,x_c.Bad,x_c.Saved]:List Int) (Int.toNat (Int.tmod x_i.N (4:Int))) default))))
          (some (.go (x_in,List.getD ([(0:Int),x_c.Cause,x_c.Bad,x_c.Saved]:List Int) (Int.toNat (Int.tmod x_i.N (4:Int))) default)))) λj2=>
          JO.run j2 (wM x_c x_out x_i)))
         (some (.go (x_c.Root,x_c.Vector,x_c.Timer,x_c.User,x_c.On,Int.tmod (w64 (x_c.Pc+(1:Int))) (64:Int),x_out,x_in,x_c.Regs))))))))))) λj1=>
  JO.run j1 (wR x_c)
noncomputable def bRd:Sw tG:=⟨[.os 35,.v (.row 3),.ow 3,.v (.st 89)],.three (.st 35) (.rb 3) (.row 3),mG⟩
theorem bTo:Sjk 121 bRd:=sgy [] trivial (.s .o (.s .o (.j ⟨[4,8],[],[(.c 4 2,.i .i64),(.c 4 3,.i .i64),(.c 4 8,.i .i64),(.c 4 10,.b),(.c 4 11,.b),(.s 11,.i .i64),(.s 2,.ro 3),(.s 1,.rb 3),(.c 4 0,.ro 3)]⟩ (.s .o (.k (.s .o (.c .o (.s .o (.c .o (.s .o (.c .o (.s .o (.c .o (.s .o (.c .o (.s .o (.c .o (.s .o (.c .o (.s .o (.c (.s .o (.j ⟨[2,4,7,8,11],[],[(.s 1,.rb 3),(.s 12,.i .i64)]⟩ .o .o)) .o)))))))))))))))))) .o))) kr kr kr
noncomputable def cU (x_h:DHost)(x_g:Int)(x_b:DBare):Option DHost:=
 Option.bind (dK x_h) λv1=>
 Option.bind (mU x_b) λv2=>
 grd ((0:Int)<=x_g/\x_g<((List.length v1.Guests:Nat):Int)) (grd ((0:Int)<=x_g/\x_g<((List.length v1.Guests:Nat):Int)) (grd ((0:Int)<=x_g/\x_g<((List.length v1.Guests:Nat):Int)) (some (DHost.mk v1.Words (let z0:=List.set v1.Guests (Int.toNat x_g) (DGuest.mk (List.getD v1.Guests (Int.toNat x_g) default).Live v2.C (List.getD v1.Guests (Int.toNat x_g) default).Pages (List.getD v1.Guests (Int.toNat x_g) default).In (List.getD v1.Guests (Int.toNat x_g) default).Out);let z1:=List.set z0 (Int.toNat x_g) (DGuest.mk (List.getD z0 (Int.toNat x_g) default).Live (DCore.mk ((List.getD z0 (Int.toNat x_g) default).C).Regs ((List.getD z0 (Int.toNat x_g) default).C).Pc ((List.getD z0 (Int.toNat x_g) default).C).Root ((List.getD z0 (Int.toNat x_g) default).C).Vector ((List.getD z0 (Int.toNat x_g) default).C).Saved ((List.getD z0 (Int.toNat x_g) default).C).SavedUser ((List.getD z0 (Int.toNat x_g) default).C).Cause ((List.getD z0 (Int.toNat x_g) default).C).Bad ((List.getD z0 (Int.toNat x_g) default).C).Timer ((List.getD z0 (Int.toNat x_g) default).C).Waits ((List.getD z0 (Int.toNat x_g) default).C).User ((List.getD z0 (Int.toNat x_g) default).C).On ((List.getD z0 (Int.toNat x_g) default).C).Stopped) (List.getD z0 (Int.toNat x_g) default).Pages v2.In (List.getD z0 (Int.toNat x_g) default).Out);List.set z1 (Int.toNat x_g) (DGuest.mk (List.getD z1 (Int.toNat x_g) default).Live (DCore.mk ((List.getD z1 (Int.toNat x_g) default).C).Regs ((List.getD z1 (Int.toNat x_g) default).C).Pc ((List.getD z1 (Int.toNat x_g) default).C).Root ((List.getD z1 (Int.toNat x_g) default).C).Vector ((List.getD z1 (Int.toNat x_g) default).C).Saved ((List.getD z1 (Int.toNat x_g) default).C).SavedUser ((List.getD z1 (Int.toNat x_g) default).C).Cause ((List.getD z1 (Int.toNat x_g) default).C).Bad ((List.getD z1 (Int.toNat x_g) default).C).Timer ((List.getD z1 (Int.toNat x_g) default).C).Waits ((List.getD z1 (Int.toNat x_g) default).C).User ((List.getD z1 (Int.toNat x_g) default).C).On ((List.getD z1 (Int.toNat x_g) default).C).Stopped) (List.getD z1 (Int.toNat x_g) default).Pages (List.getD z1 (Int.toNat x_g) default).In v2.Out))))))
noncomputable def aXf:Sg tG:=⟨[.st 26,.i .i64,.st 47],.one (.st 2026),cU⟩
theorem bCo:Sok 110 aXf:=sgx [(51,.r g51),(74,.r g74)] ⟨s51,s74,trivial⟩ (.s .o (.s .o (.s .o (.s (.g [] [] [.fo (.c 7 1) 0]) (.s (.g [] [] [.fo (.c 7 1) 0]) (.s (.g [] [] [.fo (.c 7 1) 0]) .o)))))) kr kr kr
noncomputable def oE (x_h:DHost)(x_g:Int):Option DBare:=grd ((0:Int)<=x_g/\x_g<((List.length x_h.Guests:Nat):Int)) (some (DBare.mk (DCore.mk ((List.getD x_h.Guests (Int.toNat x_g) default).C).Regs ((List.getD x_h.Guests (Int.toNat x_g) default).C).Pc ((List.getD x_h.Guests (Int.toNat x_g) default).C).Root ((List.getD x_h.Guests (Int.toNat x_g) default).C).Vector ((List.getD x_h.Guests (Int.toNat x_g) default).C).Saved ((List.getD x_h.Guests (Int.toNat x_g) default).C).SavedUser ((List.getD x_h.Guests (Int.toNat x_g) default).C).Cause ((List.getD x_h.Guests (Int.toNat x_g) default).C).Bad ((List.getD x_h.Guests (Int.toNat x_g) default).C).Timer ((List.getD x_h.Guests (Int.toNat x_g) default).C).Waits ((List.getD x_h.Guests (Int.toNat x_g) default).C).User ((List.getD x_h.Guests (Int.toNat x_g) default).C).On ((List.getD x_h.Guests (Int.toNat x_g) default).C).Stopped) ([]:List Int) (List.getD x_h.Guests (Int.toNat x_g) default).In (List.getD x_h.Guests (Int.toNat x_g) default).Out))
noncomputable def bQl:Sg tG:=⟨[.st 26,.i .i64],.one (.sb 47),oE⟩
theorem bSn:Sok 106 bQl:=sgx [] trivial .o kr kr kr
noncomputable def eX (x_h:DHost)(x_g:Int)(x_i:DIns):Option (DHost×Bool):=
 Option.bind (eZ x_h x_g) λv1=>
 cond (!v1)
  (some ((DHost.mk ([]:List Int) ([]:List DGuest)),false))
  (Option.bind (dD x_i) λv2=>
  cond (!v2)
   (some ((DHost.mk ([]:List Int) ([]:List DGuest)),false))
   (Option.bind (fA x_h) λv3=>
   grd ((0:Int)<=x_g/\x_g<((List.length v3.Guests:Nat):Int)) (Option.bind (mG (DCore.mk ((List.getD v3.Guests (Int.toNat x_g) default).C).Regs ((List.getD v3.Guests (Int.toNat x_g) default).C).Pc ((List.getD v3.Guests (Int.toNat x_g) default).C).Root ((List.getD v3.Guests (Int.toNat x_g) default).C).Vector ((List.getD v3.Guests (Int.toNat x_g) default).C).Saved ((List.getD v3.Guests (Int.toNat x_g) default).C).SavedUser ((List.getD v3.Guests (Int.toNat x_g) default).C).Cause ((List.getD v3.Guests (Int.toNat x_g) default).C).Bad ((List.getD v3.Guests (Int.toNat x_g) default).C).Timer ((List.getD v3.Guests (Int.toNat x_g) default).C).Waits ((List.getD v3.Guests (Int.toNat x_g) default).C).User ((List.getD v3.Guests (Int.toNat x_g) default).C).On ((List.getD v3.Guests (Int.toNat x_g) default).C).Stopped) (List.getD v3.Guests (Int.toNat x_g) default).In (List.getD v3.Guests (Int.toNat x_g) default).Out x_i) λv4=>
    grd ((0:Int)<=x_g/\x_g<((List.length v3.Guests:Nat):Int)) (grd ((Int.toNat x_g)=(Int.toNat x_g)) (grd ((Int.toNat x_g)=(Int.toNat x_g)) (grd ((Int.toNat x_g)=(Int.toNat x_g)) (grd ((Int.toNat x_g)=(Int.toNat x_g)) (some ((DHost.mk v3.Words (List.set v3.Guests (Int.toNat x_g) (DGuest.mk (List.getD v3.Guests (Int.toNat x_g) default).Live v4.1 (List.getD v3.Guests (Int.toNat x_g) default).Pages v4.2.1 v4.2.2))),true)))))))))
noncomputable def g72:Sg tG:=⟨[.st 26,.i .i64,.st 89],.two (.sb 26) .b,eX⟩
theorem s72:Sok 72 g72:=sgx [(58,.r g58),(71,.r g71),(48,.r g48),(121,.w bRd)] ⟨s58,s71,s48,bTo,trivial⟩ (.s .o (.s .o (.s .o (.s .o (.s (.g [.uf (.c 9 1) 0 1,.uf (.c 9 15) 0 15,.uf (.c 9 16) 0 16,.fr (.c 9 15) 0] [] []) (.s (.g [.uf (.c 9 14) 0 14] [] []) .o)))))) kr kr kr
theorem uP{x_h:DHost}{x_g:Int}{x_i:DIns}{R_:DHost×Bool}(hh:eX x_h x_g x_i=some R_):Fn Tryz.prog 72 [.agg (cP x_h),.int .i64 x_g,.agg (fD x_i)] (.tup [.agg [bo (eI .i64) R_.1.Words,bo cB R_.1.Guests],.bool R_.2]):=kc (s72 x_h x_g x_i R_ hh)
noncomputable def mW (x_c:DCore)(x_cause:Int)(x_bad:Int)(x_saved:Int):Option DCore:=some (DCore.mk x_c.Regs x_c.Vector x_c.Root x_c.Vector x_saved x_c.User x_cause x_bad x_c.Timer x_c.Waits false false x_c.Stopped)
noncomputable def aVp:Sg tG:=⟨[.st 35,.i .i64,.i .i64,.i .i64],.one (.sb 35),mW⟩
theorem bDu:Sok 150 aVp:=sgx [] trivial .o kr kr kr
noncomputable def iD (x_b:DBare)(x_a:Int)(x_w:Int):Option DBare:=
 Option.bind (mY x_b.C.Regs x_a x_w) λv1=>
 Option.bind (gX (DBare.mk (DCore.mk v1 x_b.C.Pc x_b.C.Root x_b.C.Vector x_b.C.Saved x_b.C.SavedUser x_b.C.Cause x_b.C.Bad x_b.C.Timer x_b.C.Waits x_b.C.User x_b.C.On x_b.C.Stopped) x_b.Mem x_b.In x_b.Out)) λv2=>
 some v2
noncomputable def bJi:Sg tG:=⟨[.st 47,.i .i64,.i .i64],.one (.sb 47),iD⟩
theorem bQz:Sok 182 bJi:=sgx [(186,.r bKm),(183,.r aUb)] ⟨bQe,bCk,trivial⟩ (.s .o (.s .o (.s (.g [.fr (.c 3 0) 0] [] []) .o))) kr kr kr
noncomputable def aMc (x_b:DBare)(x_i:DIns)(s1:Unit):Option DBare:=some (DBare.mk (DCore.mk x_b.C.Regs x_i.N x_b.C.Root x_b.C.Vector x_b.C.Saved x_b.C.SavedUser x_b.C.Cause x_b.C.Bad x_b.C.Timer x_b.C.Waits x_b.C.User x_b.C.On x_b.C.Stopped) x_b.Mem x_b.In x_b.Out)
noncomputable def sH (x_b:DBare)(x_i:DIns):Option DBare:=
 Option.bind (cond (decide (x_i.Op=(6:Int)))
  (grd ((0:Int)<=x_i.A/\x_i.A<((List.length x_b.C.Regs:Nat):Int)) (cond (decide ((List.getD x_b.C.Regs (Int.toNat x_i.A) default)=(0:Int)))
   (Option.bind (gX x_b) λv2=>
   some (.out v2))
   (some (.go ()))))
  (some (.go ()))) λj1=>
  JO.run j1 (aMc x_b x_i)
noncomputable def bPq:Sg tG:=⟨[.st 47,.st 89],.one (.sb 47),sH⟩
theorem bRy:Sok 195 bPq:=sgx [(183,.r aUb)] ⟨bCk,trivial⟩ (.s .o (.j ⟨[2,3,4],[],[]⟩ .o .o)) kr kr kr
noncomputable def qX (x_regs:List Int)(x_i:DIns):Option Int:=
 grd ((0:Int)<=(Int.tmod x_i.N (4:Int))/\(Int.tmod x_i.N (4:Int))<((List.length x_regs:Nat):Int)) (cond (decide (x_i.Op=(2:Int)))
  (grd ((0:Int)<=x_i.A/\x_i.A<((List.length x_regs:Nat):Int)) (some (Int.tmod (w64 ((List.getD x_regs (Int.toNat x_i.A) default)+(List.getD x_regs (Int.toNat (Int.tmod x_i.N (4:Int))) default))) (4096:Int))))
  (cond (decide (x_i.Op=(15:Int)))
   (grd ((0:Int)<=x_i.A/\x_i.A<((List.length x_regs:Nat):Int)) (some (Int.tmod (w64 ((w64 ((List.getD x_regs (Int.toNat x_i.A) default)-(List.getD x_regs (Int.toNat (Int.tmod x_i.N (4:Int))) default)))+(4096:Int))) (4096:Int))))
   (some x_i.N)))
noncomputable def bQj:Sg tG:=⟨[.row 3,.st 89],.one (.i .i64),qX⟩
theorem bTr:Sok 196 bQj:=sgx [] trivial .o kr kr kr
noncomputable def wZ (x_b:DBare)(x_i:DIns)(s3:Bool):Option DBare:=
 cond s3
  (Option.bind (sH x_b x_i) λv4=>
  some v4)
  (Option.bind (qX x_b.C.Regs x_i) λv5=>
  Option.bind (iD x_b x_i.A v5) λv6=>
  some v6)
noncomputable def qK (x_b:DBare)(x_i:DIns):Option DBare:=
 cond (decide (x_i.Op=(7:Int)))
  (Option.bind (lA x_b.C.Pc) λv1=>
  Option.bind (mW x_b.C (1:Int) (0:Int) v1) λv2=>
  some (DBare.mk v2 x_b.Mem x_b.In x_b.Out))
  (Option.bind (cond (decide (x_i.Op=(5:Int)))
   (some (.go (decide (x_i.Op=(5:Int)))))
   (some (.go (decide (x_i.Op=(6:Int)))))) λj3=>
   JO.run j3 (wZ x_b x_i))
noncomputable def bNs:Sg tG:=⟨[.st 47,.st 89],.one (.sb 47),qK⟩
theorem bSh:Sok 184 bNs:=sgx [(194,.r bIw),(150,.r aVp),(195,.r bPq),(196,.r bQj),(182,.r bJi)] ⟨bOe,bDu,bRy,bTr,bQz,trivial⟩ (.s .o (.s (.s .o (.k (.s .o (.c .o (.j ⟨[2,3,4],[],[(.s 18,.b)]⟩ .o .o))))) .o)) kr kr kr
noncomputable def oG (x_b:DBare)(x_i:DIns):Option DBare:=
 Option.bind (kT x_i) λv1=>
 cond (!v1)
  (Option.bind (qK x_b x_i) λv2=>
  some v2)
  (cond x_b.C.User
   (Option.bind (mW x_b.C (3:Int) (0:Int) x_b.C.Pc) λv3=>
   some (DBare.mk v3 x_b.Mem x_b.In x_b.Out))
   (Option.bind (oH x_b x_i) λv4=>
   some v4))
noncomputable def bQt:Sg tG:=⟨[.st 47,.st 89],.one (.sb 47),oG⟩
theorem bTc:Sok 155 bQt:=sgx [(178,.r bIp),(184,.r bNs),(150,.r aVp),(185,.r bPp)] ⟨bRc,bSh,bDu,bSd,trivial⟩ .o kr kr kr
noncomputable def xB (x_c:DCore)(s1:(List Int)×Int):Option DCore:=some (DCore.mk s1.1 s1.2 x_c.Root x_c.Vector x_c.Saved x_c.SavedUser x_c.Cause x_c.Bad x_c.Timer x_c.Waits x_c.User x_c.On x_c.Stopped)
noncomputable def iN (x_c:DCore)(x_i:DIns):Option DCore:=
 Option.bind (cond (decide (x_i.Op=(1:Int)))
  (grd ((0:Int)<=x_i.A/\x_i.A<((List.length x_c.Regs:Nat):Int)) (some (.go ((List.set x_c.Regs (Int.toNat x_i.A) x_i.N),Int.tmod (w64 (x_c.Pc+(1:Int))) (64:Int)))))
  (cond (decide (x_i.Op=(2:Int)))
   (grd ((0:Int)<=x_i.A/\x_i.A<((List.length x_c.Regs:Nat):Int)) (grd ((0:Int)<=(Int.tmod x_i.N (4:Int))/\(Int.tmod x_i.N (4:Int))<((List.length x_c.Regs:Nat):Int)) (grd ((0:Int)<=x_i.A/\x_i.A<((List.length x_c.Regs:Nat):Int)) (some (.go ((List.set x_c.Regs (Int.toNat x_i.A) (Int.tmod (w64 ((List.getD x_c.Regs (Int.toNat x_i.A) default)+(List.getD x_c.Regs (Int.toNat (Int.tmod x_i.N (4:Int))) default))) (4096:Int))),Int.tmod (w64 (x_c.Pc+(1:Int))) (64:Int)))))))
   (cond (decide (x_i.Op=(15:Int)))
    (grd ((0:Int)<=x_i.A/\x_i.A<((List.length x_c.Regs:Nat):Int)) (grd ((0:Int)<=(Int.tmod x_i.N (4:Int))/\(Int.tmod x_i.N (4:Int))<((List.length x_c.Regs:Nat):Int)) (grd ((0:Int)<=x_i.A/\x_i.A<((List.length x_c.Regs:Nat):Int)) (some (.go ((List.set x_c.Regs (Int.toNat x_i.A) (Int.tmod (w64 ((w64 ((List.getD x_c.Regs (Int.toNat x_i.A) default)+(4096:Int)))-(List.getD x_c.Regs (Int.toNat (Int.tmod x_i.N (4:Int))) default))) (4096:Int))),Int.tmod (w64 (x_c.Pc+(1:Int))) (64:Int)))))))
    (cond (decide (x_i.Op=(5:Int)))
     (some (.go (x_c.Regs,x_i.N)))
     (cond (decide (x_i.Op=(6:Int)))
      (grd ((0:Int)<=x_i.A/\x_i.A<((List.length x_c.Regs:Nat):Int)) (cond (!decide ((List.getD x_c.Regs (Int.toNat x_i.A) default)=(0:Int)))
       (some (.go (x_c.Regs,x_i.N)))
       (some (.go (x_c.Regs,Int.tmod (w64 (x_c.Pc+(1:Int))) (64:Int))))))
      (cond (decide (x_i.Op=(7:Int)))
       (Option.bind (gW x_c (Int.tmod (w64 (x_c.Pc+(1:Int))) (64:Int)) (1:Int) (0:Int)) λv2=>
       some (.out v2))
       (some (.go (x_c.Regs,Int.tmod (w64 (x_c.Pc+(1:Int))) (64:Int)))))))))) λj1=>
  JO.run j1 (xB x_c)
noncomputable def g73:Sw tG:=⟨[.os 35,.v (.st 89)],.one (.st 35),iN⟩
theorem s73:Sjk 73 g73:=sgy [(69,.w g69)] ⟨s69,trivial⟩ (.s .o (.s .o (.j ⟨[2,4],[],[(.c 2 0,.ro 3),(.s 5,.i .i64)]⟩ .o .o))) kr kr kr
theorem aAb{x_c:DCore}{x_i:DIns}{R_:DCore}(hh:iN x_c x_i=some R_):Inl Tryz.prog 73 [.agg [.sref 0 [] 0 (List.length x_c.Regs) 1,.int .i64 x_c.Pc,.int .i64 x_c.Root,.int .i64 x_c.Vector,.int .i64 x_c.Saved,.bool x_c.SavedUser,.int .i64 x_c.Cause,.int .i64 x_c.Bad,.int .i64 x_c.Timer,.bool x_c.Waits,.bool x_c.User,.bool x_c.On,.bool x_c.Stopped],.agg (fD x_i)] [(0,some (rI_3 x_c.Regs))] 1 (.agg [.sref 1 [] 0 (List.length R_.Regs) 1,.int .i64 R_.Pc,.int .i64 R_.Root,.int .i64 R_.Vector,.int .i64 R_.Saved,.bool R_.SavedUser,.int .i64 R_.Cause,.int .i64 R_.Bad,.int .i64 R_.Timer,.bool R_.Waits,.bool R_.User,.bool R_.On,.bool R_.Stopped]) [(1,some (rI_3 R_.Regs))] 2:=kc (s73 x_c x_i R_ hh)
noncomputable def pX (x_c:DCore):Option DCore:=
 Option.bind (mW (DCore.mk x_c.Regs x_c.Pc x_c.Root x_c.Vector x_c.Saved x_c.SavedUser x_c.Cause x_c.Bad x_c.Timer false x_c.User x_c.On x_c.Stopped) (4:Int) (0:Int) x_c.Pc) λv1=>
 some v1
noncomputable def bPt:Sg tG:=⟨[.st 35],.one (.sb 35),pX⟩
theorem bTi:Sok 109 bPt:=sgx [(150,.r aVp)] ⟨bDu,trivial⟩ .o kr kr kr
noncomputable def nE (x_b:DBare)(x_addr:Int):Option DBare:=
 Option.bind (mW x_b.C (2:Int) x_addr x_b.C.Pc) λv1=>
 some (DBare.mk v1 x_b.Mem x_b.In x_b.Out)
noncomputable def bDt:Sg tG:=⟨[.st 47,.i .i64],.one (.sb 47),nE⟩
theorem bIj:Sok 112 bDt:=sgx [(150,.r aVp)] ⟨bDu,trivial⟩ .o kr kr kr
end Go.Proofs.YtkjabgefacfpfaaGreat
