/- Plain functions of the program, and that it hands back what they say. Made by program. -/
import Derived.Test.YtcgggihjcelmhaaGreatWTD
import Derived.Test.YtcgggihjcelmhaaGreatProg
namespace Go.Proofs.YtcgggihjcelmhaaGreat
open Go.RowKit
set_option maxRecDepth 100000
set_option linter.all false
set_option maxHeartbeats 0
noncomputable def fN (x_n:Int):Option Bool:=
 cond (decide ((0:Int)<=x_n))
  (some (decide (x_n<=(4095:Int))))
  (some false)
noncomputable def g55:Sg tG:=⟨[.i .i64],.one .b,fN⟩
theorem s55:Sok 55 g55:=sgx [] trivial .o kr kr kr
noncomputable def aMi  (s1:Unit):Option Bool:=some true
noncomputable def zE (x_list:List Int)(s2:Int):Option (LO Int (JO Unit Bool)):=
 cond (decide (s2<((x_list.length:Nat):Int)))
  (grd ((0:Int)<=s2/\s2<((x_list.length:Nat):Int)) (Option.bind (fN (x_list.getD s2.toNat default)) λv3=>
   cond (!v3)
    (some (.ret (.out false)))
    (some (.next (w64 (s2+(1:Int)))))))
  (some (.ret (.go ())))
noncomputable def iL (x_list:List Int):Option Bool:=
 Option.bind (Option.bind (iter (zE x_list) (0:Int)) LO.val) λj1=>
  JO.run j1 aMi
noncomputable def g71:Sg tG:=⟨[.row 3],.one .b,iL⟩
theorem s71:Sok 71 g71:=sgx [(55,.r g55)] ⟨s55,trivial⟩ (.s .o (.j ⟨[],[],[]⟩ (.s .o (.k (.l ⟨[5,6],[],[(.s 7,.i .i64)]⟩ .o))) .o)) kr kr kr
noncomputable def cN (x_addr:Int):Option Bool:=
 cond (decide ((0:Int)<=x_addr))
  (some (decide (x_addr<(64:Int))))
  (some false)
noncomputable def bPc:Sg tG:=⟨[.i .i64],.one .b,cN⟩
theorem bYj:Sok 161 bPc:=sgx [] trivial .o kr kr kr
noncomputable def fO (x_page:Int):Option Bool:=
 cond (decide ((0:Int)<=x_page))
  (some (decide (x_page<(8:Int))))
  (some false)
noncomputable def g46:Sg tG:=⟨[.i .i64],.one .b,fO⟩
theorem s46:Sok 46 g46:=sgx [] trivial .o kr kr kr
noncomputable def mK (x_root:Int):Option Bool:=
 cond (decide (x_root=(-1:Int)))
  (some true)
  (Option.bind (fO x_root) λv1=>
  some v1)
noncomputable def bRg:Sg tG:=⟨[.i .i64],.one .b,mK⟩
theorem bVz:Sok 162 bRg:=sgx [(46,.r g46)] ⟨s46,trivial⟩ .o kr kr kr
noncomputable def pR (x_c:DCore):Option Bool:=
 cond (decide (((x_c.Regs.length:Nat):Int)=(4:Int)))
  (Option.bind (iL x_c.Regs) λv1=>
  Option.bind (cN x_c.Pc) λv2=>
  cond v2
   (Option.bind (cN x_c.Vector) λv3=>
   cond v3
    (Option.bind (cN x_c.Saved) λv4=>
    cond v4
     (Option.bind (cN x_c.Bad) λv5=>
     cond (decide ((0:Int)<=x_c.Cause))
      (cond v1
       (cond v5
        (Option.bind (mK x_c.Root) λv6=>
        cond v6
         (cond (decide (x_c.Cause<=(4:Int)))
          (Option.bind (fN x_c.Timer) λv7=>
          some v7)
          (some false))
         (some false))
        (some false))
       (some false))
      (cond v1
       (cond v5
        (Option.bind (mK x_c.Root) λv8=>
        cond v8
         (some false)
         (some false))
        (some false))
       (some false)))
     (cond (decide ((0:Int)<=x_c.Cause))
      (cond v1
       (some false)
       (some false))
      (cond v1
       (some false)
       (some false))))
    (cond (decide ((0:Int)<=x_c.Cause))
     (cond v1
      (some false)
      (some false))
     (cond v1
      (some false)
      (some false))))
   (cond (decide ((0:Int)<=x_c.Cause))
    (cond v1
     (some false)
     (some false))
    (cond v1
     (some false)
     (some false))))
  (Option.bind (cN x_c.Pc) λv9=>
  cond v9
   (Option.bind (cN x_c.Vector) λv10=>
   cond v10
    (Option.bind (cN x_c.Saved) λv11=>
    cond v11
     (Option.bind (cN x_c.Bad) λv12=>
     cond (decide ((0:Int)<=x_c.Cause))
      (some false)
      (some false))
     (cond (decide ((0:Int)<=x_c.Cause))
      (some false)
      (some false)))
    (cond (decide ((0:Int)<=x_c.Cause))
     (some false)
     (some false)))
   (cond (decide ((0:Int)<=x_c.Cause))
    (some false)
    (some false)))
noncomputable def bRn:Sg tG:=⟨[.st 39],.one .b,pR⟩
theorem bWm:Sok 119 bRn:=sgx [(71,.r g71),(161,.r bPc),(162,.r bRg),(55,.r g55)] ⟨s71,bYj,bVz,s55,trivial⟩ .o kr kr kr
noncomputable def aBb (x_mem:List Int):Option Bool:=
 cond (decide (((x_mem.length:Nat):Int)=(64:Int)))
  (Option.bind (iL x_mem) λv1=>
  some v1)
  (some false)
noncomputable def bRp:Sg tG:=⟨[.row 3],.one .b,aBb⟩
theorem bZx:Sok 120 bRp:=sgx [(71,.r g71)] ⟨s71,trivial⟩ .o kr kr kr
noncomputable def lW (x_words:List Int):Option Bool:=
 cond (decide (((x_words.length:Nat):Int)<=(30:Int)))
  (Option.bind (iL x_words) λv1=>
  some v1)
  (some false)
noncomputable def bRb:Sg tG:=⟨[.row 3],.one .b,lW⟩
theorem bVu:Sok 121 bRb:=sgx [(71,.r g71)] ⟨s71,trivial⟩ .o kr kr kr
noncomputable def aHd (x_b:DBare):Option Bool:=
 Option.bind (pR x_b.C) λv1=>
 cond v1
  (Option.bind (aBb x_b.Mem) λv2=>
  cond v2
   (Option.bind (lW x_b.In) λv3=>
   cond v3
    (Option.bind (lW x_b.Out) λv4=>
    some v4)
    (some false))
   (some false))
  (some false)
noncomputable def g59:Sg tG:=⟨[.st 41],.one .b,aHd⟩
theorem s59:Sok 59 g59:=sgx [(119,.r bRn),(120,.r bRp),(121,.r bRb)] ⟨bWm,bZx,bVu,trivial⟩ .o kr kr kr
noncomputable def cI (x_n:Int)(x_low:Int)(x_high:Int):Option Bool:=
 cond (decide (x_low<=x_n))
  (some (decide (x_n<=x_high)))
  (some false)
noncomputable def g51:Sg tG:=⟨[.i .i64,.i .i64,.i .i64],.one .b,cI⟩
theorem s51:Sok 51 g51:=sgx [] trivial .o kr kr kr
noncomputable def gZ (x_n:Int):Option Bool:=
 Option.bind (cI x_n (0:Int) (4095:Int)) λv1=>
 some v1
noncomputable def bCh:Sg tG:=⟨[.i .i64],.one .b,gZ⟩
theorem bHa:Sok 158 bCh:=sgx [(51,.r g51)] ⟨s51,trivial⟩ .o kr kr kr
noncomputable def tE (x_list:List Int)(x_most:Int)(s1:Unit):Option Bool:=some (decide (((x_list.length:Nat):Int)<=x_most))
noncomputable def tP (x_list:List Int)(s2:Int):Option (LO Int (JO Unit Bool)):=
 cond (decide (s2<((x_list.length:Nat):Int)))
  (grd ((0:Int)<=s2/\s2<((x_list.length:Nat):Int)) (Option.bind (gZ (x_list.getD s2.toNat default)) λv3=>
   cond (!v3)
    (some (.ret (.out false)))
    (some (.next (w64 (s2+(1:Int)))))))
  (some (.ret (.go ())))
noncomputable def fU (x_list:List Int)(x_most:Int):Option Bool:=
 Option.bind (Option.bind (iter (tP x_list) (0:Int)) LO.val) λj1=>
  JO.run j1 (tE x_list x_most)
noncomputable def bXl:Sg tG:=⟨[.row 3,.i .i64],.one .b,fU⟩
theorem cDh:Sok 176 bXl:=sgx [(158,.r bCh)] ⟨bHa,trivial⟩ (.s .o (.j ⟨[0,1],[],[]⟩ (.s .o (.k (.l ⟨[0,1],[],[(.s 5,.i .i64)]⟩ .o))) .o)) kr kr kr
noncomputable def aBk (x_c:DCore)(s1:Unit):Option Bool:=
 cond (decide (((x_c.Regs.length:Nat):Int)=(4:Int)))
  (Option.bind (cI x_c.Pc (0:Int) (63:Int)) λv2=>
  cond v2
   (Option.bind (cI x_c.Vector (0:Int) (63:Int)) λv3=>
   cond v3
    (Option.bind (cI x_c.Saved (0:Int) (63:Int)) λv4=>
    cond v4
     (Option.bind (cI x_c.Bad (0:Int) (63:Int)) λv5=>
     cond v5
      (Option.bind (cI x_c.Root (-1:Int) (7:Int)) λv6=>
      cond v6
       (Option.bind (cI x_c.Cause (0:Int) (4:Int)) λv7=>
       cond v7
        (Option.bind (gZ x_c.Timer) λv8=>
        some v8)
        (some false))
       (some false))
      (some false))
     (some false))
    (some false))
   (some false))
  (some false)
noncomputable def aBr (x_c:DCore)(s9:Int):Option (LO Int (JO Unit Bool)):=
 cond (decide (s9<((x_c.Regs.length:Nat):Int)))
  (grd ((0:Int)<=s9/\s9<((x_c.Regs.length:Nat):Int)) (Option.bind (gZ (x_c.Regs.getD s9.toNat default)) λv10=>
   cond (!v10)
    (some (.ret (.out false)))
    (some (.next (w64 (s9+(1:Int)))))))
  (some (.ret (.go ())))
noncomputable def qA (x_c:DCore):Option Bool:=
 Option.bind (Option.bind (iter (aBr x_c) (0:Int)) LO.val) λj1=>
  JO.run j1 (aBk x_c)
noncomputable def bXb:Sg tG:=⟨[.st 39],.one .b,qA⟩
theorem cCs:Sok 178 bXb:=sgx [(158,.r bCh),(51,.r g51)] ⟨bHa,s51,trivial⟩ (.s .o (.j ⟨[1],[],[]⟩ (.s .o (.k (.l ⟨[1],[],[(.s 3,.i .i64)]⟩ .o))) .o)) kr kr kr
noncomputable def aPo  (s1:List Int):Option (List Int):=some s1
noncomputable def lU (x_a:List Int)(s2:(List Int)×Int):Option (LO ((List Int)×Int) (JO (List Int) (List Int))):=
 cond (decide (s2.2<((x_a.length:Nat):Int)))
  (grd ((0:Int)<=s2.2/\s2.2<((x_a.length:Nat):Int)) (grd ((0:Int)<=s2.2/\s2.2<((s2.1.length:Nat):Int)) (some (.next ((s2.1.set s2.2.toNat (x_a.getD s2.2.toNat default)),w64 (s2.2+(1:Int)))))))
  (some (.ret (.go s2.1)))
noncomputable def jY (x_a:List Int):Option (List Int):=
 grd ((0:Int)<=((x_a.length:Nat):Int)/\((x_a.length:Nat):Int)*8<=2^47/\((x_a.length:Nat):Int)<=2^47) (Option.bind (Option.bind (iter (lU x_a) ((List.replicate (Int.toNat ((x_a.length:Nat):Int)) (0:Int)),(0:Int))) LO.val) λj1=>
  JO.run j1 aPo)
noncomputable def g87:Sg tG:=⟨[.row 3],.one (.row 3),jY⟩
theorem s87:Sok 87 g87:=sgx [] trivial (.s .o (.s .o (.j ⟨[],[],[(.s 3,.ro 3)]⟩ (.s .o (.k (.l ⟨[0],[],[(.s 3,.ro 3),(.s 4,.i .i64)]⟩ .o))) .o))) kr kr kr
noncomputable def aBp  (s1:Unit):Option Bool:=some true
noncomputable def fP (x_a:List Int)(x_b:List Int)(s2:Int):Option (LO Int (JO Unit Bool)):=
 cond (decide (s2<((x_a.length:Nat):Int)))
  (grd ((0:Int)<=s2/\s2<((x_a.length:Nat):Int)) (grd ((0:Int)<=s2/\s2<((x_b.length:Nat):Int)) (cond (!decide ((x_a.getD s2.toNat default)=(x_b.getD s2.toNat default)))
   (some (.ret (.out false)))
   (some (.next (w64 (s2+(1:Int))))))))
  (some (.ret (.go ())))
noncomputable def kB (x_a:List Int)(x_b:List Int):Option Bool:=
 cond (!decide (((x_a.length:Nat):Int)=((x_b.length:Nat):Int)))
  (some false)
  (Option.bind (Option.bind (iter (fP x_a x_b) (0:Int)) LO.val) λj1=>
   JO.run j1 aBp)
noncomputable def g89:Sg tG:=⟨[.row 3,.row 3],.one .b,kB⟩
theorem s89:Sok 89 g89:=sgx [] trivial (.s .o (.s .o (.j ⟨[],[],[]⟩ (.s .o (.k (.l ⟨[0,1],[],[(.s 5,.i .i64)]⟩ .o))) .o))) kr kr kr
noncomputable def tX (x_a:DCore):Option DCore:=
 Option.bind (jY x_a.Regs) λv1=>
 some (DCore.mk v1 x_a.Pc x_a.Root x_a.Vector x_a.Saved x_a.SavedUser x_a.Cause x_a.Bad x_a.Timer x_a.Waits x_a.User x_a.On x_a.Stopped)
noncomputable def bZr:Sg tG:=⟨[.st 168],.one (.st 39),tX⟩
theorem cBd:Sok 181 bZr:=sgx [(87,.r g87)] ⟨s87,trivial⟩ .o kr kr kr
noncomputable def tY (x_a:DCore)(x_b:DCore):Option Bool:=
 Option.bind (kB x_a.Regs x_b.Regs) λv1=>
 cond (!v1)
  (some false)
  (cond (!decide (x_a.Pc=x_b.Pc))
   (some false)
   (cond (!decide (x_a.Root=x_b.Root))
    (some false)
    (cond (!decide (x_a.Vector=x_b.Vector))
     (some false)
     (cond (!decide (x_a.Saved=x_b.Saved))
      (some false)
      (cond (!(x_a.SavedUser==x_b.SavedUser))
       (some false)
       (cond (!decide (x_a.Cause=x_b.Cause))
        (some false)
        (cond (!decide (x_a.Bad=x_b.Bad))
         (some false)
         (cond (!decide (x_a.Timer=x_b.Timer))
          (some false)
          (cond (!(x_a.Waits==x_b.Waits))
           (some false)
           (cond (!(x_a.User==x_b.User))
            (some false)
            (cond (!(x_a.On==x_b.On))
             (some false)
             (cond (!(x_a.Stopped==x_b.Stopped))
              (some false)
              (some true)))))))))))))
noncomputable def bXn:Sg tG:=⟨[.st 39,.st 39],.one .b,tY⟩
theorem cBx:Sok 183 bXn:=sgx [(89,.r g89)] ⟨s89,trivial⟩ .o kr kr kr
noncomputable def kA (x_a:List Int)(x_left:Int):Option Int:=
 cond (decide ((w64 (x_left-((x_a.length:Nat):Int)))<(0:Int)))
  (some (-1:Int))
  (some (w64 (x_left-((x_a.length:Nat):Int))))
noncomputable def g85:Sg tG:=⟨[.row 3,.i .i64],.one (.i .i64),kA⟩
theorem s85:Sok 85 g85:=sgx [] trivial .o kr kr kr
noncomputable def uJ (x_a:DCore)(x_left:Int):Option Int:=
 Option.bind (kA x_a.Regs x_left) λv1=>
 cond (decide (v1<(0:Int)))
  (some (-1:Int))
  (some v1)
noncomputable def bYr:Sg tG:=⟨[.st 168,.i .i64],.one (.i .i64),uJ⟩
theorem cCf:Sok 179 bYr:=sgx [(85,.r g85)] ⟨s85,trivial⟩ .o kr kr kr
theorem aLy:LW 92 ⟨19,[.tmp 4],.seq (.reg false (rg 92 0)) (.seq (.seq (.reg false (rg 92 1)) (.block 0 (.loop (.seq (.seq (.reg false (rg 92 2)) (.cond (.t 9) .skip (.exit 0))) (.seq (.block 1 (.seq (.reg false (rg 92 3)) (.reg false (rg 92 4)))) (.reg false (rg 92 5))))))) (.seq (.reg false (rg 92 7)) .ret))⟩:=kr
noncomputable def rJ  (s1:Int×(List Int)):Option ((List Int)×Int):=some (s1.2,s1.1)
noncomputable def fT  (s2:(List Int)×Int×Int):Option (LO ((List Int)×Int×Int) (JO (Int×(List Int)) ((List Int)×Int))):=
 cond (decide (s2.2.2<((s2.1.length:Nat):Int)))
  (grd ((0:Int)<=s2.2.2/\s2.2.2<((s2.1.length:Nat):Int)) (some (.next ((s2.1.set s2.2.2.toNat s2.2.1),w64 (s2.2.1+(1:Int)),w64 (s2.2.2+(1:Int))))))
  (some (.ret (.go (s2.2.1,s2.1))))
noncomputable def eZ (x_a:List Int)(x_k:Int):Option ((List Int)×Int):=
 Option.bind (Option.bind (iter fT (x_a,x_k,(0:Int))) LO.val) λj1=>
  JO.run j1 rJ
theorem pG{x_a:List Int}{x_k:Int}{R_:(List Int)×Int}(hh:eZ x_a x_k=some R_):Inl Tryz.prog 92 [.sref 0 [] 0 x_a.length 1,.int .i64 x_k] [(0,some (rI_3 x_a))] 1 (.int .i64 R_.2) [(0,some (rI_3 R_.1))] 1:=by let z2:EH:=(0,some (rI_3 x_a));unfold eZ at hh;refine Inl.start aLy [0,1] [0] (E:=sp 19 [(0,sw 0 x_a),(1,ii x_k)]) (H1:=[z2]) kr kr (sy [0,1] [0] (sp 19 [(0,sw 0 x_a),(1,ii x_k)]) [z2] 1 ?_);obtain⟨j1,hh,hk1⟩:=bind_some hh;refine Aw.join (S:=Int×(List Int)) (λs1=>sp 19 [(1,ii s1.1)]) (λs1=>[(0,some (rI_3 s1.2))]) 1 (λs1=>rJ s1=some R_) ?_ ?_;{intro s1 hh;unfold rJ at hh;refine sy [4] [0] (sp 19 [(4,ii s1.1)]) [(0,some (rI_3 s1.2))] 1 (Aw.ret ?_);rw[bO hh];exact qR (r':=ii s1.1) kr (el [some 0] (lO gE) (hn aX aY))};intro Q1 hN1 hR1 hE1;refine sy [0,1,5] [0] (sp 19 [(0,sw 0 x_a),(1,ii x_k),(5,ii 0)]) [z2] 1 (Aw.block ?_);obtain⟨o2,hi2,hk2⟩:=bind_some hh;refine Aw.iter (λ(s2:(List Int)×Int×Int)=>sp 19 [(0,sw 0 s2.1),(1,ii s2.2.1),(5,ii s2.2.2)]) (λ(s2:(List Int)×Int×Int)=>[(0,some (rI_3 s2.1))]) 1 hi2 (el [some 0] (fS kr (rs (sw 0 x_a) (ri (ri rA)))) (hn aX aY)) ?_;intro s2 u2 Q2 hh hN2 hX2 hR2;let z3:EH:=(0,some (rI_3 s2.1));let z4:=(0,sw 0 s2.1);let z5:=(1,ii (w64 (s2.2.1+(1:Int))));let z6:=(5,ii s2.2.2);let z7:=(9,bb (decide (s2.2.2<((s2.1.length:Nat):Int))));let z1:=s2.1.set s2.2.2.toNat s2.2.1;unfold fT at hh;refine Aw.seq (sy [0,1,5,9] [0] (sp 19 [z4,(1,ii s2.2.1),z6,z7]) [z3] 1 ?_);rcases aAe hh with⟨hb,hh⟩|⟨hb,hh⟩;{refine cF hb (Aw.exit (aJk (hX2 _ _ _ _ _ (bO hh) ?_)));intro hout;rw[hout]at hk2;refine aLs ?_;obtain rfl:=bO hk2;exact hN1 (s2.2.1,s2.1) _ _ _ hk1 (el [some 0] (fS kr (ri rA)) (hn aX aY))};refine cT hb (Aw.xskip (λ_ _ _ hq=>fF hq) (Aw.seq (Aw.block (Aw.sreg [0,1,5] [0] ?_))));obtain⟨hg24,hh⟩:=aE hh;refine yjc 4 [(0:Int)<=s2.2.2/\s2.2.2<((s2.1.length:Nat):Int)] (sp 19 [z4,(1,ii s2.2.1),z6,z7,(12,sw 0 s2.1),(13,ii s2.2.2),(14,ii s2.2.1),(15,.ptr 0 [] (0+s2.2.2.toNat*1))]) [z3] 1 (.cons hg24 .nil) ?_;let q1:Root:=(rI_3 z1);refine ys (.store 1 (.t 15) (.t 14)) none (wV (c:=(eI .i64)) (xs:=s2.1) (e:=3) (r:=0) (π:=[]) (o:=0+s2.2.2.toNat*1) (i:=s2.2.2.toNat) (off:=0) (vs:=[ii s2.2.1]) (y:=s2.2.1) (H':=[(0,some q1),z3]) aV kr kr kr kr ltn ltn dd kr kr ?_);exact yt (sp 19 [z4,(1,ii s2.2.1),z6]) [(0,some q1)] 1 (Aw.xreg [0,1,5] [0] (λ_ _ _ hq=>aFo (fF hq)) (yt (sp 19 [z4,z5,z6]) [(0,some q1)] 1 (Aw.oreg (ye (sp 19 [z4,z5,(5,ii (w64 (s2.2.2+(1:Int)))),(10,ii s2.2.2),(11,ii (w64 (s2.2.2+(1:Int))))]) [(0,some q1)] 1 (hN2 (z1,w64 (s2.2.1+(1:Int)),w64 (s2.2.2+(1:Int))) _ _ _ (bO hh) (el [some 0] (fS kr (rs (sw 0 s2.1) (ri (ri rA)))) (hn aX aY)))))))
noncomputable def aIe  (s1:Int):Option Int:=some s1
noncomputable def iZ (x_a:List Int)(s2:Int×Int):Option (LO (Int×Int) (JO Int Int)):=
 cond (decide (s2.2<((x_a.length:Nat):Int)))
  (grd ((0:Int)<=s2.2/\s2.2<((x_a.length:Nat):Int)) (cond (!decide ((x_a.getD s2.2.toNat default)=s2.1))
   (some (.ret (.out (-1:Int))))
   (some (.next ((w64 (s2.1+(1:Int))),w64 (s2.2+(1:Int)))))))
  (some (.ret (.go s2.1)))
noncomputable def gG (x_a:List Int)(x_k:Int):Option Int:=
 Option.bind (Option.bind (iter (iZ x_a) (x_k,(0:Int))) LO.val) λj1=>
  JO.run j1 aIe
noncomputable def g94:Sg tG:=⟨[.row 3,.i .i64],.one (.i .i64),gG⟩
theorem s94:Sok 94 g94:=sgx [] trivial (.s .o (.j ⟨[],[],[(.s 1,.i .i64)]⟩ (.s .o (.k (.l ⟨[0],[],[(.s 1,.i .i64),(.s 5,.i .i64)]⟩ .o))) .o)) kr kr kr
noncomputable def qL (x_c:DCore):Option Bool:=
 cond (decide (x_c.Pc=(0:Int)))
  (cond (decide (x_c.Root=(0:Int)))
   (cond (decide (x_c.Vector=(0:Int)))
    (cond (decide (x_c.Saved=(0:Int)))
     (cond x_c.SavedUser
      (cond (decide (((x_c.Regs.length:Nat):Int)=(0:Int)))
       (cond (decide (x_c.Bad=(0:Int)))
        (cond (decide (x_c.Cause=(0:Int)))
         (cond (decide (x_c.Timer=(0:Int)))
          (some false)
          (some false))
         (some false))
        (some false))
       (some false))
      (cond x_c.Waits
       (cond (decide (((x_c.Regs.length:Nat):Int)=(0:Int)))
        (cond (decide (x_c.Bad=(0:Int)))
         (cond (decide (x_c.Cause=(0:Int)))
          (cond (decide (x_c.Timer=(0:Int)))
           (some false)
           (some false))
          (some false))
         (some false))
        (some false))
       (cond x_c.User
        (cond (decide (((x_c.Regs.length:Nat):Int)=(0:Int)))
         (cond (decide (x_c.Bad=(0:Int)))
          (cond (decide (x_c.Cause=(0:Int)))
           (cond (decide (x_c.Timer=(0:Int)))
            (some false)
            (some false))
           (some false))
          (some false))
         (some false))
        (cond x_c.On
         (cond (decide (((x_c.Regs.length:Nat):Int)=(0:Int)))
          (cond (decide (x_c.Bad=(0:Int)))
           (cond (decide (x_c.Cause=(0:Int)))
            (cond (decide (x_c.Timer=(0:Int)))
             (some false)
             (some false))
            (some false))
           (some false))
          (some false))
         (cond (decide (((x_c.Regs.length:Nat):Int)=(0:Int)))
          (cond (decide (x_c.Bad=(0:Int)))
           (cond (decide (x_c.Cause=(0:Int)))
            (cond (decide (x_c.Timer=(0:Int)))
             (some (!x_c.Stopped))
             (some false))
            (some false))
           (some false))
          (some false))))))
     (cond x_c.SavedUser
      (cond (decide (((x_c.Regs.length:Nat):Int)=(0:Int)))
       (some false)
       (some false))
      (cond x_c.Waits
       (cond (decide (((x_c.Regs.length:Nat):Int)=(0:Int)))
        (some false)
        (some false))
       (cond x_c.User
        (cond (decide (((x_c.Regs.length:Nat):Int)=(0:Int)))
         (some false)
         (some false))
        (cond x_c.On
         (cond (decide (((x_c.Regs.length:Nat):Int)=(0:Int)))
          (some false)
          (some false))
         (cond (decide (((x_c.Regs.length:Nat):Int)=(0:Int)))
          (some false)
          (some false)))))))
    (cond x_c.SavedUser
     (cond (decide (((x_c.Regs.length:Nat):Int)=(0:Int)))
      (some false)
      (some false))
     (cond x_c.Waits
      (cond (decide (((x_c.Regs.length:Nat):Int)=(0:Int)))
       (some false)
       (some false))
      (cond x_c.User
       (cond (decide (((x_c.Regs.length:Nat):Int)=(0:Int)))
        (some false)
        (some false))
       (cond x_c.On
        (cond (decide (((x_c.Regs.length:Nat):Int)=(0:Int)))
         (some false)
         (some false))
        (cond (decide (((x_c.Regs.length:Nat):Int)=(0:Int)))
         (some false)
         (some false)))))))
   (cond x_c.SavedUser
    (cond (decide (((x_c.Regs.length:Nat):Int)=(0:Int)))
     (some false)
     (some false))
    (cond x_c.Waits
     (cond (decide (((x_c.Regs.length:Nat):Int)=(0:Int)))
      (some false)
      (some false))
     (cond x_c.User
      (cond (decide (((x_c.Regs.length:Nat):Int)=(0:Int)))
       (some false)
       (some false))
      (cond x_c.On
       (cond (decide (((x_c.Regs.length:Nat):Int)=(0:Int)))
        (some false)
        (some false))
       (cond (decide (((x_c.Regs.length:Nat):Int)=(0:Int)))
        (some false)
        (some false)))))))
  (cond x_c.SavedUser
   (cond (decide (((x_c.Regs.length:Nat):Int)=(0:Int)))
    (some false)
    (some false))
   (cond x_c.Waits
    (cond (decide (((x_c.Regs.length:Nat):Int)=(0:Int)))
     (some false)
     (some false))
    (cond x_c.User
     (cond (decide (((x_c.Regs.length:Nat):Int)=(0:Int)))
      (some false)
      (some false))
     (cond x_c.On
      (cond (decide (((x_c.Regs.length:Nat):Int)=(0:Int)))
       (some false)
       (some false))
      (cond (decide (((x_c.Regs.length:Nat):Int)=(0:Int)))
       (some false)
       (some false))))))
noncomputable def bXs:Sg tG:=⟨[.st 39],.one .b,qL⟩
theorem cCm:Sok 202 bXs:=sgx [] trivial .o kr kr kr
noncomputable def nW (x_guest:DGuest):Option Bool:=
 Option.bind (qL x_guest.C) λv1=>
 cond v1
  (cond (decide (((x_guest.Pages.length:Nat):Int)=(0:Int)))
   (cond (decide (((x_guest.In.length:Nat):Int)=(0:Int)))
    (some (decide (((x_guest.Out.length:Nat):Int)=(0:Int))))
    (some false))
   (some false))
  (some false)
noncomputable def bVg:Sg tG:=⟨[.st 94],.one .b,nW⟩
theorem cBv:Sok 170 bVg:=sgx [(202,.r bXs)] ⟨cCm,trivial⟩ .o kr kr kr
noncomputable def uK (x_s:DSlot):Option Bool:=
 cond (decide (x_s.Frame=(-1:Int)))
  (cond (!x_s.Write)
   (some (!x_s.Dirty))
   (some false))
  (cond (decide ((0:Int)<=x_s.Frame))
   (some (decide (x_s.Frame<(20:Int))))
   (some false))
noncomputable def bYs:Sg tG:=⟨[.st 91],.one .b,uK⟩
theorem cCy:Sok 203 bYs:=sgx [] trivial .o kr kr kr
noncomputable def aMk  (s1:Unit):Option Bool:=some true
noncomputable def zF (x_pages:List DSlot)(s2:Int):Option (LO Int (JO Unit Bool)):=
 cond (decide (s2<((x_pages.length:Nat):Int)))
  (grd ((0:Int)<=s2/\s2<((x_pages.length:Nat):Int)) (Option.bind (uK (DSlot.mk (x_pages.getD s2.toNat default).Frame (x_pages.getD s2.toNat default).Write (x_pages.getD s2.toNat default).Dirty)) λv3=>
   cond (!v3)
    (some (.ret (.out false)))
    (some (.next (w64 (s2+(1:Int)))))))
  (some (.ret (.go ())))
noncomputable def sK (x_pages:List DSlot):Option Bool:=
 cond (!decide (((x_pages.length:Nat):Int)=(8:Int)))
  (some false)
  (Option.bind (Option.bind (iter (zF x_pages) (0:Int)) LO.val) λj1=>
   JO.run j1 aMk)
noncomputable def bZn:Sg tG:=⟨[.row 91],.one .b,sK⟩
theorem cDa:Sok 171 bZn:=sgx [(203,.r bYs)] ⟨cCy,trivial⟩ (.s .o (.s .o (.j ⟨[],[],[]⟩ (.s .o (.k (.l ⟨[8,9],[],[(.s 10,.i .i64)]⟩ .o))) .o))) kr kr kr
noncomputable def oC (x_guest:DGuest):Option Bool:=
 cond (!x_guest.Live)
  (Option.bind (nW x_guest) λv1=>
  some v1)
  (Option.bind (pR x_guest.C) λv2=>
  cond v2
   (Option.bind (sK x_guest.Pages) λv3=>
   cond v3
    (Option.bind (lW x_guest.In) λv4=>
    cond v4
     (Option.bind (lW x_guest.Out) λv5=>
     some v5)
     (some false))
    (some false))
   (some false))
noncomputable def bVi:Sg tG:=⟨[.st 94],.one .b,oC⟩
theorem cBw:Sok 133 bVi:=sgx [(170,.r bVg),(119,.r bRn),(171,.r bZn),(121,.r bRb)] ⟨cBv,bWm,cDa,bVu,trivial⟩ .o kr kr kr
noncomputable def aJl  (s1:Unit):Option Bool:=some true
noncomputable def mP (x_guests:List DGuest)(s2:Int):Option (LO Int (JO Unit Bool)):=
 cond (decide (s2<((x_guests.length:Nat):Int)))
  (grd ((0:Int)<=s2/\s2<((x_guests.length:Nat):Int)) (Option.bind (oC (DGuest.mk (x_guests.getD s2.toNat default).Live (DCore.mk ((x_guests.getD s2.toNat default).C).Regs ((x_guests.getD s2.toNat default).C).Pc ((x_guests.getD s2.toNat default).C).Root ((x_guests.getD s2.toNat default).C).Vector ((x_guests.getD s2.toNat default).C).Saved ((x_guests.getD s2.toNat default).C).SavedUser ((x_guests.getD s2.toNat default).C).Cause ((x_guests.getD s2.toNat default).C).Bad ((x_guests.getD s2.toNat default).C).Timer ((x_guests.getD s2.toNat default).C).Waits ((x_guests.getD s2.toNat default).C).User ((x_guests.getD s2.toNat default).C).On ((x_guests.getD s2.toNat default).C).Stopped) (x_guests.getD s2.toNat default).Pages (x_guests.getD s2.toNat default).In (x_guests.getD s2.toNat default).Out)) λv3=>
   cond (!v3)
    (some (.ret (.out false)))
    (some (.next (w64 (s2+(1:Int)))))))
  (some (.ret (.go ())))
noncomputable def qT (x_guests:List DGuest):Option Bool:=
 cond (!decide (((x_guests.length:Nat):Int)=(3:Int)))
  (some false)
  (Option.bind (Option.bind (iter (mP x_guests) (0:Int)) LO.val) λj1=>
   JO.run j1 aJl)
noncomputable def g72:Sg tG:=⟨[.row 94],.one .b,qT⟩
theorem s72:Sok 72 g72:=sgx [(133,.r bVi)] ⟨cBw,trivial⟩ (.s .o (.s .o (.j ⟨[],[],[]⟩ (.s .o (.k (.l ⟨[8,9],[],[(.s 10,.i .i64)]⟩ .o))) .o))) kr kr kr
noncomputable def vQ  (s1:List Int):Option (List Int):=some s1
noncomputable def vK (s2:(List Int)×Int)(s3:List Int):Option (LO ((List Int)×Int) (JO (List Int) (List Int))):=some (.next (s3,w64 (s2.2+(1:Int))))
noncomputable def vC (s4:(List Int)×Int)(s5:List Int):Option (LO ((List Int)×Int) (JO (List Int) (LO ((List Int)×Int) (JO (List Int) (List Int))))):=some (.next (s5,w64 (s4.2+(1:Int))))
noncomputable def fX (x_guests:List DGuest)(s2:(List Int)×Int)(s4:(List Int)×Int):Option (LO ((List Int)×Int) (JO (List Int) (LO ((List Int)×Int) (JO (List Int) (List Int))))):=
 cond (decide (s4.2<((List.length (x_guests.getD s2.2.toNat default).Pages:Nat):Int)))
  (Option.bind (grd ((0:Int)<=s4.2/\s4.2<((List.length (x_guests.getD s2.2.toNat default).Pages:Nat):Int)) (cond (!decide ((List.getD (x_guests.getD s2.2.toNat default).Pages s4.2.toNat default).Frame=(-1:Int)))
   (grd ((0:Int)<=(List.getD (x_guests.getD s2.2.toNat default).Pages s4.2.toNat default).Frame/\(List.getD (x_guests.getD s2.2.toNat default).Pages s4.2.toNat default).Frame<((s4.1.length:Nat):Int)) (grd ((0:Int)<=(List.getD (x_guests.getD s2.2.toNat default).Pages s4.2.toNat default).Frame/\(List.getD (x_guests.getD s2.2.toNat default).Pages s4.2.toNat default).Frame<((s4.1.length:Nat):Int)) (some (.go (s4.1.set (Int.toNat (List.getD (x_guests.getD s2.2.toNat default).Pages s4.2.toNat default).Frame) (w64 ((s4.1.getD (Int.toNat (List.getD (x_guests.getD s2.2.toNat default).Pages s4.2.toNat default).Frame) default)+(1:Int))))))))
   (some (.go s4.1)))) λj5=>
   JO.run j5 (vC s4))
  (some (.ret (.go s4.1)))
noncomputable def jT (x_guests:List DGuest)(s2:(List Int)×Int):Option (LO ((List Int)×Int) (JO (List Int) (List Int))):=
 cond (decide (s2.2<((x_guests.length:Nat):Int)))
  (Option.bind (grd ((0:Int)<=s2.2/\s2.2<((x_guests.length:Nat):Int)) (Option.bind (iter (fX x_guests s2) (s2.1,(0:Int))) LO.val)) λj3=>
   JO.run j3 (vK s2))
  (some (.ret (.go s2.1)))
noncomputable def fZ (x_guests:List DGuest):Option (List Int):=
 Option.bind (Option.bind (iter (jT x_guests) ((List.replicate (Int.toNat (20:Int)) (0:Int)),(0:Int))) LO.val) λj1=>
  JO.run j1 vQ
noncomputable def bJf:Sg tG:=⟨[.row 94],.one (.row 3),fZ⟩
theorem bPt:Sok 134 bJf:=sgx [] trivial (.s .o (.s .o (.j ⟨[],[],[(.s 3,.ro 3)]⟩ (.s .o (.k (.l ⟨[9,10],[],[(.s 3,.ro 3),(.s 11,.i .i64)]⟩ (.s .o (.s .o (.j ⟨[9,10,11],[],[(.s 3,.ro 3)]⟩ (.k (.s .o (.s .o (.k (.l ⟨[9,10,11,16,17],[],[(.s 3,.ro 3),(.s 18,.i .i64)]⟩ (.s .o (.s .o (.j ⟨[9,10,11,16,17,18],[],[(.s 3,.ro 3)]⟩ .o .o)))))))) .o)))))) .o))) kr kr kr
noncomputable def zI  (s2:Unit):Option Bool:=some true
noncomputable def qO (s3:Int)(s4:Unit):Option (LO Int (JO Unit Bool)):=some (.next (w64 (s3+(1:Int))))
noncomputable def kW (s5:Int)(s6:Unit):Option (LO Int (JO Unit (LO Int (JO Unit Bool)))):=some (.next (w64 (s5+(1:Int))))
noncomputable def eG (x_guests:List DGuest)(v1:List Int)(s3:Int)(s5:Int):Option (LO Int (JO Unit (LO Int (JO Unit Bool)))):=
 cond (decide (s5<((List.length (x_guests.getD s3.toNat default).Pages:Nat):Int)))
  (Option.bind (grd ((0:Int)<=s5/\s5<((List.length (x_guests.getD s3.toNat default).Pages:Nat):Int)) (cond (List.getD (x_guests.getD s3.toNat default).Pages s5.toNat default).Write
   (grd ((0:Int)<=(List.getD (x_guests.getD s3.toNat default).Pages s5.toNat default).Frame/\(List.getD (x_guests.getD s3.toNat default).Pages s5.toNat default).Frame<((v1.length:Nat):Int)) (cond (decide ((1:Int)<(v1.getD (Int.toNat (List.getD (x_guests.getD s3.toNat default).Pages s5.toNat default).Frame) default)))
    (some (.out (.ret (.out (.ret (.out false))))))
    (some (.go ()))))
   (some (.go ())))) λj6=>
   JO.run j6 (kW s5))
  (some (.ret (.go ())))
noncomputable def gD (x_guests:List DGuest)(v1:List Int)(s3:Int):Option (LO Int (JO Unit Bool)):=
 cond (decide (s3<((x_guests.length:Nat):Int)))
  (Option.bind (grd ((0:Int)<=s3/\s3<((x_guests.length:Nat):Int)) (Option.bind (iter (eG x_guests v1 s3) (0:Int)) LO.val)) λj4=>
   JO.run j4 (qO s3))
  (some (.ret (.go ())))
noncomputable def iQ (x_guests:List DGuest):Option Bool:=
 Option.bind (fZ x_guests) λv1=>
 Option.bind (Option.bind (iter (gD x_guests v1) (0:Int)) LO.val) λj2=>
  JO.run j2 zI
noncomputable def g73:Sg tG:=⟨[.row 94],.one .b,iQ⟩
theorem s73:Sok 73 g73:=sgx [(134,.r bJf)] ⟨bPt,trivial⟩ (.s .o (.s .o (.j ⟨[],[],[]⟩ (.s .o (.k (.l ⟨[3,10,11],[],[(.s 12,.i .i64)]⟩ (.s .o (.s .o (.j ⟨[3,10,11,12],[],[]⟩ (.k (.s .o (.s .o (.k (.l ⟨[3,10,11,12,17,18],[],[(.s 19,.i .i64)]⟩ (.s .o (.s .o (.j ⟨[3,10,11,12,17,18,19],[],[]⟩ .o .o)))))))) .o)))))) .o))) kr kr kr
noncomputable def uC (x_h:DHost):Option Bool:=
 cond (decide (((x_h.Words.length:Nat):Int)=(160:Int)))
  (Option.bind (iL x_h.Words) λv1=>
  cond v1
   (Option.bind (qT x_h.Guests) λv2=>
   cond v2
    (Option.bind (iQ x_h.Guests) λv3=>
    some v3)
    (some false))
   (some false))
  (some false)
noncomputable def g22:Sg tG:=⟨[.st 26],.one .b,uC⟩
theorem s22:Sok 22 g22:=sgx [(71,.r g71),(72,.r g72),(73,.r g73)] ⟨s71,s72,s73,trivial⟩ .o kr kr kr
noncomputable def pT (x_g:DGuest):Option Bool:=
 cond (decide (((x_g.C.Regs.length:Nat):Int)=(0:Int)))
  (cond (decide (x_g.C.Pc=(0:Int)))
   (cond (decide (x_g.C.Root=(0:Int)))
    (cond (decide (x_g.C.Vector=(0:Int)))
     (cond (decide (x_g.C.Saved=(0:Int)))
      (cond (!x_g.C.SavedUser)
       (cond (decide (x_g.C.Cause=(0:Int)))
        (cond (decide (x_g.C.Bad=(0:Int)))
         (cond (decide (x_g.C.Timer=(0:Int)))
          (cond (!x_g.C.Waits)
           (cond (!x_g.C.User)
            (cond (!x_g.C.On)
             (cond (!x_g.C.Stopped)
              (cond (decide (((x_g.Pages.length:Nat):Int)=(0:Int)))
               (cond (decide (((x_g.In.length:Nat):Int)=(0:Int)))
                (some (decide (((x_g.Out.length:Nat):Int)=(0:Int))))
                (some false))
               (some false))
              (some false))
             (some false))
            (some false))
           (some false))
          (some false))
         (some false))
        (some false))
       (some false))
      (some false))
     (some false))
    (some false))
   (some false))
  (some false)
noncomputable def bWf:Sg tG:=⟨[.st 94],.one .b,pT⟩
theorem cCq:Sok 177 bWf:=sgx [] trivial .o kr kr kr
noncomputable def aNt  (s3:Unit):Option Bool:=some true
noncomputable def uM (s4:Int)(s5:Unit):Option (LO Int (JO Unit Bool)):=some (.next (w64 (s4+(1:Int))))
noncomputable def pA (s2:(List Int)×(List Bool))(s4:Int):Option (LO Int (JO Unit Bool)):=
 cond (decide (s4<(20:Int)))
  (Option.bind (grd ((0:Int)<=s4/\s4<((s2.1.length:Nat):Int)) (cond (decide ((1:Int)<(s2.1.getD s4.toNat default)))
   (grd ((0:Int)<=s4/\s4<((s2.2.length:Nat):Int)) (cond (s2.2.getD s4.toNat default)
    (some (.out (.ret (.out false))))
    (some (.go ()))))
   (some (.go ())))) λj5=>
   JO.run j5 (uM s4))
  (some (.ret (.go ())))
noncomputable def aBl  (s2:(List Int)×(List Bool)):Option Bool:=
 Option.bind (Option.bind (iter (pA s2) (0:Int)) LO.val) λj3=>
  JO.run j3 aNt
noncomputable def vB (s6:(List Int)×(List Bool)×Int)(s7:(List Int)×(List Bool)):Option (LO ((List Int)×(List Bool)×Int) (JO ((List Int)×(List Bool)) Bool)):=some (.next (s7.1,s7.2,w64 (s6.2.2+(1:Int))))
noncomputable def tF (s12:(List Int)×(List Bool)×Int)(s13:(List Bool)×(List Int)):Option (LO ((List Int)×(List Bool)×Int) (JO ((List Int)×(List Bool)) (LO ((List Int)×(List Bool)×Int) (JO ((List Int)×(List Bool)) Bool)))):=some (.next (s13.2,s13.1,w64 (s12.2.2+(1:Int))))
noncomputable def tH (x_h:DHost)(s6:(List Int)×(List Bool)×Int)(s12:(List Int)×(List Bool)×Int)(s14:Unit):Option (JO ((List Bool)×(List Int)) (LO ((List Int)×(List Bool)×Int) (JO ((List Int)×(List Bool)) (LO ((List Int)×(List Bool)×Int) (JO ((List Int)×(List Bool)) Bool))))):=
 cond (decide ((0:Int)<=(List.getD (x_h.Guests.getD s6.2.2.toNat default).Pages s12.2.2.toNat default).Frame))
  (grd ((0:Int)<=(List.getD (x_h.Guests.getD s6.2.2.toNat default).Pages s12.2.2.toNat default).Frame/\(List.getD (x_h.Guests.getD s6.2.2.toNat default).Pages s12.2.2.toNat default).Frame<((s12.1.length:Nat):Int)) (grd ((0:Int)<=(List.getD (x_h.Guests.getD s6.2.2.toNat default).Pages s12.2.2.toNat default).Frame/\(List.getD (x_h.Guests.getD s6.2.2.toNat default).Pages s12.2.2.toNat default).Frame<((s12.1.length:Nat):Int)) (grd ((0:Int)<=(List.getD (x_h.Guests.getD s6.2.2.toNat default).Pages s12.2.2.toNat default).Frame/\(List.getD (x_h.Guests.getD s6.2.2.toNat default).Pages s12.2.2.toNat default).Frame<((s12.2.1.length:Nat):Int)) (cond (s12.2.1.getD (Int.toNat (List.getD (x_h.Guests.getD s6.2.2.toNat default).Pages s12.2.2.toNat default).Frame) default)
   (grd ((0:Int)<=(List.getD (x_h.Guests.getD s6.2.2.toNat default).Pages s12.2.2.toNat default).Frame/\(List.getD (x_h.Guests.getD s6.2.2.toNat default).Pages s12.2.2.toNat default).Frame<((s12.2.1.length:Nat):Int)) (some (.go ((s12.2.1.set (Int.toNat (List.getD (x_h.Guests.getD s6.2.2.toNat default).Pages s12.2.2.toNat default).Frame) true),s12.1.set (Int.toNat (List.getD (x_h.Guests.getD s6.2.2.toNat default).Pages s12.2.2.toNat default).Frame) (w64 ((s12.1.getD (Int.toNat (List.getD (x_h.Guests.getD s6.2.2.toNat default).Pages s12.2.2.toNat default).Frame) default)+(1:Int)))))))
   (grd ((0:Int)<=(List.getD (x_h.Guests.getD s6.2.2.toNat default).Pages s12.2.2.toNat default).Frame/\(List.getD (x_h.Guests.getD s6.2.2.toNat default).Pages s12.2.2.toNat default).Frame<((s12.2.1.length:Nat):Int)) (some (.go ((s12.2.1.set (Int.toNat (List.getD (x_h.Guests.getD s6.2.2.toNat default).Pages s12.2.2.toNat default).Frame) (List.getD (x_h.Guests.getD s6.2.2.toNat default).Pages s12.2.2.toNat default).Write),s12.1.set (Int.toNat (List.getD (x_h.Guests.getD s6.2.2.toNat default).Pages s12.2.2.toNat default).Frame) (w64 ((s12.1.getD (Int.toNat (List.getD (x_h.Guests.getD s6.2.2.toNat default).Pages s12.2.2.toNat default).Frame) default)+(1:Int)))))))))))
  (some (.go (s12.2.1,s12.1)))
noncomputable def kH (x_h:DHost)(s6:(List Int)×(List Bool)×Int)(s12:(List Int)×(List Bool)×Int):Option (LO ((List Int)×(List Bool)×Int) (JO ((List Int)×(List Bool)) (LO ((List Int)×(List Bool)×Int) (JO ((List Int)×(List Bool)) Bool)))):=
 cond (decide (s12.2.2<((List.length (x_h.Guests.getD s6.2.2.toNat default).Pages:Nat):Int)))
  (Option.bind (grd ((0:Int)<=s12.2.2/\s12.2.2<((List.length (x_h.Guests.getD s6.2.2.toNat default).Pages:Nat):Int)) (Option.bind (Option.bind (cI (List.getD (x_h.Guests.getD s6.2.2.toNat default).Pages s12.2.2.toNat default).Frame (-1:Int) (19:Int)) λv15=>
   cond (!v15)
    (some (.out (.out (.ret (.out (.ret (.out false)))))))
    (cond (decide ((List.getD (x_h.Guests.getD s6.2.2.toNat default).Pages s12.2.2.toNat default).Frame=(-1:Int)))
     (cond (List.getD (x_h.Guests.getD s6.2.2.toNat default).Pages s12.2.2.toNat default).Write
      (some (.out (.out (.ret (.out (.ret (.out false)))))))
      (cond (List.getD (x_h.Guests.getD s6.2.2.toNat default).Pages s12.2.2.toNat default).Dirty
       (some (.out (.out (.ret (.out (.ret (.out false)))))))
       (some (.go ()))))
     (some (.go ())))) λj14=>
   JO.run j14 (tH x_h s6 s12))) λj13=>
   JO.run j13 (tF s12))
  (some (.ret (.go (s12.1,s12.2.1))))
noncomputable def lN (x_h:DHost)(s6:(List Int)×(List Bool)×Int):Option (LO ((List Int)×(List Bool)×Int) (JO ((List Int)×(List Bool)) Bool)):=
 cond (decide (s6.2.2<((x_h.Guests.length:Nat):Int)))
  (Option.bind (grd ((0:Int)<=s6.2.2/\s6.2.2<((x_h.Guests.length:Nat):Int)) (cond (!(x_h.Guests.getD s6.2.2.toNat default).Live)
   (Option.bind (pT (DGuest.mk (x_h.Guests.getD s6.2.2.toNat default).Live (DCore.mk ((x_h.Guests.getD s6.2.2.toNat default).C).Regs ((x_h.Guests.getD s6.2.2.toNat default).C).Pc ((x_h.Guests.getD s6.2.2.toNat default).C).Root ((x_h.Guests.getD s6.2.2.toNat default).C).Vector ((x_h.Guests.getD s6.2.2.toNat default).C).Saved ((x_h.Guests.getD s6.2.2.toNat default).C).SavedUser ((x_h.Guests.getD s6.2.2.toNat default).C).Cause ((x_h.Guests.getD s6.2.2.toNat default).C).Bad ((x_h.Guests.getD s6.2.2.toNat default).C).Timer ((x_h.Guests.getD s6.2.2.toNat default).C).Waits ((x_h.Guests.getD s6.2.2.toNat default).C).User ((x_h.Guests.getD s6.2.2.toNat default).C).On ((x_h.Guests.getD s6.2.2.toNat default).C).Stopped) (x_h.Guests.getD s6.2.2.toNat default).Pages (x_h.Guests.getD s6.2.2.toNat default).In (x_h.Guests.getD s6.2.2.toNat default).Out)) λv8=>
   cond (!v8)
    (some (.out (.ret (.out false))))
    (some (.go (s6.1,s6.2.1))))
   (Option.bind (qA (DCore.mk ((x_h.Guests.getD s6.2.2.toNat default).C).Regs ((x_h.Guests.getD s6.2.2.toNat default).C).Pc ((x_h.Guests.getD s6.2.2.toNat default).C).Root ((x_h.Guests.getD s6.2.2.toNat default).C).Vector ((x_h.Guests.getD s6.2.2.toNat default).C).Saved ((x_h.Guests.getD s6.2.2.toNat default).C).SavedUser ((x_h.Guests.getD s6.2.2.toNat default).C).Cause ((x_h.Guests.getD s6.2.2.toNat default).C).Bad ((x_h.Guests.getD s6.2.2.toNat default).C).Timer ((x_h.Guests.getD s6.2.2.toNat default).C).Waits ((x_h.Guests.getD s6.2.2.toNat default).C).User ((x_h.Guests.getD s6.2.2.toNat default).C).On ((x_h.Guests.getD s6.2.2.toNat default).C).Stopped)) λv9=>
   cond (!v9)
    (some (.out (.ret (.out false))))
    (cond (!decide (((List.length (x_h.Guests.getD s6.2.2.toNat default).Pages:Nat):Int)=(8:Int)))
     (some (.out (.ret (.out false))))
     (Option.bind (fU (x_h.Guests.getD s6.2.2.toNat default).In (30:Int)) λv10=>
     cond (!v10)
      (some (.out (.ret (.out false))))
      (Option.bind (fU (x_h.Guests.getD s6.2.2.toNat default).Out (30:Int)) λv11=>
      cond (!v11)
       (some (.out (.ret (.out false))))
       (Option.bind (iter (kH x_h s6) (s6.1,s6.2.1,(0:Int))) LO.val))))))) λj7=>
   JO.run j7 (vB s6))
  (some (.ret (.go (s6.1,s6.2.1))))
noncomputable def pX (x_h:DHost):Option Bool:=
 Option.bind (fU x_h.Words (160:Int)) λv1=>
 cond (!v1)
  (some false)
  (cond (!decide (((x_h.Words.length:Nat):Int)=(160:Int)))
   (some false)
   (cond (!decide (((x_h.Guests.length:Nat):Int)=(3:Int)))
    (some false)
    (Option.bind (Option.bind (iter (lN x_h) ((List.replicate (Int.toNat (20:Int)) (0:Int)),List.replicate (Int.toNat (20:Int)) false,(0:Int))) LO.val) λj2=>
     JO.run j2 aBl)))
noncomputable def bSj:Sg tG:=⟨[.st 26],.one .b,pX⟩
theorem bXw:Sok 142 bSj:=sgx [(176,.r bXl),(177,.r bWf),(178,.r bXb),(51,.r g51)] ⟨cDh,cCq,cCs,s51,trivial⟩ (.s .o (.s .o (.s .o (.s .o (.j ⟨[],[],[(.s 3,.ro 3),(.s 4,.ro 4)]⟩ (.s .o (.k (.l ⟨[1],[],[(.s 3,.ro 3),(.s 4,.ro 4),(.s 5,.i .i64)]⟩ (.s .o (.j ⟨[1,5],[],[(.s 3,.ro 3),(.s 4,.ro 4)]⟩ (.k (.s .o (.s .o (.s .o (.s .o (.k (.l ⟨[1,5,6],[],[(.s 3,.ro 3),(.s 4,.ro 4),(.s 7,.i .i64)]⟩ (.s .o (.j ⟨[1,5,6,7],[],[(.s 4,.ro 4),(.s 3,.ro 3)]⟩ (.k (.s .o (.j ⟨[1,3,4,5,6,7,8],[],[]⟩ .o .o))) .o))))))))) .o))))) (.j ⟨[],[],[]⟩ (.s .o (.k (.l ⟨[3,4],[],[(.s 9,.i .i64)]⟩ (.s .o (.j ⟨[3,4,9],[],[]⟩ .o .o))))) .o)))))) kr kr kr
noncomputable def aHg (x_a:DSlot):Option DSlot:=some x_a
noncomputable def bYm:Sg tG:=⟨[.st 211],.one (.st 91),aHg⟩
theorem cCn:Sok 208 bYm:=sgx [] trivial .o kr kr kr
noncomputable def aMe  (s1:List DSlot):Option (List DSlot):=some s1
noncomputable def nP (x_a:List DSlot)(s2:(List DSlot)×Int):Option (LO ((List DSlot)×Int) (JO (List DSlot) (List DSlot))):=
 cond (decide (s2.2<((x_a.length:Nat):Int)))
  (grd ((0:Int)<=s2.2/\s2.2<((x_a.length:Nat):Int)) (Option.bind (aHg (DSlot.mk (x_a.getD s2.2.toNat default).Frame (x_a.getD s2.2.toNat default).Write (x_a.getD s2.2.toNat default).Dirty)) λv3=>
   grd ((0:Int)<=s2.2/\s2.2<((s2.1.length:Nat):Int)) (some (.next ((s2.1.set s2.2.toNat v3),w64 (s2.2+(1:Int)))))))
  (some (.ret (.go s2.1)))
noncomputable def rT (x_a:List DSlot):Option (List DSlot):=
 grd ((0:Int)<=((x_a.length:Nat):Int)/\((x_a.length:Nat):Int)*16<=2^47/\((x_a.length:Nat):Int)<=2^47) (Option.bind (Option.bind (iter (nP x_a) ((List.replicate (Int.toNat ((x_a.length:Nat):Int)) (DSlot.mk (0:Int) false false)),(0:Int))) LO.val) λj1=>
  JO.run j1 aMe)
noncomputable def cAb:Sg tG:=⟨[.row 211],.one (.row 91),rT⟩
theorem cCr:Sok 182 cAb:=sgx [(208,.r bYm)] ⟨cCn,trivial⟩ (.s .o (.s .o (.j ⟨[],[],[(.s 3,.ro 91)]⟩ (.s .o (.k (.l ⟨[0],[],[(.s 3,.ro 91),(.s 4,.i .i64)]⟩ .o))) .o))) kr kr kr
noncomputable def oN (x_a:DGuest):Option DGuest:=
 Option.bind (tX x_a.C) λv1=>
 Option.bind (rT x_a.Pages) λv2=>
 Option.bind (jY x_a.In) λv3=>
 Option.bind (jY x_a.Out) λv4=>
 some (DGuest.mk x_a.Live v1 v2 v3 v4)
noncomputable def bVy:Sg tG:=⟨[.st 171],.one (.st 94),oN⟩
theorem cDf:Sok 144 bVy:=sgx [(181,.r bZr),(182,.r cAb),(87,.r g87)] ⟨cBd,cCr,s87,trivial⟩ .o kr kr kr
noncomputable def aJf  (s1:List DGuest):Option (List DGuest):=some s1
noncomputable def mZ (x_a:List DGuest)(s2:(List DGuest)×Int):Option (LO ((List DGuest)×Int) (JO (List DGuest) (List DGuest))):=
 cond (decide (s2.2<((x_a.length:Nat):Int)))
  (grd ((0:Int)<=s2.2/\s2.2<((x_a.length:Nat):Int)) (Option.bind (oN (DGuest.mk (x_a.getD s2.2.toNat default).Live (DCore.mk ((x_a.getD s2.2.toNat default).C).Regs ((x_a.getD s2.2.toNat default).C).Pc ((x_a.getD s2.2.toNat default).C).Root ((x_a.getD s2.2.toNat default).C).Vector ((x_a.getD s2.2.toNat default).C).Saved ((x_a.getD s2.2.toNat default).C).SavedUser ((x_a.getD s2.2.toNat default).C).Cause ((x_a.getD s2.2.toNat default).C).Bad ((x_a.getD s2.2.toNat default).C).Timer ((x_a.getD s2.2.toNat default).C).Waits ((x_a.getD s2.2.toNat default).C).User ((x_a.getD s2.2.toNat default).C).On ((x_a.getD s2.2.toNat default).C).Stopped) (x_a.getD s2.2.toNat default).Pages (x_a.getD s2.2.toNat default).In (x_a.getD s2.2.toNat default).Out)) λv3=>
   grd ((0:Int)<=s2.2/\s2.2<((s2.1.length:Nat):Int)) (some (.next ((s2.1.set s2.2.toNat v3),w64 (s2.2+(1:Int)))))))
  (some (.ret (.go s2.1)))
noncomputable def qU (x_a:List DGuest):Option (List DGuest):=
 grd ((0:Int)<=((x_a.length:Nat):Int)/\((x_a.length:Nat):Int)*176<=2^47/\((x_a.length:Nat):Int)<=2^47) (Option.bind (Option.bind (iter (mZ x_a) ((List.replicate (Int.toNat ((x_a.length:Nat):Int)) (DGuest.mk false (DCore.mk ([]:List Int) (0:Int) (0:Int) (0:Int) (0:Int) false (0:Int) (0:Int) (0:Int) false false false false) ([]:List DSlot) ([]:List Int) ([]:List Int))),(0:Int))) LO.val) λj1=>
  JO.run j1 aJf)
noncomputable def g88:Sg tG:=⟨[.row 171],.one (.row 1094),qU⟩
theorem s88:Sok 88 g88:=sgx [(144,.r bVy)] ⟨cDf,trivial⟩ (.s .o (.s (.g [] [] [.fo (.s 3) 0]) (.j ⟨[],[],[(.s 3,.ro 1094)]⟩ (.s .o (.k (.l ⟨[0],[],[(.s 3,.ro 1094),(.s 4,.i .i64)]⟩ (.s .o (.s (.k (.g [] [] [.fo (.s 3) 0])) .o))))) .o))) kr kr kr
noncomputable def pU (x_a:DHost):Option DHost:=
 Option.bind (jY x_a.Words) λv1=>
 Option.bind (qU x_a.Guests) λv2=>
 some (DHost.mk v1 v2)
noncomputable def g35:Sg tG:=⟨[.st 62],.one (.st 2026),pU⟩
theorem s35:Sok 35 g35:=sgx [(87,.r g87),(88,.r g88)] ⟨s87,s88,trivial⟩ .o kr kr kr
noncomputable def pQ (x_a:DSlot)(x_b:DSlot):Option Bool:=
 cond (!decide (x_a.Frame=x_b.Frame))
  (some false)
  (cond (!(x_a.Write==x_b.Write))
   (some false)
   (cond (!(x_a.Dirty==x_b.Dirty))
    (some false)
    (some true)))
noncomputable def bVr:Sg tG:=⟨[.st 91,.st 91],.one .b,pQ⟩
theorem cCe:Sok 209 bVr:=sgx [] trivial .o kr kr kr
noncomputable def aMm  (s1:Unit):Option Bool:=some true
noncomputable def nX (x_a:List DSlot)(x_b:List DSlot)(s2:Int):Option (LO Int (JO Unit Bool)):=
 cond (decide (s2<((x_a.length:Nat):Int)))
  (grd ((0:Int)<=s2/\s2<((x_a.length:Nat):Int)) (grd ((0:Int)<=s2/\s2<((x_b.length:Nat):Int)) (Option.bind (pQ (DSlot.mk (x_a.getD s2.toNat default).Frame (x_a.getD s2.toNat default).Write (x_a.getD s2.toNat default).Dirty) (DSlot.mk (x_b.getD s2.toNat default).Frame (x_b.getD s2.toNat default).Write (x_b.getD s2.toNat default).Dirty)) λv3=>
   cond (!v3)
    (some (.ret (.out false)))
    (some (.next (w64 (s2+(1:Int))))))))
  (some (.ret (.go ())))
noncomputable def sB (x_a:List DSlot)(x_b:List DSlot):Option Bool:=
 cond (!decide (((x_a.length:Nat):Int)=((x_b.length:Nat):Int)))
  (some false)
  (Option.bind (Option.bind (iter (nX x_a x_b) (0:Int)) LO.val) λj1=>
   JO.run j1 aMm)
noncomputable def bVb:Sg tG:=⟨[.row 91,.row 91],.one .b,sB⟩
theorem cBh:Sok 184 bVb:=sgx [(209,.r bVr)] ⟨cCe,trivial⟩ (.s .o (.s .o (.j ⟨[],[],[]⟩ (.s .o (.k (.l ⟨[0,1],[],[(.s 5,.i .i64)]⟩ .o))) .o))) kr kr kr
noncomputable def oD (x_a:DGuest)(x_b:DGuest):Option Bool:=
 cond (!(x_a.Live==x_b.Live))
  (some false)
  (Option.bind (tY x_a.C x_b.C) λv1=>
  cond (!v1)
   (some false)
   (Option.bind (sB x_a.Pages x_b.Pages) λv2=>
   cond (!v2)
    (some false)
    (Option.bind (kB x_a.In x_b.In) λv3=>
    cond (!v3)
     (some false)
     (Option.bind (kB x_a.Out x_b.Out) λv4=>
     cond (!v4)
      (some false)
      (some true)))))
noncomputable def bWg:Sg tG:=⟨[.st 94,.st 94],.one .b,oD⟩
theorem cDb:Sok 145 bWg:=sgx [(183,.r bXn),(184,.r bVb),(89,.r g89)] ⟨cBx,cBh,s89,trivial⟩ .o kr kr kr
noncomputable def aKk  (s1:Unit):Option Bool:=some true
noncomputable def mW (x_a:List DGuest)(x_b:List DGuest)(s2:Int):Option (LO Int (JO Unit Bool)):=
 cond (decide (s2<((x_a.length:Nat):Int)))
  (grd ((0:Int)<=s2/\s2<((x_a.length:Nat):Int)) (grd ((0:Int)<=s2/\s2<((x_b.length:Nat):Int)) (Option.bind (oD (DGuest.mk (x_a.getD s2.toNat default).Live (DCore.mk ((x_a.getD s2.toNat default).C).Regs ((x_a.getD s2.toNat default).C).Pc ((x_a.getD s2.toNat default).C).Root ((x_a.getD s2.toNat default).C).Vector ((x_a.getD s2.toNat default).C).Saved ((x_a.getD s2.toNat default).C).SavedUser ((x_a.getD s2.toNat default).C).Cause ((x_a.getD s2.toNat default).C).Bad ((x_a.getD s2.toNat default).C).Timer ((x_a.getD s2.toNat default).C).Waits ((x_a.getD s2.toNat default).C).User ((x_a.getD s2.toNat default).C).On ((x_a.getD s2.toNat default).C).Stopped) (x_a.getD s2.toNat default).Pages (x_a.getD s2.toNat default).In (x_a.getD s2.toNat default).Out) (DGuest.mk (x_b.getD s2.toNat default).Live (DCore.mk ((x_b.getD s2.toNat default).C).Regs ((x_b.getD s2.toNat default).C).Pc ((x_b.getD s2.toNat default).C).Root ((x_b.getD s2.toNat default).C).Vector ((x_b.getD s2.toNat default).C).Saved ((x_b.getD s2.toNat default).C).SavedUser ((x_b.getD s2.toNat default).C).Cause ((x_b.getD s2.toNat default).C).Bad ((x_b.getD s2.toNat default).C).Timer ((x_b.getD s2.toNat default).C).Waits ((x_b.getD s2.toNat default).C).User ((x_b.getD s2.toNat default).C).On ((x_b.getD s2.toNat default).C).Stopped) (x_b.getD s2.toNat default).Pages (x_b.getD s2.toNat default).In (x_b.getD s2.toNat default).Out)) λv3=>
   cond (!v3)
    (some (.ret (.out false)))
    (some (.next (w64 (s2+(1:Int))))))))
  (some (.ret (.go ())))
noncomputable def qP (x_a:List DGuest)(x_b:List DGuest):Option Bool:=
 cond (!decide (((x_a.length:Nat):Int)=((x_b.length:Nat):Int)))
  (some false)
  (Option.bind (Option.bind (iter (mW x_a x_b) (0:Int)) LO.val) λj1=>
   JO.run j1 aKk)
noncomputable def g90:Sg tG:=⟨[.row 94,.row 94],.one .b,qP⟩
theorem s90:Sok 90 g90:=sgx [(145,.r bWg)] ⟨cDb,trivial⟩ (.s .o (.s .o (.j ⟨[],[],[]⟩ (.s .o (.k (.l ⟨[0,1],[],[(.s 5,.i .i64)]⟩ .o))) .o))) kr kr kr
noncomputable def pS (x_a:DHost)(x_b:DHost):Option Bool:=
 Option.bind (kB x_a.Words x_b.Words) λv1=>
 cond (!v1)
  (some false)
  (Option.bind (qP x_a.Guests x_b.Guests) λv2=>
  cond (!v2)
   (some false)
   (some true))
noncomputable def g37:Sg tG:=⟨[.st 26,.st 26],.one .b,pS⟩
theorem s37:Sok 37 g37:=sgx [(89,.r g89),(90,.r g90)] ⟨s89,s90,trivial⟩ .o kr kr kr
noncomputable def sV (x_a:List DSlot)(x_left:Int):Option Int:=
 cond (decide ((w64 (x_left-((x_a.length:Nat):Int)))<(0:Int)))
  (some (-1:Int))
  (some (w64 (x_left-((x_a.length:Nat):Int))))
noncomputable def bWy:Sg tG:=⟨[.row 211,.i .i64],.one (.i .i64),sV⟩
theorem cAy:Sok 180 bWy:=sgx [] trivial .o kr kr kr
noncomputable def oK (x_a:DGuest)(x_left:Int):Option Int:=
 Option.bind (uJ x_a.C x_left) λv1=>
 cond (decide (v1<(0:Int)))
  (some (-1:Int))
  (Option.bind (sV x_a.Pages v1) λv2=>
  cond (decide (v2<(0:Int)))
   (some (-1:Int))
   (Option.bind (kA x_a.In v2) λv3=>
   cond (decide (v3<(0:Int)))
    (some (-1:Int))
    (Option.bind (kA x_a.Out v3) λv4=>
    cond (decide (v4<(0:Int)))
     (some (-1:Int))
     (some v4))))
noncomputable def bYa:Sg tG:=⟨[.st 171,.i .i64],.one (.i .i64),oK⟩
theorem cBk:Sok 143 bYa:=sgx [(179,.r bYr),(180,.r bWy),(85,.r g85)] ⟨cCf,cAy,s85,trivial⟩ .o kr kr kr
noncomputable def aJn  (s1:Int):Option Int:=some s1
noncomputable def jM (x_a:List DGuest)(s2:Int×Int):Option (LO (Int×Int) (JO Int Int)):=
 cond (decide (s2.2<((x_a.length:Nat):Int)))
  (grd ((0:Int)<=s2.2/\s2.2<((x_a.length:Nat):Int)) (Option.bind (oK (DGuest.mk (x_a.getD s2.2.toNat default).Live (DCore.mk ((x_a.getD s2.2.toNat default).C).Regs ((x_a.getD s2.2.toNat default).C).Pc ((x_a.getD s2.2.toNat default).C).Root ((x_a.getD s2.2.toNat default).C).Vector ((x_a.getD s2.2.toNat default).C).Saved ((x_a.getD s2.2.toNat default).C).SavedUser ((x_a.getD s2.2.toNat default).C).Cause ((x_a.getD s2.2.toNat default).C).Bad ((x_a.getD s2.2.toNat default).C).Timer ((x_a.getD s2.2.toNat default).C).Waits ((x_a.getD s2.2.toNat default).C).User ((x_a.getD s2.2.toNat default).C).On ((x_a.getD s2.2.toNat default).C).Stopped) (x_a.getD s2.2.toNat default).Pages (x_a.getD s2.2.toNat default).In (x_a.getD s2.2.toNat default).Out) s2.1) λv3=>
   cond (decide (v3<(0:Int)))
    (some (.ret (.out (-1:Int))))
    (some (.next (v3,w64 (s2.2+(1:Int)))))))
  (some (.ret (.go s2.1)))
noncomputable def qY (x_a:List DGuest)(x_left:Int):Option Int:=
 cond (decide ((w64 (x_left-((x_a.length:Nat):Int)))<(0:Int)))
  (some (-1:Int))
  (Option.bind (Option.bind (iter (jM x_a) ((w64 (x_left-((x_a.length:Nat):Int))),(0:Int))) LO.val) λj1=>
   JO.run j1 aJn)
noncomputable def g86:Sg tG:=⟨[.row 171,.i .i64],.one (.i .i64),qY⟩
theorem s86:Sok 86 g86:=sgx [(143,.r bYa)] ⟨cBk,trivial⟩ (.s .o (.s .o (.s .o (.j ⟨[],[],[(.s 1,.i .i64)]⟩ (.s .o (.k (.l ⟨[0],[],[(.s 1,.i .i64),(.s 5,.i .i64)]⟩ .o))) .o)))) kr kr kr
noncomputable def pO (x_a:DHost)(x_left:Int):Option Int:=
 Option.bind (kA x_a.Words x_left) λv1=>
 cond (decide (v1<(0:Int)))
  (some (-1:Int))
  (Option.bind (qY x_a.Guests v1) λv2=>
  cond (decide (v2<(0:Int)))
   (some (-1:Int))
   (some v2))
noncomputable def g33:Sg tG:=⟨[.st 62,.i .i64],.one (.i .i64),pO⟩
theorem s33:Sok 33 g33:=sgx [(85,.r g85),(86,.r g86)] ⟨s85,s86,trivial⟩ .o kr kr kr
noncomputable def dA (x_list:List Int):Option (List Int):=grd ((0:Int)<=((x_list.length:Nat):Int)/\((x_list.length:Nat):Int)*8<=2^47/\((x_list.length:Nat):Int)<=2^47) (some (over (List.replicate (Int.toNat ((x_list.length:Nat):Int)) (0:Int)) 0 (List.length (List.replicate (Int.toNat ((x_list.length:Nat):Int)) (0:Int))) x_list))
noncomputable def aTw:Sg tG:=⟨[.row 3],.one (.row 3),dA⟩
theorem bCn:Sok 117 aTw:=sgx [] trivial .o kr kr kr
noncomputable def mM (x_c:DCore):Option DCore:=grd ((List.length ([]:List Int)+x_c.Regs.length)*8<=2^47/\List.length ([]:List Int)+x_c.Regs.length<=2^47) (some (DCore.mk (([]:List Int)++x_c.Regs) x_c.Pc x_c.Root x_c.Vector x_c.Saved x_c.SavedUser x_c.Cause x_c.Bad x_c.Timer x_c.Waits x_c.User x_c.On x_c.Stopped))
noncomputable def bQd:Sg tG:=⟨[.st 39],.one (.st 39),mM⟩
theorem bVf:Sok 132 bQd:=sgx [] trivial .o kr kr kr
noncomputable def sC (x_guests:List DGuest)(x_g:Int):Option Bool:=
 cond (decide ((0:Int)<=x_g))
  (cond (decide (x_g<(3:Int)))
   (grd ((0:Int)<=x_g/\x_g<((x_guests.length:Nat):Int)) (some (x_guests.getD x_g.toNat default).Live))
   (some false))
  (some false)
noncomputable def bXa:Sg tG:=⟨[.row 94,.i .i64],.one .b,sC⟩
theorem cDd:Sok 116 bXa:=sgx [] trivial .o kr kr kr
noncomputable def dL (x_h:DHost)(x_g:Int):Option Bool:=
 Option.bind (uC x_h) λv1=>
 cond v1
  (Option.bind (sC x_h.Guests x_g) λv2=>
  some v2)
  (some false)
noncomputable def g56:Sg tG:=⟨[.st 26,.i .i64],.one .b,dL⟩
theorem s56:Sok 56 g56:=sgx [(22,.r g22),(116,.r bXa)] ⟨s22,cDd,trivial⟩ .o kr kr kr
noncomputable def dW (x_h:DHost)(x_g:Int):Option Bool:=
 Option.bind (pX x_h) λv1=>
 cond v1
  (Option.bind (cI x_g (0:Int) (2:Int)) λv2=>
  cond v2
   (grd ((0:Int)<=x_g/\x_g<((x_h.Guests.length:Nat):Int)) (some (x_h.Guests.getD x_g.toNat default).Live))
   (some false))
  (some false)
noncomputable def aJz:Sg tG:=⟨[.st 26,.i .i64],.one .b,dW⟩
theorem aOu:Sok 102 aJz:=sgx [(142,.r bSj),(51,.r g51)] ⟨bXw,s51,trivial⟩ .o kr kr kr
noncomputable def gS (x_b:DBare):Option DBare:=
 Option.bind (dA x_b.C.Regs) λv1=>
 Option.bind (dA x_b.Mem) λv2=>
 Option.bind (dA x_b.In) λv3=>
 Option.bind (dA x_b.Out) λv4=>
 some (DBare.mk (DCore.mk v1 x_b.C.Pc x_b.C.Root x_b.C.Vector x_b.C.Saved x_b.C.SavedUser x_b.C.Cause x_b.C.Bad x_b.C.Timer x_b.C.Waits x_b.C.User x_b.C.On x_b.C.Stopped) v2 v3 v4)
noncomputable def g57:Sg tG:=⟨[.st 41],.one (.st 41),gS⟩
theorem s57:Sok 57 g57:=sgx [(117,.r aTw)] ⟨bCn,trivial⟩ .o kr kr kr
theorem aRh:LW 151 ⟨12,[.tmp 4],.seq (.reg false (rg 151 0)) (.seq (.reg false (rg 151 1)) .ret)⟩:=kr
noncomputable def mL (x_words:List Int)(x_page:Int):Option (List Int):=grd ((0:Int)<=(w64 (x_page*(8:Int)))/\(w64 (x_page*(8:Int)))<=(w64 ((w64 (x_page+(1:Int)))*(8:Int)))/\(w64 ((w64 (x_page+(1:Int)))*(8:Int)))<=((x_words.length:Nat):Int)) (some (List.take (Int.toNat (w64 ((w64 (x_page+(1:Int)))*(8:Int)))-Int.toNat (w64 (x_page*(8:Int)))) (List.drop (Int.toNat (w64 (x_page*(8:Int)))) x_words)))
noncomputable def bYd:Sg tG:=⟨[.row 3,.i .i64],.one (.rb 3),mL⟩
theorem bZu:Sok 151 bYd:=sgx [] trivial .o kr kr kr
theorem aTc{x_words:List Int}{x_page:Int}{R_:(List Int)}(hh:mL x_words x_page=some R_):Fn Tryz.prog 151 [bo (eI .i64) x_words,.int .i64 x_page] (bo (eI .i64) R_):=kc (bZu x_words x_page R_ hh)
noncomputable def gQ (x_words:List Int)(x_page:Int):Option ((List Int)×(Nat×Nat)):=grd ((0:Int)<=(w64 (x_page*(8:Int)))/\(w64 (x_page*(8:Int)))<=(w64 ((w64 (x_page+(1:Int)))*(8:Int)))/\(w64 ((w64 (x_page+(1:Int)))*(8:Int)))<=((x_words.length:Nat):Int)) (some (x_words,((Int.toNat (w64 (x_page*(8:Int)))),(Int.toNat (w64 ((w64 (x_page+(1:Int)))*(8:Int)))-Int.toNat (w64 (x_page*(8:Int)))))))
theorem uY{x_words:List Int}{x_page:Int}{R_:(List Int)×(Nat×Nat)}(hh:gQ x_words x_page=some R_):Inl Tryz.prog 151 [.sref 0 [] 0 x_words.length 1,.int .i64 x_page] [(0,some (rI_3 x_words))] 1 (.sref 0 [] (0+R_.2.1*1) R_.2.2 1) [(0,some (rI_3 R_.1))] 1:=by unfold gQ at hh;let q1:Root:=(rI_3 x_words);refine Inl.start aRh [0,1] [0] (E:=sp 12 [(0,sw 0 x_words),(1,ii x_page)]) (H1:=[(0,some q1)]) kr kr (sy [0,1] [0] (sp 12 [(0,sw 0 x_words),(1,ii x_page)]) [(0,some q1)] 1 (Aw.sreg [4] [0] (yu 6 [(5,sw 0 x_words),(6,ii x_page),(7,ii (w64 (x_page*(8:Int)))),(8,ii x_page),(9,ii (w64 (x_page+(1:Int)))),(10,ii (w64 ((w64 (x_page+(1:Int)))*(8:Int))))] [(0,some q1)] 1 ?_)));obtain⟨hg2,hh⟩:=aE hh;refine ys (.slc 1 (.t 5) (some (.t 7)) (some (.t 10))) (some 11) (bBb (r:=0) (π:=[]) (o:=0) (k:=x_words.length) (sz:=1) (l:=(w64 (x_page*(8:Int)))) (h:=(w64 ((w64 (x_page+(1:Int)))*(8:Int)))) kr kr kr hg2 ?_);refine yt (sp 12 [(4,.sref 0 [] (0+Int.toNat (w64 (x_page*(8:Int)))*1) (Int.toNat (w64 ((w64 (x_page+(1:Int)))*(8:Int)))-Int.toNat (w64 (x_page*(8:Int)))) 1)]) [(0,some q1)] 1 (Aw.ret ?_);rw[bO hh];exact qR (r':= .sref 0 [] (0+Int.toNat (w64 (x_page*(8:Int)))*1) (Int.toNat (w64 ((w64 (x_page+(1:Int)))*(8:Int)))-Int.toNat (w64 (x_page*(8:Int)))) 1) kr (el [some 0] (lO aBa) (hn aX aY))
theorem aPc:LW 118 ⟨29,[.tmp 4],.seq (.reg false (rg 118 0)) (.seq (.reg false (rg 118 1)) (.seq (.seq (.reg false (rg 118 2)) (.block 0 (.loop (.seq (.reg false (rg 118 3)) (.seq (.cond (.t 12) .skip (.exit 0)) (.seq (.block 1 (.seq (.reg false (rg 118 4)) (.seq (.reg false (rg 118 5)) (.cond (.t 18) (.regd (rg 118 6) (rg 118 7)) .skip)))) (.reg false (rg 118 8)))))))) (.seq (.reg false (rg 118 10)) .ret)))⟩:=kr
noncomputable def tL  (s1:List Int):Option (List Int):=some s1
noncomputable def tK (s2:(List Int)×Int)(s3:List Int):Option (LO ((List Int)×Int) (JO (List Int) (List Int))):=some (.next (s3,w64 (s2.2+(1:Int))))
noncomputable def zB (x_words:List Int)(x_pages:List DSlot)(s2:(List Int)×Int):Option (LO ((List Int)×Int) (JO (List Int) (List Int))):=
 cond (decide (s2.2<((x_pages.length:Nat):Int)))
  (Option.bind (grd ((0:Int)<=s2.2/\s2.2<((x_pages.length:Nat):Int)) (cond (!decide ((x_pages.getD s2.2.toNat default).Frame=(-1:Int)))
   (Option.bind (gQ s2.1 s2.2) λv4=>
   grd (v4.1.length=s2.1.length) (grd (v4.2.1+v4.2.2<=v4.1.length) (Option.bind (mL x_words (x_pages.getD s2.2.toNat default).Frame) λv5=>
    some (.go (over v4.1 v4.2.1 v4.2.2 v5)))))
   (some (.go s2.1)))) λj3=>
   JO.run j3 (tK s2))
  (some (.ret (.go s2.1)))
noncomputable def sJ (x_words:List Int)(x_pages:List DSlot):Option (List Int):=
 Option.bind (Option.bind (iter (zB x_words x_pages) ((List.replicate (Int.toNat (64:Int)) (0:Int)),(0:Int))) LO.val) λj1=>
  JO.run j1 tL
theorem aSd{x_words:List Int}{x_pages:List DSlot}{R_:(List Int)}(hh:sJ x_words x_pages=some R_):Fn Tryz.prog 118 [bo (eI .i64) x_words,bo eY x_pages] (.own 3 1 R_.length (fl (eI .i64) R_)):=by let z2:=(0,bo (eI .i64) x_words);let z3:=(1,bo eY x_pages);let z4:=(10,ii ((x_pages.length:Nat):Int));let z5:EV:=(5,.sref 0 [] 0 (List.length (List.replicate (Int.toNat (64:Int)) (0:Int))) 1);let z6:=(9,bo eY x_pages);unfold sJ at hh;refine Fn.start aPc [0,1] (E:=sp 29 [z2,z3]) kr (v:=sw 0 R_) (Hr:=[(0,some (rI_3 R_))]) (k:=1) kr (sy [0,1] [] (sp 29 [z2,z3]) [] 0 (Aw.sreg [0,1,5] [0] (ys (.mk 3 1 8 [ii 0] (.c (ii 64))) (some 8) (bSt (c:=(eI .i64)) (d:=(0:Int)) (k:=(64:Int)) kr dd kr ?_))));let q1:Root:=(rI_3 (List.replicate (Int.toNat (64:Int)) (0:Int)));refine yt (sp 29 [z2,z3,z5]) [(0,some q1)] 1 ?_;obtain⟨j1,hh,hk1⟩:=bind_some hh;refine Aw.join (S:=(List Int)) (λs1=>sp 29 [(5,sw 0 s1)]) (λs1=>[(0,some (rI_3 s1))]) 1 (λs1=>tL s1=some R_) ?_ ?_;{intro s1 hh;unfold tL at hh;refine sy [4] [0] (sp 29 [(4,sw 0 s1)]) [(0,some (rI_3 s1))] 1 (Aw.ret ?_);rw[bO hh];exact qR (r':=sw 0 s1) kr (Ent.list [some 0] rfl rfl (Nat.zero_le _) (lO aBa) (hn aX aY))};intro Q1 hN1 hR1 hE1;refine sy [0,5,9,10,11] [0] (sp 29 [z2,z5,z6,z4,(11,ii 0)]) [(0,some q1)] 1 (Aw.block ?_);obtain⟨o2,hi2,hk2⟩:=bind_some hh;refine Aw.iter (λ(s2:(List Int)×Int)=>sp 29 [(0,bo (eI .i64) x_words),(5,sw 0 s2.1),(9,bo eY x_pages),(10,ii ((x_pages.length:Nat):Int)),(11,ii s2.2)]) (λ(s2:(List Int)×Int)=>[(0,some (rI_3 s2.1))]) 1 hi2 (el [some 0] (fS kr (ro aX (rs (.sref 0 [] 0 (List.length (List.replicate (Int.toNat (64:Int)) (0:Int))) 1) (ro gU (ri (ri rA)))))) (hn aX aY)) ?_;intro s2 u2 Q2 hh hN2 hX2 hR2;let z7:EH:=(0,some (rI_3 s2.1));let z8:=(11,ii s2.2);let z9:=(12,bb (decide (s2.2<((x_pages.length:Nat):Int))));let z10:=(5,sw 0 s2.1);let z11:=(6,ii s2.2);let z1:=x_pages.getD s2.2.toNat default;let z12:=(18,bb (!decide (z1.Frame=(-1:Int))));unfold zB at hh;refine sy [0,5,9,10,11,12] [0] (sp 29 [z2,z10,z6,z4,z8,z9]) [z7] 1 (Aw.seq ?_);rcases aAe hh with⟨hb,hh⟩|⟨hb,hh⟩;{refine cF hb (Aw.exit (aJk (hX2 _ _ _ _ _ (bO hh) ?_)));intro hout;rw[hout]at hk2;refine aLs ?_;obtain rfl:=bO hk2;exact hN1 s2.1 _ _ _ hk1 (el [some 0] (fS kr (rs (sw 0 s2.1) rA)) (hn aX aY))};refine cT hb (Aw.xskip (λ_ _ _ hq=>fF hq) ?_);obtain⟨j3,hh,hk3⟩:=bind_some hh;refine Aw.join (S:=(List Int)) (λs3=>sp 29 [(0,bo (eI .i64) x_words),(5,sw 0 s3),(9,bo eY x_pages),(10,ii ((x_pages.length:Nat):Int)),(11,ii s2.2)]) (λs3=>[(0,some (rI_3 s3))]) 1 (λs3=>tK s2 s3=some u2) ?_ ?_;{intro s3 hh;unfold tK at hh;exact Aw.oreg (ye (sp 29 [z2,(5,sw 0 s3),z6,z4,(11,ii (w64 (s2.2+(1:Int)))),(27,ii (w64 (s2.2+(1:Int))))]) [(0,some (rI_3 s3))] 1 (hN2 (s3,w64 (s2.2+(1:Int))) _ _ _ (bO hh) (el [some 0] (fS kr (ro aX (rs (sw 0 s3) (ro gU (ri (ri rA)))))) (hn aX aY))))};intro Q3 hN3 hR3 hE3;refine Aw.block (Aw.sreg [0,5,6,7,9,10,11] [0,1] (yj 1  (sp 29 [z2,z10,z6,z4,z8,z9,(13,ii s2.2)]) [z7] 1 ?_));obtain⟨hg104,hh⟩:=aE hh;refine ys (.iadr 3 (.t 9) (.t 11)) (some 14) (aUm (kd:= .i64) (c:=eY) (xs:=x_pages) mC dd kr kr hg104 ?_);refine ys (.load true 3 (.t 14)) (some 15) (aWp (c:=eY) (xs:=x_pages) (o:=Int.toNat s2.2*3) (i:=s2.2.toNat) (off:=0) (v:= .agg [ii z1.Frame,bb z1.Write,bb z1.Dirty]) mC kr ltn ltn dd kr ?_);let q2:Root:=⟨91,[ii z1.Frame,bb z1.Write,bb z1.Dirty]⟩;let z13:=(1,some q2);refine yt (sp 29 [z2,z10,z11,(7,pp 1),z6,z4,z8]) [z7,z13] 2 (sy [0,5,6,7,9,10,11,18] [0,1] (sp 29 [z2,z10,z11,(7,pp 1),z6,z4,z8,z12]) [z7,z13] 2 ?_);rcases aAe hh with⟨hb,hh⟩|⟨hb,hh⟩;{refine cF hb (Aw.skip (aFo ?_));obtain rfl:=bO hh;exact hN3 s2.1 _ _ _ hk3 (el [some 0] (fS kr (ro aX (rs (sw 0 s2.1) (ro gU (ri (ri rA)))))) (hn aX aY))};refine cT hb (Aw.oregd [0] kr (dj 2 (sp 29 [z2,z10,z11,(7,pp 1),z6,z4,z8,z12,(19,sw 0 s2.1),(20,ii s2.2)]) [z7,z13] 2 ?_));obtain⟨v4,hv4,hh⟩:=bind_some hh;let z14:EH:=(0,some (rI_3 v4.1));let z15:EV:=(21,.sref 0 [] (0+v4.2.1*1) v4.2.2 1);obtain⟨hg107,hh⟩:=aE hh;obtain⟨hg108,hh⟩:=aE hh;refine ds (.call 151 [.t 19,.t 20]) (some 21) (uL rfl (cf (.sref 0 [] (0+v4.2.1*1) v4.2.2 1) [z14] 2 [0] (uY hv4) [sw 0 s2.1,ii s2.2] rz (hn aX aY) aBa (hn aX aY) ⟨⟨⟨by decide,aKl rfl rfl⟩,Hld.un ?_⟩⟩));refine dt (sp 29 [z2,z10,z11,(7,pp 1),z6,z4,z8,z12,(19,sw 0 s2.1),(20,ii s2.2),z15,(22,bo (eI .i64) x_words),(23,pp 1),(24,ii z1.Frame)]) [z14,(0,none),z7,z13] 2 ?_;obtain⟨v5,hv5,hh⟩:=bind_some hh;refine ys (.call 151 [.t 22,.t 24]) (some 25) (aNy (r:=bo (eI .i64) v5) (v:=bo (eI .i64) v5) (Hr:=[]) (n':=2) (aTc hv5) (gC (vs:=[bo (eI .i64) x_words,ii z1.Frame]) kr (dD (aD (cL (aM bJ))) (cz1 eK))) nrr kr ?_);let q3:Root:=(rI_3 (over v4.1 v4.2.1 v4.2.2 v5));refine ys (.cpy 1 (.t 21) (.t 25)) (some 26) (aIg (c:=(eI .i64)) (xs:=v4.1) (ys:=v5) (e:=3) (r:=0) (π:=[]) (o:=0+v4.2.1*1) (k:=v4.2.2) (i:=v4.2.1) (H':=[(0,some q3),z14,(0,none),z7,z13]) aV (rpv kr (aSh (c:=(eI .i64)) (xs:=v5) aV)) kr kr ltn ltn kr ?_);refine ye (sp 29 [z2,z10,z11,(7,pp 1),z6,z4,z8,z12,(19,sw 0 s2.1),(20,ii s2.2),z15,(22,bo (eI .i64) x_words),(23,pp 1),(24,ii z1.Frame),(25,bo (eI .i64) v5),(26,ii ((min v4.2.2 v5.length:Nat):Int))]) [(0,some q3),z14,(0,none),z7,z13] 2 (aFo ?_);obtain rfl:=bO hh;exact hN3 (over v4.1 v4.2.1 v4.2.2 v5) _ _ _ hk3 (el [some 0] (fS kr (ro aX (rs (sw 0 s2.1) (ro gU (ri (ri rA)))))) (hn aX aY))
noncomputable def bWj:Sg tG:=⟨[.row 3,.row 91],.one (.row 3),sJ⟩
theorem cAz:Sok 118 bWj:=λx_words x_pages R_ hh=>kc (aSd (x_words:=x_words) (x_pages:=x_pages) hh)
noncomputable def aHc (x_h:DHost)(x_g:Int):Option DBare:=
 grd ((0:Int)<=x_g/\x_g<((x_h.Guests.length:Nat):Int)) (Option.bind (sJ x_h.Words (x_h.Guests.getD x_g.toNat default).Pages) λv1=>
  some (DBare.mk (DCore.mk ((x_h.Guests.getD x_g.toNat default).C).Regs ((x_h.Guests.getD x_g.toNat default).C).Pc ((x_h.Guests.getD x_g.toNat default).C).Root ((x_h.Guests.getD x_g.toNat default).C).Vector ((x_h.Guests.getD x_g.toNat default).C).Saved ((x_h.Guests.getD x_g.toNat default).C).SavedUser ((x_h.Guests.getD x_g.toNat default).C).Cause ((x_h.Guests.getD x_g.toNat default).C).Bad ((x_h.Guests.getD x_g.toNat default).C).Timer ((x_h.Guests.getD x_g.toNat default).C).Waits ((x_h.Guests.getD x_g.toNat default).C).User ((x_h.Guests.getD x_g.toNat default).C).On ((x_h.Guests.getD x_g.toNat default).C).Stopped) v1 (x_h.Guests.getD x_g.toNat default).In (x_h.Guests.getD x_g.toNat default).Out))
noncomputable def g58:Sg tG:=⟨[.st 26,.i .i64],.one (.sb 41),aHc⟩
theorem s58:Sok 58 g58:=sgx [(118,.r bWj)] ⟨cAz,trivial⟩ .o kr kr kr
noncomputable def wJ (x_h:DHost)(x_g:Int):Option (DBare×Bool):=
 Option.bind (dL x_h x_g) λv1=>
 cond (!v1)
  (some ((DBare.mk (DCore.mk ([]:List Int) (0:Int) (0:Int) (0:Int) (0:Int) false (0:Int) (0:Int) (0:Int) false false false false) ([]:List Int) ([]:List Int) ([]:List Int)),false))
  (Option.bind (aHc x_h x_g) λv2=>
  Option.bind (gS v2) λv3=>
  some (v3,true))
noncomputable def g13:Sg tG:=⟨[.st 26,.i .i64],.two (.st 41) .b,wJ⟩
theorem s13:Sok 13 g13:=sgx [(56,.r g56),(58,.r g58),(57,.r g57)] ⟨s56,s58,s57,trivial⟩ .o kr kr kr
noncomputable def aGl  (s1:List Int):Option (List Int):=some s1
noncomputable def wC (s3:(List Int)×Int)(s4:List Int):Option (LO ((List Int)×Int) (JO (List Int) (List Int))):=some (.next (s4,w64 (s3.2+(1:Int))))
noncomputable def kY (v2:List Int)(s3:(List Int)×Int):Option (LO ((List Int)×Int) (JO (List Int) (List Int))):=
 cond (decide (s3.2<((v2.length:Nat):Int)))
  (Option.bind (grd ((0:Int)<=s3.2/\s3.2<((v2.length:Nat):Int)) (cond (decide ((v2.getD s3.2.toNat default)=(0:Int)))
   (grd ((s3.1.length+List.length ([s3.2]:List Int))*8<=2^47/\s3.1.length+List.length ([s3.2]:List Int)<=2^47) (some (.go (s3.1++([s3.2]:List Int)))))
   (some (.go s3.1)))) λj4=>
   JO.run j4 (wC s3))
  (some (.ret (.go s3.1)))
noncomputable def nQ (x_guests:List DGuest):Option (List Int):=
 Option.bind (Option.bind (fZ x_guests) λv2=>
  Option.bind (iter (kY v2) (([]:List Int),(0:Int))) LO.val) λj1=>
  JO.run j1 aGl
noncomputable def bVc:Sg tG:=⟨[.row 94],.one (.row 3),nQ⟩
theorem cCk:Sok 216 bVc:=sgx [(134,.r bJf)] ⟨bPt,trivial⟩ (.s .o (.s .o (.j ⟨[],[],[(.s 3,.ro 3)]⟩ (.s .o (.k (.l ⟨[8,9],[],[(.s 3,.ro 3),(.s 10,.i .i64)]⟩ (.s .o (.s .o (.j ⟨[8,9,10],[],[(.s 3,.ro 3)]⟩ .o .o)))))) .o))) kr kr kr
noncomputable def aBj  (s1:List Int):Option (List Int):=some s1
noncomputable def aBf (s2:(List Int)×Int)(s3:List Int):Option (LO ((List Int)×Int) (JO (List Int) (List Int))):=some (.next (s3,w64 (s2.2+(1:Int))))
noncomputable def uN (s4:(List Int)×Int)(s5:List Int):Option (LO ((List Int)×Int) (JO (List Int) (LO ((List Int)×Int) (JO (List Int) (List Int))))):=some (.next (s5,w64 (s4.2+(1:Int))))
noncomputable def lP (x_h:DHost)(s2:(List Int)×Int)(s4:(List Int)×Int):Option (LO ((List Int)×Int) (JO (List Int) (LO ((List Int)×Int) (JO (List Int) (List Int))))):=
 grd ((0:Int)<=s2.2/\s2.2<((x_h.Guests.length:Nat):Int)) (cond (decide (s4.2<((List.length (x_h.Guests.getD s2.2.toNat default).Pages:Nat):Int)))
  (Option.bind (grd ((0:Int)<=s2.2/\s2.2<((x_h.Guests.length:Nat):Int)) (grd ((0:Int)<=s4.2/\s4.2<((List.length (x_h.Guests.getD s2.2.toNat default).Pages:Nat):Int)) (cond (decide ((0:Int)<=(List.getD (x_h.Guests.getD s2.2.toNat default).Pages s4.2.toNat default).Frame))
   (grd ((0:Int)<=(List.getD (x_h.Guests.getD s2.2.toNat default).Pages s4.2.toNat default).Frame/\(List.getD (x_h.Guests.getD s2.2.toNat default).Pages s4.2.toNat default).Frame<((s4.1.length:Nat):Int)) (grd ((0:Int)<=(List.getD (x_h.Guests.getD s2.2.toNat default).Pages s4.2.toNat default).Frame/\(List.getD (x_h.Guests.getD s2.2.toNat default).Pages s4.2.toNat default).Frame<((s4.1.length:Nat):Int)) (some (.go (s4.1.set (Int.toNat (List.getD (x_h.Guests.getD s2.2.toNat default).Pages s4.2.toNat default).Frame) (w64 ((s4.1.getD (Int.toNat (List.getD (x_h.Guests.getD s2.2.toNat default).Pages s4.2.toNat default).Frame) default)+(1:Int))))))))
   (some (.go s4.1))))) λj5=>
   JO.run j5 (uN s4))
  (some (.ret (.go s4.1))))
noncomputable def pH (x_h:DHost)(s2:(List Int)×Int):Option (LO ((List Int)×Int) (JO (List Int) (List Int))):=
 cond (decide (s2.2<((x_h.Guests.length:Nat):Int)))
  (Option.bind (Option.bind (iter (lP x_h s2) (s2.1,(0:Int))) LO.val) λj3=>
   JO.run j3 (aBf s2))
  (some (.ret (.go s2.1)))
noncomputable def mN (x_h:DHost):Option (List Int):=
 Option.bind (Option.bind (iter (pH x_h) ((List.replicate (Int.toNat (20:Int)) (0:Int)),(0:Int))) LO.val) λj1=>
  JO.run j1 aBj
noncomputable def bSe:Sg tG:=⟨[.st 26],.one (.row 3),mN⟩
theorem bWp:Sok 115 bSe:=sgx [] trivial (.s .o (.s .o (.j ⟨[],[],[(.s 3,.ro 3)]⟩ (.s .o (.k (.l ⟨[1],[],[(.s 3,.ro 3),(.s 4,.i .i64)]⟩ (.s .o (.j ⟨[1,4],[],[(.s 3,.ro 3)]⟩ (.k (.s .o (.k (.l ⟨[1,4],[],[(.s 3,.ro 3),(.s 5,.i .i64)]⟩ (.s .o (.j ⟨[1,4,5],[],[(.s 3,.ro 3)]⟩ .o .o)))))) .o))))) .o))) kr kr kr
noncomputable def aJa  (s3:List Int):Option (List Int):=some s3
noncomputable def yM (s4:(List Int)×Int)(s5:List Int):Option (LO ((List Int)×Int) (JO (List Int) (List Int))):=some (.next (s5,w64 (s4.2+(1:Int))))
noncomputable def nH (v2:List Int)(s4:(List Int)×Int):Option (LO ((List Int)×Int) (JO (List Int) (List Int))):=
 cond (decide (s4.2<(20:Int)))
  (Option.bind (grd ((0:Int)<=s4.2/\s4.2<((v2.length:Nat):Int)) (cond (decide ((v2.getD s4.2.toNat default)=(0:Int)))
   (grd ((s4.1.length+List.length ([s4.2]:List Int))*8<=2^47/\s4.1.length+List.length ([s4.2]:List Int)<=2^47) (some (.go (s4.1++([s4.2]:List Int)))))
   (some (.go s4.1)))) λj5=>
   JO.run j5 (yM s4))
  (some (.ret (.go s4.1)))
noncomputable def mV (x_h:DHost):Option (List Int):=
 Option.bind (pX x_h) λv1=>
 cond (!v1)
  (some ([]:List Int))
  (Option.bind (mN x_h) λv2=>
  Option.bind (Option.bind (iter (nH v2) (([]:List Int),(0:Int))) LO.val) λj3=>
   JO.run j3 aJa)
noncomputable def bPb:Sg tG:=⟨[.st 26],.one (.row 3),mV⟩
theorem cAa:Sok 114 bPb:=sgx [(142,.r bSj),(115,.r bSe)] ⟨bXw,bWp,trivial⟩ (.s .o (.s .o (.s .o (.s .o (.j ⟨[],[],[(.s 3,.ro 3)]⟩ (.s .o (.k (.l ⟨[4],[],[(.s 3,.ro 3),(.s 5,.i .i64)]⟩ (.s .o (.j ⟨[4,5],[],[(.s 3,.ro 3)]⟩ .o .o))))) .o))))) kr kr kr
noncomputable def jE (x_pages:List DSlot):Option (List DSlot):=grd ((0:Int)<=((x_pages.length:Nat):Int)/\((x_pages.length:Nat):Int)*16<=2^47/\((x_pages.length:Nat):Int)<=2^47) (some (over (List.replicate (Int.toNat ((x_pages.length:Nat):Int)) (DSlot.mk (0:Int) false false)) 0 (List.length (List.replicate (Int.toNat ((x_pages.length:Nat):Int)) (DSlot.mk (0:Int) false false))) x_pages))
noncomputable def bQr:Sg tG:=⟨[.row 91],.one (.row 91),jE⟩
theorem bWk:Sok 150 bQr:=sgx [] trivial .o kr kr kr
noncomputable def iY (x_guest:DGuest):Option DGuest:=
 cond (!x_guest.Live)
  (some (DGuest.mk false (DCore.mk ([]:List Int) (0:Int) (0:Int) (0:Int) (0:Int) false (0:Int) (0:Int) (0:Int) false false false false) ([]:List DSlot) ([]:List Int) ([]:List Int)))
  (Option.bind (dA x_guest.C.Regs) λv1=>
  Option.bind (jE x_guest.Pages) λv2=>
  Option.bind (dA x_guest.In) λv3=>
  Option.bind (dA x_guest.Out) λv4=>
  some (DGuest.mk x_guest.Live (DCore.mk v1 x_guest.C.Pc x_guest.C.Root x_guest.C.Vector x_guest.C.Saved x_guest.C.SavedUser x_guest.C.Cause x_guest.C.Bad x_guest.C.Timer x_guest.C.Waits x_guest.C.User x_guest.C.On x_guest.C.Stopped) v2 v3 v4))
noncomputable def bZo:Sg tG:=⟨[.st 94],.one (.st 94),iY⟩
theorem cBs:Sok 201 bZo:=sgx [(117,.r aTw),(150,.r bQr)] ⟨bCn,bWk,trivial⟩ .o kr kr kr
noncomputable def aDc  (s1:List DGuest):Option (List DGuest):=some s1
noncomputable def fG (x_guests:List DGuest)(s2:(List DGuest)×Int):Option (LO ((List DGuest)×Int) (JO (List DGuest) (List DGuest))):=
 cond (decide (s2.2<((x_guests.length:Nat):Int)))
  (grd ((0:Int)<=s2.2/\s2.2<((x_guests.length:Nat):Int)) (Option.bind (iY (DGuest.mk (x_guests.getD s2.2.toNat default).Live (DCore.mk ((x_guests.getD s2.2.toNat default).C).Regs ((x_guests.getD s2.2.toNat default).C).Pc ((x_guests.getD s2.2.toNat default).C).Root ((x_guests.getD s2.2.toNat default).C).Vector ((x_guests.getD s2.2.toNat default).C).Saved ((x_guests.getD s2.2.toNat default).C).SavedUser ((x_guests.getD s2.2.toNat default).C).Cause ((x_guests.getD s2.2.toNat default).C).Bad ((x_guests.getD s2.2.toNat default).C).Timer ((x_guests.getD s2.2.toNat default).C).Waits ((x_guests.getD s2.2.toNat default).C).User ((x_guests.getD s2.2.toNat default).C).On ((x_guests.getD s2.2.toNat default).C).Stopped) (x_guests.getD s2.2.toNat default).Pages (x_guests.getD s2.2.toNat default).In (x_guests.getD s2.2.toNat default).Out)) λv3=>
   grd ((0:Int)<=s2.2/\s2.2<((s2.1.length:Nat):Int)) (some (.next ((s2.1.set s2.2.toNat v3),w64 (s2.2+(1:Int)))))))
  (some (.ret (.go s2.1)))
noncomputable def mF (x_guests:List DGuest):Option (List DGuest):=
 grd ((0:Int)<=((x_guests.length:Nat):Int)/\((x_guests.length:Nat):Int)*176<=2^47/\((x_guests.length:Nat):Int)<=2^47) (Option.bind (Option.bind (iter (fG x_guests) ((List.replicate (Int.toNat ((x_guests.length:Nat):Int)) (DGuest.mk false (DCore.mk ([]:List Int) (0:Int) (0:Int) (0:Int) (0:Int) false (0:Int) (0:Int) (0:Int) false false false false) ([]:List DSlot) ([]:List Int) ([]:List Int))),(0:Int))) LO.val) λj1=>
  JO.run j1 aDc)
noncomputable def bXi:Sg tG:=⟨[.row 94],.one (.row 1094),mF⟩
theorem cCx:Sok 169 bXi:=sgx [(201,.r bZo)] ⟨cBs,trivial⟩ (.s .o (.s (.g [] [] [.fo (.s 3) 0]) (.j ⟨[],[],[(.s 3,.ro 1094)]⟩ (.s .o (.k (.l ⟨[9,10],[],[(.s 3,.ro 1094),(.s 11,.i .i64)]⟩ (.s .o (.s .o (.s (.k (.s .o (.g [] [] [.fo (.s 3) 0]))) .o)))))) .o))) kr kr kr
noncomputable def oJ (x_g:DGuest):Option DGuest:=
 cond (!x_g.Live)
  (some (DGuest.mk false (DCore.mk ([]:List Int) (0:Int) (0:Int) (0:Int) (0:Int) false (0:Int) (0:Int) (0:Int) false false false false) ([]:List DSlot) ([]:List Int) ([]:List Int)))
  (Option.bind (mM x_g.C) λv1=>
  grd (x_g.Pages.length*16<=2^47/\x_g.Pages.length<=2^47) (grd (x_g.In.length*8<=2^47/\x_g.In.length<=2^47) (grd (x_g.Out.length*8<=2^47/\x_g.Out.length<=2^47) (some (DGuest.mk true v1 x_g.Pages x_g.In x_g.Out)))))
noncomputable def g69:Sg tG:=⟨[.st 94],.one (.st 94),oJ⟩
theorem s69:Sok 69 g69:=sgx [(132,.r bQd)] ⟨bVf,trivial⟩ .o kr kr kr
noncomputable def aOc (x_h:DHost)(s1:List DGuest):Option DHost:=some (DHost.mk (([]:List Int)++x_h.Words) s1)
noncomputable def pM (x_h:DHost)(s2:(List DGuest)×Int):Option (LO ((List DGuest)×Int) (JO (List DGuest) DHost)):=
 cond (decide (s2.2<((x_h.Guests.length:Nat):Int)))
  (grd ((0:Int)<=s2.2/\s2.2<((x_h.Guests.length:Nat):Int)) (Option.bind (oJ (DGuest.mk (x_h.Guests.getD s2.2.toNat default).Live (DCore.mk ((x_h.Guests.getD s2.2.toNat default).C).Regs ((x_h.Guests.getD s2.2.toNat default).C).Pc ((x_h.Guests.getD s2.2.toNat default).C).Root ((x_h.Guests.getD s2.2.toNat default).C).Vector ((x_h.Guests.getD s2.2.toNat default).C).Saved ((x_h.Guests.getD s2.2.toNat default).C).SavedUser ((x_h.Guests.getD s2.2.toNat default).C).Cause ((x_h.Guests.getD s2.2.toNat default).C).Bad ((x_h.Guests.getD s2.2.toNat default).C).Timer ((x_h.Guests.getD s2.2.toNat default).C).Waits ((x_h.Guests.getD s2.2.toNat default).C).User ((x_h.Guests.getD s2.2.toNat default).C).On ((x_h.Guests.getD s2.2.toNat default).C).Stopped) (x_h.Guests.getD s2.2.toNat default).Pages (x_h.Guests.getD s2.2.toNat default).In (x_h.Guests.getD s2.2.toNat default).Out)) λv3=>
   grd ((s2.1.length+1)*176<=2^47/\s2.1.length+1<=2^47) (some (.next ((s2.1++([v3]:List DGuest)),w64 (s2.2+(1:Int)))))))
  (some (.ret (.go s2.1)))
noncomputable def eM (x_h:DHost):Option DHost:=
 grd ((List.length ([]:List Int)+x_h.Words.length)*8<=2^47/\List.length ([]:List Int)+x_h.Words.length<=2^47) (Option.bind (Option.bind (iter (pM x_h) (([]:List DGuest),(0:Int))) LO.val) λj1=>
  JO.run j1 (aOc x_h))
noncomputable def aUo:Sg tG:=⟨[.st 26],.one (.st 2026),eM⟩
theorem bAg:Sok 103 aUo:=sgx [(69,.r g69)] ⟨s69,trivial⟩ (.s .o (.s .o (.j ⟨[2,3],[],[(.c 3 1,.ro 1094)]⟩ (.s .o (.k (.l ⟨[1,2,3],[],[(.c 3 1,.ro 1094),(.s 4,.i .i64)]⟩ (.s .o (.s (.k (.g [] [] [.fo (.c 3 1) 0])) .o))))) .o))) kr kr kr
noncomputable def aJm  (s1:Unit):Option Bool:=some true
noncomputable def jG (x_words:List Int)(s2:Int):Option (LO Int (JO Unit Bool)):=
 cond (decide (s2<((x_words.length:Nat):Int)))
  (grd ((0:Int)<=s2/\s2<((x_words.length:Nat):Int)) (cond (!decide ((x_words.getD s2.toNat default)=(0:Int)))
   (some (.ret (.out false)))
   (some (.next (w64 (s2+(1:Int)))))))
  (some (.ret (.go ())))
noncomputable def mT (x_words:List Int):Option Bool:=
 Option.bind (Option.bind (iter (jG x_words) (0:Int)) LO.val) λj1=>
  JO.run j1 aJm
noncomputable def cDq:Sg tG:=⟨[.row 3],.one .b,mT⟩
theorem cBb:Sok 152 cDq:=sgx [] trivial (.s .o (.j ⟨[],[],[]⟩ (.s .o (.k (.l ⟨[5,6],[],[(.s 7,.i .i64)]⟩ .o))) .o)) kr kr kr
theorem aPf{x_words:List Int}{R_:Bool}(hh:mT x_words=some R_):Fn Tryz.prog 152 [bo (eI .i64) x_words] (.bool R_):=kc (cBb x_words R_ hh)
noncomputable def aIf  (s2:List DSlot):Option (List DSlot):=some s2
noncomputable def jJ (v1:List DSlot)(s3:(List DSlot)×Int):Option (LO ((List DSlot)×Int) (JO (List DSlot) (List DSlot))):=
 cond (decide (s3.2<((v1.length:Nat):Int)))
  (grd ((0:Int)<=s3.2/\s3.2<((s3.1.length:Nat):Int)) (some (.next ((s3.1.set s3.2.toNat (DSlot.mk (s3.1.getD s3.2.toNat default).Frame (s3.1.getD s3.2.toNat default).Write false)),w64 (s3.2+(1:Int))))))
  (some (.ret (.go s3.1)))
noncomputable def qW (x_pages:List DSlot):Option (List DSlot):=
 Option.bind (jE x_pages) λv1=>
 Option.bind (Option.bind (iter (jJ v1) (v1,(0:Int))) LO.val) λj2=>
  JO.run j2 aIf
noncomputable def g99:Sg tG:=⟨[.row 91],.one (.row 91),qW⟩
theorem s99:Sok 99 g99:=sgx [(150,.r bQr)] ⟨bWk,trivial⟩ (.s .o (.s .o (.j ⟨[],[],[(.s 3,.ro 91)]⟩ (.s .o (.k (.l ⟨[8],[],[(.s 3,.ro 91),(.s 9,.i .i64)]⟩ .o))) .o))) kr kr kr
noncomputable def bZ (x_words:List Int)(x_s:DSlot):Option (List Int):=
 cond (decide (x_s.Frame=(-1:Int)))
  (some (List.replicate (Int.toNat (8:Int)) (0:Int)))
  (Option.bind (mL x_words x_s.Frame) λv1=>
  some v1)
noncomputable def bIh:Sg tG:=⟨[.row 3,.st 91],.one (.rb 3),bZ⟩
theorem bHh:Sok 100 bIh:=sgx [(151,.r bYd)] ⟨bZu,trivial⟩ .o kr kr kr
theorem aLz{x_words:List Int}{x_s:DSlot}{R_:(List Int)}(hh:bZ x_words x_s=some R_):Fn Tryz.prog 100 [bo (eI .i64) x_words,.agg (eY x_s)] (bo (eI .i64) R_):=kc (bHh x_words x_s R_ hh)
noncomputable def qC (x_h:DHost)(x_g:Int)(x_at:Int):Option Int:=
 grd ((0:Int)<=x_g/\x_g<((x_h.Guests.length:Nat):Int)) (grd ((0:Int)<=(w64 (Int.tdiv x_at (8:Int)))/\(w64 (Int.tdiv x_at (8:Int)))<((List.length (x_h.Guests.getD x_g.toNat default).Pages:Nat):Int)) (cond (decide ((List.getD (x_h.Guests.getD x_g.toNat default).Pages (Int.toNat (w64 (Int.tdiv x_at (8:Int)))) default).Frame<(0:Int)))
  (some (0:Int))
  (grd ((0:Int)<=(w64 ((w64 ((List.getD (x_h.Guests.getD x_g.toNat default).Pages (Int.toNat (w64 (Int.tdiv x_at (8:Int)))) default).Frame*(8:Int)))+(Int.tmod x_at (8:Int))))/\(w64 ((w64 ((List.getD (x_h.Guests.getD x_g.toNat default).Pages (Int.toNat (w64 (Int.tdiv x_at (8:Int)))) default).Frame*(8:Int)))+(Int.tmod x_at (8:Int))))<((x_h.Words.length:Nat):Int)) (some (x_h.Words.getD (Int.toNat (w64 ((w64 ((List.getD (x_h.Guests.getD x_g.toNat default).Pages (Int.toNat (w64 (Int.tdiv x_at (8:Int)))) default).Frame*(8:Int)))+(Int.tmod x_at (8:Int))))) default)))))
noncomputable def bQk:Sg tG:=⟨[.st 26,.i .i64,.i .i64],.one (.i .i64),qC⟩
theorem bWt:Sok 113 bQk:=sgx [] trivial .o kr kr kr
noncomputable def oU (x_w:Int):Option DEntry:=
 Option.bind (gZ x_w) λv1=>
 cond (!v1)
  (some (DEntry.mk false false false (0:Int)))
  (some (DEntry.mk (decide ((Int.tmod x_w (2:Int))=(1:Int))) (decide ((Int.tmod (w64 (Int.tdiv x_w (2:Int))) (2:Int))=(1:Int))) (decide ((Int.tmod (w64 (Int.tdiv x_w (4:Int))) (2:Int))=(1:Int))) (Int.tmod (w64 (Int.tdiv x_w (8:Int))) (8:Int))))
noncomputable def bWu:Sg tG:=⟨[.i .i64],.one (.st 181),oU⟩
theorem cBe:Sok 157 bWu:=sgx [(158,.r bCh)] ⟨bHa,trivial⟩ .o kr kr kr
noncomputable def aKe  (s2:List DShade):Option (List DShade):=some s2
noncomputable def rH (x_h:DHost)(x_g:Int)(s3:(List DShade)×Int)(s4:Bool×Bool×Bool×Int):Option (LO ((List DShade)×Int) (JO (List DShade) (List DShade))):=grd ((0:Int)<=x_g/\x_g<((x_h.Guests.length:Nat):Int)) (grd ((0:Int)<=s4.2.2.2/\s4.2.2.2<((List.length (x_h.Guests.getD x_g.toNat default).Pages:Nat):Int)) (grd ((s3.1.length+List.length ([DShade.mk s4.1 s4.2.1 s4.2.2.1 s4.2.2.2 (List.getD (x_h.Guests.getD x_g.toNat default).Pages s4.2.2.2.toNat default).Frame (List.getD (x_h.Guests.getD x_g.toNat default).Pages s4.2.2.2.toNat default).Write]:List DShade))*32<=2^47/\s3.1.length+List.length ([DShade.mk s4.1 s4.2.1 s4.2.2.1 s4.2.2.2 (List.getD (x_h.Guests.getD x_g.toNat default).Pages s4.2.2.2.toNat default).Frame (List.getD (x_h.Guests.getD x_g.toNat default).Pages s4.2.2.2.toNat default).Write]:List DShade)<=2^47) (some (.next ((s3.1++([DShade.mk s4.1 s4.2.1 s4.2.2.1 s4.2.2.2 (List.getD (x_h.Guests.getD x_g.toNat default).Pages s4.2.2.2.toNat default).Frame (List.getD (x_h.Guests.getD x_g.toNat default).Pages s4.2.2.2.toNat default).Write]:List DShade)),w64 (s3.2+(1:Int)))))))
noncomputable def nI (x_h:DHost)(x_g:Int)(s3:(List DShade)×Int):Option (LO ((List DShade)×Int) (JO (List DShade) (List DShade))):=
 cond (decide (s3.2<(8:Int)))
  (Option.bind (grd ((0:Int)<=x_g/\x_g<((x_h.Guests.length:Nat):Int)) (cond (decide ((0:Int)<=((x_h.Guests.getD x_g.toNat default).C).Root))
   (Option.bind (qC x_h x_g (w64 ((w64 (((x_h.Guests.getD x_g.toNat default).C).Root*(8:Int)))+s3.2))) λv5=>
   Option.bind (oU v5) λv6=>
   some (.go (v6.There,v6.Write,v6.User,v6.Page)))
   (some (.go (true,true,true,s3.2))))) λj4=>
   JO.run j4 (rH x_h x_g s3))
  (some (.ret (.go s3.1)))
noncomputable def jN (x_h:DHost)(x_g:Int):Option (List DShade):=
 Option.bind (dW x_h x_g) λv1=>
 cond (!v1)
  (some ([]:List DShade))
  (Option.bind (Option.bind (iter (nI x_h x_g) (([]:List DShade),(0:Int))) LO.val) λj2=>
   JO.run j2 aKe)
noncomputable def bQl:Sg tG:=⟨[.st 26,.i .i64],.one (.row 147),jN⟩
theorem bVw:Sok 106 bQl:=sgx [(102,.r aJz),(113,.r bQk),(157,.r bWu)] ⟨aOu,bWt,cBe,trivial⟩ (.s .o (.s .o (.s .o (.j ⟨[],[],[(.s 5,.ro 147)]⟩ (.s .o (.k (.l ⟨[1,2],[],[(.s 5,.ro 147),(.s 6,.i .i64)]⟩ (.s .o (.s (.k (.s .o (.j ⟨[1,2,5,6,7],[],[(.c 7 0,.b),(.c 7 1,.b),(.c 7 2,.b),(.c 7 3,.i .i64)]⟩ .o .o))) .o))))) .o)))) kr kr kr
noncomputable def lQ (x_w:Int):Option DEntry:=
 Option.bind (fN x_w) λv1=>
 cond (!v1)
  (some (DEntry.mk false false false (0:Int)))
  (some (DEntry.mk (decide ((Int.tmod (w64 (Int.tdiv x_w (1:Int))) (2:Int))=(1:Int))) (decide ((Int.tmod (w64 (Int.tdiv x_w (2:Int))) (2:Int))=(1:Int))) (decide ((Int.tmod (w64 (Int.tdiv x_w (4:Int))) (2:Int))=(1:Int))) (Int.tmod (w64 (Int.tdiv x_w (8:Int))) (8:Int))))
noncomputable def bPj:Sg tG:=⟨[.i .i64],.one (.st 181),lQ⟩
theorem bZl:Sok 164 bPj:=sgx [(55,.r g55)] ⟨s55,trivial⟩ .o kr kr kr
noncomputable def sP (x_h:DHost)(x_g:Int)(x_number:Int):Option DEntry:=
 grd ((0:Int)<=x_g/\x_g<((x_h.Guests.length:Nat):Int)) (cond (decide (((x_h.Guests.getD x_g.toNat default).C).Root=(-1:Int)))
  (some (DEntry.mk true true true x_number))
  (grd ((0:Int)<=((x_h.Guests.getD x_g.toNat default).C).Root/\((x_h.Guests.getD x_g.toNat default).C).Root<((List.length (x_h.Guests.getD x_g.toNat default).Pages:Nat):Int)) (Option.bind (bZ x_h.Words (DSlot.mk (List.getD (x_h.Guests.getD x_g.toNat default).Pages (Int.toNat ((x_h.Guests.getD x_g.toNat default).C).Root) default).Frame (List.getD (x_h.Guests.getD x_g.toNat default).Pages (Int.toNat ((x_h.Guests.getD x_g.toNat default).C).Root) default).Write (List.getD (x_h.Guests.getD x_g.toNat default).Pages (Int.toNat ((x_h.Guests.getD x_g.toNat default).C).Root) default).Dirty)) λv1=>
   grd ((0:Int)<=x_number/\x_number<((v1.length:Nat):Int)) (Option.bind (lQ (v1.getD x_number.toNat default)) λv2=>
    some v2))))
noncomputable def bZq:Sg tG:=⟨[.st 26,.i .i64,.i .i64],.one (.st 181),sP⟩
theorem cDi:Sok 227 bZq:=sgx [(100,.r bIh),(164,.r bPj)] ⟨bHh,bZl,trivial⟩ .o kr kr kr
noncomputable def rV (x_h:DHost)(x_g:Int)(x_number:Int):Option DShade:=
 Option.bind (sP x_h x_g x_number) λv1=>
 grd ((0:Int)<=x_g/\x_g<((x_h.Guests.length:Nat):Int)) (grd ((0:Int)<=v1.Page/\v1.Page<((List.length (x_h.Guests.getD x_g.toNat default).Pages:Nat):Int)) (some (DShade.mk v1.There v1.Write v1.User v1.Page (List.getD (x_h.Guests.getD x_g.toNat default).Pages v1.Page.toNat default).Frame (List.getD (x_h.Guests.getD x_g.toNat default).Pages v1.Page.toNat default).Write)))
noncomputable def bZj:Sg tG:=⟨[.st 26,.i .i64,.i .i64],.one (.st 147),rV⟩
theorem cCd:Sok 225 bZj:=sgx [(227,.r bZq)] ⟨cDi,trivial⟩ .o kr kr kr
noncomputable def cH (x_h:DHost):Option DHost:=
 Option.bind (dA x_h.Words) λv1=>
 Option.bind (mF x_h.Guests) λv2=>
 some (DHost.mk v1 v2)
noncomputable def aOx:Sg tG:=⟨[.st 26],.one (.st 2026),cH⟩
theorem aPj:Sok 131 aOx:=sgx [(117,.r aTw),(169,.r bXi)] ⟨bCn,cCx,trivial⟩ .o kr kr kr
theorem aIx{x_h:DHost}{R_:DHost}(hh:cH x_h=some R_):Fn Tryz.prog 131 [.agg (mI x_h)] (.agg [.own 3 1 R_.Words.length (fl (eI .i64) R_.Words),.own 94 17 R_.Guests.length (fl bE R_.Guests)]):=kc (aPj x_h R_ hh)
theorem aPm:LW 192 ⟨44,[.cell 8 true 2],.seq (.reg false (rg 192 0)) (.seq (.reg false (rg 192 1)) (.seq (.reg false (rg 192 2)) (.seq (.regd (rg 192 3) (rg 192 4)) (.seq (.regt (rg 192 5) (rg 192 6)) (.seq (.reg false (rg 192 7)) .ret)))))⟩:=kr
noncomputable def iH (x_h:DHost)(x_g:Int)(x_page:Int)(x_frame:Int):Option DHost:=
 Option.bind (cH x_h) λv1=>
 grd ((0:Int)<=x_g/\x_g<((x_h.Guests.length:Nat):Int)) (grd ((0:Int)<=x_page/\x_page<((List.length (x_h.Guests.getD x_g.toNat default).Pages:Nat):Int)) (Option.bind (gQ v1.Words x_frame) λv2=>
  grd (v2.1.length=v1.Words.length) (grd (v2.2.1+v2.2.2<=v2.1.length) (Option.bind (bZ x_h.Words (DSlot.mk (List.getD (x_h.Guests.getD x_g.toNat default).Pages x_page.toNat default).Frame (List.getD (x_h.Guests.getD x_g.toNat default).Pages x_page.toNat default).Write (List.getD (x_h.Guests.getD x_g.toNat default).Pages x_page.toNat default).Dirty)) λv3=>
   grd ((0:Int)<=x_g/\x_g<((v1.Guests.length:Nat):Int)) (grd ((0:Int)<=x_page/\x_page<((List.length (v1.Guests.getD x_g.toNat default).Pages:Nat):Int)) (some (DHost.mk (over v2.1 v2.2.1 v2.2.2 v3) (v1.Guests.set x_g.toNat (DGuest.mk (v1.Guests.getD x_g.toNat default).Live (DCore.mk ((v1.Guests.getD x_g.toNat default).C).Regs ((v1.Guests.getD x_g.toNat default).C).Pc ((v1.Guests.getD x_g.toNat default).C).Root ((v1.Guests.getD x_g.toNat default).C).Vector ((v1.Guests.getD x_g.toNat default).C).Saved ((v1.Guests.getD x_g.toNat default).C).SavedUser ((v1.Guests.getD x_g.toNat default).C).Cause ((v1.Guests.getD x_g.toNat default).C).Bad ((v1.Guests.getD x_g.toNat default).C).Timer ((v1.Guests.getD x_g.toNat default).C).Waits ((v1.Guests.getD x_g.toNat default).C).User ((v1.Guests.getD x_g.toNat default).C).On ((v1.Guests.getD x_g.toNat default).C).Stopped) (List.set (v1.Guests.getD x_g.toNat default).Pages x_page.toNat (DSlot.mk x_frame true (List.getD (x_h.Guests.getD x_g.toNat default).Pages x_page.toNat default).Dirty)) (v1.Guests.getD x_g.toNat default).In (v1.Guests.getD x_g.toNat default).Out)))))))))
theorem aQk{x_h:DHost}{x_g:Int}{x_page:Int}{x_frame:Int}{R_:DHost}(hh:iH x_h x_g x_page x_frame=some R_):Fn Tryz.prog 192 [.agg (mI x_h),.int .i64 x_g,.int .i64 x_page,.int .i64 x_frame] (.agg [.own 3 1 R_.Words.length (fl (eI .i64) R_.Words),.own 94 17 R_.Guests.length (fl bE R_.Guests)]):=by let z7:EH:=(0,some (rB26 x_h));let z8:=(1,ii x_g);let z9:EH:=(1,some ⟨26,[.nil,.nil]⟩);let z10:=(10,pp 5);let z11:=(2,ii x_page);let z12:=(3,ii x_frame);let z13:EV:=(34,.ptr 3 [] (0+x_g.toNat*17));let z14:EV:=(35,.ptr 3 [] (0+x_g.toNat*17+14));let z15:=(8,pp 1);let z16:=(9,pp 4);let z1:=x_h.Guests.getD x_g.toNat default;let z3:=List.getD z1.Pages x_page.toNat default;let z4:=DSlot.mk x_frame true z3.Dirty;unfold iH at hh;refine Fn.start aPm [0,1,2,3] (E:=sp 44 [(0,.agg (mI x_h)),z8,z11,z12]) kr (v:= .agg [sw 0 R_.Words,.sref 1 [] 0 R_.Guests.length 17]) (Hr:=[(1,some (rO94 R_.Guests)),(0,some (rI_3 R_.Words))]) (k:=2) kr (sy [1,2,3,4,8] [0,1] (sp 44 [z8,z11,z12,(4,pp 0),z15]) [z7,z9] 2 (Aw.sreg [1,2,3,4,8,9] [0,1,2,3,4] (yu 1 [(11,.agg (mI x_h))] [z7,z9] 2 ?_)));obtain⟨v1,hv1,hh⟩:=bind_some hh;let z17:EV:=(32,.sref 3 [] 0 v1.Guests.length 17);let z2:=v1.Guests.getD x_g.toNat default;let z5:=List.set z2.Pages x_page.toNat z4;let z6:=DGuest.mk z2.Live z2.C z5 z2.In z2.Out;let q1:Root:=(rO94 v1.Guests);let z18:=(3,some q1);let q2:Root:=(rI_3 v1.Words);let z19:=(2,some q2);refine ys (.call 131 [.t 11]) (some 12) (dI (r:= .agg [.own 3 1 v1.Words.length (fl (eI .i64) v1.Words),.own 94 17 v1.Guests.length (fl bE v1.Guests)]) (v:= .agg [sw 2 v1.Words,.sref 3 [] 0 v1.Guests.length 17]) (Hr:=[z18,z19]) (n':=4) (aIx hv1) (gC (vs:=[.agg (mI x_h)]) kr (dD (aD (aKa (zY _))) eK)) nrr nrr kr ?_);let q3:Root:=⟨26,[sw 2 v1.Words,.sref 3 [] 0 v1.Guests.length 17]⟩;let z20:=(4,some q3);refine yt (sp 44 [z8,z11,z12,(4,pp 0),z15,z16]) [z7,z9,z19,z18,z20] 5 (Aw.sreg [1,2,3,4,8,9,10] [0,1,2,3,4,5] (yu 3 [(13,.ptr 0 [] 1),(14,bo dC x_h.Guests),(15,ii x_g)] [z7,z9,z19,z18,z20] 5 ?_));obtain⟨hg3,hh⟩:=aE hh;refine ys (.iadr 17 (.t 14) (.t 15)) (some 16) (aUm (kd:= .i64) (c:=dC) (xs:=x_h.Guests) aZe dd kr kr hg3 ?_);refine yu 1 [(16,.bptr (fl dC x_h.Guests) (Int.toNat x_g*17)),(17,.bptr (fl dC x_h.Guests) (Int.toNat x_g*17+14))] [z7,z9,z19,z18,z20] 5 (ys (.load false 1 (.t 17)) (some 18) (bPx (c:=dC) (xs:=x_h.Guests) (o:=Int.toNat x_g*17+14) (i:=x_g.toNat) (off:=14) (v:=bo eY z1.Pages) aZe kr ltn ltn dd kr ?_));refine yu 1 [(18,bo eY z1.Pages),(19,ii x_page)] [z7,z9,z19,z18,z20] 5 ?_;obtain⟨hg4,hh⟩:=aE hh;refine ys (.iadr 3 (.t 18) (.t 19)) (some 20) (aUm (kd:= .i64) (c:=eY) (xs:=z1.Pages) mC dd kr kr hg4 ?_);refine ys (.load true 3 (.t 20)) (some 21) (aWp (c:=eY) (xs:=z1.Pages) (o:=Int.toNat x_page*3) (i:=x_page.toNat) (off:=0) (v:= .agg [ii z3.Frame,bb z3.Write,bb z3.Dirty]) mC kr ltn ltn dd kr ?_);let q4:Root:=⟨91,[ii z3.Frame,bb z3.Write,bb z3.Dirty]⟩;let z21:=(5,some q4);refine yt (sp 44 [z8,z11,z12,(4,pp 0),z15,z16,z10]) [z7,z9,z19,z18,z20,z21] 6 (Aw.sregd [1,2,3,8,9,10] [1,2,3,4,5] [2] kr (dj 3 (sp 44 [z8,z11,z12,(4,pp 0),z15,z16,z10,(22,pp 4),(23,sw 2 v1.Words),(24,ii x_frame)]) [z7,z9,z19,z18,z20,z21] 6 ?_));obtain⟨v2,hv2,hh⟩:=bind_some hh;let z22:EH:=(2,some (rI_3 v2.1));obtain⟨hg7,hh⟩:=aE hh;obtain⟨hg8,hh⟩:=aE hh;refine ds (.call 151 [.t 23,.t 24]) (some 25) (uL rfl (cf (.sref 2 [] (0+v2.2.1*1) v2.2.2 1) [z22] 6 [2] (uY hv2) [sw 2 v1.Words,ii x_frame] rz (hn aX aY) aBa (hn aX aY) ⟨⟨⟨by decide,aKl rfl rfl⟩,Hld.un ?_⟩⟩));refine dt (sp 44 [z8,z11,z12,(4,pp 0),z15,z16,z10,(22,pp 4),(23,sw 2 v1.Words),(24,ii x_frame),(25,.sref 2 [] (0+v2.2.1*1) v2.2.2 1),(26,pp 0),(27,bo (eI .i64) x_h.Words),(28,.agg [ii z3.Frame,bb z3.Write,bb z3.Dirty])]) [z22,(2,none),z7,z9,z19,z18,z20,z21] 6 ?_;obtain⟨v3,hv3,hh⟩:=bind_some hh;refine ys (.call 100 [.t 27,.t 28]) (some 29) (aNy (r:=bo (eI .i64) v3) (v:=bo (eI .i64) v3) (Hr:=[]) (n':=6) (aLz hv3) (gC (vs:=[bo (eI .i64) x_h.Words,.agg [ii z3.Frame,bb z3.Write,bb z3.Dirty]]) kr (dD (aD (cL (aM bJ))) (cz1 eK))) nrr kr ?_);let q5:Root:=(rI_3 (over v2.1 v2.2.1 v2.2.2 v3));let z23:=(2,some q5);refine ys (.cpy 1 (.t 25) (.t 29)) (some 30) (aIg (c:=(eI .i64)) (xs:=v2.1) (ys:=v3) (e:=3) (r:=2) (π:=[]) (o:=0+v2.2.1*1) (k:=v2.2.2) (i:=v2.2.1) (H':=[z23,z22,(2,none),z7,z9,z19,z18,z20,z21]) aV (rpv kr (aSh (c:=(eI .i64)) (xs:=v3) aV)) kr kr ltn ltn kr ?_);refine yt (sp 44 [z8,z11,z12,z15,z16,z10]) [z9,z23,z18,z20,z21] 6 (Aw.sregt [8,9] [1,2,3,4] ?_);obtain⟨hg12,hh⟩:=aE hh;refine qc (cs:=[(0:Int)<=x_g/\x_g<((v1.Guests.length:Nat):Int)]) (E':=(sp 44 [z8,z11,z12,z15,z16,z10,(31,.ptr 4 [] 1),z17,(33,ii x_g),z13,z14])) (pre:=(List.take 5 (rg 192 5))) (L':=(List.drop 5 (rg 192 5))) kr (λK=>by kernel_rfl) (.cons hg12 .nil) (qs (.load false 1 (.t 35)) (some 36) (cCj rfl (aKv (c:=bE) (xs:=v1.Guests) (e:=94) (r:=3) (π:=[]) (o:=0+x_g.toNat*17+14) (i:=x_g.toNat) (off:=14) (v:= .sref 3 [0+x_g.toNat*17+14+0] 0 (List.length z2.Pages) 3) aL kr kr ltn ltn dd kr ?_)));obtain⟨hg11,hh⟩:=aE hh;refine qtt (cs:=[(0:Int)<=x_page/\x_page<((List.length z2.Pages:Nat):Int)]) (E':=(sp 44 [z8,z11,z12,z15,z16,z10,(31,.ptr 4 [] 1),z17,(33,ii x_g),z13,z14,(36,.sref 3 [0+x_g.toNat*17+14+0] 0 (List.length z2.Pages) 3),(37,ii x_page),(38,ii x_frame),(39,.ptr 5 [] 2),(40,bb z3.Dirty),(41,.agg [ii x_frame,bb true,bb z3.Dirty]),(42,.ptr 3 [0+x_g.toNat*17+14+0] (0+x_page.toNat*3))])) (λK=>by kernel_rfl) (.cons hg11 .nil) ?_;let q6:Root:=(rO94 (v1.Guests.set x_g.toNat z6));refine ys (.store 3 (.t 42) (.t 41)) none (wV (c:=eY) (xs:=z2.Pages) (e:=91) (r:=3) (π:=[0+x_g.toNat*17+14+0]) (o:=0+x_page.toNat*3) (i:=x_page.toNat) (off:=0) (vs:=[ii x_frame,bb true,bb z3.Dirty]) (y:=z4) (H':=[(3,some q6),z9,z23,z18,z20,z21]) mC kr kr kr (aEq (e:=94) (e':=91) (sz':=3) (m':=(List.length z2.Pages)) (cs':=(fl eY z2.Pages)) (c:=bE) (xs:=v1.Guests) (i:=x_g.toNat) (off:=14) aL kr ltn ltn dd rfl kr) ltn ltn dd kr (bKw (e:=94) (e':=91) (sz':=3) (m':=(List.length z2.Pages)) (cs':=(fl eY z2.Pages)) (ds:=(fl eY z5)) (c:=bE) (xs:=v1.Guests) (i:=x_g.toNat) (off:=14) (y:=z6) (m2:=z5.length) aL kr ltn ltn dd rfl kr eqn kr rfl kr) ?_);refine yt (sp 44 [z15,z16]) [z9,z23,(3,some q6),z20] 6 (sy [8] [1,2,3] (sp 44 [z15]) [(1,some q3),z23,(3,some q6)] 6 (Aw.ret ?_));rw[bO hh];exact qR (r':= .agg [sw 2 v1.Words,.sref 3 [] 0 v1.Guests.length 17]) kr (Ent.list [some 2,some 3] rfl rfl (Nat.zero_le _) (lO (rU rz)) (hn cJ (hn aX aY)))
noncomputable def bPp:Sg tG:=⟨[.st 26,.i .i64,.i .i64,.i .i64],.one (.st 2026),iH⟩
theorem bXx:Sok 192 bPp:=λx_h x_g x_page x_frame R_ hh=>kc (aQk (x_h:=x_h) (x_g:=x_g) (x_page:=x_page) (x_frame:=x_frame) hh)
noncomputable def jA (x_h:DHost)(x_g:Int)(x_page:Int):Option (DHost×Bool):=
 Option.bind (nQ x_h.Guests) λv1=>
 cond (decide (((v1.length:Nat):Int)=(0:Int)))
  (some ((DHost.mk ([]:List Int) ([]:List DGuest)),false))
  (grd ((0:Int)<=(0:Int)/\(0:Int)<((v1.length:Nat):Int)) (Option.bind (iH x_h x_g x_page (v1.getD 0 default)) λv2=>
   some (v2,true)))
noncomputable def bPy:Sg tG:=⟨[.st 26,.i .i64,.i .i64],.two (.st 2026) .b,jA⟩
theorem bXd:Sok 191 bPy:=sgx [(216,.r bVc),(192,.r bPp)] ⟨cCk,bXx,trivial⟩ .o kr kr kr
noncomputable def jO (x_h:DHost)(x_g:Int)(x_page:Int):Option (DHost×Bool):=
 Option.bind (dL x_h x_g) λv1=>
 cond (!v1)
  (some ((DHost.mk ([]:List Int) ([]:List DGuest)),false))
  (Option.bind (fO x_page) λv2=>
  cond (!v2)
   (some ((DHost.mk ([]:List Int) ([]:List DGuest)),false))
   (grd ((0:Int)<=x_g/\x_g<((x_h.Guests.length:Nat):Int)) (grd ((0:Int)<=x_page/\x_page<((List.length (x_h.Guests.getD x_g.toNat default).Pages:Nat):Int)) (cond (!decide ((List.getD (x_h.Guests.getD x_g.toNat default).Pages x_page.toNat default).Frame=(-1:Int)))
    (Option.bind (cH x_h) λv3=>
    some (v3,true))
    (Option.bind (jA x_h x_g x_page) λv4=>
    some (v4.1,v4.2))))))
noncomputable def bXo:Sg tG:=⟨[.st 26,.i .i64,.i .i64],.two (.st 2026) .b,jO⟩
theorem bYq:Sok 154 bXo:=sgx [(56,.r g56),(46,.r g46),(131,.r aOx),(191,.r bPy)] ⟨s56,s46,aPj,bXd,trivial⟩ .o kr kr kr
theorem aPw{x_h:DHost}{x_g:Int}{x_page:Int}{R_:DHost×Bool}(hh:jO x_h x_g x_page=some R_):Fn Tryz.prog 154 [.agg (mI x_h),.int .i64 x_g,.int .i64 x_page] (.tup [.agg [.own 3 1 R_.1.Words.length (fl (eI .i64) R_.1.Words),.own 94 17 R_.1.Guests.length (fl bE R_.1.Guests)],.bool R_.2]):=kc (bYq x_h x_g x_page R_ hh)
noncomputable def yL (x_g:Int)(x_page:Int)(v3:DHost)(v4:List Int)(s5:List Int):Option (DHost×Bool):=grd ((0:Int)<=x_g/\x_g<((v3.Guests.length:Nat):Int)) (grd ((0:Int)<=(0:Int)/\(0:Int)<((v4.length:Nat):Int)) (grd ((0:Int)<=x_page/\x_page<((List.length (v3.Guests.getD x_g.toNat default).Pages:Nat):Int)) (some ((DHost.mk s5 (v3.Guests.set x_g.toNat (DGuest.mk (v3.Guests.getD x_g.toNat default).Live (DCore.mk ((v3.Guests.getD x_g.toNat default).C).Regs ((v3.Guests.getD x_g.toNat default).C).Pc ((v3.Guests.getD x_g.toNat default).C).Root ((v3.Guests.getD x_g.toNat default).C).Vector ((v3.Guests.getD x_g.toNat default).C).Saved ((v3.Guests.getD x_g.toNat default).C).SavedUser ((v3.Guests.getD x_g.toNat default).C).Cause ((v3.Guests.getD x_g.toNat default).C).Bad ((v3.Guests.getD x_g.toNat default).C).Timer ((v3.Guests.getD x_g.toNat default).C).Waits ((v3.Guests.getD x_g.toNat default).C).User ((v3.Guests.getD x_g.toNat default).C).On ((v3.Guests.getD x_g.toNat default).C).Stopped) (List.set (v3.Guests.getD x_g.toNat default).Pages x_page.toNat (DSlot.mk (v4.getD 0 default) true false)) (v3.Guests.getD x_g.toNat default).In (v3.Guests.getD x_g.toNat default).Out))),true))))
noncomputable def iW (v4:List Int)(s6:(List Int)×Int):Option (LO ((List Int)×Int) (JO (List Int) (DHost×Bool))):=
 cond (decide (s6.2<(8:Int)))
  (grd ((0:Int)<=(0:Int)/\(0:Int)<((v4.length:Nat):Int)) (grd ((0:Int)<=(w64 ((w64 ((v4.getD 0 default)*(8:Int)))+s6.2))/\(w64 ((w64 ((v4.getD 0 default)*(8:Int)))+s6.2))<((s6.1.length:Nat):Int)) (some (.next ((s6.1.set (Int.toNat (w64 ((w64 ((v4.getD 0 default)*(8:Int)))+s6.2))) (0:Int)),w64 (s6.2+(1:Int)))))))
  (some (.ret (.go s6.1)))
noncomputable def gF (x_h:DHost)(x_g:Int)(x_page:Int):Option (DHost×Bool):=
 Option.bind (dW x_h x_g) λv1=>
 cond (!v1)
  (some ((DHost.mk ([]:List Int) ([]:List DGuest)),false))
  (Option.bind (cI x_page (0:Int) (7:Int)) λv2=>
  cond (!v2)
   (some ((DHost.mk ([]:List Int) ([]:List DGuest)),false))
   (Option.bind (eM x_h) λv3=>
   grd ((0:Int)<=x_g/\x_g<((x_h.Guests.length:Nat):Int)) (grd ((0:Int)<=x_page/\x_page<((List.length (x_h.Guests.getD x_g.toNat default).Pages:Nat):Int)) (cond (decide ((0:Int)<=(List.getD (x_h.Guests.getD x_g.toNat default).Pages x_page.toNat default).Frame))
    (some (v3,true))
    (Option.bind (mV x_h) λv4=>
    cond (decide (((v4.length:Nat):Int)=(0:Int)))
     (some ((DHost.mk ([]:List Int) ([]:List DGuest)),false))
     (Option.bind (Option.bind (iter (iW v4) (v3.Words,(0:Int))) LO.val) λj5=>
      JO.run j5 (yL x_g x_page v3 v4)))))))
noncomputable def g53:Sg tG:=⟨[.st 26,.i .i64,.i .i64],.two (.st 2026) .b,gF⟩
theorem s53:Sok 53 g53:=sgx [(102,.r aJz),(51,.r g51),(103,.r aUo),(114,.r bPb)] ⟨aOu,s51,bAg,cAa,trivial⟩ (.s .o (.s .o (.s .o (.s .o (.s .o (.s .o (.j ⟨[1,2,6,8,9],[],[(.c 8 0,.ro 3)]⟩ (.s .o (.k (.l ⟨[1,2,6,8,9],[],[(.c 8 0,.ro 3),(.s 10,.i .i64)]⟩ .o))) .o))))))) kr kr kr
noncomputable def jS (x_h:DHost)(x_g:Int)(x_page:Int):Option (DHost×Bool):=
 Option.bind (dL x_h x_g) λv1=>
 cond (!v1)
  (some ((DHost.mk ([]:List Int) ([]:List DGuest)),false))
  (Option.bind (fO x_page) λv2=>
  cond (!v2)
   (some ((DHost.mk ([]:List Int) ([]:List DGuest)),false))
   (grd ((0:Int)<=x_g/\x_g<((x_h.Guests.length:Nat):Int)) (grd ((0:Int)<=x_page/\x_page<((List.length (x_h.Guests.getD x_g.toNat default).Pages:Nat):Int)) (cond (decide ((List.getD (x_h.Guests.getD x_g.toNat default).Pages x_page.toNat default).Frame=(-1:Int)))
    (some ((DHost.mk ([]:List Int) ([]:List DGuest)),false))
    (Option.bind (fZ x_h.Guests) λv3=>
    grd ((0:Int)<=(List.getD (x_h.Guests.getD x_g.toNat default).Pages x_page.toNat default).Frame/\(List.getD (x_h.Guests.getD x_g.toNat default).Pages x_page.toNat default).Frame<((v3.length:Nat):Int)) (cond (decide ((v3.getD (Int.toNat (List.getD (x_h.Guests.getD x_g.toNat default).Pages x_page.toNat default).Frame) default)=(1:Int)))
     (Option.bind (iH x_h x_g x_page (List.getD (x_h.Guests.getD x_g.toNat default).Pages x_page.toNat default).Frame) λv4=>
     some (v4,true))
     (Option.bind (jA x_h x_g x_page) λv5=>
     some (v5.1,v5.2))))))))
noncomputable def bUy:Sg tG:=⟨[.st 26,.i .i64,.i .i64],.two (.st 2026) .b,jS⟩
theorem bXg:Sok 155 bUy:=sgx [(56,.r g56),(46,.r g46),(134,.r bJf),(192,.r bPp),(191,.r bPy)] ⟨s56,s46,bPt,bXx,bXd,trivial⟩ .o kr kr kr
theorem aPl{x_h:DHost}{x_g:Int}{x_page:Int}{R_:DHost×Bool}(hh:jS x_h x_g x_page=some R_):Fn Tryz.prog 155 [.agg (mI x_h),.int .i64 x_g,.int .i64 x_page] (.tup [.agg [.own 3 1 R_.1.Words.length (fl (eI .i64) R_.1.Words),.own 94 17 R_.1.Guests.length (fl bE R_.1.Guests)],.bool R_.2]):=kc (bXg x_h x_g x_page R_ hh)
noncomputable def nC (x_h:DHost)(x_g:Int)(x_page:Int)(v3:DHost)(s4:(List Int)×Int):Option (DHost×Bool):=grd ((0:Int)<=x_g/\x_g<((v3.Guests.length:Nat):Int)) (grd ((0:Int)<=x_page/\x_page<((List.length (v3.Guests.getD x_g.toNat default).Pages:Nat):Int)) (some ((DHost.mk s4.1 (v3.Guests.set x_g.toNat (DGuest.mk (v3.Guests.getD x_g.toNat default).Live (DCore.mk ((v3.Guests.getD x_g.toNat default).C).Regs ((v3.Guests.getD x_g.toNat default).C).Pc ((v3.Guests.getD x_g.toNat default).C).Root ((v3.Guests.getD x_g.toNat default).C).Vector ((v3.Guests.getD x_g.toNat default).C).Saved ((v3.Guests.getD x_g.toNat default).C).SavedUser ((v3.Guests.getD x_g.toNat default).C).Cause ((v3.Guests.getD x_g.toNat default).C).Bad ((v3.Guests.getD x_g.toNat default).C).Timer ((v3.Guests.getD x_g.toNat default).C).Waits ((v3.Guests.getD x_g.toNat default).C).User ((v3.Guests.getD x_g.toNat default).C).On ((v3.Guests.getD x_g.toNat default).C).Stopped) (List.set (v3.Guests.getD x_g.toNat default).Pages x_page.toNat (DSlot.mk s4.2 true (List.getD (x_h.Guests.getD x_g.toNat default).Pages x_page.toNat default).Dirty)) (v3.Guests.getD x_g.toNat default).In (v3.Guests.getD x_g.toNat default).Out))),true)))
noncomputable def gH (x_h:DHost)(x_g:Int)(x_page:Int):Option (DHost×Bool):=
 Option.bind (dW x_h x_g) λv1=>
 cond (!v1)
  (some ((DHost.mk ([]:List Int) ([]:List DGuest)),false))
  (Option.bind (cI x_page (0:Int) (7:Int)) λv2=>
  cond (!v2)
   (some ((DHost.mk ([]:List Int) ([]:List DGuest)),false))
   (grd ((0:Int)<=x_g/\x_g<((x_h.Guests.length:Nat):Int)) (grd ((0:Int)<=x_page/\x_page<((List.length (x_h.Guests.getD x_g.toNat default).Pages:Nat):Int)) (cond (decide ((List.getD (x_h.Guests.getD x_g.toNat default).Pages x_page.toNat default).Frame<(0:Int)))
    (some ((DHost.mk ([]:List Int) ([]:List DGuest)),false))
    (Option.bind (eM x_h) λv3=>
    grd ((0:Int)<=x_g/\x_g<((x_h.Guests.length:Nat):Int)) (grd ((0:Int)<=x_page/\x_page<((List.length (x_h.Guests.getD x_g.toNat default).Pages:Nat):Int)) (Option.bind (cond (!(List.getD (x_h.Guests.getD x_g.toNat default).Pages x_page.toNat default).Write)
     (Option.bind (mN x_h) λv5=>
     grd ((0:Int)<=(List.getD (x_h.Guests.getD x_g.toNat default).Pages x_page.toNat default).Frame/\(List.getD (x_h.Guests.getD x_g.toNat default).Pages x_page.toNat default).Frame<((v5.length:Nat):Int)) (cond (decide ((1:Int)<(v5.getD (Int.toNat (List.getD (x_h.Guests.getD x_g.toNat default).Pages x_page.toNat default).Frame) default)))
      (Option.bind (mV x_h) λv6=>
      cond (decide (((v6.length:Nat):Int)=(0:Int)))
       (some (.out ((DHost.mk ([]:List Int) ([]:List DGuest)),false)))
       (grd ((0:Int)<=(0:Int)/\(0:Int)<((v6.length:Nat):Int)) (grd ((0:Int)<=(0:Int)/\(0:Int)<((v6.length:Nat):Int)) (grd ((0:Int)<=(w64 ((v6.getD 0 default)*(8:Int)))/\(w64 ((v6.getD 0 default)*(8:Int)))<=(w64 ((w64 ((v6.getD 0 default)+(1:Int)))*(8:Int)))/\(w64 ((w64 ((v6.getD 0 default)+(1:Int)))*(8:Int)))<=((v3.Words.length:Nat):Int)) (grd ((0:Int)<=(w64 ((List.getD (x_h.Guests.getD x_g.toNat default).Pages x_page.toNat default).Frame*(8:Int)))/\(w64 ((List.getD (x_h.Guests.getD x_g.toNat default).Pages x_page.toNat default).Frame*(8:Int)))<=((x_h.Words.length:Nat):Int)/\((x_h.Words.length:Nat):Int)<=((x_h.Words.length:Nat):Int)) (grd ((0:Int)<=(0:Int)/\(0:Int)<((v6.length:Nat):Int)) (some (.go ((over v3.Words (Int.toNat (w64 ((v6.getD 0 default)*(8:Int)))) (Int.toNat (w64 ((w64 ((v6.getD 0 default)+(1:Int)))*(8:Int)))-Int.toNat (w64 ((v6.getD 0 default)*(8:Int)))) (List.take (Int.toNat ((x_h.Words.length:Nat):Int)-Int.toNat (w64 ((List.getD (x_h.Guests.getD x_g.toNat default).Pages x_page.toNat default).Frame*(8:Int)))) (List.drop (Int.toNat (w64 ((List.getD (x_h.Guests.getD x_g.toNat default).Pages x_page.toNat default).Frame*(8:Int)))) x_h.Words))),v6.getD 0 default)))))))))
      (some (.go (v3.Words,(List.getD (x_h.Guests.getD x_g.toNat default).Pages x_page.toNat default).Frame)))))
     (some (.go (v3.Words,(List.getD (x_h.Guests.getD x_g.toNat default).Pages x_page.toNat default).Frame)))) λj4=>
     JO.run j4 (nC x_h x_g x_page v3))))))))
noncomputable def g54:Sg tG:=⟨[.st 26,.i .i64,.i .i64],.two (.st 2026) .b,gH⟩
theorem s54:Sok 54 g54:=sgx [(102,.r aJz),(51,.r g51),(103,.r aUo),(115,.r bSe),(114,.r bPb)] ⟨aOu,s51,bAg,bWp,cAa,trivial⟩ (.s .o (.s .o (.s .o (.s .o (.j ⟨[1,2,6,8,9],[],[(.c 8 0,.ro 3),(.c 9 0,.i .i64)]⟩ .o .o))))) kr kr kr
theorem aIh:LW 146 ⟨38,[.tmp 4],.seq (.reg false (rg 146 0)) (.seq (.seq (.reg false (rg 146 1)) (.block 0 (.loop (.seq (.seq (.reg false (rg 146 2)) (.cond (.t 9) .skip (.exit 0))) (.seq (.block 1 (.seq (.reg false (rg 146 3)) (.seq (.reg false (rg 146 4)) (.seq (.reg false (rg 146 5)) (.seq (.reg false (rg 146 6)) (.seq (.reg false (rg 146 7)) (.reg false (rg 146 8)))))))) (.reg false (rg 146 9))))))) (.seq (.reg false (rg 146 11)) .ret))⟩:=kr
noncomputable def qJ  (s1:Int×(List DSlot)):Option ((List DSlot)×Int):=some (s1.2,s1.1)
noncomputable def hZ  (s2:(List DSlot)×Int×Int):Option (LO ((List DSlot)×Int×Int) (JO (Int×(List DSlot)) ((List DSlot)×Int))):=
 cond (decide (s2.2.2<((s2.1.length:Nat):Int)))
  (grd ((0:Int)<=s2.2.2/\s2.2.2<((s2.1.length:Nat):Int)) (grd ((0:Int)<=s2.2.2/\s2.2.2<((s2.1.length:Nat):Int)) (grd ((0:Int)<=s2.2.2/\s2.2.2<((s2.1.length:Nat):Int)) (some (.next ((s2.1.set s2.2.2.toNat (DSlot.mk s2.2.1 (decide ((Int.tmod (w64 (s2.2.1+(1:Int))) (3:Int))=(0:Int))) (decide ((Int.tmod (w64 ((w64 (s2.2.1+(1:Int)))+(1:Int))) (3:Int))=(0:Int))))),w64 ((w64 ((w64 (s2.2.1+(1:Int)))+(1:Int)))+(1:Int)),w64 (s2.2.2+(1:Int))))))))
  (some (.ret (.go (s2.2.1,s2.1))))
noncomputable def lY (x_a:List DSlot)(x_k:Int):Option ((List DSlot)×Int):=
 Option.bind (Option.bind (iter hZ (x_a,x_k,(0:Int))) LO.val) λj1=>
  JO.run j1 qJ
theorem aMb{x_a:List DSlot}{x_k:Int}{R_:(List DSlot)×Int}(hh:lY x_a x_k=some R_):Inl Tryz.prog 146 [.sref 0 [] 0 x_a.length 3,.int .i64 x_k] [(0,some (rC91 x_a))] 1 (.int .i64 R_.2) [(0,some (rC91 R_.1))] 1:=by let z8:EV:=(0,.sref 0 [] 0 x_a.length 3);let z9:EH:=(0,some (rC91 x_a));unfold lY at hh;refine Inl.start aIh [0,1] [0] (E:=sp 38 [z8,(1,ii x_k)]) (H1:=[z9]) kr kr (sy [0,1] [0] (sp 38 [z8,(1,ii x_k)]) [z9] 1 ?_);obtain⟨j1,hh,hk1⟩:=bind_some hh;refine Aw.join (S:=Int×(List DSlot)) (λs1=>sp 38 [(1,ii s1.1)]) (λs1=>[(0,some (rC91 s1.2))]) 1 (λs1=>qJ s1=some R_) ?_ ?_;{intro s1 hh;unfold qJ at hh;refine sy [4] [0] (sp 38 [(4,ii s1.1)]) [(0,some (rC91 s1.2))] 1 (Aw.ret ?_);rw[bO hh];exact qR (r':=ii s1.1) kr (el [some 0] (lO gE) (hn gU aY))};intro Q1 hN1 hR1 hE1;refine sy [0,1,5] [0] (sp 38 [z8,(1,ii x_k),(5,ii 0)]) [z9] 1 (Aw.block ?_);obtain⟨o2,hi2,hk2⟩:=bind_some hh;refine Aw.iter (λ(s2:(List DSlot)×Int×Int)=>sp 38 [(0,.sref 0 [] 0 s2.1.length 3),(1,ii s2.2.1),(5,ii s2.2.2)]) (λ(s2:(List DSlot)×Int×Int)=>[(0,some (rC91 s2.1))]) 1 hi2 (el [some 0] (fS kr (rs (.sref 0 [] 0 x_a.length 3) (ri (ri rA)))) (hn gU aY)) ?_;intro s2 u2 Q2 hh hN2 hX2 hR2;let z10:EV:=(0,.sref 0 [] 0 s2.1.length 3);let z11:EH:=(0,some (rC91 s2.1));let z12:=(1,ii (w64 ((w64 ((w64 (s2.2.1+(1:Int)))+(1:Int)))+(1:Int))));let z13:=(1,ii (w64 ((w64 (s2.2.1+(1:Int)))+(1:Int))));let z14:=(1,ii (w64 (s2.2.1+(1:Int))));let z15:=(5,ii s2.2.2);let z16:=(9,bb (decide (s2.2.2<((s2.1.length:Nat):Int))));let z1:=DSlot.mk s2.2.1 (decide ((Int.tmod (w64 (s2.2.1+(1:Int))) (3:Int))=(0:Int))) (decide ((Int.tmod (w64 ((w64 (s2.2.1+(1:Int)))+(1:Int))) (3:Int))=(0:Int)));let z3:=s2.1.set s2.2.2.toNat z1;let z2:=s2.1.getD s2.2.2.toNat default;let z4:=DSlot.mk s2.2.1 (decide ((Int.tmod (w64 (s2.2.1+(1:Int))) (3:Int))=(0:Int))) z2.Dirty;let z6:=s2.1.set s2.2.2.toNat z4;let z5:=DSlot.mk s2.2.1 z2.Write z2.Dirty;let z7:=s2.1.set s2.2.2.toNat z5;unfold hZ at hh;refine Aw.seq (sy [0,1,5,9] [0] (sp 38 [z10,(1,ii s2.2.1),z15,z16]) [z11] 1 ?_);rcases aAe hh with⟨hb,hh⟩|⟨hb,hh⟩;{refine cF hb (Aw.exit (aJk (hX2 _ _ _ _ _ (bO hh) ?_)));intro hout;rw[hout]at hk2;refine aLs ?_;obtain rfl:=bO hk2;exact hN1 (s2.2.1,s2.1) _ _ _ hk1 (el [some 0] (fS kr (ri rA)) (hn gU aY))};refine cT hb (Aw.xskip (λ_ _ _ hq=>fF hq) (Aw.seq (Aw.block (Aw.sreg [0,1,5] [0] ?_))));obtain⟨hg72,hh⟩:=aE hh;refine yjc 5 [(0:Int)<=s2.2.2/\s2.2.2<((s2.1.length:Nat):Int)] (sp 38 [z10,(1,ii s2.2.1),z15,z16,(12,.sref 0 [] 0 s2.1.length 3),(13,ii s2.2.2),(14,ii s2.2.1),(15,.ptr 0 [] (0+s2.2.2.toNat*3)),(16,.ptr 0 [] (0+s2.2.2.toNat*3+0))]) [z11] 1 (.cons hg72 .nil) ?_;let q1:Root:=(rC91 z7);let z17:=(0,some q1);refine ys (.store 1 (.t 16) (.t 14)) none (wV (c:=eY) (xs:=s2.1) (e:=91) (r:=0) (π:=[]) (o:=0+s2.2.2.toNat*3+0) (i:=s2.2.2.toNat) (off:=0) (vs:=[ii s2.2.1]) (y:=z5) (H':=[z17,z11]) mC kr kr kr kr ltn ltn dd kr kr ?_);refine yt (sp 38 [z10,(1,ii s2.2.1),z15]) [z17] 1 (sy [0,1,5] [0] (sp 38 [z10,z14,z15]) [z17] 1 (Aw.sreg [0,1,5] [0] ?_));obtain⟨hg71,hh⟩:=aE hh;refine yjc 7 [(3:Int)≠0,(0:Int)<=s2.2.2/\s2.2.2<((s2.1.length:Nat):Int)] (sp 38 [z10,z14,z15,(19,.sref 0 [] 0 s2.1.length 3),(20,ii s2.2.2),(21,ii (w64 (s2.2.1+(1:Int)))),(22,ii (Int.tmod (w64 (s2.2.1+(1:Int))) (3:Int))),(23,bb (decide ((Int.tmod (w64 (s2.2.1+(1:Int))) (3:Int))=(0:Int)))),(24,.ptr 0 [] (0+s2.2.2.toNat*3)),(25,.ptr 0 [] (0+s2.2.2.toNat*3+1))]) [z17] 1 (.cons dd (.cons hg71 .nil)) ?_;let q2:Root:=(rC91 z6);let z18:=(0,some q2);refine ys (.store 1 (.t 25) (.t 23)) none (fA (bD ltn) (List.set_set ..) (c:=eY) (xs:=z7) (e:=91) (r:=0) (π:=[]) (o:=0+s2.2.2.toNat*3+1) (i:=s2.2.2.toNat) (off:=1) (vs:=[bb (decide ((Int.tmod (w64 (s2.2.1+(1:Int))) (3:Int))=(0:Int)))]) (y:=z4) (H':=[z18,z17]) mC kr kr kr kr ltn ltn dd kr kr ?_);refine yt (sp 38 [z10,z14,z15]) [z18] 1 (sy [0,1,5] [0] (sp 38 [z10,z13,z15]) [z18] 1 (Aw.sreg [0,1,5] [0] ?_));obtain⟨hg70,hh⟩:=aE hh;refine yjc 7 [(3:Int)≠0,(0:Int)<=s2.2.2/\s2.2.2<((s2.1.length:Nat):Int)] (sp 38 [z10,z13,z15,(28,.sref 0 [] 0 s2.1.length 3),(29,ii s2.2.2),(30,ii (w64 ((w64 (s2.2.1+(1:Int)))+(1:Int)))),(31,ii (Int.tmod (w64 ((w64 (s2.2.1+(1:Int)))+(1:Int))) (3:Int))),(32,bb (decide ((Int.tmod (w64 ((w64 (s2.2.1+(1:Int)))+(1:Int))) (3:Int))=(0:Int)))),(33,.ptr 0 [] (0+s2.2.2.toNat*3)),(34,.ptr 0 [] (0+s2.2.2.toNat*3+2))]) [z18] 1 (.cons dd (.cons hg70 .nil)) ?_;let q3:Root:=(rC91 z3);refine ys (.store 1 (.t 34) (.t 32)) none (fA (bD ltn) (List.set_set ..) (c:=eY) (xs:=z6) (e:=91) (r:=0) (π:=[]) (o:=0+s2.2.2.toNat*3+2) (i:=s2.2.2.toNat) (off:=2) (vs:=[bb (decide ((Int.tmod (w64 ((w64 (s2.2.1+(1:Int)))+(1:Int))) (3:Int))=(0:Int)))]) (y:=z1) (H':=[(0,some q3),z18]) mC kr kr kr kr ltn ltn dd kr kr ?_);exact yt (sp 38 [z10,z13,z15]) [(0,some q3)] 1 (Aw.xreg [0,1,5] [0] (λ_ _ _ hq=>aFo (fF hq)) (yt (sp 38 [z10,z12,z15]) [(0,some q3)] 1 (Aw.oreg (ye (sp 38 [z10,z12,(5,ii (w64 (s2.2.2+(1:Int)))),(10,ii s2.2.2),(11,ii (w64 (s2.2.2+(1:Int))))]) [(0,some q3)] 1 (hN2 (z3,w64 ((w64 ((w64 (s2.2.1+(1:Int)))+(1:Int)))+(1:Int)),w64 (s2.2.2+(1:Int))) _ _ _ (bO hh) (el [some 0] (fS kr (rs (.sref 0 [] 0 s2.1.length 3) (ri (ri rA)))) (hn gU aY)))))))
theorem aHu:LW 93 ⟨157,[.tmp 4],.seq (.reg false (rg 93 0)) (.seq (.seq (.reg false (rg 93 1)) (.block 0 (.loop (.seq (.seq (.reg false (rg 93 2)) (.cond (.t 9) .skip (.exit 0))) (.seq (.block 1 (.seq (.reg false (rg 93 3)) (.seq (.reg false (rg 93 4)) (.seq (.reg false (rg 93 5)) (.seq (.reg false (rg 93 6)) (.seq (.reg false (rg 93 7)) (.seq (.reg false (rg 93 8)) (.seq (.reg false (rg 93 9)) (.seq (.reg false (rg 93 10)) (.seq (.reg false (rg 93 11)) (.seq (.reg false (rg 93 12)) (.seq (.reg false (rg 93 13)) (.seq (.reg false (rg 93 14)) (.seq (.reg false (rg 93 15)) (.seq (.reg false (rg 93 16)) (.seq (.reg false (rg 93 17)) (.seq (.reg false (rg 93 18)) (.seq (.reg false (rg 93 19)) (.seq (.reg false (rg 93 20)) (.seq (.reg false (rg 93 21)) (.seq (.reg false (rg 93 22)) (.seq (.reg false (rg 93 23)) (.seq (.reg false (rg 93 24)) (.seq (.reg false (rg 93 25)) (.seq (.reg false (rg 93 26)) (.seq (.reg false (rg 93 27)) (.seq (.reg false (rg 93 28)) (.seq (.reg false (rg 93 29)) (.seq (.reg false (rg 93 30)) (.seq (.reg false (rg 93 31)) (.reg false (rg 93 32)))))))))))))))))))))))))))))))) (.reg false (rg 93 33))))))) (.seq (.reg false (rg 93 35)) .ret))⟩:=kr
noncomputable def pK  (s1:Int×(List DGuest)):Option ((List DGuest)×Int):=some (s1.2,s1.1)
noncomputable def gI  (s2:(List DGuest)×Int×Int):Option (LO ((List DGuest)×Int×Int) (JO (Int×(List DGuest)) ((List DGuest)×Int))):=
 cond (decide (s2.2.2<((s2.1.length:Nat):Int)))
  (grd ((0:Int)<=s2.2.2/\s2.2.2<((s2.1.length:Nat):Int)) (grd ((0:Int)<=s2.2.2/\s2.2.2<((s2.1.length:Nat):Int)) (Option.bind (eZ ((s2.1.getD s2.2.2.toNat default).C).Regs (w64 (s2.2.1+(1:Int)))) λv3=>
   grd (v3.1.length=(List.length ((s2.1.getD s2.2.2.toNat default).C).Regs)) (grd ((0:Int)<=s2.2.2/\s2.2.2<((s2.1.length:Nat):Int)) (grd ((0:Int)<=s2.2.2/\s2.2.2<((s2.1.length:Nat):Int)) (grd ((0:Int)<=s2.2.2/\s2.2.2<((s2.1.length:Nat):Int)) (grd ((0:Int)<=s2.2.2/\s2.2.2<((s2.1.length:Nat):Int)) (grd ((0:Int)<=s2.2.2/\s2.2.2<((s2.1.length:Nat):Int)) (grd ((0:Int)<=s2.2.2/\s2.2.2<((s2.1.length:Nat):Int)) (grd ((0:Int)<=s2.2.2/\s2.2.2<((s2.1.length:Nat):Int)) (grd ((0:Int)<=s2.2.2/\s2.2.2<((s2.1.length:Nat):Int)) (grd ((0:Int)<=s2.2.2/\s2.2.2<((s2.1.length:Nat):Int)) (grd ((0:Int)<=s2.2.2/\s2.2.2<((s2.1.length:Nat):Int)) (grd ((0:Int)<=s2.2.2/\s2.2.2<((s2.1.length:Nat):Int)) (grd ((0:Int)<=s2.2.2/\s2.2.2<((s2.1.length:Nat):Int)) (grd ((0:Int)<=s2.2.2/\s2.2.2<((s2.1.length:Nat):Int)) (Option.bind (lY (s2.1.getD s2.2.2.toNat default).Pages (w64 ((w64 ((w64 ((w64 ((w64 ((w64 ((w64 ((w64 ((w64 ((w64 ((w64 ((w64 (v3.2+(1:Int)))+(1:Int)))+(1:Int)))+(1:Int)))+(1:Int)))+(1:Int)))+(1:Int)))+(1:Int)))+(1:Int)))+(1:Int)))+(1:Int)))+(1:Int)))) λv4=>
    grd (v4.1.length=(List.length (s2.1.getD s2.2.2.toNat default).Pages)) (grd ((0:Int)<=s2.2.2/\s2.2.2<((s2.1.length:Nat):Int)) (Option.bind (eZ (s2.1.getD s2.2.2.toNat default).In v4.2) λv5=>
     grd (v5.1.length=(List.length (s2.1.getD s2.2.2.toNat default).In)) (grd ((0:Int)<=s2.2.2/\s2.2.2<((s2.1.length:Nat):Int)) (Option.bind (eZ (s2.1.getD s2.2.2.toNat default).Out v5.2) λv6=>
      grd (v6.1.length=(List.length (s2.1.getD s2.2.2.toNat default).Out)) (some (.next ((s2.1.set s2.2.2.toNat (DGuest.mk (decide ((Int.tmod s2.2.1 (3:Int))=(0:Int))) (DCore.mk v3.1 v3.2 (w64 (v3.2+(1:Int))) (w64 ((w64 (v3.2+(1:Int)))+(1:Int))) (w64 ((w64 ((w64 (v3.2+(1:Int)))+(1:Int)))+(1:Int))) (decide ((Int.tmod (w64 ((w64 ((w64 ((w64 (v3.2+(1:Int)))+(1:Int)))+(1:Int)))+(1:Int))) (3:Int))=(0:Int))) (w64 ((w64 ((w64 ((w64 ((w64 (v3.2+(1:Int)))+(1:Int)))+(1:Int)))+(1:Int)))+(1:Int))) (w64 ((w64 ((w64 ((w64 ((w64 ((w64 (v3.2+(1:Int)))+(1:Int)))+(1:Int)))+(1:Int)))+(1:Int)))+(1:Int))) (w64 ((w64 ((w64 ((w64 ((w64 ((w64 ((w64 (v3.2+(1:Int)))+(1:Int)))+(1:Int)))+(1:Int)))+(1:Int)))+(1:Int)))+(1:Int))) (decide ((Int.tmod (w64 ((w64 ((w64 ((w64 ((w64 ((w64 ((w64 ((w64 (v3.2+(1:Int)))+(1:Int)))+(1:Int)))+(1:Int)))+(1:Int)))+(1:Int)))+(1:Int)))+(1:Int))) (3:Int))=(0:Int))) (decide ((Int.tmod (w64 ((w64 ((w64 ((w64 ((w64 ((w64 ((w64 ((w64 ((w64 (v3.2+(1:Int)))+(1:Int)))+(1:Int)))+(1:Int)))+(1:Int)))+(1:Int)))+(1:Int)))+(1:Int)))+(1:Int))) (3:Int))=(0:Int))) (decide ((Int.tmod (w64 ((w64 ((w64 ((w64 ((w64 ((w64 ((w64 ((w64 ((w64 ((w64 (v3.2+(1:Int)))+(1:Int)))+(1:Int)))+(1:Int)))+(1:Int)))+(1:Int)))+(1:Int)))+(1:Int)))+(1:Int)))+(1:Int))) (3:Int))=(0:Int))) (decide ((Int.tmod (w64 ((w64 ((w64 ((w64 ((w64 ((w64 ((w64 ((w64 ((w64 ((w64 ((w64 (v3.2+(1:Int)))+(1:Int)))+(1:Int)))+(1:Int)))+(1:Int)))+(1:Int)))+(1:Int)))+(1:Int)))+(1:Int)))+(1:Int)))+(1:Int))) (3:Int))=(0:Int)))) v4.1 v5.1 v6.1)),v6.2,w64 (s2.2.2+(1:Int))))))))))))))))))))))))))
  (some (.ret (.go (s2.2.1,s2.1))))
noncomputable def kP (x_a:List DGuest)(x_k:Int):Option ((List DGuest)×Int):=
 Option.bind (Option.bind (iter gI (x_a,x_k,(0:Int))) LO.val) λj1=>
  JO.run j1 pK
theorem aIt{x_a:List DGuest}{x_k:Int}{R_:(List DGuest)×Int}(hh:kP x_a x_k=some R_):Inl Tryz.prog 93 [.sref 0 [] 0 x_a.length 17,.int .i64 x_k] [(0,some (rO94 x_a))] 1 (.int .i64 R_.2) [(0,some (rO94 R_.1))] 1:=by let z49:EV:=(0,.sref 0 [] 0 x_a.length 17);let z50:EH:=(0,some (rO94 x_a));unfold kP at hh;refine Inl.start aHu [0,1] [0] (E:=sp 157 [z49,(1,ii x_k)]) (H1:=[z50]) kr kr (sy [0,1] [0] (sp 157 [z49,(1,ii x_k)]) [z50] 1 ?_);obtain⟨j1,hh,hk1⟩:=bind_some hh;refine Aw.join (S:=Int×(List DGuest)) (λs1=>sp 157 [(1,ii s1.1)]) (λs1=>[(0,some (rO94 s1.2))]) 1 (λs1=>pK s1=some R_) ?_ ?_;{intro s1 hh;unfold pK at hh;refine sy [4] [0] (sp 157 [(4,ii s1.1)]) [(0,some (rO94 s1.2))] 1 (Aw.ret ?_);rw[bO hh];exact qR (r':=ii s1.1) kr (el [some 0] (lO gE) (hn cJ aY))};intro Q1 hN1 hR1 hE1;refine sy [0,1,5] [0] (sp 157 [z49,(1,ii x_k),(5,ii 0)]) [z50] 1 (Aw.block ?_);obtain⟨o2,hi2,hk2⟩:=bind_some hh;refine Aw.iter (λ(s2:(List DGuest)×Int×Int)=>sp 157 [(0,.sref 0 [] 0 s2.1.length 17),(1,ii s2.2.1),(5,ii s2.2.2)]) (λ(s2:(List DGuest)×Int×Int)=>[(0,some (rO94 s2.1))]) 1 hi2 (el [some 0] (fS kr (rs (.sref 0 [] 0 x_a.length 17) (ri (ri rA)))) (hn cJ aY)) ?_;intro s2 u2 Q2 hh hN2 hX2 hR2;let z51:EV:=(0,.sref 0 [] 0 s2.1.length 17);let z52:EH:=(0,some (rO94 s2.1));let z53:=(1,ii (w64 (s2.2.1+(1:Int))));let z54:=(5,ii s2.2.2);let z55:=(9,bb (decide (s2.2.2<((s2.1.length:Nat):Int))));let z1:=s2.1.getD s2.2.2.toNat default;let z3:=DGuest.mk (decide ((Int.tmod s2.2.1 (3:Int))=(0:Int))) z1.C z1.Pages z1.In z1.Out;let z20:=s2.1.set s2.2.2.toNat z3;unfold gI at hh;refine Aw.seq (sy [0,1,5,9] [0] (sp 157 [z51,(1,ii s2.2.1),z54,z55]) [z52] 1 ?_);rcases aAe hh with⟨hb,hh⟩|⟨hb,hh⟩;{refine cF hb (Aw.exit (aJk (hX2 _ _ _ _ _ (bO hh) ?_)));intro hout;rw[hout]at hk2;refine aLs ?_;obtain rfl:=bO hk2;exact hN1 (s2.2.1,s2.1) _ _ _ hk1 (el [some 0] (fS kr (ri rA)) (hn cJ aY))};refine cT hb (Aw.xskip (λ_ _ _ hq=>fF hq) (Aw.seq (Aw.block (Aw.sreg [0,1,5] [0] ?_))));obtain⟨hg504,hh⟩:=aE hh;refine yjc 7 [(3:Int)≠0,(0:Int)<=s2.2.2/\s2.2.2<((s2.1.length:Nat):Int)] (sp 157 [z51,(1,ii s2.2.1),z54,z55,(12,.sref 0 [] 0 s2.1.length 17),(13,ii s2.2.2),(14,ii s2.2.1),(15,ii (Int.tmod s2.2.1 (3:Int))),(16,bb (decide ((Int.tmod s2.2.1 (3:Int))=(0:Int)))),(17,.ptr 0 [] (0+s2.2.2.toNat*17)),(18,.ptr 0 [] (0+s2.2.2.toNat*17+0))]) [z52] 1 (.cons dd (.cons hg504 .nil)) ?_;let q1:Root:=(rO94 z20);let z56:=(0,some q1);refine ys (.store 1 (.t 18) (.t 16)) none (wV (c:=bE) (xs:=s2.1) (e:=94) (r:=0) (π:=[]) (o:=0+s2.2.2.toNat*17+0) (i:=s2.2.2.toNat) (off:=0) (vs:=[bb (decide ((Int.tmod s2.2.1 (3:Int))=(0:Int)))]) (y:=z3) (H':=[z56,z52]) aL kr kr kr kr ltn ltn dd kr kr ?_);refine yt (sp 157 [z51,(1,ii s2.2.1),z54]) [z56] 1 (sy [0,1,5] [0] (sp 157 [z51,z53,z54]) [z56] 1 (Aw.sreg [0,1,5] [0] ?_));obtain⟨hg503,hh⟩:=aE hh;refine yjc 5 [(0:Int)<=s2.2.2/\s2.2.2<((s2.1.length:Nat):Int)] (sp 157 [z51,z53,z54,(21,.sref 0 [] 0 s2.1.length 17),(22,ii s2.2.2),(23,.ptr 0 [] (0+s2.2.2.toNat*17)),(24,.ptr 0 [] (0+s2.2.2.toNat*17+1)),(25,.ptr 0 [] (0+s2.2.2.toNat*17+1+0))]) [z56] 1 (.cons hg503 .nil) (ys (.load false 1 (.t 25)) (some 26) (aGs (bD ltn) (c:=bE) (xs:=z20) (e:=94) (r:=0) (π:=[]) (o:=0+s2.2.2.toNat*17+1+0) (i:=s2.2.2.toNat) (off:=1) (v:= .sref 0 [0+s2.2.2.toNat*17+1+0+0] 0 (List.length (z1.C).Regs) 1) aL kr kr ltn ltn dd kr ?_));refine yu 1 [(26,.sref 0 [0+s2.2.2.toNat*17+1+0+0] 0 (List.length (z1.C).Regs) 1),(27,ii (w64 (s2.2.1+(1:Int))))] [z56] 1 ?_;obtain⟨v3,hv3,hh⟩:=bind_some hh;let z57:=(1,ii (w64 ((w64 ((w64 ((w64 ((w64 ((w64 ((w64 ((w64 ((w64 ((w64 ((w64 ((w64 (v3.2+(1:Int)))+(1:Int)))+(1:Int)))+(1:Int)))+(1:Int)))+(1:Int)))+(1:Int)))+(1:Int)))+(1:Int)))+(1:Int)))+(1:Int)))+(1:Int))));let z58:=(1,ii (w64 ((w64 ((w64 ((w64 ((w64 ((w64 ((w64 ((w64 ((w64 ((w64 ((w64 (v3.2+(1:Int)))+(1:Int)))+(1:Int)))+(1:Int)))+(1:Int)))+(1:Int)))+(1:Int)))+(1:Int)))+(1:Int)))+(1:Int)))+(1:Int))));let z59:=(1,ii (w64 ((w64 ((w64 ((w64 ((w64 ((w64 ((w64 ((w64 ((w64 ((w64 (v3.2+(1:Int)))+(1:Int)))+(1:Int)))+(1:Int)))+(1:Int)))+(1:Int)))+(1:Int)))+(1:Int)))+(1:Int)))+(1:Int))));let z60:=(1,ii (w64 ((w64 ((w64 ((w64 ((w64 ((w64 ((w64 ((w64 ((w64 (v3.2+(1:Int)))+(1:Int)))+(1:Int)))+(1:Int)))+(1:Int)))+(1:Int)))+(1:Int)))+(1:Int)))+(1:Int))));let z61:=(1,ii (w64 ((w64 ((w64 ((w64 ((w64 ((w64 ((w64 ((w64 (v3.2+(1:Int)))+(1:Int)))+(1:Int)))+(1:Int)))+(1:Int)))+(1:Int)))+(1:Int)))+(1:Int))));let z62:=(1,ii (w64 ((w64 ((w64 ((w64 ((w64 ((w64 ((w64 (v3.2+(1:Int)))+(1:Int)))+(1:Int)))+(1:Int)))+(1:Int)))+(1:Int)))+(1:Int))));let z63:=(1,ii (w64 ((w64 ((w64 ((w64 ((w64 ((w64 (v3.2+(1:Int)))+(1:Int)))+(1:Int)))+(1:Int)))+(1:Int)))+(1:Int))));let z64:=(1,ii (w64 ((w64 ((w64 ((w64 ((w64 (v3.2+(1:Int)))+(1:Int)))+(1:Int)))+(1:Int)))+(1:Int))));let z65:=(1,ii (w64 ((w64 ((w64 ((w64 (v3.2+(1:Int)))+(1:Int)))+(1:Int)))+(1:Int))));let z66:=(1,ii (w64 ((w64 ((w64 (v3.2+(1:Int)))+(1:Int)))+(1:Int))));let z67:=(1,ii (w64 ((w64 (v3.2+(1:Int)))+(1:Int))));let z68:=(1,ii (w64 (v3.2+(1:Int))));let z4:=DCore.mk v3.1 (z1.C).Pc (z1.C).Root (z1.C).Vector (z1.C).Saved (z1.C).SavedUser (z1.C).Cause (z1.C).Bad (z1.C).Timer (z1.C).Waits (z1.C).User (z1.C).On (z1.C).Stopped;let z21:=DGuest.mk (decide ((Int.tmod s2.2.1 (3:Int))=(0:Int))) z4 z1.Pages z1.In z1.Out;let z37:=s2.1.set s2.2.2.toNat z21;let z5:=DCore.mk v3.1 v3.2 (z1.C).Root (z1.C).Vector (z1.C).Saved (z1.C).SavedUser (z1.C).Cause (z1.C).Bad (z1.C).Timer (z1.C).Waits (z1.C).User (z1.C).On (z1.C).Stopped;let z22:=DGuest.mk (decide ((Int.tmod s2.2.1 (3:Int))=(0:Int))) z5 z1.Pages z1.In z1.Out;let z38:=s2.1.set s2.2.2.toNat z22;let z6:=DCore.mk v3.1 v3.2 (w64 (v3.2+(1:Int))) (z1.C).Vector (z1.C).Saved (z1.C).SavedUser (z1.C).Cause (z1.C).Bad (z1.C).Timer (z1.C).Waits (z1.C).User (z1.C).On (z1.C).Stopped;let z23:=DGuest.mk (decide ((Int.tmod s2.2.1 (3:Int))=(0:Int))) z6 z1.Pages z1.In z1.Out;let z39:=s2.1.set s2.2.2.toNat z23;let z7:=DCore.mk v3.1 v3.2 (w64 (v3.2+(1:Int))) (w64 ((w64 (v3.2+(1:Int)))+(1:Int))) (z1.C).Saved (z1.C).SavedUser (z1.C).Cause (z1.C).Bad (z1.C).Timer (z1.C).Waits (z1.C).User (z1.C).On (z1.C).Stopped;let z24:=DGuest.mk (decide ((Int.tmod s2.2.1 (3:Int))=(0:Int))) z7 z1.Pages z1.In z1.Out;let z40:=s2.1.set s2.2.2.toNat z24;let z8:=DCore.mk v3.1 v3.2 (w64 (v3.2+(1:Int))) (w64 ((w64 (v3.2+(1:Int)))+(1:Int))) (w64 ((w64 ((w64 (v3.2+(1:Int)))+(1:Int)))+(1:Int))) (z1.C).SavedUser (z1.C).Cause (z1.C).Bad (z1.C).Timer (z1.C).Waits (z1.C).User (z1.C).On (z1.C).Stopped;let z25:=DGuest.mk (decide ((Int.tmod s2.2.1 (3:Int))=(0:Int))) z8 z1.Pages z1.In z1.Out;let z41:=s2.1.set s2.2.2.toNat z25;let z9:=DCore.mk v3.1 v3.2 (w64 (v3.2+(1:Int))) (w64 ((w64 (v3.2+(1:Int)))+(1:Int))) (w64 ((w64 ((w64 (v3.2+(1:Int)))+(1:Int)))+(1:Int))) (decide ((Int.tmod (w64 ((w64 ((w64 ((w64 (v3.2+(1:Int)))+(1:Int)))+(1:Int)))+(1:Int))) (3:Int))=(0:Int))) (z1.C).Cause (z1.C).Bad (z1.C).Timer (z1.C).Waits (z1.C).User (z1.C).On (z1.C).Stopped;let z26:=DGuest.mk (decide ((Int.tmod s2.2.1 (3:Int))=(0:Int))) z9 z1.Pages z1.In z1.Out;let z42:=s2.1.set s2.2.2.toNat z26;let z10:=DCore.mk v3.1 v3.2 (w64 (v3.2+(1:Int))) (w64 ((w64 (v3.2+(1:Int)))+(1:Int))) (w64 ((w64 ((w64 (v3.2+(1:Int)))+(1:Int)))+(1:Int))) (decide ((Int.tmod (w64 ((w64 ((w64 ((w64 (v3.2+(1:Int)))+(1:Int)))+(1:Int)))+(1:Int))) (3:Int))=(0:Int))) (w64 ((w64 ((w64 ((w64 ((w64 (v3.2+(1:Int)))+(1:Int)))+(1:Int)))+(1:Int)))+(1:Int))) (z1.C).Bad (z1.C).Timer (z1.C).Waits (z1.C).User (z1.C).On (z1.C).Stopped;let z27:=DGuest.mk (decide ((Int.tmod s2.2.1 (3:Int))=(0:Int))) z10 z1.Pages z1.In z1.Out;let z43:=s2.1.set s2.2.2.toNat z27;let z11:=DCore.mk v3.1 v3.2 (w64 (v3.2+(1:Int))) (w64 ((w64 (v3.2+(1:Int)))+(1:Int))) (w64 ((w64 ((w64 (v3.2+(1:Int)))+(1:Int)))+(1:Int))) (decide ((Int.tmod (w64 ((w64 ((w64 ((w64 (v3.2+(1:Int)))+(1:Int)))+(1:Int)))+(1:Int))) (3:Int))=(0:Int))) (w64 ((w64 ((w64 ((w64 ((w64 (v3.2+(1:Int)))+(1:Int)))+(1:Int)))+(1:Int)))+(1:Int))) (w64 ((w64 ((w64 ((w64 ((w64 ((w64 (v3.2+(1:Int)))+(1:Int)))+(1:Int)))+(1:Int)))+(1:Int)))+(1:Int))) (z1.C).Timer (z1.C).Waits (z1.C).User (z1.C).On (z1.C).Stopped;let z28:=DGuest.mk (decide ((Int.tmod s2.2.1 (3:Int))=(0:Int))) z11 z1.Pages z1.In z1.Out;let z44:=s2.1.set s2.2.2.toNat z28;let z12:=DCore.mk v3.1 v3.2 (w64 (v3.2+(1:Int))) (w64 ((w64 (v3.2+(1:Int)))+(1:Int))) (w64 ((w64 ((w64 (v3.2+(1:Int)))+(1:Int)))+(1:Int))) (decide ((Int.tmod (w64 ((w64 ((w64 ((w64 (v3.2+(1:Int)))+(1:Int)))+(1:Int)))+(1:Int))) (3:Int))=(0:Int))) (w64 ((w64 ((w64 ((w64 ((w64 (v3.2+(1:Int)))+(1:Int)))+(1:Int)))+(1:Int)))+(1:Int))) (w64 ((w64 ((w64 ((w64 ((w64 ((w64 (v3.2+(1:Int)))+(1:Int)))+(1:Int)))+(1:Int)))+(1:Int)))+(1:Int))) (w64 ((w64 ((w64 ((w64 ((w64 ((w64 ((w64 (v3.2+(1:Int)))+(1:Int)))+(1:Int)))+(1:Int)))+(1:Int)))+(1:Int)))+(1:Int))) (z1.C).Waits (z1.C).User (z1.C).On (z1.C).Stopped;let z29:=DGuest.mk (decide ((Int.tmod s2.2.1 (3:Int))=(0:Int))) z12 z1.Pages z1.In z1.Out;let z45:=s2.1.set s2.2.2.toNat z29;let z13:=DCore.mk v3.1 v3.2 (w64 (v3.2+(1:Int))) (w64 ((w64 (v3.2+(1:Int)))+(1:Int))) (w64 ((w64 ((w64 (v3.2+(1:Int)))+(1:Int)))+(1:Int))) (decide ((Int.tmod (w64 ((w64 ((w64 ((w64 (v3.2+(1:Int)))+(1:Int)))+(1:Int)))+(1:Int))) (3:Int))=(0:Int))) (w64 ((w64 ((w64 ((w64 ((w64 (v3.2+(1:Int)))+(1:Int)))+(1:Int)))+(1:Int)))+(1:Int))) (w64 ((w64 ((w64 ((w64 ((w64 ((w64 (v3.2+(1:Int)))+(1:Int)))+(1:Int)))+(1:Int)))+(1:Int)))+(1:Int))) (w64 ((w64 ((w64 ((w64 ((w64 ((w64 ((w64 (v3.2+(1:Int)))+(1:Int)))+(1:Int)))+(1:Int)))+(1:Int)))+(1:Int)))+(1:Int))) (decide ((Int.tmod (w64 ((w64 ((w64 ((w64 ((w64 ((w64 ((w64 ((w64 (v3.2+(1:Int)))+(1:Int)))+(1:Int)))+(1:Int)))+(1:Int)))+(1:Int)))+(1:Int)))+(1:Int))) (3:Int))=(0:Int))) (z1.C).User (z1.C).On (z1.C).Stopped;let z30:=DGuest.mk (decide ((Int.tmod s2.2.1 (3:Int))=(0:Int))) z13 z1.Pages z1.In z1.Out;let z46:=s2.1.set s2.2.2.toNat z30;let z14:=DCore.mk v3.1 v3.2 (w64 (v3.2+(1:Int))) (w64 ((w64 (v3.2+(1:Int)))+(1:Int))) (w64 ((w64 ((w64 (v3.2+(1:Int)))+(1:Int)))+(1:Int))) (decide ((Int.tmod (w64 ((w64 ((w64 ((w64 (v3.2+(1:Int)))+(1:Int)))+(1:Int)))+(1:Int))) (3:Int))=(0:Int))) (w64 ((w64 ((w64 ((w64 ((w64 (v3.2+(1:Int)))+(1:Int)))+(1:Int)))+(1:Int)))+(1:Int))) (w64 ((w64 ((w64 ((w64 ((w64 ((w64 (v3.2+(1:Int)))+(1:Int)))+(1:Int)))+(1:Int)))+(1:Int)))+(1:Int))) (w64 ((w64 ((w64 ((w64 ((w64 ((w64 ((w64 (v3.2+(1:Int)))+(1:Int)))+(1:Int)))+(1:Int)))+(1:Int)))+(1:Int)))+(1:Int))) (decide ((Int.tmod (w64 ((w64 ((w64 ((w64 ((w64 ((w64 ((w64 ((w64 (v3.2+(1:Int)))+(1:Int)))+(1:Int)))+(1:Int)))+(1:Int)))+(1:Int)))+(1:Int)))+(1:Int))) (3:Int))=(0:Int))) (decide ((Int.tmod (w64 ((w64 ((w64 ((w64 ((w64 ((w64 ((w64 ((w64 ((w64 (v3.2+(1:Int)))+(1:Int)))+(1:Int)))+(1:Int)))+(1:Int)))+(1:Int)))+(1:Int)))+(1:Int)))+(1:Int))) (3:Int))=(0:Int))) (z1.C).On (z1.C).Stopped;let z31:=DGuest.mk (decide ((Int.tmod s2.2.1 (3:Int))=(0:Int))) z14 z1.Pages z1.In z1.Out;let z47:=s2.1.set s2.2.2.toNat z31;let z15:=DCore.mk v3.1 v3.2 (w64 (v3.2+(1:Int))) (w64 ((w64 (v3.2+(1:Int)))+(1:Int))) (w64 ((w64 ((w64 (v3.2+(1:Int)))+(1:Int)))+(1:Int))) (decide ((Int.tmod (w64 ((w64 ((w64 ((w64 (v3.2+(1:Int)))+(1:Int)))+(1:Int)))+(1:Int))) (3:Int))=(0:Int))) (w64 ((w64 ((w64 ((w64 ((w64 (v3.2+(1:Int)))+(1:Int)))+(1:Int)))+(1:Int)))+(1:Int))) (w64 ((w64 ((w64 ((w64 ((w64 ((w64 (v3.2+(1:Int)))+(1:Int)))+(1:Int)))+(1:Int)))+(1:Int)))+(1:Int))) (w64 ((w64 ((w64 ((w64 ((w64 ((w64 ((w64 (v3.2+(1:Int)))+(1:Int)))+(1:Int)))+(1:Int)))+(1:Int)))+(1:Int)))+(1:Int))) (decide ((Int.tmod (w64 ((w64 ((w64 ((w64 ((w64 ((w64 ((w64 ((w64 (v3.2+(1:Int)))+(1:Int)))+(1:Int)))+(1:Int)))+(1:Int)))+(1:Int)))+(1:Int)))+(1:Int))) (3:Int))=(0:Int))) (decide ((Int.tmod (w64 ((w64 ((w64 ((w64 ((w64 ((w64 ((w64 ((w64 ((w64 (v3.2+(1:Int)))+(1:Int)))+(1:Int)))+(1:Int)))+(1:Int)))+(1:Int)))+(1:Int)))+(1:Int)))+(1:Int))) (3:Int))=(0:Int))) (decide ((Int.tmod (w64 ((w64 ((w64 ((w64 ((w64 ((w64 ((w64 ((w64 ((w64 ((w64 (v3.2+(1:Int)))+(1:Int)))+(1:Int)))+(1:Int)))+(1:Int)))+(1:Int)))+(1:Int)))+(1:Int)))+(1:Int)))+(1:Int))) (3:Int))=(0:Int))) (z1.C).Stopped;let z32:=DGuest.mk (decide ((Int.tmod s2.2.1 (3:Int))=(0:Int))) z15 z1.Pages z1.In z1.Out;let z48:=s2.1.set s2.2.2.toNat z32;let z2:=DCore.mk v3.1 v3.2 (w64 (v3.2+(1:Int))) (w64 ((w64 (v3.2+(1:Int)))+(1:Int))) (w64 ((w64 ((w64 (v3.2+(1:Int)))+(1:Int)))+(1:Int))) (decide ((Int.tmod (w64 ((w64 ((w64 ((w64 (v3.2+(1:Int)))+(1:Int)))+(1:Int)))+(1:Int))) (3:Int))=(0:Int))) (w64 ((w64 ((w64 ((w64 ((w64 (v3.2+(1:Int)))+(1:Int)))+(1:Int)))+(1:Int)))+(1:Int))) (w64 ((w64 ((w64 ((w64 ((w64 ((w64 (v3.2+(1:Int)))+(1:Int)))+(1:Int)))+(1:Int)))+(1:Int)))+(1:Int))) (w64 ((w64 ((w64 ((w64 ((w64 ((w64 ((w64 (v3.2+(1:Int)))+(1:Int)))+(1:Int)))+(1:Int)))+(1:Int)))+(1:Int)))+(1:Int))) (decide ((Int.tmod (w64 ((w64 ((w64 ((w64 ((w64 ((w64 ((w64 ((w64 (v3.2+(1:Int)))+(1:Int)))+(1:Int)))+(1:Int)))+(1:Int)))+(1:Int)))+(1:Int)))+(1:Int))) (3:Int))=(0:Int))) (decide ((Int.tmod (w64 ((w64 ((w64 ((w64 ((w64 ((w64 ((w64 ((w64 ((w64 (v3.2+(1:Int)))+(1:Int)))+(1:Int)))+(1:Int)))+(1:Int)))+(1:Int)))+(1:Int)))+(1:Int)))+(1:Int))) (3:Int))=(0:Int))) (decide ((Int.tmod (w64 ((w64 ((w64 ((w64 ((w64 ((w64 ((w64 ((w64 ((w64 ((w64 (v3.2+(1:Int)))+(1:Int)))+(1:Int)))+(1:Int)))+(1:Int)))+(1:Int)))+(1:Int)))+(1:Int)))+(1:Int)))+(1:Int))) (3:Int))=(0:Int))) (decide ((Int.tmod (w64 ((w64 ((w64 ((w64 ((w64 ((w64 ((w64 ((w64 ((w64 ((w64 ((w64 (v3.2+(1:Int)))+(1:Int)))+(1:Int)))+(1:Int)))+(1:Int)))+(1:Int)))+(1:Int)))+(1:Int)))+(1:Int)))+(1:Int)))+(1:Int))) (3:Int))=(0:Int)));let z16:=DGuest.mk (decide ((Int.tmod s2.2.1 (3:Int))=(0:Int))) z2 z1.Pages z1.In z1.Out;let z33:=s2.1.set s2.2.2.toNat z16;obtain⟨hg466,hh⟩:=aE hh;have hgqv3:=Eq.symm hg466;refine ys (.call 92 [.t 26,.t 27]) (some 28) (aFq (e':=3) (sz':=1) (m':=(List.length (z1.C).Regs)) (cs':=(fl (eI .i64) (z1.C).Regs)) (ds:=(fl (eI .i64) v3.1)) (c:=bE) (xs:=z20) (R:=0) (e:=94) (o:=0+s2.2.2.toNat*17+1+0+0) (i:=s2.2.2.toNat) (off:=1) (y:=z21) (m2:=v3.1.length) (args:=[.sref 0 [0+s2.2.2.toNat*17+1+0+0] 0 (List.length (z1.C).Regs) 1,ii (w64 (s2.2.1+(1:Int)))]) (args2:=[.sref 1 [] 0 (List.length (z1.C).Regs) 1,ii (w64 (s2.2.1+(1:Int)))]) kr aL kr ltn ltn dd (bD ltn) kr (aCn (.sref _ _ _) (aCn (.same _) aXf)) (Inl.frameB (v':=ii v3.2) (Hp':=[(1,some (rI_3 v3.1))]) (n':=2) [1] (pG hv3) rfl rfl rfl rz rfl (hn aX aY) gE rfl (hn aX aY) rfl) kr kr hgqv3 kr (List.set_set ..) ?_);let q2:Root:=(rO94 z37);refine yt (sp 157 [z51,(1,ii v3.2),z54]) [(0,some q2)] 2 (Aw.sreg [0,1,5] [0] ?_);obtain⟨hg502,hh⟩:=aE hh;refine yjc 6 [(0:Int)<=s2.2.2/\s2.2.2<((s2.1.length:Nat):Int)] (sp 157 [z51,(1,ii v3.2),z54,(29,.sref 0 [] 0 s2.1.length 17),(30,ii s2.2.2),(31,ii v3.2),(32,.ptr 0 [] (0+s2.2.2.toNat*17)),(33,.ptr 0 [] (0+s2.2.2.toNat*17+1)),(34,.ptr 0 [] (0+s2.2.2.toNat*17+1+1))]) [(0,some q2)] 2 (.cons hg502 .nil) ?_;let q3:Root:=(rO94 z38);let z69:=(0,some q3);refine ys (.store 1 (.t 34) (.t 31)) none (fA (bD ltn) (List.set_set ..) (c:=bE) (xs:=z37) (e:=94) (r:=0) (π:=[]) (o:=0+s2.2.2.toNat*17+1+1) (i:=s2.2.2.toNat) (off:=2) (vs:=[ii v3.2]) (y:=z22) (H':=[z69,(0,some q2)]) aL kr kr kr kr ltn ltn dd kr kr ?_);refine yt (sp 157 [z51,(1,ii v3.2),z54]) [z69] 2 (sy [0,1,5] [0] (sp 157 [z51,z68,z54]) [z69] 2 (Aw.sreg [0,1,5] [0] ?_));obtain⟨hg501,hh⟩:=aE hh;refine yjc 6 [(0:Int)<=s2.2.2/\s2.2.2<((s2.1.length:Nat):Int)] (sp 157 [z51,z68,z54,(37,.sref 0 [] 0 s2.1.length 17),(38,ii s2.2.2),(39,ii (w64 (v3.2+(1:Int)))),(40,.ptr 0 [] (0+s2.2.2.toNat*17)),(41,.ptr 0 [] (0+s2.2.2.toNat*17+1)),(42,.ptr 0 [] (0+s2.2.2.toNat*17+1+2))]) [z69] 2 (.cons hg501 .nil) ?_;let q4:Root:=(rO94 z39);let z70:=(0,some q4);refine ys (.store 1 (.t 42) (.t 39)) none (fA (bD ltn) (List.set_set ..) (c:=bE) (xs:=z38) (e:=94) (r:=0) (π:=[]) (o:=0+s2.2.2.toNat*17+1+2) (i:=s2.2.2.toNat) (off:=3) (vs:=[ii (w64 (v3.2+(1:Int)))]) (y:=z23) (H':=[z70,z69]) aL kr kr kr kr ltn ltn dd kr kr ?_);refine yt (sp 157 [z51,z68,z54]) [z70] 2 (sy [0,1,5] [0] (sp 157 [z51,z67,z54]) [z70] 2 (Aw.sreg [0,1,5] [0] ?_));obtain⟨hg500,hh⟩:=aE hh;refine yjc 6 [(0:Int)<=s2.2.2/\s2.2.2<((s2.1.length:Nat):Int)] (sp 157 [z51,z67,z54,(45,.sref 0 [] 0 s2.1.length 17),(46,ii s2.2.2),(47,ii (w64 ((w64 (v3.2+(1:Int)))+(1:Int)))),(48,.ptr 0 [] (0+s2.2.2.toNat*17)),(49,.ptr 0 [] (0+s2.2.2.toNat*17+1)),(50,.ptr 0 [] (0+s2.2.2.toNat*17+1+3))]) [z70] 2 (.cons hg500 .nil) ?_;let q5:Root:=(rO94 z40);let z71:=(0,some q5);refine ys (.store 1 (.t 50) (.t 47)) none (fA (bD ltn) (List.set_set ..) (c:=bE) (xs:=z39) (e:=94) (r:=0) (π:=[]) (o:=0+s2.2.2.toNat*17+1+3) (i:=s2.2.2.toNat) (off:=4) (vs:=[ii (w64 ((w64 (v3.2+(1:Int)))+(1:Int)))]) (y:=z24) (H':=[z71,z70]) aL kr kr kr kr ltn ltn dd kr kr ?_);refine yt (sp 157 [z51,z67,z54]) [z71] 2 (sy [0,1,5] [0] (sp 157 [z51,z66,z54]) [z71] 2 (Aw.sreg [0,1,5] [0] ?_));obtain⟨hg499,hh⟩:=aE hh;refine yjc 6 [(0:Int)<=s2.2.2/\s2.2.2<((s2.1.length:Nat):Int)] (sp 157 [z51,z66,z54,(53,.sref 0 [] 0 s2.1.length 17),(54,ii s2.2.2),(55,ii (w64 ((w64 ((w64 (v3.2+(1:Int)))+(1:Int)))+(1:Int)))),(56,.ptr 0 [] (0+s2.2.2.toNat*17)),(57,.ptr 0 [] (0+s2.2.2.toNat*17+1)),(58,.ptr 0 [] (0+s2.2.2.toNat*17+1+4))]) [z71] 2 (.cons hg499 .nil) ?_;let q6:Root:=(rO94 z41);let z72:=(0,some q6);refine ys (.store 1 (.t 58) (.t 55)) none (fA (bD ltn) (List.set_set ..) (c:=bE) (xs:=z40) (e:=94) (r:=0) (π:=[]) (o:=0+s2.2.2.toNat*17+1+4) (i:=s2.2.2.toNat) (off:=5) (vs:=[ii (w64 ((w64 ((w64 (v3.2+(1:Int)))+(1:Int)))+(1:Int)))]) (y:=z25) (H':=[z72,z71]) aL kr kr kr kr ltn ltn dd kr kr ?_);refine yt (sp 157 [z51,z66,z54]) [z72] 2 (sy [0,1,5] [0] (sp 157 [z51,z65,z54]) [z72] 2 (Aw.sreg [0,1,5] [0] ?_));obtain⟨hg498,hh⟩:=aE hh;refine yjc 8 [(3:Int)≠0,(0:Int)<=s2.2.2/\s2.2.2<((s2.1.length:Nat):Int)] (sp 157 [z51,z65,z54,(61,.sref 0 [] 0 s2.1.length 17),(62,ii s2.2.2),(63,ii (w64 ((w64 ((w64 ((w64 (v3.2+(1:Int)))+(1:Int)))+(1:Int)))+(1:Int)))),(64,ii (Int.tmod (w64 ((w64 ((w64 ((w64 (v3.2+(1:Int)))+(1:Int)))+(1:Int)))+(1:Int))) (3:Int))),(65,bb (decide ((Int.tmod (w64 ((w64 ((w64 ((w64 (v3.2+(1:Int)))+(1:Int)))+(1:Int)))+(1:Int))) (3:Int))=(0:Int)))),(66,.ptr 0 [] (0+s2.2.2.toNat*17)),(67,.ptr 0 [] (0+s2.2.2.toNat*17+1)),(68,.ptr 0 [] (0+s2.2.2.toNat*17+1+5))]) [z72] 2 (.cons dd (.cons hg498 .nil)) ?_;let q7:Root:=(rO94 z42);let z73:=(0,some q7);refine ys (.store 1 (.t 68) (.t 65)) none (fA (bD ltn) (List.set_set ..) (c:=bE) (xs:=z41) (e:=94) (r:=0) (π:=[]) (o:=0+s2.2.2.toNat*17+1+5) (i:=s2.2.2.toNat) (off:=6) (vs:=[bb (decide ((Int.tmod (w64 ((w64 ((w64 ((w64 (v3.2+(1:Int)))+(1:Int)))+(1:Int)))+(1:Int))) (3:Int))=(0:Int)))]) (y:=z26) (H':=[z73,z72]) aL kr kr kr kr ltn ltn dd kr kr ?_);refine yt (sp 157 [z51,z65,z54]) [z73] 2 (sy [0,1,5] [0] (sp 157 [z51,z64,z54]) [z73] 2 (Aw.sreg [0,1,5] [0] ?_));obtain⟨hg497,hh⟩:=aE hh;refine yjc 6 [(0:Int)<=s2.2.2/\s2.2.2<((s2.1.length:Nat):Int)] (sp 157 [z51,z64,z54,(71,.sref 0 [] 0 s2.1.length 17),(72,ii s2.2.2),(73,ii (w64 ((w64 ((w64 ((w64 ((w64 (v3.2+(1:Int)))+(1:Int)))+(1:Int)))+(1:Int)))+(1:Int)))),(74,.ptr 0 [] (0+s2.2.2.toNat*17)),(75,.ptr 0 [] (0+s2.2.2.toNat*17+1)),(76,.ptr 0 [] (0+s2.2.2.toNat*17+1+6))]) [z73] 2 (.cons hg497 .nil) ?_;let q8:Root:=(rO94 z43);let z74:=(0,some q8);refine ys (.store 1 (.t 76) (.t 73)) none (fA (bD ltn) (List.set_set ..) (c:=bE) (xs:=z42) (e:=94) (r:=0) (π:=[]) (o:=0+s2.2.2.toNat*17+1+6) (i:=s2.2.2.toNat) (off:=7) (vs:=[ii (w64 ((w64 ((w64 ((w64 ((w64 (v3.2+(1:Int)))+(1:Int)))+(1:Int)))+(1:Int)))+(1:Int)))]) (y:=z27) (H':=[z74,z73]) aL kr kr kr kr ltn ltn dd kr kr ?_);refine yt (sp 157 [z51,z64,z54]) [z74] 2 (sy [0,1,5] [0] (sp 157 [z51,z63,z54]) [z74] 2 (Aw.sreg [0,1,5] [0] ?_));obtain⟨hg496,hh⟩:=aE hh;refine yjc 6 [(0:Int)<=s2.2.2/\s2.2.2<((s2.1.length:Nat):Int)] (sp 157 [z51,z63,z54,(79,.sref 0 [] 0 s2.1.length 17),(80,ii s2.2.2),(81,ii (w64 ((w64 ((w64 ((w64 ((w64 ((w64 (v3.2+(1:Int)))+(1:Int)))+(1:Int)))+(1:Int)))+(1:Int)))+(1:Int)))),(82,.ptr 0 [] (0+s2.2.2.toNat*17)),(83,.ptr 0 [] (0+s2.2.2.toNat*17+1)),(84,.ptr 0 [] (0+s2.2.2.toNat*17+1+7))]) [z74] 2 (.cons hg496 .nil) ?_;let q9:Root:=(rO94 z44);let z75:=(0,some q9);refine ys (.store 1 (.t 84) (.t 81)) none (fA (bD ltn) (List.set_set ..) (c:=bE) (xs:=z43) (e:=94) (r:=0) (π:=[]) (o:=0+s2.2.2.toNat*17+1+7) (i:=s2.2.2.toNat) (off:=8) (vs:=[ii (w64 ((w64 ((w64 ((w64 ((w64 ((w64 (v3.2+(1:Int)))+(1:Int)))+(1:Int)))+(1:Int)))+(1:Int)))+(1:Int)))]) (y:=z28) (H':=[z75,z74]) aL kr kr kr kr ltn ltn dd kr kr ?_);refine yt (sp 157 [z51,z63,z54]) [z75] 2 (sy [0,1,5] [0] (sp 157 [z51,z62,z54]) [z75] 2 (Aw.sreg [0,1,5] [0] ?_));obtain⟨hg495,hh⟩:=aE hh;refine yjc 6 [(0:Int)<=s2.2.2/\s2.2.2<((s2.1.length:Nat):Int)] (sp 157 [z51,z62,z54,(87,.sref 0 [] 0 s2.1.length 17),(88,ii s2.2.2),(89,ii (w64 ((w64 ((w64 ((w64 ((w64 ((w64 ((w64 (v3.2+(1:Int)))+(1:Int)))+(1:Int)))+(1:Int)))+(1:Int)))+(1:Int)))+(1:Int)))),(90,.ptr 0 [] (0+s2.2.2.toNat*17)),(91,.ptr 0 [] (0+s2.2.2.toNat*17+1)),(92,.ptr 0 [] (0+s2.2.2.toNat*17+1+8))]) [z75] 2 (.cons hg495 .nil) ?_;let q10:Root:=(rO94 z45);let z76:=(0,some q10);refine ys (.store 1 (.t 92) (.t 89)) none (fA (bD ltn) (List.set_set ..) (c:=bE) (xs:=z44) (e:=94) (r:=0) (π:=[]) (o:=0+s2.2.2.toNat*17+1+8) (i:=s2.2.2.toNat) (off:=9) (vs:=[ii (w64 ((w64 ((w64 ((w64 ((w64 ((w64 ((w64 (v3.2+(1:Int)))+(1:Int)))+(1:Int)))+(1:Int)))+(1:Int)))+(1:Int)))+(1:Int)))]) (y:=z29) (H':=[z76,z75]) aL kr kr kr kr ltn ltn dd kr kr ?_);refine yt (sp 157 [z51,z62,z54]) [z76] 2 (sy [0,1,5] [0] (sp 157 [z51,z61,z54]) [z76] 2 (Aw.sreg [0,1,5] [0] ?_));obtain⟨hg494,hh⟩:=aE hh;refine yjc 8 [(3:Int)≠0,(0:Int)<=s2.2.2/\s2.2.2<((s2.1.length:Nat):Int)] (sp 157 [z51,z61,z54,(95,.sref 0 [] 0 s2.1.length 17),(96,ii s2.2.2),(97,ii (w64 ((w64 ((w64 ((w64 ((w64 ((w64 ((w64 ((w64 (v3.2+(1:Int)))+(1:Int)))+(1:Int)))+(1:Int)))+(1:Int)))+(1:Int)))+(1:Int)))+(1:Int)))),(98,ii (Int.tmod (w64 ((w64 ((w64 ((w64 ((w64 ((w64 ((w64 ((w64 (v3.2+(1:Int)))+(1:Int)))+(1:Int)))+(1:Int)))+(1:Int)))+(1:Int)))+(1:Int)))+(1:Int))) (3:Int))),(99,bb (decide ((Int.tmod (w64 ((w64 ((w64 ((w64 ((w64 ((w64 ((w64 ((w64 (v3.2+(1:Int)))+(1:Int)))+(1:Int)))+(1:Int)))+(1:Int)))+(1:Int)))+(1:Int)))+(1:Int))) (3:Int))=(0:Int)))),(100,.ptr 0 [] (0+s2.2.2.toNat*17)),(101,.ptr 0 [] (0+s2.2.2.toNat*17+1)),(102,.ptr 0 [] (0+s2.2.2.toNat*17+1+9))]) [z76] 2 (.cons dd (.cons hg494 .nil)) ?_;let q11:Root:=(rO94 z46);let z77:=(0,some q11);refine ys (.store 1 (.t 102) (.t 99)) none (fA (bD ltn) (List.set_set ..) (c:=bE) (xs:=z45) (e:=94) (r:=0) (π:=[]) (o:=0+s2.2.2.toNat*17+1+9) (i:=s2.2.2.toNat) (off:=10) (vs:=[bb (decide ((Int.tmod (w64 ((w64 ((w64 ((w64 ((w64 ((w64 ((w64 ((w64 (v3.2+(1:Int)))+(1:Int)))+(1:Int)))+(1:Int)))+(1:Int)))+(1:Int)))+(1:Int)))+(1:Int))) (3:Int))=(0:Int)))]) (y:=z30) (H':=[z77,z76]) aL kr kr kr kr ltn ltn dd kr kr ?_);refine yt (sp 157 [z51,z61,z54]) [z77] 2 (sy [0,1,5] [0] (sp 157 [z51,z60,z54]) [z77] 2 (Aw.sreg [0,1,5] [0] ?_));obtain⟨hg493,hh⟩:=aE hh;refine yjc 8 [(3:Int)≠0,(0:Int)<=s2.2.2/\s2.2.2<((s2.1.length:Nat):Int)] (sp 157 [z51,z60,z54,(105,.sref 0 [] 0 s2.1.length 17),(106,ii s2.2.2),(107,ii (w64 ((w64 ((w64 ((w64 ((w64 ((w64 ((w64 ((w64 ((w64 (v3.2+(1:Int)))+(1:Int)))+(1:Int)))+(1:Int)))+(1:Int)))+(1:Int)))+(1:Int)))+(1:Int)))+(1:Int)))),(108,ii (Int.tmod (w64 ((w64 ((w64 ((w64 ((w64 ((w64 ((w64 ((w64 ((w64 (v3.2+(1:Int)))+(1:Int)))+(1:Int)))+(1:Int)))+(1:Int)))+(1:Int)))+(1:Int)))+(1:Int)))+(1:Int))) (3:Int))),(109,bb (decide ((Int.tmod (w64 ((w64 ((w64 ((w64 ((w64 ((w64 ((w64 ((w64 ((w64 (v3.2+(1:Int)))+(1:Int)))+(1:Int)))+(1:Int)))+(1:Int)))+(1:Int)))+(1:Int)))+(1:Int)))+(1:Int))) (3:Int))=(0:Int)))),(110,.ptr 0 [] (0+s2.2.2.toNat*17)),(111,.ptr 0 [] (0+s2.2.2.toNat*17+1)),(112,.ptr 0 [] (0+s2.2.2.toNat*17+1+10))]) [z77] 2 (.cons dd (.cons hg493 .nil)) ?_;let q12:Root:=(rO94 z47);let z78:=(0,some q12);refine ys (.store 1 (.t 112) (.t 109)) none (fA (bD ltn) (List.set_set ..) (c:=bE) (xs:=z46) (e:=94) (r:=0) (π:=[]) (o:=0+s2.2.2.toNat*17+1+10) (i:=s2.2.2.toNat) (off:=11) (vs:=[bb (decide ((Int.tmod (w64 ((w64 ((w64 ((w64 ((w64 ((w64 ((w64 ((w64 ((w64 (v3.2+(1:Int)))+(1:Int)))+(1:Int)))+(1:Int)))+(1:Int)))+(1:Int)))+(1:Int)))+(1:Int)))+(1:Int))) (3:Int))=(0:Int)))]) (y:=z31) (H':=[z78,z77]) aL kr kr kr kr ltn ltn dd kr kr ?_);refine yt (sp 157 [z51,z60,z54]) [z78] 2 (sy [0,1,5] [0] (sp 157 [z51,z59,z54]) [z78] 2 (Aw.sreg [0,1,5] [0] ?_));obtain⟨hg492,hh⟩:=aE hh;refine yjc 8 [(3:Int)≠0,(0:Int)<=s2.2.2/\s2.2.2<((s2.1.length:Nat):Int)] (sp 157 [z51,z59,z54,(115,.sref 0 [] 0 s2.1.length 17),(116,ii s2.2.2),(117,ii (w64 ((w64 ((w64 ((w64 ((w64 ((w64 ((w64 ((w64 ((w64 ((w64 (v3.2+(1:Int)))+(1:Int)))+(1:Int)))+(1:Int)))+(1:Int)))+(1:Int)))+(1:Int)))+(1:Int)))+(1:Int)))+(1:Int)))),(118,ii (Int.tmod (w64 ((w64 ((w64 ((w64 ((w64 ((w64 ((w64 ((w64 ((w64 ((w64 (v3.2+(1:Int)))+(1:Int)))+(1:Int)))+(1:Int)))+(1:Int)))+(1:Int)))+(1:Int)))+(1:Int)))+(1:Int)))+(1:Int))) (3:Int))),(119,bb (decide ((Int.tmod (w64 ((w64 ((w64 ((w64 ((w64 ((w64 ((w64 ((w64 ((w64 ((w64 (v3.2+(1:Int)))+(1:Int)))+(1:Int)))+(1:Int)))+(1:Int)))+(1:Int)))+(1:Int)))+(1:Int)))+(1:Int)))+(1:Int))) (3:Int))=(0:Int)))),(120,.ptr 0 [] (0+s2.2.2.toNat*17)),(121,.ptr 0 [] (0+s2.2.2.toNat*17+1)),(122,.ptr 0 [] (0+s2.2.2.toNat*17+1+11))]) [z78] 2 (.cons dd (.cons hg492 .nil)) ?_;let q13:Root:=(rO94 z48);let z79:=(0,some q13);refine ys (.store 1 (.t 122) (.t 119)) none (fA (bD ltn) (List.set_set ..) (c:=bE) (xs:=z47) (e:=94) (r:=0) (π:=[]) (o:=0+s2.2.2.toNat*17+1+11) (i:=s2.2.2.toNat) (off:=12) (vs:=[bb (decide ((Int.tmod (w64 ((w64 ((w64 ((w64 ((w64 ((w64 ((w64 ((w64 ((w64 ((w64 (v3.2+(1:Int)))+(1:Int)))+(1:Int)))+(1:Int)))+(1:Int)))+(1:Int)))+(1:Int)))+(1:Int)))+(1:Int)))+(1:Int))) (3:Int))=(0:Int)))]) (y:=z32) (H':=[z79,z78]) aL kr kr kr kr ltn ltn dd kr kr ?_);refine yt (sp 157 [z51,z59,z54]) [z79] 2 (sy [0,1,5] [0] (sp 157 [z51,z58,z54]) [z79] 2 (Aw.sreg [0,1,5] [0] ?_));obtain⟨hg491,hh⟩:=aE hh;refine yjc 8 [(3:Int)≠0,(0:Int)<=s2.2.2/\s2.2.2<((s2.1.length:Nat):Int)] (sp 157 [z51,z58,z54,(125,.sref 0 [] 0 s2.1.length 17),(126,ii s2.2.2),(127,ii (w64 ((w64 ((w64 ((w64 ((w64 ((w64 ((w64 ((w64 ((w64 ((w64 ((w64 (v3.2+(1:Int)))+(1:Int)))+(1:Int)))+(1:Int)))+(1:Int)))+(1:Int)))+(1:Int)))+(1:Int)))+(1:Int)))+(1:Int)))+(1:Int)))),(128,ii (Int.tmod (w64 ((w64 ((w64 ((w64 ((w64 ((w64 ((w64 ((w64 ((w64 ((w64 ((w64 (v3.2+(1:Int)))+(1:Int)))+(1:Int)))+(1:Int)))+(1:Int)))+(1:Int)))+(1:Int)))+(1:Int)))+(1:Int)))+(1:Int)))+(1:Int))) (3:Int))),(129,bb (decide ((Int.tmod (w64 ((w64 ((w64 ((w64 ((w64 ((w64 ((w64 ((w64 ((w64 ((w64 ((w64 (v3.2+(1:Int)))+(1:Int)))+(1:Int)))+(1:Int)))+(1:Int)))+(1:Int)))+(1:Int)))+(1:Int)))+(1:Int)))+(1:Int)))+(1:Int))) (3:Int))=(0:Int)))),(130,.ptr 0 [] (0+s2.2.2.toNat*17)),(131,.ptr 0 [] (0+s2.2.2.toNat*17+1)),(132,.ptr 0 [] (0+s2.2.2.toNat*17+1+12))]) [z79] 2 (.cons dd (.cons hg491 .nil)) ?_;let q14:Root:=(rO94 z33);let z80:=(0,some q14);refine ys (.store 1 (.t 132) (.t 129)) none (fA (bD ltn) (List.set_set ..) (c:=bE) (xs:=z48) (e:=94) (r:=0) (π:=[]) (o:=0+s2.2.2.toNat*17+1+12) (i:=s2.2.2.toNat) (off:=13) (vs:=[bb (decide ((Int.tmod (w64 ((w64 ((w64 ((w64 ((w64 ((w64 ((w64 ((w64 ((w64 ((w64 ((w64 (v3.2+(1:Int)))+(1:Int)))+(1:Int)))+(1:Int)))+(1:Int)))+(1:Int)))+(1:Int)))+(1:Int)))+(1:Int)))+(1:Int)))+(1:Int))) (3:Int))=(0:Int)))]) (y:=z16) (H':=[z80,z79]) aL kr kr kr kr ltn ltn dd kr kr ?_);refine yt (sp 157 [z51,z58,z54]) [z80] 2 (sy [0,1,5] [0] (sp 157 [z51,z57,z54]) [z80] 2 (Aw.sreg [0,1,5] [0] ?_));obtain⟨hg490,hh⟩:=aE hh;refine yjc 4 [(0:Int)<=s2.2.2/\s2.2.2<((s2.1.length:Nat):Int)] (sp 157 [z51,z57,z54,(135,.sref 0 [] 0 s2.1.length 17),(136,ii s2.2.2),(137,.ptr 0 [] (0+s2.2.2.toNat*17)),(138,.ptr 0 [] (0+s2.2.2.toNat*17+14))]) [z80] 2 (.cons hg490 .nil) (ys (.load false 1 (.t 138)) (some 139) (aGs (bD ltn) (c:=bE) (xs:=z33) (e:=94) (r:=0) (π:=[]) (o:=0+s2.2.2.toNat*17+14) (i:=s2.2.2.toNat) (off:=14) (v:= .sref 0 [0+s2.2.2.toNat*17+14+0] 0 (List.length z1.Pages) 3) aL kr kr ltn ltn dd kr ?_));refine yu 1 [(139,.sref 0 [0+s2.2.2.toNat*17+14+0] 0 (List.length z1.Pages) 3),(140,ii (w64 ((w64 ((w64 ((w64 ((w64 ((w64 ((w64 ((w64 ((w64 ((w64 ((w64 ((w64 (v3.2+(1:Int)))+(1:Int)))+(1:Int)))+(1:Int)))+(1:Int)))+(1:Int)))+(1:Int)))+(1:Int)))+(1:Int)))+(1:Int)))+(1:Int)))+(1:Int))))] [z80] 2 ?_;obtain⟨v4,hv4,hh⟩:=bind_some hh;let z17:=DGuest.mk (decide ((Int.tmod s2.2.1 (3:Int))=(0:Int))) z2 v4.1 z1.In z1.Out;let z34:=s2.1.set s2.2.2.toNat z17;obtain⟨hg481,hh⟩:=aE hh;have hgqv4:=Eq.symm hg481;refine ys (.call 146 [.t 139,.t 140]) (some 141) (aFq (e':=91) (sz':=3) (m':=(List.length z1.Pages)) (cs':=(fl eY z1.Pages)) (ds:=(fl eY v4.1)) (c:=bE) (xs:=z33) (R:=0) (e:=94) (o:=0+s2.2.2.toNat*17+14+0) (i:=s2.2.2.toNat) (off:=14) (y:=z17) (m2:=v4.1.length) (args:=[.sref 0 [0+s2.2.2.toNat*17+14+0] 0 (List.length z1.Pages) 3,ii (w64 ((w64 ((w64 ((w64 ((w64 ((w64 ((w64 ((w64 ((w64 ((w64 ((w64 ((w64 (v3.2+(1:Int)))+(1:Int)))+(1:Int)))+(1:Int)))+(1:Int)))+(1:Int)))+(1:Int)))+(1:Int)))+(1:Int)))+(1:Int)))+(1:Int)))+(1:Int)))]) (args2:=[.sref 2 [] 0 (List.length z1.Pages) 3,ii (w64 ((w64 ((w64 ((w64 ((w64 ((w64 ((w64 ((w64 ((w64 ((w64 ((w64 ((w64 (v3.2+(1:Int)))+(1:Int)))+(1:Int)))+(1:Int)))+(1:Int)))+(1:Int)))+(1:Int)))+(1:Int)))+(1:Int)))+(1:Int)))+(1:Int)))+(1:Int)))]) kr aL kr ltn ltn dd (bD ltn) kr (aCn (.sref _ _ _) (aCn (.same _) aXf)) (Inl.frameB (v':=ii v4.2) (Hp':=[(2,some (rC91 v4.1))]) (n':=3) [2] (aMb hv4) rfl rfl rfl rz rfl (hn gU aY) gE rfl (hn gU aY) rfl) kr kr hgqv4 kr (List.set_set ..) ?_);let q15:Root:=(rO94 z34);refine yt (sp 157 [z51,(1,ii v4.2),z54]) [(0,some q15)] 3 (Aw.sreg [0,1,5] [0] ?_);obtain⟨hg489,hh⟩:=aE hh;refine yjc 4 [(0:Int)<=s2.2.2/\s2.2.2<((s2.1.length:Nat):Int)] (sp 157 [z51,(1,ii v4.2),z54,(142,.sref 0 [] 0 s2.1.length 17),(143,ii s2.2.2),(144,.ptr 0 [] (0+s2.2.2.toNat*17)),(145,.ptr 0 [] (0+s2.2.2.toNat*17+15))]) [(0,some q15)] 3 (.cons hg489 .nil) (ys (.load false 1 (.t 145)) (some 146) (aGs (bD ltn) (c:=bE) (xs:=z34) (e:=94) (r:=0) (π:=[]) (o:=0+s2.2.2.toNat*17+15) (i:=s2.2.2.toNat) (off:=15) (v:= .sref 0 [0+s2.2.2.toNat*17+15+0] 0 (List.length z1.In) 1) aL kr kr ltn ltn dd kr ?_));refine yu 1 [(146,.sref 0 [0+s2.2.2.toNat*17+15+0] 0 (List.length z1.In) 1),(147,ii v4.2)] [(0,some q15)] 3 ?_;obtain⟨v5,hv5,hh⟩:=bind_some hh;let z18:=DGuest.mk (decide ((Int.tmod s2.2.1 (3:Int))=(0:Int))) z2 v4.1 v5.1 z1.Out;let z35:=s2.1.set s2.2.2.toNat z18;obtain⟨hg484,hh⟩:=aE hh;have hgqv5:=Eq.symm hg484;refine ys (.call 92 [.t 146,.t 147]) (some 148) (aFq (e':=3) (sz':=1) (m':=(List.length z1.In)) (cs':=(fl (eI .i64) z1.In)) (ds:=(fl (eI .i64) v5.1)) (c:=bE) (xs:=z34) (R:=0) (e:=94) (o:=0+s2.2.2.toNat*17+15+0) (i:=s2.2.2.toNat) (off:=15) (y:=z18) (m2:=v5.1.length) (args:=[.sref 0 [0+s2.2.2.toNat*17+15+0] 0 (List.length z1.In) 1,ii v4.2]) (args2:=[.sref 3 [] 0 (List.length z1.In) 1,ii v4.2]) kr aL kr ltn ltn dd (bD ltn) kr (aCn (.sref _ _ _) (aCn (.same _) aXf)) (Inl.frameB (v':=ii v5.2) (Hp':=[(3,some (rI_3 v5.1))]) (n':=4) [3] (pG hv5) rfl rfl rfl rz rfl (hn aX aY) gE rfl (hn aX aY) rfl) kr kr hgqv5 kr (List.set_set ..) ?_);let q16:Root:=(rO94 z35);refine yt (sp 157 [z51,(1,ii v5.2),z54]) [(0,some q16)] 4 (Aw.xreg [0,1,5] [0] (λ_ _ _ hq=>aFo (fF hq)) ?_);obtain⟨hg488,hh⟩:=aE hh;refine yjc 4 [(0:Int)<=s2.2.2/\s2.2.2<((s2.1.length:Nat):Int)] (sp 157 [z51,(1,ii v5.2),z54,(149,.sref 0 [] 0 s2.1.length 17),(150,ii s2.2.2),(151,.ptr 0 [] (0+s2.2.2.toNat*17)),(152,.ptr 0 [] (0+s2.2.2.toNat*17+16))]) [(0,some q16)] 4 (.cons hg488 .nil) (ys (.load false 1 (.t 152)) (some 153) (aGs (bD ltn) (c:=bE) (xs:=z35) (e:=94) (r:=0) (π:=[]) (o:=0+s2.2.2.toNat*17+16) (i:=s2.2.2.toNat) (off:=16) (v:= .sref 0 [0+s2.2.2.toNat*17+16+0] 0 (List.length z1.Out) 1) aL kr kr ltn ltn dd kr ?_));refine yu 1 [(153,.sref 0 [0+s2.2.2.toNat*17+16+0] 0 (List.length z1.Out) 1),(154,ii v5.2)] [(0,some q16)] 4 ?_;obtain⟨v6,hv6,hh⟩:=bind_some hh;let z19:=DGuest.mk (decide ((Int.tmod s2.2.1 (3:Int))=(0:Int))) z2 v4.1 v5.1 v6.1;let z36:=s2.1.set s2.2.2.toNat z19;obtain⟨hg487,hh⟩:=aE hh;have hgqv6:=Eq.symm hg487;refine ys (.call 92 [.t 153,.t 154]) (some 155) (aFq (e':=3) (sz':=1) (m':=(List.length z1.Out)) (cs':=(fl (eI .i64) z1.Out)) (ds:=(fl (eI .i64) v6.1)) (c:=bE) (xs:=z35) (R:=0) (e:=94) (o:=0+s2.2.2.toNat*17+16+0) (i:=s2.2.2.toNat) (off:=16) (y:=z19) (m2:=v6.1.length) (args:=[.sref 0 [0+s2.2.2.toNat*17+16+0] 0 (List.length z1.Out) 1,ii v5.2]) (args2:=[.sref 4 [] 0 (List.length z1.Out) 1,ii v5.2]) kr aL kr ltn ltn dd (bD ltn) kr (aCn (.sref _ _ _) (aCn (.same _) aXf)) (Inl.frameB (v':=ii v6.2) (Hp':=[(4,some (rI_3 v6.1))]) (n':=5) [4] (pG hv6) rfl rfl rfl rz rfl (hn aX aY) gE rfl (hn aX aY) rfl) kr kr hgqv6 kr (List.set_set ..) ?_);let q17:Root:=(rO94 z36);exact yt (sp 157 [z51,(1,ii v6.2),z54]) [(0,some q17)] 5 (Aw.oreg (ye (sp 157 [z51,(1,ii v6.2),(5,ii (w64 (s2.2.2+(1:Int)))),(10,ii s2.2.2),(11,ii (w64 (s2.2.2+(1:Int))))]) [(0,some q17)] 5 (hN2 (z36,v6.2,w64 (s2.2.2+(1:Int))) _ _ _ (bO hh) (el [some 0] (fS kr (rs (.sref 0 [] 0 s2.1.length 17) (ri (ri rA)))) (hn cJ aY)))))
theorem aMl:LW 39 ⟨14,[.tmp 4],.seq (.reg false (rg 39 0)) (.seq (.reg false (rg 39 1)) (.seq (.reg false (rg 39 2)) (.seq (.reg false (rg 39 3)) .ret)))⟩:=kr
noncomputable def jP (x_a:DHost)(x_k:Int):Option ((List Int)×(List DGuest)×Int):=
 Option.bind (eZ x_a.Words x_k) λv1=>
 grd (v1.1.length=x_a.Words.length) (Option.bind (kP x_a.Guests v1.2) λv2=>
  grd (v2.1.length=x_a.Guests.length) (some (v1.1,v2.1,v2.2)))
theorem aBt{x_a:DHost}{x_k:Int}{R_:(List Int)×(List DGuest)×Int}(hh:jP x_a x_k=some R_):Inl Tryz.prog 39 [.agg [.sref 0 [] 0 x_a.Words.length 1,.sref 1 [] 0 x_a.Guests.length 17],.int .i64 x_k] [(1,some (rO94 x_a.Guests)),(0,some (rI_3 x_a.Words))] 2 (.int .i64 R_.2.2) [(0,some (rI_3 R_.1)),(1,some (rO94 R_.2.1))] 2:=by unfold jP at hh;let q1:Root:=(rI_3 x_a.Words);let q2:Root:=(rO94 x_a.Guests);let z1:=(1,some q2);refine Inl.start aMl [0,1] [0,1] (E:=sp 14 [(0,.agg [sw 0 x_a.Words,.sref 1 [] 0 x_a.Guests.length 17]),(1,ii x_k)]) (H1:=[(0,some q1),z1]) kr kr (Aw.sreg [1,2] [0,1,2] ?_);let q3:Root:=⟨26,[sw 0 x_a.Words,.sref 1 [] 0 x_a.Guests.length 17]⟩;refine yt (sp 14 [(1,ii x_k),(2,pp 2)]) [(0,some q1),z1,(2,some q3)] 3 (Aw.sreg [1,2] [0,1,2] (yu 3 [(5,pp 2),(6,sw 0 x_a.Words),(7,ii x_k)] [(0,some q1),z1,(2,some q3)] 3 ?_));obtain⟨v1,hv1,hh⟩:=bind_some hh;let z2:EH:=(0,some (rI_3 v1.1));obtain⟨hg2,hh⟩:=aE hh;refine ys (.call 92 [.t 6,.t 7]) (some 8) (cf (ii v1.2) [z2] 3 [0] (pG hv1) [sw 0 x_a.Words,ii x_k] rz (hn aX aY) gE (hn aX aY) ?_);refine yt (sp 14 [(1,ii v1.2),(2,pp 2)]) [z2,z1,(2,some q3)] 3 (Aw.sreg [1] [0,1] (yu 3 [(9,.ptr 2 [] 1),(10,.sref 1 [] 0 x_a.Guests.length 17),(11,ii v1.2)] [z2,z1,(2,some q3)] 3 ?_));obtain⟨v2,hv2,hh⟩:=bind_some hh;let z3:EH:=(1,some (rO94 v2.1));obtain⟨hg4,hh⟩:=aE hh;refine ys (.call 93 [.t 10,.t 11]) (some 12) (cf (ii v2.2) [z3] 3 [1] (aIt hv2) [.sref 1 [] 0 x_a.Guests.length 17,ii v1.2] rz (hn cJ aY) gE (hn cJ aY) ?_);refine yt (sp 14 [(1,ii v2.2)]) [z2,z3] 3 (sy [4] [0,1] (sp 14 [(4,ii v2.2)]) [z2,z3] 3 (Aw.ret ?_));rw[bO hh];exact qR (r':=ii v2.2) kr (el [some 0,some 1] (lO gE) (hn aX (hn cJ aY)))
noncomputable def aHt  (s1:Int):Option Int:=some s1
noncomputable def mD (x_a:List DSlot)(s2:Int×Int):Option (LO (Int×Int) (JO Int Int)):=
 cond (decide (s2.2<((x_a.length:Nat):Int)))
  (grd ((0:Int)<=s2.2/\s2.2<((x_a.length:Nat):Int)) (cond (!decide ((x_a.getD s2.2.toNat default).Frame=s2.1))
   (some (.ret (.out (-1:Int))))
   (grd ((0:Int)<=s2.2/\s2.2<((x_a.length:Nat):Int)) (cond (!((x_a.getD s2.2.toNat default).Write==(decide ((Int.tmod (w64 (s2.1+(1:Int))) (3:Int))=(0:Int)))))
    (some (.ret (.out (-1:Int))))
    (grd ((0:Int)<=s2.2/\s2.2<((x_a.length:Nat):Int)) (cond (!((x_a.getD s2.2.toNat default).Dirty==(decide ((Int.tmod (w64 ((w64 (s2.1+(1:Int)))+(1:Int))) (3:Int))=(0:Int)))))
     (some (.ret (.out (-1:Int))))
     (some (.next ((w64 ((w64 ((w64 (s2.1+(1:Int)))+(1:Int)))+(1:Int))),w64 (s2.2+(1:Int)))))))))))
  (some (.ret (.go s2.1)))
noncomputable def oS (x_a:List DSlot)(x_k:Int):Option Int:=
 Option.bind (Option.bind (iter (mD x_a) (x_k,(0:Int))) LO.val) λj1=>
  JO.run j1 aHt
noncomputable def bYx:Sg tG:=⟨[.row 91,.i .i64],.one (.i .i64),oS⟩
theorem cDc:Sok 147 bYx:=sgx [] trivial (.s .o (.j ⟨[],[],[(.s 1,.i .i64)]⟩ (.s .o (.k (.l ⟨[0],[],[(.s 1,.i .i64),(.s 5,.i .i64)]⟩ .o))) .o)) kr kr kr
noncomputable def aGw  (s1:Int):Option Int:=some s1
noncomputable def kT (x_a:List DGuest)(s2:Int×Int):Option (LO (Int×Int) (JO Int Int)):=
 cond (decide (s2.2<((x_a.length:Nat):Int)))
  (grd ((0:Int)<=s2.2/\s2.2<((x_a.length:Nat):Int)) (cond (!((x_a.getD s2.2.toNat default).Live==(decide ((Int.tmod s2.1 (3:Int))=(0:Int)))))
   (some (.ret (.out (-1:Int))))
   (grd ((0:Int)<=s2.2/\s2.2<((x_a.length:Nat):Int)) (Option.bind (gG ((x_a.getD s2.2.toNat default).C).Regs (w64 (s2.1+(1:Int)))) λv3=>
    cond (decide (v3<(0:Int)))
     (some (.ret (.out (-1:Int))))
     (grd ((0:Int)<=s2.2/\s2.2<((x_a.length:Nat):Int)) (cond (!decide (((x_a.getD s2.2.toNat default).C).Pc=v3))
      (some (.ret (.out (-1:Int))))
      (grd ((0:Int)<=s2.2/\s2.2<((x_a.length:Nat):Int)) (cond (!decide (((x_a.getD s2.2.toNat default).C).Root=(w64 (v3+(1:Int)))))
       (some (.ret (.out (-1:Int))))
       (grd ((0:Int)<=s2.2/\s2.2<((x_a.length:Nat):Int)) (cond (!decide (((x_a.getD s2.2.toNat default).C).Vector=(w64 ((w64 (v3+(1:Int)))+(1:Int)))))
        (some (.ret (.out (-1:Int))))
        (grd ((0:Int)<=s2.2/\s2.2<((x_a.length:Nat):Int)) (cond (!decide (((x_a.getD s2.2.toNat default).C).Saved=(w64 ((w64 ((w64 (v3+(1:Int)))+(1:Int)))+(1:Int)))))
         (some (.ret (.out (-1:Int))))
         (grd ((0:Int)<=s2.2/\s2.2<((x_a.length:Nat):Int)) (cond (!(((x_a.getD s2.2.toNat default).C).SavedUser==(decide ((Int.tmod (w64 ((w64 ((w64 ((w64 (v3+(1:Int)))+(1:Int)))+(1:Int)))+(1:Int))) (3:Int))=(0:Int)))))
          (some (.ret (.out (-1:Int))))
          (grd ((0:Int)<=s2.2/\s2.2<((x_a.length:Nat):Int)) (cond (!decide (((x_a.getD s2.2.toNat default).C).Cause=(w64 ((w64 ((w64 ((w64 ((w64 (v3+(1:Int)))+(1:Int)))+(1:Int)))+(1:Int)))+(1:Int)))))
           (some (.ret (.out (-1:Int))))
           (grd ((0:Int)<=s2.2/\s2.2<((x_a.length:Nat):Int)) (cond (!decide (((x_a.getD s2.2.toNat default).C).Bad=(w64 ((w64 ((w64 ((w64 ((w64 ((w64 (v3+(1:Int)))+(1:Int)))+(1:Int)))+(1:Int)))+(1:Int)))+(1:Int)))))
            (some (.ret (.out (-1:Int))))
            (grd ((0:Int)<=s2.2/\s2.2<((x_a.length:Nat):Int)) (cond (!decide (((x_a.getD s2.2.toNat default).C).Timer=(w64 ((w64 ((w64 ((w64 ((w64 ((w64 ((w64 (v3+(1:Int)))+(1:Int)))+(1:Int)))+(1:Int)))+(1:Int)))+(1:Int)))+(1:Int)))))
             (some (.ret (.out (-1:Int))))
             (grd ((0:Int)<=s2.2/\s2.2<((x_a.length:Nat):Int)) (cond (!(((x_a.getD s2.2.toNat default).C).Waits==(decide ((Int.tmod (w64 ((w64 ((w64 ((w64 ((w64 ((w64 ((w64 ((w64 (v3+(1:Int)))+(1:Int)))+(1:Int)))+(1:Int)))+(1:Int)))+(1:Int)))+(1:Int)))+(1:Int))) (3:Int))=(0:Int)))))
              (some (.ret (.out (-1:Int))))
              (grd ((0:Int)<=s2.2/\s2.2<((x_a.length:Nat):Int)) (cond (!(((x_a.getD s2.2.toNat default).C).User==(decide ((Int.tmod (w64 ((w64 ((w64 ((w64 ((w64 ((w64 ((w64 ((w64 ((w64 (v3+(1:Int)))+(1:Int)))+(1:Int)))+(1:Int)))+(1:Int)))+(1:Int)))+(1:Int)))+(1:Int)))+(1:Int))) (3:Int))=(0:Int)))))
               (some (.ret (.out (-1:Int))))
               (grd ((0:Int)<=s2.2/\s2.2<((x_a.length:Nat):Int)) (cond (!(((x_a.getD s2.2.toNat default).C).On==(decide ((Int.tmod (w64 ((w64 ((w64 ((w64 ((w64 ((w64 ((w64 ((w64 ((w64 ((w64 (v3+(1:Int)))+(1:Int)))+(1:Int)))+(1:Int)))+(1:Int)))+(1:Int)))+(1:Int)))+(1:Int)))+(1:Int)))+(1:Int))) (3:Int))=(0:Int)))))
                (some (.ret (.out (-1:Int))))
                (grd ((0:Int)<=s2.2/\s2.2<((x_a.length:Nat):Int)) (cond (!(((x_a.getD s2.2.toNat default).C).Stopped==(decide ((Int.tmod (w64 ((w64 ((w64 ((w64 ((w64 ((w64 ((w64 ((w64 ((w64 ((w64 ((w64 (v3+(1:Int)))+(1:Int)))+(1:Int)))+(1:Int)))+(1:Int)))+(1:Int)))+(1:Int)))+(1:Int)))+(1:Int)))+(1:Int)))+(1:Int))) (3:Int))=(0:Int)))))
                 (some (.ret (.out (-1:Int))))
                 (grd ((0:Int)<=s2.2/\s2.2<((x_a.length:Nat):Int)) (Option.bind (oS (x_a.getD s2.2.toNat default).Pages (w64 ((w64 ((w64 ((w64 ((w64 ((w64 ((w64 ((w64 ((w64 ((w64 ((w64 ((w64 (v3+(1:Int)))+(1:Int)))+(1:Int)))+(1:Int)))+(1:Int)))+(1:Int)))+(1:Int)))+(1:Int)))+(1:Int)))+(1:Int)))+(1:Int)))+(1:Int)))) λv4=>
                  cond (decide (v4<(0:Int)))
                   (some (.ret (.out (-1:Int))))
                   (grd ((0:Int)<=s2.2/\s2.2<((x_a.length:Nat):Int)) (Option.bind (gG (x_a.getD s2.2.toNat default).In v4) λv5=>
                    cond (decide (v5<(0:Int)))
                     (some (.ret (.out (-1:Int))))
                     (grd ((0:Int)<=s2.2/\s2.2<((x_a.length:Nat):Int)) (Option.bind (gG (x_a.getD s2.2.toNat default).Out v5) λv6=>
                      cond (decide (v6<(0:Int)))
                       (some (.ret (.out (-1:Int))))
                       (some (.next (v6,w64 (s2.2+(1:Int)))))))))))))))))))))))))))))))))))))))
  (some (.ret (.go s2.1)))
noncomputable def nR (x_a:List DGuest)(x_k:Int):Option Int:=
 Option.bind (Option.bind (iter (kT x_a) (x_k,(0:Int))) LO.val) λj1=>
  JO.run j1 aGw
noncomputable def g95:Sg tG:=⟨[.row 94,.i .i64],.one (.i .i64),nR⟩
theorem s95:Sok 95 g95:=sgx [(94,.r g94),(147,.r bYx)] ⟨s94,cDc,trivial⟩ (.s .o (.j ⟨[],[],[(.s 1,.i .i64)]⟩ (.s .o (.k (.l ⟨[0],[],[(.s 1,.i .i64),(.s 5,.i .i64)]⟩ .o))) .o)) kr kr kr
noncomputable def mU (x_a:DHost)(x_k:Int):Option Int:=
 Option.bind (gG x_a.Words x_k) λv1=>
 cond (decide (v1<(0:Int)))
  (some (-1:Int))
  (Option.bind (nR x_a.Guests v1) λv2=>
  cond (decide (v2<(0:Int)))
   (some (-1:Int))
   (some v2))
noncomputable def g41:Sg tG:=⟨[.st 26,.i .i64],.one (.i .i64),mU⟩
theorem s41:Sok 41 g41:=sgx [(94,.r g94),(95,.r g95)] ⟨s94,s95,trivial⟩ .o kr kr kr
noncomputable def aIa  (s1:Unit):Option Bool:=some true
noncomputable def aJw (x_a:List Int)(x_b:List Int)(s2:Int):Option (LO Int (JO Unit Bool)):=
 cond (decide (s2<((x_a.length:Nat):Int)))
  (grd ((0:Int)<=s2/\s2<((x_a.length:Nat):Int)) (grd ((0:Int)<=s2/\s2<((x_b.length:Nat):Int)) (cond (!decide ((x_a.getD s2.toNat default)=(x_b.getD s2.toNat default)))
   (some (.ret (.out false)))
   (some (.next (w64 (s2+(1:Int))))))))
  (some (.ret (.go ())))
noncomputable def nE (x_a:List Int)(x_b:List Int):Option Bool:=
 cond (!decide (((x_a.length:Nat):Int)=((x_b.length:Nat):Int)))
  (some false)
  (Option.bind (Option.bind (iter (aJw x_a x_b) (0:Int)) LO.val) λj1=>
   JO.run j1 aIa)
noncomputable def g63:Sg tG:=⟨[.row 3,.row 3],.one .b,nE⟩
theorem s63:Sok 63 g63:=sgx [] trivial (.s .o (.s .o (.j ⟨[],[],[]⟩ (.s .o (.k (.l ⟨[0,1],[],[(.s 5,.i .i64)]⟩ .o))) .o))) kr kr kr
noncomputable def aCc (x_a:DCore)(x_b:DCore):Option Bool:=
 Option.bind (nE x_a.Regs x_b.Regs) λv1=>
 cond (!v1)
  (some false)
  (cond (!decide (x_a.Pc=x_b.Pc))
   (some false)
   (cond (!decide (x_a.Root=x_b.Root))
    (some false)
    (cond (!decide (x_a.Vector=x_b.Vector))
     (some false)
     (cond (!decide (x_a.Saved=x_b.Saved))
      (some false)
      (cond (!(x_a.SavedUser==x_b.SavedUser))
       (some false)
       (cond (decide (x_a.Cause=x_b.Cause))
        (cond (decide (x_a.Bad=x_b.Bad))
         (cond (decide (x_a.Timer=x_b.Timer))
          (cond (x_a.Waits==x_b.Waits)
           (cond (x_a.User==x_b.User)
            (cond (x_a.On==x_b.On)
             (some (x_a.Stopped==x_b.Stopped))
             (some false))
            (some false))
           (some false))
          (some false))
         (some false))
        (some false)))))))
noncomputable def g62:Sg tG:=⟨[.st 39,.st 39],.one .b,aCc⟩
theorem s62:Sok 62 g62:=sgx [(63,.r g63)] ⟨s63,trivial⟩ .o kr kr kr
noncomputable def aCs (x_a:DBare)(x_b:DBare):Option Bool:=
 Option.bind (aCc x_a.C x_b.C) λv1=>
 cond v1
  (Option.bind (nE x_a.Mem x_b.Mem) λv2=>
  cond v2
   (Option.bind (nE x_a.In x_b.In) λv3=>
   cond v3
    (Option.bind (nE x_a.Out x_b.Out) λv4=>
    some v4)
    (some false))
   (some false))
  (some false)
noncomputable def g16:Sg tG:=⟨[.st 41,.st 41],.one .b,aCs⟩
theorem s16:Sok 16 g16:=sgx [(62,.r g62),(63,.r g63)] ⟨s62,s63,trivial⟩ .o kr kr kr
noncomputable def aHs  (s1:Unit):Option Bool:=some true
noncomputable def aHv (s2:Int)(s3:Unit):Option (LO Int (JO Unit Bool)):=some (.next (w64 (s2+(1:Int))))
noncomputable def aHp (x_a:DHost)(x_b:DHost)(x_but:Int)(s2:Int):Option (LO Int (JO Unit Bool)):=
 cond (decide (s2<(3:Int)))
  (Option.bind (Option.bind (wJ x_a s2) λv4=>
   Option.bind (wJ x_b s2) λv5=>
   cond (!decide (s2=x_but))
    (cond (!(v4.2==v5.2))
     (some (.out (.ret (.out false))))
     (Option.bind (aCs v4.1 v5.1) λv6=>
     cond (!v6)
      (some (.out (.ret (.out false))))
      (some (.go ()))))
    (some (.go ()))) λj3=>
   JO.run j3 (aHv s2))
  (some (.ret (.go ())))
noncomputable def aOk (x_a:DHost)(x_b:DHost)(x_but:Int):Option Bool:=
 Option.bind (Option.bind (iter (aHp x_a x_b x_but) (0:Int)) LO.val) λj1=>
  JO.run j1 aHs
noncomputable def g17:Sg tG:=⟨[.st 26,.st 26,.i .i64],.one .b,aOk⟩
theorem s17:Sok 17 g17:=sgx [(13,.r g13),(16,.r g16)] ⟨s13,s16,trivial⟩ (.s .o (.j ⟨[],[],[]⟩ (.s .o (.k (.l ⟨[2,3,4],[],[(.s 7,.i .i64)]⟩ (.s .o (.j ⟨[2,3,4,7],[],[]⟩ .o .o))))) .o)) kr kr kr
noncomputable def bCo:Option Bool:=
 Option.bind (fN (5:Int)) λv1=>
 cond v1
  (Option.bind (fN (-1:Int)) λv2=>
  some (!v2))
  (some false)
noncomputable def g12:Sg tG:=⟨[],.one .b,bCo⟩
theorem s12:Sok 12 g12:=sgx [(55,.r g55)] ⟨s55,trivial⟩ .o kr kr kr
noncomputable def wL (x_i:DIns):Option Bool:=
 Option.bind (cI x_i.Op (0:Int) (15:Int)) λv1=>
 cond v1
  (Option.bind (cI x_i.A (0:Int) (3:Int)) λv2=>
  cond v2
   (Option.bind (cI x_i.N (0:Int) (63:Int)) λv3=>
   some v3)
   (some false))
  (some false)
noncomputable def bXe:Sg tG:=⟨[.st 141],.one .b,wL⟩
theorem cCl:Sok 159 bXe:=sgx [(51,.r g51)] ⟨s51,trivial⟩ .o kr kr kr
noncomputable def pD (x_e:DEntry)(x_user:Bool)(x_write:Bool):Option Bool:=
 cond x_e.There
  (cond x_e.Write
   (cond x_e.User
    (some true)
    (some (!x_user)))
   (cond (!x_write)
    (cond x_e.User
     (some true)
     (some (!x_user)))
    (some false)))
  (some false)
noncomputable def bOg:Sg tG:=⟨[.st 181,.b,.b],.one .b,pD⟩
theorem bYn:Sok 165 bOg:=sgx [] trivial .o kr kr kr
noncomputable def xN (x_mem:List Int)(x_root:Int)(x_addr:Int)(x_user:Bool)(x_write:Bool):Option Int:=
 Option.bind (aBb x_mem) λv1=>
 cond (!v1)
  (some (-1:Int))
  (Option.bind (mK x_root) λv2=>
  cond (!v2)
   (some (-1:Int))
   (Option.bind (cN x_addr) λv3=>
   cond (!v3)
    (some (-1:Int))
    (cond (decide (x_root=(-1:Int)))
     (some x_addr)
     (grd ((0:Int)<=(w64 ((w64 (x_root*(8:Int)))+(w64 (Int.tdiv x_addr (8:Int)))))/\(w64 ((w64 (x_root*(8:Int)))+(w64 (Int.tdiv x_addr (8:Int)))))<((x_mem.length:Nat):Int)) (Option.bind (lQ (x_mem.getD (Int.toNat (w64 ((w64 (x_root*(8:Int)))+(w64 (Int.tdiv x_addr (8:Int)))))) default)) λv4=>
      Option.bind (pD v4 x_user x_write) λv5=>
      cond (!v5)
       (some (-1:Int))
       (some (w64 ((w64 (v4.Page*(8:Int)))+(Int.tmod x_addr (8:Int))))))))))
noncomputable def bIz:Sg tG:=⟨[.row 3,.i .i64,.i .i64,.b,.b],.one (.i .i64),xN⟩
theorem bOx:Sok 125 bIz:=sgx [(120,.r bRp),(162,.r bRg),(161,.r bPc),(164,.r bPj),(165,.r bOg)] ⟨bZx,bVz,bYj,bZl,bYn,trivial⟩ .o kr kr kr
noncomputable def vT (x_i:DIns):Option Bool:=
 cond (decide ((0:Int)<=x_i.Op))
  (cond (decide ((0:Int)<=x_i.A))
   (cond (decide ((0:Int)<=x_i.N))
    (cond (decide (x_i.Op<=(15:Int)))
     (cond (decide (x_i.A<(4:Int)))
      (some (decide (x_i.N<(64:Int))))
      (some false))
     (some false))
    (cond (decide (x_i.Op<=(15:Int)))
     (cond (decide (x_i.A<(4:Int)))
      (some false)
      (some false))
     (some false)))
   (cond (decide ((0:Int)<=x_i.N))
    (cond (decide (x_i.Op<=(15:Int)))
     (some false)
     (some false))
    (cond (decide (x_i.Op<=(15:Int)))
     (some false)
     (some false))))
  (cond (decide ((0:Int)<=x_i.A))
   (cond (decide ((0:Int)<=x_i.N))
    (some false)
    (some false))
   (cond (decide ((0:Int)<=x_i.N))
    (some false)
    (some false)))
noncomputable def bYf:Sg tG:=⟨[.st 141],.one .b,vT⟩
theorem cBa:Sok 218 bYf:=sgx [] trivial .o kr kr kr
noncomputable def aHq  (s2:Bool):Option Bool:=
 cond s2
  (some true)
  (some false)
noncomputable def lR (x_i:DIns):Option Bool:=
 Option.bind (vT x_i) λv1=>
 cond (!v1)
  (some false)
  (Option.bind (cond (decide (x_i.Op=(0:Int)))
   (some (.go (decide (x_i.Op=(0:Int)))))
   (cond (decide (x_i.Op=(8:Int)))
    (some (.go (decide (x_i.Op=(8:Int)))))
    (cond (decide (x_i.Op=(9:Int)))
     (some (.go (decide (x_i.Op=(9:Int)))))
     (cond (decide (x_i.Op=(10:Int)))
      (some (.go (decide (x_i.Op=(10:Int)))))
      (cond (decide (x_i.Op=(11:Int)))
       (some (.go (decide (x_i.Op=(11:Int)))))
       (cond (decide (x_i.Op=(12:Int)))
        (some (.go (decide (x_i.Op=(12:Int)))))
        (cond (decide (x_i.Op=(13:Int)))
         (some (.go (decide (x_i.Op=(13:Int)))))
         (some (.go (decide (x_i.Op=(14:Int)))))))))))) λj2=>
   JO.run j2 aHq)
noncomputable def bPv:Sg tG:=⟨[.st 141],.one .b,lR⟩
theorem bYk:Sok 198 bPv:=sgx [(218,.r bYf)] ⟨cBa,trivial⟩ (.s .o (.s .o (.s (.s .o (.k (.j ⟨[],[],[(.s 8,.b)]⟩ .o .o))) .o))) kr kr kr
noncomputable def lI (x_w:Int):Option DIns:=
 Option.bind (fN x_w) λv1=>
 cond (!v1)
  (some (DIns.mk (0:Int) (0:Int) (0:Int)))
  (some (DIns.mk (w64 (Int.tdiv x_w (256:Int))) (Int.tmod (w64 (Int.tdiv x_w (64:Int))) (4:Int)) (Int.tmod x_w (64:Int))))
noncomputable def bIp:Sg tG:=⟨[.i .i64],.one (.st 141),lI⟩
theorem bQy:Sok 128 bIp:=sgx [(55,.r g55)] ⟨s55,trivial⟩ .o kr kr kr
noncomputable def cW (x_i:DIns):Option Bool:=
 Option.bind (wL x_i) λv1=>
 cond v1
  (cond (decide (x_i.Op=(0:Int)))
   (some true)
   (Option.bind (cI x_i.Op (8:Int) (14:Int)) λv2=>
   some v2))
  (some false)
noncomputable def bJn:Sg tG:=⟨[.st 141],.one .b,cW⟩
theorem bOe:Sok 110 bJn:=sgx [(159,.r bXe),(51,.r g51)] ⟨cCl,s51,trivial⟩ .o kr kr kr
noncomputable def oL (x_w:Int):Option DIns:=
 Option.bind (gZ x_w) λv1=>
 cond (!v1)
  (some (DIns.mk (0:Int) (0:Int) (0:Int)))
  (some (DIns.mk (w64 (Int.tdiv x_w (256:Int))) (Int.tmod (w64 (Int.tdiv x_w (64:Int))) (4:Int)) (Int.tmod x_w (64:Int))))
noncomputable def bRk:Sg tG:=⟨[.i .i64],.one (.st 141),oL⟩
theorem bYl:Sok 109 bRk:=sgx [(158,.r bCh)] ⟨bHa,trivial⟩ .o kr kr kr
noncomputable def aBe (x_c:DCore)(s1:Bool):Option DCore:=some (DCore.mk x_c.Regs x_c.Pc x_c.Root x_c.Vector x_c.Saved x_c.SavedUser x_c.Cause x_c.Bad (w64 (x_c.Timer-(1:Int))) s1 x_c.User x_c.On x_c.Stopped)
noncomputable def gX (x_c:DCore):Option DCore:=
 cond (decide (x_c.Timer=(0:Int)))
  (some x_c)
  (Option.bind (cond (decide ((w64 (x_c.Timer-(1:Int)))=(0:Int)))
   (some (.go true))
   (some (.go x_c.Waits))) λj1=>
   JO.run j1 (aBe x_c))
noncomputable def bJi:Sg tG:=⟨[.st 39],.one (.sb 39),gX⟩
theorem bRt:Sok 122 bJi:=sgx [] trivial (.s .o (.s .o (.s .o (.j ⟨[1,2],[],[(.c 1 9,.b)]⟩ .o .o)))) kr kr kr
noncomputable def eS (x_c:DCore):Option Bool:=
 cond x_c.Waits
  (some x_c.On)
  (some false)
noncomputable def bGz:Sg tG:=⟨[.st 39],.one .b,eS⟩
theorem bOd:Sok 123 bGz:=sgx [] trivial .o kr kr kr
noncomputable def kC (x_c:DCore)(x_from:Int)(x_cause:Int)(x_bad:Int):Option DCore:=some (DCore.mk x_c.Regs x_c.Vector x_c.Root x_c.Vector x_from x_c.User x_cause x_bad x_c.Timer x_c.Waits false false x_c.Stopped)
noncomputable def bIb:Sw tG:=⟨[.os 39,.v (.i .i64),.v (.i .i64),.v (.i .i64)],.one (.st 39),kC⟩
theorem bPz:Sjk 108 bIb:=sgy [] trivial .o kr kr kr
noncomputable def yI (x_c:DCore)(s1:Bool×Int)(s2:Unit):Option (DCore×Bool):=some ((DCore.mk x_c.Regs x_c.Pc x_c.Root x_c.Vector x_c.Saved x_c.SavedUser x_c.Cause x_c.Bad s1.2 s1.1 x_c.User x_c.On x_c.Stopped),false)
noncomputable def yF (x_c:DCore)(s1:Bool×Int):Option (DCore×Bool):=
 Option.bind (cond s1.1
  (cond x_c.On
   (Option.bind (kC (DCore.mk x_c.Regs x_c.Pc x_c.Root x_c.Vector x_c.Saved x_c.SavedUser x_c.Cause x_c.Bad s1.2 false x_c.User x_c.On x_c.Stopped) x_c.Pc (4:Int) (0:Int)) λv3=>
   some (.out (v3,true)))
   (some (.go ())))
  (some (.go ()))) λj2=>
  JO.run j2 (yI x_c s1)
noncomputable def jW (x_c:DCore):Option (DCore×Bool):=
 Option.bind (cond (decide ((0:Int)<x_c.Timer))
  (cond (decide ((w64 (x_c.Timer-(1:Int)))=(0:Int)))
   (some (.go (true,w64 (x_c.Timer-(1:Int)))))
   (some (.go (x_c.Waits,w64 (x_c.Timer-(1:Int))))))
  (some (.go (x_c.Waits,x_c.Timer)))) λj1=>
  JO.run j1 (yF x_c)
noncomputable def bOu:Sw tG:=⟨[.os 39],.two (.st 39) .b,jW⟩
theorem cAe:Sjk 105 bOu:=sgy [(108,.w bIb)] ⟨bPz,trivial⟩ (.s .o (.j ⟨[1,2],[],[(.c 1 9,.b),(.c 1 8,.i .i64)]⟩ .o (.j ⟨[1,2],[],[]⟩ .o .o))) kr kr kr
noncomputable def cV (x_c:DCore)(x_i:DIns):Option Int:=grd ((0:Int)<=(Int.tmod x_i.N (4:Int))/\(Int.tmod x_i.N (4:Int))<((x_c.Regs.length:Nat):Int)) (some (Int.tmod (x_c.Regs.getD (Int.toNat (Int.tmod x_i.N (4:Int))) default) (64:Int)))
noncomputable def aUh:Sg tG:=⟨[.st 39,.st 141],.one (.i .i64),cV⟩
theorem bBr:Sok 194 aUh:=sgx [] trivial .o kr kr kr
noncomputable def oZ (x_s:DShade)(x_addr:Int)(s2:Unit):Option (Int×Int):=some ((w64 ((w64 (x_s.Frame*(8:Int)))+(Int.tmod x_addr (8:Int)))),(0:Int))
noncomputable def nV (x_s:DShade)(x_addr:Int)(x_user:Bool)(x_write:Bool):Option (Int×Int):=
 Option.bind (pD (DEntry.mk x_s.There x_s.Write x_s.User x_s.Page) x_user x_write) λv1=>
 cond (!v1)
  (some ((-1:Int),(1:Int)))
  (cond (decide (x_s.Frame=(-1:Int)))
   (some ((-1:Int),(2:Int)))
   (Option.bind (cond x_write
    (cond (!x_s.Ready)
     (some (.out ((-1:Int),(3:Int))))
     (some (.go ())))
    (some (.go ()))) λj2=>
    JO.run j2 (oZ x_s x_addr)))
noncomputable def bYb:Sg tG:=⟨[.st 147,.i .i64,.b,.b],.two (.i .i64) (.i .i64),nV⟩
theorem cCp:Sok 212 bYb:=sgx [(165,.r bOg)] ⟨bYn,trivial⟩ (.s .o (.s .o (.s .o (.s .o (.j ⟨[1,4],[],[]⟩ .o .o))))) kr kr kr
noncomputable def zD (x_table:List DShade)(x_addr:Int)(s1:Unit):Option (Int×Int):=some ((w64 ((w64 ((x_table.getD (Int.toNat (w64 (Int.tdiv x_addr (8:Int)))) default).Frame*(8:Int)))+(Int.tmod x_addr (8:Int)))),(0:Int))
noncomputable def dB (x_table:List DShade)(x_addr:Int)(x_user:Bool)(x_write:Bool):Option (Int×Int):=
 grd ((0:Int)<=(w64 (Int.tdiv x_addr (8:Int)))/\(w64 (Int.tdiv x_addr (8:Int)))<((x_table.length:Nat):Int)) (Option.bind (cond (!(x_table.getD (Int.toNat (w64 (Int.tdiv x_addr (8:Int)))) default).There)
  (some (.out ((-1:Int),(1:Int))))
  (cond x_write
   (cond (!(x_table.getD (Int.toNat (w64 (Int.tdiv x_addr (8:Int)))) default).Write)
    (some (.out ((-1:Int),(1:Int))))
    (cond x_user
     (cond (!(x_table.getD (Int.toNat (w64 (Int.tdiv x_addr (8:Int)))) default).User)
      (some (.out ((-1:Int),(1:Int))))
      (cond (decide ((x_table.getD (Int.toNat (w64 (Int.tdiv x_addr (8:Int)))) default).Frame<(0:Int)))
       (some (.out ((-1:Int),(2:Int))))
       (cond x_write
        (cond (!(x_table.getD (Int.toNat (w64 (Int.tdiv x_addr (8:Int)))) default).Ready)
         (some (.out ((-1:Int),(3:Int))))
         (some (.go ())))
        (some (.go ())))))
     (cond (decide ((x_table.getD (Int.toNat (w64 (Int.tdiv x_addr (8:Int)))) default).Frame<(0:Int)))
      (some (.out ((-1:Int),(2:Int))))
      (cond x_write
       (cond (!(x_table.getD (Int.toNat (w64 (Int.tdiv x_addr (8:Int)))) default).Ready)
        (some (.out ((-1:Int),(3:Int))))
        (some (.go ())))
       (some (.go ()))))))
   (cond x_user
    (cond (!(x_table.getD (Int.toNat (w64 (Int.tdiv x_addr (8:Int)))) default).User)
     (some (.out ((-1:Int),(1:Int))))
     (cond (decide ((x_table.getD (Int.toNat (w64 (Int.tdiv x_addr (8:Int)))) default).Frame<(0:Int)))
      (some (.out ((-1:Int),(2:Int))))
      (cond x_write
       (cond (!(x_table.getD (Int.toNat (w64 (Int.tdiv x_addr (8:Int)))) default).Ready)
        (some (.out ((-1:Int),(3:Int))))
        (some (.go ())))
       (some (.go ())))))
    (cond (decide ((x_table.getD (Int.toNat (w64 (Int.tdiv x_addr (8:Int)))) default).Frame<(0:Int)))
     (some (.out ((-1:Int),(2:Int))))
     (cond x_write
      (cond (!(x_table.getD (Int.toNat (w64 (Int.tdiv x_addr (8:Int)))) default).Ready)
       (some (.out ((-1:Int),(3:Int))))
       (some (.go ())))
      (some (.go ()))))))) λj1=>
  JO.run j1 (zD x_table x_addr))
noncomputable def bQg:Sg tG:=⟨[.row 147,.i .i64,.b,.b],.two (.i .i64) (.i .i64),dB⟩
theorem bYh:Sok 107 bQg:=sgx [] trivial (.s .o (.s .o (.j ⟨[1,10],[],[]⟩ .o .o))) kr kr kr
noncomputable def gT (x_h:DHost)(x_g:Int)(x_addr:Int):Option DShade:=
 Option.bind (rV x_h x_g (w64 (Int.tdiv x_addr (8:Int)))) λv1=>
 some v1
noncomputable def bJq:Sg tG:=⟨[.st 26,.i .i64,.i .i64],.one (.st 147),gT⟩
theorem bOh:Sok 213 bJq:=sgx [(225,.r bZj)] ⟨cCd,trivial⟩ .o kr kr kr
noncomputable def dO (x_h:DHost)(x_g:Int)(x_addr:Int)(x_write:Bool):Option (Int×Int):=
 Option.bind (gT x_h x_g x_addr) λv1=>
 grd ((0:Int)<=x_g/\x_g<((x_h.Guests.length:Nat):Int)) (Option.bind (nV v1 x_addr ((x_h.Guests.getD x_g.toNat default).C).User x_write) λv2=>
  some (v2.1,v2.2))
noncomputable def aUf:Sg tG:=⟨[.st 26,.i .i64,.i .i64,.b],.two (.i .i64) (.i .i64),dO⟩
theorem bCr:Sok 188 aUf:=sgx [(213,.r bJq),(212,.r bYb)] ⟨bOh,cCp,trivial⟩ .o kr kr kr
noncomputable def jF (x_h:DHost)(x_g:Int)(x_addr:Int)(x_why:Int):Option DExit:=
 Option.bind (gT x_h x_g x_addr) λv1=>
 cond (decide (x_why=(2:Int)))
  (some (DExit.mk (2:Int) v1.Page (DIns.mk (0:Int) (0:Int) (0:Int))))
  (cond (decide (x_why=(3:Int)))
   (some (DExit.mk (3:Int) v1.Page (DIns.mk (0:Int) (0:Int) (0:Int))))
   (some (DExit.mk (0:Int) (0:Int) (DIns.mk (0:Int) (0:Int) (0:Int)))))
noncomputable def bRo:Sg tG:=⟨[.st 26,.i .i64,.i .i64,.i .i64],.one (.st 178),jF⟩
theorem bYy:Sok 210 bRo:=sgx [(213,.r bJq)] ⟨bOh,trivial⟩ .o kr kr kr
noncomputable def tI (x_h:DHost)(x_g:Int)(x_i:DIns)(s2:Unit):Option DExit:=
 Option.bind (cV (DCore.mk ((x_h.Guests.getD x_g.toNat default).C).Regs ((x_h.Guests.getD x_g.toNat default).C).Pc ((x_h.Guests.getD x_g.toNat default).C).Root ((x_h.Guests.getD x_g.toNat default).C).Vector ((x_h.Guests.getD x_g.toNat default).C).Saved ((x_h.Guests.getD x_g.toNat default).C).SavedUser ((x_h.Guests.getD x_g.toNat default).C).Cause ((x_h.Guests.getD x_g.toNat default).C).Bad ((x_h.Guests.getD x_g.toNat default).C).Timer ((x_h.Guests.getD x_g.toNat default).C).Waits ((x_h.Guests.getD x_g.toNat default).C).User ((x_h.Guests.getD x_g.toNat default).C).On ((x_h.Guests.getD x_g.toNat default).C).Stopped) x_i) λv3=>
 Option.bind (dO x_h x_g v3 (decide (x_i.Op=(4:Int)))) λv4=>
 Option.bind (jF x_h x_g v3 v4.2) λv5=>
 some v5
noncomputable def tB (x_h:DHost)(x_g:Int)(x_i:DIns)(s1:Unit):Option DExit:=
 Option.bind (cond (!decide (x_i.Op=(3:Int)))
  (cond (!decide (x_i.Op=(4:Int)))
   (some (.out (DExit.mk (0:Int) (0:Int) (DIns.mk (0:Int) (0:Int) (0:Int)))))
   (some (.go ())))
  (some (.go ()))) λj2=>
  JO.run j2 (tI x_h x_g x_i)
noncomputable def rQ (x_h:DHost)(x_g:Int)(x_i:DIns):Option DExit:=
 grd ((0:Int)<=x_g/\x_g<((x_h.Guests.length:Nat):Int)) (Option.bind (Option.bind (lR x_i) λv6=>
  cond v6
   (cond (!((x_h.Guests.getD x_g.toNat default).C).User)
    (some (.out (DExit.mk (1:Int) (0:Int) x_i)))
    (some (.go ())))
   (some (.go ()))) λj1=>
  JO.run j1 (tB x_h x_g x_i))
noncomputable def bZd:Sg tG:=⟨[.st 26,.i .i64,.st 141],.one (.st 178),rQ⟩
theorem cCu:Sok 211 bZd:=sgx [(198,.r bPv),(194,.r aUh),(188,.r aUf),(210,.r bRo)] ⟨bYk,bBr,bCr,bYy,trivial⟩ (.s .o (.s .o (.j ⟨[1,3,5,6,7],[],[]⟩ .o (.j ⟨[1,3,5,6,7],[],[]⟩ .o .o)))) kr kr kr
noncomputable def pN (x_h:DHost)(x_g:Int):Option DExit:=
 grd ((0:Int)<=x_g/\x_g<((x_h.Guests.length:Nat):Int)) (cond ((x_h.Guests.getD x_g.toNat default).C).Stopped
  (some (DExit.mk (0:Int) (0:Int) (DIns.mk (0:Int) (0:Int) (0:Int))))
  (Option.bind (gX (DCore.mk ((x_h.Guests.getD x_g.toNat default).C).Regs ((x_h.Guests.getD x_g.toNat default).C).Pc ((x_h.Guests.getD x_g.toNat default).C).Root ((x_h.Guests.getD x_g.toNat default).C).Vector ((x_h.Guests.getD x_g.toNat default).C).Saved ((x_h.Guests.getD x_g.toNat default).C).SavedUser ((x_h.Guests.getD x_g.toNat default).C).Cause ((x_h.Guests.getD x_g.toNat default).C).Bad ((x_h.Guests.getD x_g.toNat default).C).Timer ((x_h.Guests.getD x_g.toNat default).C).Waits ((x_h.Guests.getD x_g.toNat default).C).User ((x_h.Guests.getD x_g.toNat default).C).On ((x_h.Guests.getD x_g.toNat default).C).Stopped)) λv1=>
  Option.bind (eS v1) λv2=>
  cond v2
   (some (DExit.mk (0:Int) (0:Int) (DIns.mk (0:Int) (0:Int) (0:Int))))
   (Option.bind (dO x_h x_g ((x_h.Guests.getD x_g.toNat default).C).Pc false) λv3=>
   cond (!decide (v3.2=(0:Int)))
    (Option.bind (jF x_h x_g ((x_h.Guests.getD x_g.toNat default).C).Pc v3.2) λv4=>
    some v4)
    (grd ((0:Int)<=v3.1/\v3.1<((x_h.Words.length:Nat):Int)) (Option.bind (lI (x_h.Words.getD v3.1.toNat default)) λv5=>
     Option.bind (rQ x_h x_g v5) λv6=>
     some v6)))))
noncomputable def bXc:Sg tG:=⟨[.st 26,.i .i64],.one (.st 178),pN⟩
theorem cBf:Sok 185 bXc:=sgx [(122,.r bJi),(123,.r bGz),(188,.r aUf),(210,.r bRo),(128,.r bIp),(211,.r bZd)] ⟨bRt,bOd,bCr,bYy,bQy,cCu,trivial⟩ .o kr kr kr
noncomputable def aAh (x_table:List DShade)(x_addr:Int)(s1:Int):Option DExit:=some (DExit.mk s1 (x_table.getD (Int.toNat (w64 (Int.tdiv x_addr (8:Int)))) default).Page (DIns.mk (0:Int) (0:Int) (0:Int)))
noncomputable def fL (x_table:List DShade)(x_addr:Int)(x_why:Int):Option DExit:=
 grd ((0:Int)<=(w64 (Int.tdiv x_addr (8:Int)))/\(w64 (Int.tdiv x_addr (8:Int)))<((x_table.length:Nat):Int)) (Option.bind (cond (decide (x_why=(2:Int)))
  (some (.go (2:Int)))
  (cond (decide (x_why=(3:Int)))
   (some (.go (3:Int)))
   (some (.out (DExit.mk (0:Int) (0:Int) (DIns.mk (0:Int) (0:Int) (0:Int))))))) λj1=>
  JO.run j1 (aAh x_table x_addr))
noncomputable def bVd:Sg tG:=⟨[.row 147,.i .i64,.i .i64],.one (.st 178),fL⟩
theorem cCw:Sok 193 bVd:=sgx [] trivial (.s .o (.s .o (.j ⟨[6,7],[],[(.c 7 0,.i .i64)]⟩ .o .o))) kr kr kr
noncomputable def aHo  (s8:Unit):Option DExit:=some (DExit.mk (0:Int) (0:Int) (DIns.mk (0:Int) (0:Int) (0:Int)))
noncomputable def lT (x_h:DHost)(x_g:Int):Option DExit:=
 Option.bind (dW x_h x_g) λv1=>
 cond (!v1)
  (some (DExit.mk (0:Int) (0:Int) (DIns.mk (0:Int) (0:Int) (0:Int))))
  (grd ((0:Int)<=x_g/\x_g<((x_h.Guests.length:Nat):Int)) (cond ((x_h.Guests.getD x_g.toNat default).C).Stopped
   (some (DExit.mk (0:Int) (0:Int) (DIns.mk (0:Int) (0:Int) (0:Int))))
   (grd ((0:Int)<=x_g/\x_g<((x_h.Guests.length:Nat):Int)) (Option.bind (mM (DCore.mk ((x_h.Guests.getD x_g.toNat default).C).Regs ((x_h.Guests.getD x_g.toNat default).C).Pc ((x_h.Guests.getD x_g.toNat default).C).Root ((x_h.Guests.getD x_g.toNat default).C).Vector ((x_h.Guests.getD x_g.toNat default).C).Saved ((x_h.Guests.getD x_g.toNat default).C).SavedUser ((x_h.Guests.getD x_g.toNat default).C).Cause ((x_h.Guests.getD x_g.toNat default).C).Bad ((x_h.Guests.getD x_g.toNat default).C).Timer ((x_h.Guests.getD x_g.toNat default).C).Waits ((x_h.Guests.getD x_g.toNat default).C).User ((x_h.Guests.getD x_g.toNat default).C).On ((x_h.Guests.getD x_g.toNat default).C).Stopped)) λv2=>
    Option.bind (jW v2) λv3=>
    cond v3.2
     (some (DExit.mk (0:Int) (0:Int) (DIns.mk (0:Int) (0:Int) (0:Int))))
     (Option.bind (jN x_h x_g) λv4=>
     Option.bind (dB v4 v3.1.Pc v3.1.User false) λv5=>
     cond (!decide (v5.2=(0:Int)))
      (Option.bind (fL v4 v3.1.Pc v5.2) λv6=>
      some v6)
      (grd ((0:Int)<=v5.1/\v5.1<((x_h.Words.length:Nat):Int)) (Option.bind (oL (x_h.Words.getD v5.1.toNat default)) λv7=>
       Option.bind (Option.bind (cW v7) λv9=>
        cond v9
         (cond (!v3.1.User)
          (some (.out (DExit.mk (1:Int) (0:Int) v7)))
          (cond (decide (v7.Op=(3:Int)))
           (grd ((0:Int)<=(Int.tmod v7.N (4:Int))/\(Int.tmod v7.N (4:Int))<((v3.1.Regs.length:Nat):Int)) (Option.bind (dB v4 (Int.tmod (v3.1.Regs.getD (Int.toNat (Int.tmod v7.N (4:Int))) default) (64:Int)) v3.1.User (decide (v7.Op=(4:Int)))) λv10=>
            Option.bind (fL v4 (Int.tmod (v3.1.Regs.getD (Int.toNat (Int.tmod v7.N (4:Int))) default) (64:Int)) v10.2) λv11=>
            some (.out v11)))
           (cond (decide (v7.Op=(4:Int)))
            (grd ((0:Int)<=(Int.tmod v7.N (4:Int))/\(Int.tmod v7.N (4:Int))<((v3.1.Regs.length:Nat):Int)) (Option.bind (dB v4 (Int.tmod (v3.1.Regs.getD (Int.toNat (Int.tmod v7.N (4:Int))) default) (64:Int)) v3.1.User (decide (v7.Op=(4:Int)))) λv12=>
             Option.bind (fL v4 (Int.tmod (v3.1.Regs.getD (Int.toNat (Int.tmod v7.N (4:Int))) default) (64:Int)) v12.2) λv13=>
             some (.out v13)))
            (some (.go ())))))
         (cond (decide (v7.Op=(3:Int)))
          (grd ((0:Int)<=(Int.tmod v7.N (4:Int))/\(Int.tmod v7.N (4:Int))<((v3.1.Regs.length:Nat):Int)) (Option.bind (dB v4 (Int.tmod (v3.1.Regs.getD (Int.toNat (Int.tmod v7.N (4:Int))) default) (64:Int)) v3.1.User (decide (v7.Op=(4:Int)))) λv14=>
           Option.bind (fL v4 (Int.tmod (v3.1.Regs.getD (Int.toNat (Int.tmod v7.N (4:Int))) default) (64:Int)) v14.2) λv15=>
           some (.out v15)))
          (cond (decide (v7.Op=(4:Int)))
           (grd ((0:Int)<=(Int.tmod v7.N (4:Int))/\(Int.tmod v7.N (4:Int))<((v3.1.Regs.length:Nat):Int)) (Option.bind (dB v4 (Int.tmod (v3.1.Regs.getD (Int.toNat (Int.tmod v7.N (4:Int))) default) (64:Int)) v3.1.User (decide (v7.Op=(4:Int)))) λv16=>
            Option.bind (fL v4 (Int.tmod (v3.1.Regs.getD (Int.toNat (Int.tmod v7.N (4:Int))) default) (64:Int)) v16.2) λv17=>
            some (.out v17)))
           (some (.go ()))))) λj8=>
        JO.run j8 aHo)))))))
noncomputable def bYz:Sg tG:=⟨[.st 26,.i .i64],.one (.st 178),lT⟩
theorem cBm:Sok 156 bYz:=sgx [(102,.r aJz),(132,.r bQd),(105,.w bOu),(106,.r bQl),(107,.r bQg),(193,.r bVd),(109,.r bRk),(110,.r bJn)] ⟨aOu,bVf,cAe,bVw,bYh,cCw,bYl,bOe,trivial⟩ (.s .o (.s .o (.s .o (.s .o (.s .o (.s .o (.s .o (.s .o (.j ⟨[4],[],[]⟩ .o .o))))))))) kr kr kr
noncomputable def mA (x_pc:Int):Option Int:=some (Int.tmod (w64 (x_pc+(1:Int))) (64:Int))
noncomputable def bPs:Sg tG:=⟨[.i .i64],.one (.i .i64),mA⟩
theorem bWv:Sok 217 bPs:=sgx [] trivial .o kr kr kr
noncomputable def fK (x_b:DBare):Option DBare:=
 Option.bind (mA x_b.C.Pc) λv1=>
 some (DBare.mk (DCore.mk x_b.C.Regs v1 x_b.C.Root x_b.C.Vector x_b.C.Saved x_b.C.SavedUser x_b.C.Cause x_b.C.Bad x_b.C.Timer x_b.C.Waits x_b.C.User x_b.C.On x_b.C.Stopped) x_b.Mem x_b.In x_b.Out)
noncomputable def aUw:Sg tG:=⟨[.st 41],.one (.sb 41),fK⟩
theorem aYr:Sok 197 aUw:=sgx [(217,.r bPs)] ⟨bWv,trivial⟩ .o kr kr kr
noncomputable def aCb (x_c:DCore):Option DCore:=some (DCore.mk x_c.Regs x_c.Saved x_c.Root x_c.Vector x_c.Saved x_c.SavedUser x_c.Cause x_c.Bad x_c.Timer x_c.Waits x_c.SavedUser true x_c.Stopped)
noncomputable def bWq:Sg tG:=⟨[.st 39],.one (.sb 39),aCb⟩
theorem cCv:Sok 221 bWq:=sgx [] trivial .o kr kr kr
noncomputable def qM (x_word:Int):Option Int:=
 Option.bind (fO (Int.tmod x_word (16:Int))) λv1=>
 cond (!v1)
  (some (-1:Int))
  (some (Int.tmod x_word (16:Int)))
noncomputable def bZt:Sg tG:=⟨[.i .i64],.one (.i .i64),qM⟩
theorem cCo:Sok 222 bZt:=sgx [(46,.r g46)] ⟨s46,trivial⟩ .o kr kr kr
noncomputable def sW (x_out:List Int)(x_word:Int):Option (List Int):=
 cond (decide ((30:Int)<=((x_out.length:Nat):Int)))
  (some x_out)
  (Option.bind (dA x_out) λv1=>
  grd ((v1.length+List.length ([x_word]:List Int))*8<=2^47/\v1.length+List.length ([x_word]:List Int)<=2^47) (some (v1++([x_word]:List Int))))
noncomputable def bZa:Sg tG:=⟨[.row 3,.i .i64],.one (.rb 3),sW⟩
theorem cBo:Sok 223 bZa:=sgx [(117,.r aTw)] ⟨bCn,trivial⟩ .o kr kr kr
noncomputable def lG (x_list:List Int)(x_at:Int)(x_w:Int):Option (List Int):=
 Option.bind (dA x_list) λv1=>
 grd ((0:Int)<=x_at/\x_at<((v1.length:Nat):Int)) (some (v1.set x_at.toNat x_w))
noncomputable def bIt:Sg tG:=⟨[.row 3,.i .i64,.i .i64],.one (.row 3),lG⟩
theorem bRx:Sok 196 bIt:=sgx [(117,.r aTw)] ⟨bCn,trivial⟩ .o kr kr kr
noncomputable def sH (x_b:DBare)(x_kind:Int):Option Int:=
 cond (decide (x_kind=(1:Int)))
  (some x_b.C.Cause)
  (cond (decide (x_kind=(2:Int)))
   (some x_b.C.Bad)
   (cond (decide (x_kind=(3:Int)))
    (some x_b.C.Saved)
    (cond (decide (((x_b.In.length:Nat):Int)=(0:Int)))
     (some (0:Int))
     (grd ((0:Int)<=(0:Int)/\(0:Int)<((x_b.In.length:Nat):Int)) (some (x_b.In.getD (Int.toNat (0:Int)) default))))))
noncomputable def bZy:Sg tG:=⟨[.st 41,.i .i64],.one (.i .i64),sH⟩
theorem cCc:Sok 226 bZy:=sgx [] trivial .o kr kr kr
noncomputable def aNr (x_b:DBare)(v2:List Int)(s3:List Int):Option DBare:=some (DBare.mk (DCore.mk v2 x_b.C.Pc x_b.C.Root x_b.C.Vector x_b.C.Saved x_b.C.SavedUser x_b.C.Cause x_b.C.Bad x_b.C.Timer x_b.C.Waits x_b.C.User x_b.C.On x_b.C.Stopped) x_b.Mem s3 x_b.Out)
noncomputable def uD (x_b:DBare)(x_i:DIns):Option DBare:=
 Option.bind (sH x_b (Int.tmod x_i.N (4:Int))) λv1=>
 Option.bind (lG x_b.C.Regs x_i.A v1) λv2=>
 Option.bind (cond (decide ((Int.tmod x_i.N (4:Int))=(0:Int)))
  (cond (decide ((0:Int)<((x_b.In.length:Nat):Int)))
   (grd ((0:Int)<=(1:Int)/\(1:Int)<=((x_b.In.length:Nat):Int)/\((x_b.In.length:Nat):Int)<=((x_b.In.length:Nat):Int)) (some (.go (List.take (Int.toNat ((x_b.In.length:Nat):Int)-Int.toNat (1:Int)) (List.drop (Int.toNat (1:Int)) x_b.In)))))
   (some (.go x_b.In)))
  (some (.go x_b.In))) λj3=>
  JO.run j3 (aNr x_b v2)
noncomputable def bWi:Sg tG:=⟨[.st 41,.st 141],.one (.sb 41),uD⟩
theorem cBj:Sok 224 bWi:=sgx [(226,.r bZy),(196,.r bIt)] ⟨cCc,bRx,trivial⟩ (.s .o (.s .o (.s .o (.j ⟨[2,4],[],[(.c 2 14,.rb 3)]⟩ .o .o)))) kr kr kr
noncomputable def iC  (s1:Int×Int×Int×Bool×(List Int)×(List Int)×Int×Int×Bool×Int×Int×Bool×Bool×Bool×(List Int)×(List Int)):Option DBare:=
 Option.bind (fK (DBare.mk (DCore.mk s1.2.2.2.2.2.1 s1.2.2.2.2.2.2.1 s1.1 s1.2.1 s1.2.2.2.2.2.2.2.1 s1.2.2.2.2.2.2.2.2.1 s1.2.2.2.2.2.2.2.2.2.1 s1.2.2.2.2.2.2.2.2.2.2.1 s1.2.2.1 s1.2.2.2.2.2.2.2.2.2.2.2.1 s1.2.2.2.2.2.2.2.2.2.2.2.2.1 s1.2.2.2.1 s1.2.2.2.2.2.2.2.2.2.2.2.2.2.1) s1.2.2.2.2.2.2.2.2.2.2.2.2.2.2.1 s1.2.2.2.2.2.2.2.2.2.2.2.2.2.2.2 s1.2.2.2.2.1)) λv2=>
 some v2
noncomputable def pI (x_b:DBare)(x_i:DIns):Option DBare:=
 grd ((0:Int)<=x_i.A/\x_i.A<((x_b.C.Regs.length:Nat):Int)) (Option.bind (cond (decide (x_i.Op=(0:Int)))
  (some (.out (DBare.mk (DCore.mk x_b.C.Regs x_b.C.Pc x_b.C.Root x_b.C.Vector x_b.C.Saved x_b.C.SavedUser x_b.C.Cause x_b.C.Bad x_b.C.Timer x_b.C.Waits x_b.C.User x_b.C.On true) x_b.Mem x_b.In x_b.Out)))
  (cond (decide (x_i.Op=(11:Int)))
   (Option.bind (aCb x_b.C) λv3=>
   some (.out (DBare.mk v3 x_b.Mem x_b.In x_b.Out)))
   (cond (decide (x_i.Op=(8:Int)))
    (Option.bind (qM (x_b.C.Regs.getD x_i.A.toNat default)) λv4=>
    some (.go (v4,x_b.C.Vector,x_b.C.Timer,x_b.C.On,x_b.Out,x_b.C.Regs,x_b.C.Pc,x_b.C.Saved,x_b.C.SavedUser,x_b.C.Cause,x_b.C.Bad,x_b.C.Waits,x_b.C.User,x_b.C.Stopped,x_b.Mem,x_b.In)))
    (cond (decide (x_i.Op=(9:Int)))
     (some (.go (x_b.C.Root,Int.tmod (x_b.C.Regs.getD x_i.A.toNat default) (64:Int),x_b.C.Timer,x_b.C.On,x_b.Out,x_b.C.Regs,x_b.C.Pc,x_b.C.Saved,x_b.C.SavedUser,x_b.C.Cause,x_b.C.Bad,x_b.C.Waits,x_b.C.User,x_b.C.Stopped,x_b.Mem,x_b.In)))
     (cond (decide (x_i.Op=(10:Int)))
      (some (.go (x_b.C.Root,x_b.C.Vector,x_b.C.Regs.getD x_i.A.toNat default,x_b.C.On,x_b.Out,x_b.C.Regs,x_b.C.Pc,x_b.C.Saved,x_b.C.SavedUser,x_b.C.Cause,x_b.C.Bad,x_b.C.Waits,x_b.C.User,x_b.C.Stopped,x_b.Mem,x_b.In)))
      (cond (decide (x_i.Op=(12:Int)))
       (some (.go (x_b.C.Root,x_b.C.Vector,x_b.C.Timer,decide ((Int.tmod x_i.N (2:Int))=(1:Int)),x_b.Out,x_b.C.Regs,x_b.C.Pc,x_b.C.Saved,x_b.C.SavedUser,x_b.C.Cause,x_b.C.Bad,x_b.C.Waits,x_b.C.User,x_b.C.Stopped,x_b.Mem,x_b.In)))
       (cond (decide (x_i.Op=(13:Int)))
        (Option.bind (sW x_b.Out (x_b.C.Regs.getD x_i.A.toNat default)) λv5=>
        some (.go (x_b.C.Root,x_b.C.Vector,x_b.C.Timer,x_b.C.On,v5,x_b.C.Regs,x_b.C.Pc,x_b.C.Saved,x_b.C.SavedUser,x_b.C.Cause,x_b.C.Bad,x_b.C.Waits,x_b.C.User,x_b.C.Stopped,x_b.Mem,x_b.In)))
        (cond (decide (x_i.Op=(14:Int)))
         (Option.bind (uD x_b x_i) λv6=>
         some (.go (v6.C.Root,v6.C.Vector,v6.C.Timer,v6.C.On,v6.Out,v6.C.Regs,v6.C.Pc,v6.C.Saved,v6.C.SavedUser,v6.C.Cause,v6.C.Bad,v6.C.Waits,v6.C.User,v6.C.Stopped,v6.Mem,v6.In)))
         (some (.go (x_b.C.Root,x_b.C.Vector,x_b.C.Timer,x_b.C.On,x_b.Out,x_b.C.Regs,x_b.C.Pc,x_b.C.Saved,x_b.C.SavedUser,x_b.C.Cause,x_b.C.Bad,x_b.C.Waits,x_b.C.User,x_b.C.Stopped,x_b.Mem,x_b.In))))))))))) λj1=>
  JO.run j1 iC)
noncomputable def bVj:Sg tG:=⟨[.st 41,.st 141],.one (.sb 41),pI⟩
theorem cBz:Sok 200 bVj:=sgx [(221,.r bWq),(222,.r bZt),(223,.r bZa),(224,.r bWi),(197,.r aUw)] ⟨cCv,cCo,cBo,cBj,aYr,trivial⟩ (.s .o (.s .o (.j ⟨[2,4],[],[(.c 2 2,.i .i64),(.c 2 3,.i .i64),(.c 2 8,.i .i64),(.c 2 11,.b),(.c 2 15,.rb 3),(.c 2 0,.rb 3),(.c 2 1,.i .i64),(.c 2 4,.i .i64),(.c 2 5,.b),(.c 2 6,.i .i64),(.c 2 7,.i .i64),(.c 2 9,.b),(.c 2 10,.b),(.c 2 12,.b),(.c 2 13,.rb 3),(.c 2 14,.rb 3)]⟩ .o .o))) kr kr kr
noncomputable def yE (x_c:DCore)(s1:Int×Int×Int×Bool×Bool×Int×(List Int)×(List Int)×(List Int)):Option (DCore×(List Int)×(List Int)):=some ((DCore.mk s1.2.2.2.2.2.2.2.2 s1.2.2.2.2.2.1 s1.1 s1.2.1 x_c.Saved x_c.SavedUser x_c.Cause x_c.Bad s1.2.2.1 x_c.Waits s1.2.2.2.1 s1.2.2.2.2.1 x_c.Stopped),s1.2.2.2.2.2.2.2.1,s1.2.2.2.2.2.2.1)
noncomputable def yA (x_c:DCore)(x_out:List Int)(x_i:DIns)(s2:(List Int)×Int):Option (JO (Int×Int×Int×Bool×Bool×Int×(List Int)×(List Int)×(List Int)) (DCore×(List Int)×(List Int))):=grd ((0:Int)<=x_i.A/\x_i.A<((x_c.Regs.length:Nat):Int)) (some (.go (x_c.Root,x_c.Vector,x_c.Timer,x_c.User,x_c.On,Int.tmod (w64 (x_c.Pc+(1:Int))) (64:Int),x_out,s2.1,x_c.Regs.set x_i.A.toNat s2.2)))
noncomputable def mS (x_c:DCore)(x_in:List Int)(x_out:List Int)(x_i:DIns):Option (DCore×(List Int)×(List Int)):=
 Option.bind (cond (decide (x_i.Op=(0:Int)))
  (some (.out ((DCore.mk x_c.Regs x_c.Pc x_c.Root x_c.Vector x_c.Saved x_c.SavedUser x_c.Cause x_c.Bad x_c.Timer x_c.Waits x_c.User x_c.On true),x_in,x_out)))
  (cond (decide (x_i.Op=(8:Int)))
   (grd ((0:Int)<=x_i.A/\x_i.A<((x_c.Regs.length:Nat):Int)) (cond (decide ((Int.tmod (x_c.Regs.getD x_i.A.toNat default) (16:Int))<(8:Int)))
    (grd ((0:Int)<=x_i.A/\x_i.A<((x_c.Regs.length:Nat):Int)) (some (.go ((Int.tmod (x_c.Regs.getD x_i.A.toNat default) (16:Int)),x_c.Vector,x_c.Timer,x_c.User,x_c.On,Int.tmod (w64 (x_c.Pc+(1:Int))) (64:Int),x_out,x_in,x_c.Regs))))
    (some (.go ((-1:Int),x_c.Vector,x_c.Timer,x_c.User,x_c.On,Int.tmod (w64 (x_c.Pc+(1:Int))) (64:Int),x_out,x_in,x_c.Regs)))))
   (cond (decide (x_i.Op=(9:Int)))
    (grd ((0:Int)<=x_i.A/\x_i.A<((x_c.Regs.length:Nat):Int)) (some (.go (x_c.Root,Int.tmod (x_c.Regs.getD x_i.A.toNat default) (64:Int),x_c.Timer,x_c.User,x_c.On,Int.tmod (w64 (x_c.Pc+(1:Int))) (64:Int),x_out,x_in,x_c.Regs))))
    (cond (decide (x_i.Op=(10:Int)))
     (grd ((0:Int)<=x_i.A/\x_i.A<((x_c.Regs.length:Nat):Int)) (some (.go (x_c.Root,x_c.Vector,x_c.Regs.getD x_i.A.toNat default,x_c.User,x_c.On,Int.tmod (w64 (x_c.Pc+(1:Int))) (64:Int),x_out,x_in,x_c.Regs))))
     (cond (decide (x_i.Op=(11:Int)))
      (some (.go (x_c.Root,x_c.Vector,x_c.Timer,x_c.SavedUser,true,x_c.Saved,x_out,x_in,x_c.Regs)))
      (cond (decide (x_i.Op=(12:Int)))
       (some (.go (x_c.Root,x_c.Vector,x_c.Timer,x_c.User,decide ((Int.tmod x_i.N (2:Int))=(1:Int)),Int.tmod (w64 (x_c.Pc+(1:Int))) (64:Int),x_out,x_in,x_c.Regs)))
       (cond (decide (x_i.Op=(13:Int)))
        (cond (decide (((x_out.length:Nat):Int)<(30:Int)))
         (grd ((0:Int)<=x_i.A/\x_i.A<((x_c.Regs.length:Nat):Int)) (grd ((x_out.length+List.length ([x_c.Regs.getD x_i.A.toNat default]:List Int))*8<=2^47/\x_out.length+List.length ([x_c.Regs.getD x_i.A.toNat default]:List Int)<=2^47) (some (.go (x_c.Root,x_c.Vector,x_c.Timer,x_c.User,x_c.On,Int.tmod (w64 (x_c.Pc+(1:Int))) (64:Int),x_out++([x_c.Regs.getD x_i.A.toNat default]:List Int),x_in,x_c.Regs)))))
         (some (.go (x_c.Root,x_c.Vector,x_c.Timer,x_c.User,x_c.On,Int.tmod (w64 (x_c.Pc+(1:Int))) (64:Int),x_out,x_in,x_c.Regs))))
        (cond (decide (x_i.Op=(14:Int)))
         (grd ((0:Int)<=(Int.tmod x_i.N (4:Int))/\(Int.tmod x_i.N (4:Int))<((4:Nat):Int)) (Option.bind (cond (decide ((Int.tmod x_i.N (4:Int))=(0:Int)))
          (cond (decide ((0:Int)<((x_in.length:Nat):Int)))
           (grd ((0:Int)<=(0:Int)/\(0:Int)<((x_in.length:Nat):Int)) (grd ((0:Int)<=(1:Int)/\(1:Int)<=((x_in.length:Nat):Int)/\((x_in.length:Nat):Int)<=((x_in.length:Nat):Int)) (some (.go ((List.take (Int.toNat ((x_in.length:Nat):Int)-Int.toNat (1:Int)) (List.drop 1 x_in)),x_in.getD 0 default)))))
           (some (.go (x_in,List.getD ([(0:Int),x_c.Cause,x_c.Bad,x_c.Saved]:List Int) (Int.toNat (Int.tmod x_i.N (4:Int))) default))))
          (some (.go (x_in,List.getD ([(0:Int),x_c.Cause,x_c.Bad,x_c.Saved]:List Int) (Int.toNat (Int.tmod x_i.N (4:Int))) default)))) λj2=>
          JO.run j2 (yA x_c x_out x_i)))
         (some (.go (x_c.Root,x_c.Vector,x_c.Timer,x_c.User,x_c.On,Int.tmod (w64 (x_c.Pc+(1:Int))) (64:Int),x_out,x_in,x_c.Regs))))))))))) λj1=>
  JO.run j1 (yE x_c)
noncomputable def bWe:Sw tG:=⟨[.os 39,.ow 3,.ow 3,.v (.st 141)],.three (.st 39) (.row 3) (.row 3),mS⟩
theorem cBt:Sjk 160 bWe:=sgy [] trivial (.s .o (.s .o (.j ⟨[4,8],[],[(.c 4 2,.i .i64),(.c 4 3,.i .i64),(.c 4 8,.i .i64),(.c 4 10,.b),(.c 4 11,.b),(.s 11,.i .i64),(.s 2,.ro 3),(.s 1,.ro 3),(.c 4 0,.ro 3)]⟩ (.s .o (.k (.s .o (.c .o (.s .o (.c .o (.s .o (.c .o (.s .o (.c .o (.s .o (.c .o (.s .o (.c .o (.s .o (.c .o (.s .o (.c (.s .o (.j ⟨[2,4,7,8,11],[],[(.s 1,.ro 3),(.s 12,.i .i64)]⟩ (.s .o (.c (.s .o (.g [] [] [.ct 1])) .o)) .o)) .o)))))))))))))))))) .o))) kr kr kr
noncomputable def cK (x_h:DHost)(x_g:Int)(x_b:DBare):Option DHost:=
 Option.bind (cH x_h) λv1=>
 Option.bind (gS x_b) λv2=>
 grd ((0:Int)<=x_g/\x_g<((v1.Guests.length:Nat):Int)) (grd ((0:Int)<=x_g/\x_g<((v1.Guests.length:Nat):Int)) (grd ((0:Int)<=x_g/\x_g<((v1.Guests.length:Nat):Int)) (some (DHost.mk v1.Words (let z0:=v1.Guests.set x_g.toNat (DGuest.mk (v1.Guests.getD x_g.toNat default).Live v2.C (v1.Guests.getD x_g.toNat default).Pages (v1.Guests.getD x_g.toNat default).In (v1.Guests.getD x_g.toNat default).Out);let z1:=z0.set x_g.toNat (DGuest.mk (z0.getD x_g.toNat default).Live (DCore.mk ((z0.getD x_g.toNat default).C).Regs ((z0.getD x_g.toNat default).C).Pc ((z0.getD x_g.toNat default).C).Root ((z0.getD x_g.toNat default).C).Vector ((z0.getD x_g.toNat default).C).Saved ((z0.getD x_g.toNat default).C).SavedUser ((z0.getD x_g.toNat default).C).Cause ((z0.getD x_g.toNat default).C).Bad ((z0.getD x_g.toNat default).C).Timer ((z0.getD x_g.toNat default).C).Waits ((z0.getD x_g.toNat default).C).User ((z0.getD x_g.toNat default).C).On ((z0.getD x_g.toNat default).C).Stopped) (z0.getD x_g.toNat default).Pages v2.In (z0.getD x_g.toNat default).Out);z1.set x_g.toNat (DGuest.mk (z1.getD x_g.toNat default).Live (DCore.mk ((z1.getD x_g.toNat default).C).Regs ((z1.getD x_g.toNat default).C).Pc ((z1.getD x_g.toNat default).C).Root ((z1.getD x_g.toNat default).C).Vector ((z1.getD x_g.toNat default).C).Saved ((z1.getD x_g.toNat default).C).SavedUser ((z1.getD x_g.toNat default).C).Cause ((z1.getD x_g.toNat default).C).Bad ((z1.getD x_g.toNat default).C).Timer ((z1.getD x_g.toNat default).C).Waits ((z1.getD x_g.toNat default).C).User ((z1.getD x_g.toNat default).C).On ((z1.getD x_g.toNat default).C).Stopped) (z1.getD x_g.toNat default).Pages (z1.getD x_g.toNat default).In v2.Out))))))
noncomputable def g67:Sg tG:=⟨[.st 26,.i .i64,.st 41],.one (.st 2026),cK⟩
theorem s67:Sok 67 g67:=sgx [(131,.r aOx),(57,.r g57)] ⟨aPj,s57,trivial⟩ (.s .o (.s .o (.s .o (.s (.g [] [] [.fo (.c 7 1) 0]) (.s (.g [] [] [.fo (.c 7 1) 0]) (.s (.g [] [] [.fo (.c 7 1) 0]) .o)))))) kr kr kr
noncomputable def pB (x_h:DHost)(x_g:Int):Option DBare:=grd ((0:Int)<=x_g/\x_g<((x_h.Guests.length:Nat):Int)) (some (DBare.mk (DCore.mk ((x_h.Guests.getD x_g.toNat default).C).Regs ((x_h.Guests.getD x_g.toNat default).C).Pc ((x_h.Guests.getD x_g.toNat default).C).Root ((x_h.Guests.getD x_g.toNat default).C).Vector ((x_h.Guests.getD x_g.toNat default).C).Saved ((x_h.Guests.getD x_g.toNat default).C).SavedUser ((x_h.Guests.getD x_g.toNat default).C).Cause ((x_h.Guests.getD x_g.toNat default).C).Bad ((x_h.Guests.getD x_g.toNat default).C).Timer ((x_h.Guests.getD x_g.toNat default).C).Waits ((x_h.Guests.getD x_g.toNat default).C).User ((x_h.Guests.getD x_g.toNat default).C).On ((x_h.Guests.getD x_g.toNat default).C).Stopped) ([]:List Int) (x_h.Guests.getD x_g.toNat default).In (x_h.Guests.getD x_g.toNat default).Out))
noncomputable def g68:Sg tG:=⟨[.st 26,.i .i64],.one (.sb 41),pB⟩
theorem s68:Sok 68 g68:=sgx [] trivial .o kr kr kr
noncomputable def fV (x_h:DHost)(x_g:Int)(x_i:DIns):Option (DHost×Bool):=
 Option.bind (dW x_h x_g) λv1=>
 cond (!v1)
  (some ((DHost.mk ([]:List Int) ([]:List DGuest)),false))
  (Option.bind (cW x_i) λv2=>
  cond (!v2)
   (some ((DHost.mk ([]:List Int) ([]:List DGuest)),false))
   (Option.bind (eM x_h) λv3=>
   grd ((0:Int)<=x_g/\x_g<((v3.Guests.length:Nat):Int)) (Option.bind (mS (DCore.mk ((v3.Guests.getD x_g.toNat default).C).Regs ((v3.Guests.getD x_g.toNat default).C).Pc ((v3.Guests.getD x_g.toNat default).C).Root ((v3.Guests.getD x_g.toNat default).C).Vector ((v3.Guests.getD x_g.toNat default).C).Saved ((v3.Guests.getD x_g.toNat default).C).SavedUser ((v3.Guests.getD x_g.toNat default).C).Cause ((v3.Guests.getD x_g.toNat default).C).Bad ((v3.Guests.getD x_g.toNat default).C).Timer ((v3.Guests.getD x_g.toNat default).C).Waits ((v3.Guests.getD x_g.toNat default).C).User ((v3.Guests.getD x_g.toNat default).C).On ((v3.Guests.getD x_g.toNat default).C).Stopped) (v3.Guests.getD x_g.toNat default).In (v3.Guests.getD x_g.toNat default).Out x_i) λv4=>
    grd ((0:Int)<=x_g/\x_g<((v3.Guests.length:Nat):Int)) (grd (x_g.toNat=x_g.toNat) (grd (x_g.toNat=x_g.toNat) (grd (x_g.toNat=x_g.toNat) (grd (x_g.toNat=x_g.toNat) (some ((DHost.mk v3.Words (v3.Guests.set x_g.toNat (DGuest.mk (v3.Guests.getD x_g.toNat default).Live v4.1 (v3.Guests.getD x_g.toNat default).Pages v4.2.1 v4.2.2))),true)))))))))
noncomputable def bZk:Sg tG:=⟨[.st 26,.i .i64,.st 141],.two (.st 2026) .b,fV⟩
theorem cDr:Sok 111 bZk:=sgx [(102,.r aJz),(110,.r bJn),(103,.r aUo),(160,.w bWe)] ⟨aOu,bOe,bAg,cBt,trivial⟩ (.s .o (.s .o (.s .o (.s .o (.s (.g [.uf (.c 9 1) 0 1,.uf (.c 9 15) 0 15,.uf (.c 9 16) 0 16] [] []) (.s (.g [.uf (.c 9 14) 0 14] [] [.fo (.c 8 1) 0]) .o)))))) kr kr kr
end Go.Proofs.YtcgggihjcelmhaaGreat
