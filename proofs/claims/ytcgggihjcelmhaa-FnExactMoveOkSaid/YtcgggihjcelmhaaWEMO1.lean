/- Plain functions of the program, and that it hands back what they say. Made by program. -/
import Derived.Test.YtcgggihjcelmhaaWTD
import Derived.Test.YtcgggihjcelmhaaProg
import Derived.Test.YtcgggihjcelmhaaZY
namespace Go.Proofs.Ytcgggihjcelmhaa
open Go.RowKit
set_option maxRecDepth 100000
set_option linter.all false
set_option maxHeartbeats 0
noncomputable def eW (x_n:Int)(x_low:Int)(x_high:Int):Option Bool:=
 cond (decide (x_low<=x_n))
  (some (decide (x_n<=x_high)))
  (some false)
noncomputable def g79:Sg tG:=⟨[.i .i64,.i .i64,.i .i64],.one .b,eW⟩
theorem s79:Sok 79 g79:=sgx [] trivial .o kr kr kr
noncomputable def kR (x_n:Int):Option Bool:=
 Option.bind (eW x_n (0:Int) (4095:Int)) λv1=>
 some v1
noncomputable def bFq:Sg tG:=⟨[.i .i64],.one .b,kR⟩
theorem bKw:Sok 117 bFq:=sgx [(79,.r g79)] ⟨s79,trivial⟩ .o kr kr kr
noncomputable def pU (x_list:List Int)(x_most:Int)(s1:Unit):Option Bool:=some (decide (((List.length x_list:Nat):Int)<=x_most))
noncomputable def pW (x_list:List Int)(s2:Int):Option (LO Int (JO Unit Bool)):=
 cond (decide (s2<((List.length x_list:Nat):Int)))
  (grd ((0:Int)<=s2/\s2<((List.length x_list:Nat):Int)) (Option.bind (kR (List.getD x_list (Int.toNat s2) default)) λv3=>
   cond (!v3)
    (some (.ret (.out false)))
    (some (.next (w64 (s2+(1:Int)))))))
  (some (.ret (.go ())))
noncomputable def fV (x_list:List Int)(x_most:Int):Option Bool:=
 Option.bind (Option.bind (iter (pW x_list) (0:Int)) LO.val) λj1=>
  JO.run j1 (pU x_list x_most)
noncomputable def g92:Sg tG:=⟨[.row 3,.i .i64],.one .b,fV⟩
theorem s92:Sok 92 g92:=sgx [(117,.r bFq)] ⟨bKw,trivial⟩ (.s .o (.j ⟨[0,1],[],[]⟩ (.s .o (.k (.l ⟨[0,1],[],[(.s 5,.i .i64)]⟩ .o))) .o)) kr kr kr
noncomputable def wI (x_c:DCore)(s1:Unit):Option Bool:=
 cond (decide (((List.length x_c.Regs:Nat):Int)=(4:Int)))
  (Option.bind (eW x_c.Pc (0:Int) (63:Int)) λv2=>
  cond v2
   (Option.bind (eW x_c.Vector (0:Int) (63:Int)) λv3=>
   cond v3
    (Option.bind (eW x_c.Saved (0:Int) (63:Int)) λv4=>
    cond v4
     (Option.bind (eW x_c.Bad (0:Int) (63:Int)) λv5=>
     cond v5
      (Option.bind (eW x_c.Root (-1:Int) (7:Int)) λv6=>
      cond v6
       (Option.bind (eW x_c.Cause (0:Int) (4:Int)) λv7=>
       cond v7
        (Option.bind (kR x_c.Timer) λv8=>
        some v8)
        (some false))
       (some false))
      (some false))
     (some false))
    (some false))
   (some false))
  (some false)
noncomputable def wX (x_c:DCore)(s9:Int):Option (LO Int (JO Unit Bool)):=
 cond (decide (s9<((List.length x_c.Regs:Nat):Int)))
  (grd ((0:Int)<=s9/\s9<((List.length x_c.Regs:Nat):Int)) (Option.bind (kR (List.getD x_c.Regs (Int.toNat s9) default)) λv10=>
   cond (!v10)
    (some (.ret (.out false)))
    (some (.next (w64 (s9+(1:Int)))))))
  (some (.ret (.go ())))
noncomputable def nD (x_c:DCore):Option Bool:=
 Option.bind (Option.bind (iter (wX x_c) (0:Int)) LO.val) λj1=>
  JO.run j1 (wI x_c)
noncomputable def g94:Sg tG:=⟨[.st 61],.one .b,nD⟩
theorem s94:Sok 94 g94:=sgx [(117,.r bFq),(79,.r g79)] ⟨bKw,s79,trivial⟩ (.s .o (.j ⟨[1],[],[]⟩ (.s .o (.k (.l ⟨[1],[],[(.s 3,.i .i64)]⟩ .o))) .o)) kr kr kr
noncomputable def nG (x_n:Int):Option Bool:=
 cond (decide ((0:Int)<=x_n))
  (some (decide (x_n<=(4095:Int))))
  (some false)
noncomputable def g35:Sg tG:=⟨[.i .i64],.one .b,nG⟩
theorem s35:Sok 35 g35:=sgx [] trivial .o kr kr kr
noncomputable def aFy  (s1:Unit):Option Bool:=some true
noncomputable def uV (x_list:List Int)(s2:Int):Option (LO Int (JO Unit Bool)):=
 cond (decide (s2<((List.length x_list:Nat):Int)))
  (grd ((0:Int)<=s2/\s2<((List.length x_list:Nat):Int)) (Option.bind (nG (List.getD x_list (Int.toNat s2) default)) λv3=>
   cond (!v3)
    (some (.ret (.out false)))
    (some (.next (w64 (s2+(1:Int)))))))
  (some (.ret (.go ())))
noncomputable def jX (x_list:List Int):Option Bool:=
 Option.bind (Option.bind (iter (uV x_list) (0:Int)) LO.val) λj1=>
  JO.run j1 aFy
noncomputable def g85:Sg tG:=⟨[.row 3],.one .b,jX⟩
theorem s85:Sok 85 g85:=sgx [(35,.r g35)] ⟨s35,trivial⟩ (.s .o (.j ⟨[],[],[]⟩ (.s .o (.k (.l ⟨[5,6],[],[(.s 7,.i .i64)]⟩ .o))) .o)) kr kr kr
noncomputable def dG (x_addr:Int):Option Bool:=
 cond (decide ((0:Int)<=x_addr))
  (some (decide (x_addr<(64:Int))))
  (some false)
noncomputable def bKf:Sg tG:=⟨[.i .i64],.one .b,dG⟩
theorem bNt:Sok 150 bKf:=sgx [] trivial .o kr kr kr
noncomputable def qF (x_page:Int):Option Bool:=
 cond (decide ((0:Int)<=x_page))
  (some (decide (x_page<(8:Int))))
  (some false)
noncomputable def bKe:Sg tG:=⟨[.i .i64],.one .b,qF⟩
theorem bOh:Sok 154 bKe:=sgx [] trivial .o kr kr kr
noncomputable def mZ (x_root:Int):Option Bool:=
 cond (decide (x_root=(-1:Int)))
  (some true)
  (Option.bind (qF x_root) λv1=>
  some v1)
noncomputable def bMd:Sg tG:=⟨[.i .i64],.one .b,mZ⟩
theorem bNy:Sok 151 bMd:=sgx [(154,.r bKe)] ⟨bOh,trivial⟩ .o kr kr kr
noncomputable def qO (x_c:DCore):Option Bool:=
 cond (decide (((List.length x_c.Regs:Nat):Int)=(4:Int)))
  (Option.bind (jX x_c.Regs) λv1=>
  Option.bind (dG x_c.Pc) λv2=>
  cond v2
   (Option.bind (dG x_c.Vector) λv3=>
   cond v3
    (Option.bind (dG x_c.Saved) λv4=>
    cond v4
     (Option.bind (dG x_c.Bad) λv5=>
     cond (decide ((0:Int)<=x_c.Cause))
      (cond v1
       (cond v5
        (Option.bind (mZ x_c.Root) λv6=>
        cond v6
         (cond (decide (x_c.Cause<=(4:Int)))
          (Option.bind (nG x_c.Timer) λv7=>
          some v7)
          (some false))
         (some false))
        (some false))
       (some false))
      (cond v1
       (cond v5
        (Option.bind (mZ x_c.Root) λv8=>
        cond v8
         (some false)
         (some false))
        (some false))
       (some false)))
     (cond (decide ((0:Int)<=x_c.Cause))
      (cond v1
       (some false)
       (some false))
      (cond v1
       (some false)
       (some false))))
    (cond (decide ((0:Int)<=x_c.Cause))
     (cond v1
      (some false)
      (some false))
     (cond v1
      (some false)
      (some false))))
   (cond (decide ((0:Int)<=x_c.Cause))
    (cond v1
     (some false)
     (some false))
    (cond v1
     (some false)
     (some false))))
  (Option.bind (dG x_c.Pc) λv9=>
  cond v9
   (Option.bind (dG x_c.Vector) λv10=>
   cond v10
    (Option.bind (dG x_c.Saved) λv11=>
    cond v11
     (Option.bind (dG x_c.Bad) λv12=>
     cond (decide ((0:Int)<=x_c.Cause))
      (some false)
      (some false))
     (cond (decide ((0:Int)<=x_c.Cause))
      (some false)
      (some false)))
    (cond (decide ((0:Int)<=x_c.Cause))
     (some false)
     (some false)))
   (cond (decide ((0:Int)<=x_c.Cause))
    (some false)
    (some false)))
noncomputable def bMi:Sg tG:=⟨[.st 61],.one .b,qO⟩
theorem bOp:Sok 140 bMi:=sgx [(85,.r g85),(150,.r bKf),(151,.r bMd),(35,.r g35)] ⟨s85,bNt,bNy,s35,trivial⟩ .o kr kr kr
noncomputable def oD (x_words:List Int):Option Bool:=
 cond (decide (((List.length x_words:Nat):Int)<=(30:Int)))
  (Option.bind (jX x_words) λv1=>
  some v1)
  (some false)
noncomputable def bMb:Sg tG:=⟨[.row 3],.one .b,oD⟩
theorem bOn:Sok 142 bMb:=sgx [(85,.r g85)] ⟨s85,trivial⟩ .o kr kr kr
noncomputable def aHi  (s1:List Int):Option (List Int):=some s1
noncomputable def kC (x_a:List Int)(s2:(List Int)×Int):Option (LO ((List Int)×Int) (JO (List Int) (List Int))):=
 cond (decide (s2.2<((List.length x_a:Nat):Int)))
  (grd ((0:Int)<=s2.2/\s2.2<((List.length x_a:Nat):Int)) (grd ((0:Int)<=s2.2/\s2.2<((List.length s2.1:Nat):Int)) (some (.next ((List.set s2.1 (Int.toNat s2.2) (List.getD x_a (Int.toNat s2.2) default)),w64 (s2.2+(1:Int)))))))
  (some (.ret (.go s2.1)))
noncomputable def iX (x_a:List Int):Option (List Int):=
 grd ((0:Int)<=((List.length x_a:Nat):Int)/\((List.length x_a:Nat):Int)*8<=2^47/\((List.length x_a:Nat):Int)<=2^47) (Option.bind (Option.bind (iter (kC x_a) ((List.replicate (Int.toNat ((List.length x_a:Nat):Int)) (0:Int)),(0:Int))) LO.val) λj1=>
  JO.run j1 aHi)
noncomputable def g59:Sg tG:=⟨[.row 3],.one (.row 3),iX⟩
theorem s59:Sok 59 g59:=sgx [] trivial (.s .o (.s .o (.j ⟨[],[],[(.s 3,.ro 3)]⟩ (.s .o (.k (.l ⟨[0],[],[(.s 3,.ro 3),(.s 4,.i .i64)]⟩ .o))) .o))) kr kr kr
noncomputable def wD  (s1:Unit):Option Bool:=some true
noncomputable def fQ (x_a:List Int)(x_b:List Int)(s2:Int):Option (LO Int (JO Unit Bool)):=
 cond (decide (s2<((List.length x_a:Nat):Int)))
  (grd ((0:Int)<=s2/\s2<((List.length x_a:Nat):Int)) (grd ((0:Int)<=s2/\s2<((List.length x_b:Nat):Int)) (cond (!decide ((List.getD x_a (Int.toNat s2) default)=(List.getD x_b (Int.toNat s2) default)))
   (some (.ret (.out false)))
   (some (.next (w64 (s2+(1:Int))))))))
  (some (.ret (.go ())))
noncomputable def iW (x_a:List Int)(x_b:List Int):Option Bool:=
 cond (!decide (((List.length x_a:Nat):Int)=((List.length x_b:Nat):Int)))
  (some false)
  (Option.bind (Option.bind (iter (fQ x_a x_b) (0:Int)) LO.val) λj1=>
   JO.run j1 wD)
noncomputable def g61:Sg tG:=⟨[.row 3,.row 3],.one .b,iW⟩
theorem s61:Sok 61 g61:=sgx [] trivial (.s .o (.s .o (.j ⟨[],[],[]⟩ (.s .o (.k (.l ⟨[0,1],[],[(.s 5,.i .i64)]⟩ .o))) .o))) kr kr kr
noncomputable def qJ (x_a:DCore):Option DCore:=
 Option.bind (iX x_a.Regs) λv1=>
 some (DCore.mk v1 x_a.Pc x_a.Root x_a.Vector x_a.Saved x_a.SavedUser x_a.Cause x_a.Bad x_a.Timer x_a.Waits x_a.User x_a.On x_a.Stopped)
noncomputable def bKp:Sg tG:=⟨[.st 130],.one (.st 61),qJ⟩
theorem bNz:Sok 121 bKp:=sgx [(59,.r g59)] ⟨s59,trivial⟩ .o kr kr kr
noncomputable def qD (x_a:DCore)(x_b:DCore):Option Bool:=
 Option.bind (iW x_a.Regs x_b.Regs) λv1=>
 cond (!v1)
  (some false)
  (cond (!decide (x_a.Pc=x_b.Pc))
   (some false)
   (cond (!decide (x_a.Root=x_b.Root))
    (some false)
    (cond (!decide (x_a.Vector=x_b.Vector))
     (some false)
     (cond (!decide (x_a.Saved=x_b.Saved))
      (some false)
      (cond (!(x_a.SavedUser==x_b.SavedUser))
       (some false)
       (cond (!decide (x_a.Cause=x_b.Cause))
        (some false)
        (cond (!decide (x_a.Bad=x_b.Bad))
         (some false)
         (cond (!decide (x_a.Timer=x_b.Timer))
          (some false)
          (cond (!(x_a.Waits==x_b.Waits))
           (some false)
           (cond (!(x_a.User==x_b.User))
            (some false)
            (cond (!(x_a.On==x_b.On))
             (some false)
             (cond (!(x_a.Stopped==x_b.Stopped))
              (some false)
              (some true)))))))))))))
noncomputable def bKm:Sg tG:=⟨[.st 61,.st 61],.one .b,qD⟩
theorem bNn:Sok 123 bKm:=sgx [(61,.r g61)] ⟨s61,trivial⟩ .o kr kr kr
noncomputable def iY (x_a:List Int)(x_left:Int):Option Int:=
 cond (decide ((w64 (x_left-((List.length x_a:Nat):Int)))<(0:Int)))
  (some (-1:Int))
  (some (w64 (x_left-((List.length x_a:Nat):Int))))
noncomputable def g57:Sg tG:=⟨[.row 3,.i .i64],.one (.i .i64),iY⟩
theorem s57:Sok 57 g57:=sgx [] trivial .o kr kr kr
noncomputable def qC (x_a:DCore)(x_left:Int):Option Int:=
 Option.bind (iY x_a.Regs x_left) λv1=>
 cond (decide (v1<(0:Int)))
  (some (-1:Int))
  (some v1)
noncomputable def bKy:Sg tG:=⟨[.st 130,.i .i64],.one (.i .i64),qC⟩
theorem bNj:Sok 119 bKy:=sgx [(57,.r g57)] ⟨s57,trivial⟩ .o kr kr kr
theorem aGg:LW 63 ⟨19,[.tmp 4],.seq (.reg false (rg 63 0)) (.seq (.seq (.reg false (rg 63 1)) (.block 0 (.loop (.seq (.seq (.reg false (rg 63 2)) (.cond (.t 9) .skip (.exit 0))) (.seq (.block 1 (.seq (.reg false (rg 63 3)) (.reg false (rg 63 4)))) (.reg false (rg 63 5))))))) (.seq (.reg false (rg 63 7)) .ret))⟩:=kr
noncomputable def oI  (s1:Int×(List Int)):Option ((List Int)×Int):=some (s1.2,s1.1)
noncomputable def gA  (s2:(List Int)×Int×Int):Option (LO ((List Int)×Int×Int) (JO (Int×(List Int)) ((List Int)×Int))):=
 cond (decide (s2.2.2<((List.length s2.1:Nat):Int)))
  (grd ((0:Int)<=s2.2.2/\s2.2.2<((List.length s2.1:Nat):Int)) (some (.next ((List.set s2.1 (Int.toNat s2.2.2) s2.2.1),w64 (s2.2.1+(1:Int)),w64 (s2.2.2+(1:Int))))))
  (some (.ret (.go (s2.2.1,s2.1))))
noncomputable def fI (x_a:List Int)(x_k:Int):Option ((List Int)×Int):=
 Option.bind (Option.bind (iter gA (x_a,x_k,(0:Int))) LO.val) λj1=>
  JO.run j1 oI
theorem mX{x_a:List Int}{x_k:Int}{R_:(List Int)×Int}(hh:fI x_a x_k=some R_):Inl Try.prog 63 [.sref 0 [] 0 (List.length x_a) 1,.int .i64 x_k] [(0,some (rI_3 x_a))] 1 (.int .i64 R_.2) [(0,some (rI_3 R_.1))] 1:=by let z2:EH:=(0,some (rI_3 x_a));unfold fI at hh;refine Inl.start aGg [0,1] [0] (E:=sp 19 [(0,sw 0 x_a),(1,ii x_k)]) (H1:=[z2]) kr kr (sy [0,1] [0] (sp 19 [(0,sw 0 x_a),(1,ii x_k)]) [z2] 1 ?_);obtain⟨j1,hh,hk1⟩:=bind_some hh;refine Aw.join (S:=Int×(List Int)) (λs1=>sp 19 [(1,ii s1.1)]) (λs1=>[(0,some (rI_3 s1.2))]) 1 (λs1=>oI s1=some R_) ?_ ?_;{intro s1 hh;unfold oI at hh;refine sy [4] [0] (sp 19 [(4,ii s1.1)]) [(0,some (rI_3 s1.2))] 1 (Aw.ret ?_);rw[cQ hh];exact pH (r':=ii s1.1) kr (el [some 0] (kT eR) (hn bU bH))};intro Q1 hN1 hR1 hE1;refine sy [0,1,5] [0] (sp 19 [(0,sw 0 x_a),(1,ii x_k),(5,ii 0)]) [z2] 1 (Aw.block ?_);obtain⟨o2,hi2,hk2⟩:=bind_some hh;refine Aw.iter (λ(s2:(List Int)×Int×Int)=>sp 19 [(0,sw 0 s2.1),(1,ii s2.2.1),(5,ii s2.2.2)]) (λ(s2:(List Int)×Int×Int)=>[(0,some (rI_3 s2.1))]) 1 hi2 (el [some 0] (kP kr (rs (sw 0 x_a) (ri (ri uN)))) (hn bU bH)) ?_;intro s2 u2 Q2 hh hN2 hX2 hR2;let z3:EH:=(0,some (rI_3 s2.1));let z4:=(0,sw 0 s2.1);let z5:=(1,ii (w64 (s2.2.1+(1:Int))));let z6:=(5,ii s2.2.2);let z7:=(9,bb (decide (s2.2.2<((List.length s2.1:Nat):Int))));let z1:=List.set s2.1 (Int.toNat s2.2.2) s2.2.1;unfold gA at hh;refine Aw.seq (sy [0,1,5,9] [0] (sp 19 [z4,(1,ii s2.2.1),z6,z7]) [z3] 1 ?_);rcases aFi hh with⟨hb,hh⟩|⟨hb,hh⟩;{refine cF hb (Aw.exit (aJj (hX2 _ _ _ _ _ (cQ hh) ?_)));intro hout;rw[hout]at hk2;refine aKn ?_;obtain rfl:=cQ hk2;exact hN1 (s2.2.1,s2.1) _ _ _ hk1 (el [some 0] (kP kr (ri uN)) (hn bU bH))};refine cT hb (Aw.xskip (λ_ _ _ hq=>dA hq) (Aw.seq (Aw.block (Aw.sreg [0,1,5] [0] ?_))));obtain⟨hg24,hh⟩:=aG hh;refine yjc 4 [(0:Int)<=s2.2.2/\s2.2.2<((List.length s2.1:Nat):Int)] (sp 19 [z4,(1,ii s2.2.1),z6,z7,(12,sw 0 s2.1),(13,ii s2.2.2),(14,ii s2.2.1),(15,.ptr 0 [] (0+(Int.toNat s2.2.2)*1))]) [z3] 1 (.cons hg24 .nil) ?_;let q1:Root:=(rI_3 z1);refine ys (.store 1 (.t 15) (.t 14)) none (xD (c:=(eI .i64)) (xs:=s2.1) (e:=3) (r:=0) (π:=[]) (o:=0+(Int.toNat s2.2.2)*1) (i:=(Int.toNat s2.2.2)) (off:=0) (vs:=[ii s2.2.1]) (y:=s2.2.1) (H':=[(0,some q1),z3]) aN kr kr kr kr ltn ltn dd kr kr ?_);exact yt (sp 19 [z4,(1,ii s2.2.1),z6]) [(0,some q1)] 1 (Aw.xreg [0,1,5] [0] (λ_ _ _ hq=>aLg (dA hq)) (yt (sp 19 [z4,z5,z6]) [(0,some q1)] 1 (Aw.oreg (ye (sp 19 [z4,z5,(5,ii (w64 (s2.2.2+(1:Int)))),(10,ii s2.2.2),(11,ii (w64 (s2.2.2+(1:Int))))]) [(0,some q1)] 1 (hN2 (z1,w64 (s2.2.1+(1:Int)),w64 (s2.2.2+(1:Int))) _ _ _ (cQ hh) (el [some 0] (kP kr (rs (sw 0 s2.1) (ri (ri uN)))) (hn bU bH)))))))
noncomputable def aEh  (s1:Int):Option Int:=some s1
noncomputable def iJ (x_a:List Int)(s2:Int×Int):Option (LO (Int×Int) (JO Int Int)):=
 cond (decide (s2.2<((List.length x_a:Nat):Int)))
  (grd ((0:Int)<=s2.2/\s2.2<((List.length x_a:Nat):Int)) (cond (!decide ((List.getD x_a (Int.toNat s2.2) default)=s2.1))
   (some (.ret (.out (-1:Int))))
   (some (.next ((w64 (s2.1+(1:Int))),w64 (s2.2+(1:Int)))))))
  (some (.ret (.go s2.1)))
noncomputable def gF (x_a:List Int)(x_k:Int):Option Int:=
 Option.bind (Option.bind (iter (iJ x_a) (x_k,(0:Int))) LO.val) λj1=>
  JO.run j1 aEh
noncomputable def g70:Sg tG:=⟨[.row 3,.i .i64],.one (.i .i64),gF⟩
theorem s70:Sok 70 g70:=sgx [] trivial (.s .o (.j ⟨[],[],[(.s 1,.i .i64)]⟩ (.s .o (.k (.l ⟨[0],[],[(.s 1,.i .i64),(.s 5,.i .i64)]⟩ .o))) .o)) kr kr kr
noncomputable def nZ (x_c:DCore):Option Bool:=
 cond (decide (x_c.Pc=(0:Int)))
  (cond (decide (x_c.Root=(0:Int)))
   (cond (decide (x_c.Vector=(0:Int)))
    (cond (decide (x_c.Saved=(0:Int)))
     (cond x_c.SavedUser
      (cond (decide (((List.length x_c.Regs:Nat):Int)=(0:Int)))
       (cond (decide (x_c.Bad=(0:Int)))
        (cond (decide (x_c.Cause=(0:Int)))
         (cond (decide (x_c.Timer=(0:Int)))
          (some false)
          (some false))
         (some false))
        (some false))
       (some false))
      (cond x_c.Waits
       (cond (decide (((List.length x_c.Regs:Nat):Int)=(0:Int)))
        (cond (decide (x_c.Bad=(0:Int)))
         (cond (decide (x_c.Cause=(0:Int)))
          (cond (decide (x_c.Timer=(0:Int)))
           (some false)
           (some false))
          (some false))
         (some false))
        (some false))
       (cond x_c.User
        (cond (decide (((List.length x_c.Regs:Nat):Int)=(0:Int)))
         (cond (decide (x_c.Bad=(0:Int)))
          (cond (decide (x_c.Cause=(0:Int)))
           (cond (decide (x_c.Timer=(0:Int)))
            (some false)
            (some false))
           (some false))
          (some false))
         (some false))
        (cond x_c.On
         (cond (decide (((List.length x_c.Regs:Nat):Int)=(0:Int)))
          (cond (decide (x_c.Bad=(0:Int)))
           (cond (decide (x_c.Cause=(0:Int)))
            (cond (decide (x_c.Timer=(0:Int)))
             (some false)
             (some false))
            (some false))
           (some false))
          (some false))
         (cond (decide (((List.length x_c.Regs:Nat):Int)=(0:Int)))
          (cond (decide (x_c.Bad=(0:Int)))
           (cond (decide (x_c.Cause=(0:Int)))
            (cond (decide (x_c.Timer=(0:Int)))
             (some (!x_c.Stopped))
             (some false))
            (some false))
           (some false))
          (some false))))))
     (cond x_c.SavedUser
      (cond (decide (((List.length x_c.Regs:Nat):Int)=(0:Int)))
       (some false)
       (some false))
      (cond x_c.Waits
       (cond (decide (((List.length x_c.Regs:Nat):Int)=(0:Int)))
        (some false)
        (some false))
       (cond x_c.User
        (cond (decide (((List.length x_c.Regs:Nat):Int)=(0:Int)))
         (some false)
         (some false))
        (cond x_c.On
         (cond (decide (((List.length x_c.Regs:Nat):Int)=(0:Int)))
          (some false)
          (some false))
         (cond (decide (((List.length x_c.Regs:Nat):Int)=(0:Int)))
          (some false)
          (some false)))))))
    (cond x_c.SavedUser
     (cond (decide (((List.length x_c.Regs:Nat):Int)=(0:Int)))
      (some false)
      (some false))
     (cond x_c.Waits
      (cond (decide (((List.length x_c.Regs:Nat):Int)=(0:Int)))
       (some false)
       (some false))
      (cond x_c.User
       (cond (decide (((List.length x_c.Regs:Nat):Int)=(0:Int)))
        (some false)
        (some false))
       (cond x_c.On
        (cond (decide (((List.length x_c.Regs:Nat):Int)=(0:Int)))
         (some false)
         (some false))
        (cond (decide (((List.length x_c.Regs:Nat):Int)=(0:Int)))
         (some false)
         (some false)))))))
   (cond x_c.SavedUser
    (cond (decide (((List.length x_c.Regs:Nat):Int)=(0:Int)))
     (some false)
     (some false))
    (cond x_c.Waits
     (cond (decide (((List.length x_c.Regs:Nat):Int)=(0:Int)))
      (some false)
      (some false))
     (cond x_c.User
      (cond (decide (((List.length x_c.Regs:Nat):Int)=(0:Int)))
       (some false)
       (some false))
      (cond x_c.On
       (cond (decide (((List.length x_c.Regs:Nat):Int)=(0:Int)))
        (some false)
        (some false))
       (cond (decide (((List.length x_c.Regs:Nat):Int)=(0:Int)))
        (some false)
        (some false)))))))
  (cond x_c.SavedUser
   (cond (decide (((List.length x_c.Regs:Nat):Int)=(0:Int)))
    (some false)
    (some false))
   (cond x_c.Waits
    (cond (decide (((List.length x_c.Regs:Nat):Int)=(0:Int)))
     (some false)
     (some false))
    (cond x_c.User
     (cond (decide (((List.length x_c.Regs:Nat):Int)=(0:Int)))
      (some false)
      (some false))
     (cond x_c.On
      (cond (decide (((List.length x_c.Regs:Nat):Int)=(0:Int)))
       (some false)
       (some false))
      (cond (decide (((List.length x_c.Regs:Nat):Int)=(0:Int)))
       (some false)
       (some false))))))
noncomputable def bKc:Sg tG:=⟨[.st 61],.one .b,nZ⟩
theorem bNx:Sok 149 bKc:=sgx [] trivial .o kr kr kr
noncomputable def lN (x_guest:DGuest):Option Bool:=
 Option.bind (nZ x_guest.C) λv1=>
 cond v1
  (cond (decide (((List.length x_guest.Pages:Nat):Int)=(0:Int)))
   (cond (decide (((List.length x_guest.In:Nat):Int)=(0:Int)))
    (some (decide (((List.length x_guest.Out:Nat):Int)=(0:Int))))
    (some false))
   (some false))
  (some false)
noncomputable def bKi:Sg tG:=⟨[.st 64],.one .b,lN⟩
theorem bOj:Sok 139 bKi:=sgx [(149,.r bKc)] ⟨bNx,trivial⟩ .o kr kr kr
noncomputable def qH (x_s:DSlot):Option Bool:=
 cond (decide (x_s.Frame=(-1:Int)))
  (cond (!x_s.Write)
   (some (!x_s.Dirty))
   (some false))
  (cond (decide ((0:Int)<=x_s.Frame))
   (some (decide (x_s.Frame<(20:Int))))
   (some false))
noncomputable def bKn:Sg tG:=⟨[.st 66],.one .b,qH⟩
theorem bNh:Sok 152 bKn:=sgx [] trivial .o kr kr kr
noncomputable def aFx  (s1:Unit):Option Bool:=some true
noncomputable def uW (x_pages:List DSlot)(s2:Int):Option (LO Int (JO Unit Bool)):=
 cond (decide (s2<((List.length x_pages:Nat):Int)))
  (grd ((0:Int)<=s2/\s2<((List.length x_pages:Nat):Int)) (Option.bind (qH (DSlot.mk (List.getD x_pages (Int.toNat s2) default).Frame (List.getD x_pages (Int.toNat s2) default).Write (List.getD x_pages (Int.toNat s2) default).Dirty)) λv3=>
   cond (!v3)
    (some (.ret (.out false)))
    (some (.next (w64 (s2+(1:Int)))))))
  (some (.ret (.go ())))
noncomputable def pI (x_pages:List DSlot):Option Bool:=
 cond (!decide (((List.length x_pages:Nat):Int)=(8:Int)))
  (some false)
  (Option.bind (Option.bind (iter (uW x_pages) (0:Int)) LO.val) λj1=>
   JO.run j1 aFx)
noncomputable def bLu:Sg tG:=⟨[.row 66],.one .b,pI⟩
theorem bOg:Sok 141 bLu:=sgx [(152,.r bKn)] ⟨bNh,trivial⟩ (.s .o (.s .o (.j ⟨[],[],[]⟩ (.s .o (.k (.l ⟨[8,9],[],[(.s 10,.i .i64)]⟩ .o))) .o))) kr kr kr
noncomputable def mC (x_guest:DGuest):Option Bool:=
 cond (!x_guest.Live)
  (Option.bind (lN x_guest) λv1=>
  some v1)
  (Option.bind (qO x_guest.C) λv2=>
  cond v2
   (Option.bind (pI x_guest.Pages) λv3=>
   cond v3
    (Option.bind (oD x_guest.In) λv4=>
    cond v4
     (Option.bind (oD x_guest.Out) λv5=>
     some v5)
     (some false))
    (some false))
   (some false))
noncomputable def bJu:Sg tG:=⟨[.st 64],.one .b,mC⟩
theorem bOd:Sok 114 bJu:=sgx [(139,.r bKi),(140,.r bMi),(141,.r bLu),(142,.r bMb)] ⟨bOj,bOp,bOg,bOn,trivial⟩ .o kr kr kr
noncomputable def aDu  (s1:Unit):Option Bool:=some true
noncomputable def lA (x_guests:List DGuest)(s2:Int):Option (LO Int (JO Unit Bool)):=
 cond (decide (s2<((List.length x_guests:Nat):Int)))
  (grd ((0:Int)<=s2/\s2<((List.length x_guests:Nat):Int)) (Option.bind (mC (DGuest.mk (List.getD x_guests (Int.toNat s2) default).Live (DCore.mk ((List.getD x_guests (Int.toNat s2) default).C).Regs ((List.getD x_guests (Int.toNat s2) default).C).Pc ((List.getD x_guests (Int.toNat s2) default).C).Root ((List.getD x_guests (Int.toNat s2) default).C).Vector ((List.getD x_guests (Int.toNat s2) default).C).Saved ((List.getD x_guests (Int.toNat s2) default).C).SavedUser ((List.getD x_guests (Int.toNat s2) default).C).Cause ((List.getD x_guests (Int.toNat s2) default).C).Bad ((List.getD x_guests (Int.toNat s2) default).C).Timer ((List.getD x_guests (Int.toNat s2) default).C).Waits ((List.getD x_guests (Int.toNat s2) default).C).User ((List.getD x_guests (Int.toNat s2) default).C).On ((List.getD x_guests (Int.toNat s2) default).C).Stopped) (List.getD x_guests (Int.toNat s2) default).Pages (List.getD x_guests (Int.toNat s2) default).In (List.getD x_guests (Int.toNat s2) default).Out)) λv3=>
   cond (!v3)
    (some (.ret (.out false)))
    (some (.next (w64 (s2+(1:Int)))))))
  (some (.ret (.go ())))
noncomputable def nT (x_guests:List DGuest):Option Bool:=
 cond (!decide (((List.length x_guests:Nat):Int)=(3:Int)))
  (some false)
  (Option.bind (Option.bind (iter (lA x_guests) (0:Int)) LO.val) λj1=>
   JO.run j1 aDu)
noncomputable def g86:Sg tG:=⟨[.row 64],.one .b,nT⟩
theorem s86:Sok 86 g86:=sgx [(114,.r bJu)] ⟨bOd,trivial⟩ (.s .o (.s .o (.j ⟨[],[],[]⟩ (.s .o (.k (.l ⟨[8,9],[],[(.s 10,.i .i64)]⟩ .o))) .o))) kr kr kr
noncomputable def rT  (s1:List Int):Option (List Int):=some s1
noncomputable def rV (s2:(List Int)×Int)(s3:List Int):Option (LO ((List Int)×Int) (JO (List Int) (List Int))):=some (.next (s3,w64 (s2.2+(1:Int))))
noncomputable def rF (s4:(List Int)×Int)(s5:List Int):Option (LO ((List Int)×Int) (JO (List Int) (LO ((List Int)×Int) (JO (List Int) (List Int))))):=some (.next (s5,w64 (s4.2+(1:Int))))
noncomputable def fX (x_guests:List DGuest)(s2:(List Int)×Int)(s4:(List Int)×Int):Option (LO ((List Int)×Int) (JO (List Int) (LO ((List Int)×Int) (JO (List Int) (List Int))))):=
 cond (decide (s4.2<((List.length (List.getD x_guests (Int.toNat s2.2) default).Pages:Nat):Int)))
  (Option.bind (grd ((0:Int)<=s4.2/\s4.2<((List.length (List.getD x_guests (Int.toNat s2.2) default).Pages:Nat):Int)) (cond (!decide ((List.getD (List.getD x_guests (Int.toNat s2.2) default).Pages (Int.toNat s4.2) default).Frame=(-1:Int)))
   (grd ((0:Int)<=(List.getD (List.getD x_guests (Int.toNat s2.2) default).Pages (Int.toNat s4.2) default).Frame/\(List.getD (List.getD x_guests (Int.toNat s2.2) default).Pages (Int.toNat s4.2) default).Frame<((List.length s4.1:Nat):Int)) (grd ((0:Int)<=(List.getD (List.getD x_guests (Int.toNat s2.2) default).Pages (Int.toNat s4.2) default).Frame/\(List.getD (List.getD x_guests (Int.toNat s2.2) default).Pages (Int.toNat s4.2) default).Frame<((List.length s4.1:Nat):Int)) (some (.go (List.set s4.1 (Int.toNat (List.getD (List.getD x_guests (Int.toNat s2.2) default).Pages (Int.toNat s4.2) default).Frame) (w64 ((List.getD s4.1 (Int.toNat (List.getD (List.getD x_guests (Int.toNat s2.2) default).Pages (Int.toNat s4.2) default).Frame) default)+(1:Int))))))))
   (some (.go s4.1)))) λj5=>
   JO.run j5 (rF s4))
  (some (.ret (.go s4.1)))
noncomputable def iR (x_guests:List DGuest)(s2:(List Int)×Int):Option (LO ((List Int)×Int) (JO (List Int) (List Int))):=
 cond (decide (s2.2<((List.length x_guests:Nat):Int)))
  (Option.bind (grd ((0:Int)<=s2.2/\s2.2<((List.length x_guests:Nat):Int)) (Option.bind (iter (fX x_guests s2) (s2.1,(0:Int))) LO.val)) λj3=>
   JO.run j3 (rV s2))
  (some (.ret (.go s2.1)))
noncomputable def kV (x_guests:List DGuest):Option (List Int):=
 Option.bind (Option.bind (iter (iR x_guests) ((List.replicate (Int.toNat (20:Int)) (0:Int)),(0:Int))) LO.val) λj1=>
  JO.run j1 rT
noncomputable def bMa:Sg tG:=⟨[.row 64],.one (.row 3),kV⟩
theorem bOb:Sok 115 bMa:=sgx [] trivial (.s .o (.s .o (.j ⟨[],[],[(.s 3,.ro 3)]⟩ (.s .o (.k (.l ⟨[9,10],[],[(.s 3,.ro 3),(.s 11,.i .i64)]⟩ (.s .o (.s .o (.j ⟨[9,10,11],[],[(.s 3,.ro 3)]⟩ (.k (.s .o (.s .o (.k (.l ⟨[9,10,11,16,17],[],[(.s 3,.ro 3),(.s 18,.i .i64)]⟩ (.s .o (.s .o (.j ⟨[9,10,11,16,17,18],[],[(.s 3,.ro 3)]⟩ .o .o)))))))) .o)))))) .o))) kr kr kr
noncomputable def vB  (s2:Unit):Option Bool:=some true
noncomputable def nR (s3:Int)(s4:Unit):Option (LO Int (JO Unit Bool)):=some (.next (w64 (s3+(1:Int))))
noncomputable def jJ (s5:Int)(s6:Unit):Option (LO Int (JO Unit (LO Int (JO Unit Bool)))):=some (.next (w64 (s5+(1:Int))))
noncomputable def eO (x_guests:List DGuest)(v1:List Int)(s3:Int)(s5:Int):Option (LO Int (JO Unit (LO Int (JO Unit Bool)))):=
 cond (decide (s5<((List.length (List.getD x_guests (Int.toNat s3) default).Pages:Nat):Int)))
  (Option.bind (grd ((0:Int)<=s5/\s5<((List.length (List.getD x_guests (Int.toNat s3) default).Pages:Nat):Int)) (cond (List.getD (List.getD x_guests (Int.toNat s3) default).Pages (Int.toNat s5) default).Write
   (grd ((0:Int)<=(List.getD (List.getD x_guests (Int.toNat s3) default).Pages (Int.toNat s5) default).Frame/\(List.getD (List.getD x_guests (Int.toNat s3) default).Pages (Int.toNat s5) default).Frame<((List.length v1:Nat):Int)) (cond (decide ((1:Int)<(List.getD v1 (Int.toNat (List.getD (List.getD x_guests (Int.toNat s3) default).Pages (Int.toNat s5) default).Frame) default)))
    (some (.out (.ret (.out (.ret (.out false))))))
    (some (.go ()))))
   (some (.go ())))) λj6=>
   JO.run j6 (jJ s5))
  (some (.ret (.go ())))
noncomputable def gD (x_guests:List DGuest)(v1:List Int)(s3:Int):Option (LO Int (JO Unit Bool)):=
 cond (decide (s3<((List.length x_guests:Nat):Int)))
  (Option.bind (grd ((0:Int)<=s3/\s3<((List.length x_guests:Nat):Int)) (Option.bind (iter (eO x_guests v1 s3) (0:Int)) LO.val)) λj4=>
   JO.run j4 (nR s3))
  (some (.ret (.go ())))
noncomputable def iC (x_guests:List DGuest):Option Bool:=
 Option.bind (kV x_guests) λv1=>
 Option.bind (Option.bind (iter (gD x_guests v1) (0:Int)) LO.val) λj2=>
  JO.run j2 vB
noncomputable def g87:Sg tG:=⟨[.row 64],.one .b,iC⟩
theorem s87:Sok 87 g87:=sgx [(115,.r bMa)] ⟨bOb,trivial⟩ (.s .o (.s .o (.j ⟨[],[],[]⟩ (.s .o (.k (.l ⟨[3,10,11],[],[(.s 12,.i .i64)]⟩ (.s .o (.s .o (.j ⟨[3,10,11,12],[],[]⟩ (.k (.s .o (.s .o (.k (.l ⟨[3,10,11,12,17,18],[],[(.s 19,.i .i64)]⟩ (.s .o (.s .o (.j ⟨[3,10,11,12,17,18,19],[],[]⟩ .o .o)))))))) .o)))))) .o))) kr kr kr
noncomputable def kM (x_h:DHost):Option Bool:=
 cond (decide (((List.length x_h.Words:Nat):Int)=(160:Int)))
  (Option.bind (jX x_h.Words) λv1=>
  cond v1
   (Option.bind (nT x_h.Guests) λv2=>
   cond v2
    (Option.bind (iC x_h.Guests) λv3=>
    some v3)
    (some false))
   (some false))
  (some false)
noncomputable def g39:Sg tG:=⟨[.st 26],.one .b,kM⟩
theorem s39:Sok 39 g39:=sgx [(85,.r g85),(86,.r g86),(87,.r g87)] ⟨s85,s86,s87,trivial⟩ .o kr kr kr
theorem aNb{x_h:DHost}{R_:Bool}(hh:kM x_h=some R_):Fn Try.prog 39 [.agg (fU x_h)] (.bool R_):=kc (s39 x_h R_ hh)
noncomputable def nH (x_g:DGuest):Option Bool:=
 cond (decide (((List.length x_g.C.Regs:Nat):Int)=(0:Int)))
  (cond (decide (x_g.C.Pc=(0:Int)))
   (cond (decide (x_g.C.Root=(0:Int)))
    (cond (decide (x_g.C.Vector=(0:Int)))
     (cond (decide (x_g.C.Saved=(0:Int)))
      (cond (!x_g.C.SavedUser)
       (cond (decide (x_g.C.Cause=(0:Int)))
        (cond (decide (x_g.C.Bad=(0:Int)))
         (cond (decide (x_g.C.Timer=(0:Int)))
          (cond (!x_g.C.Waits)
           (cond (!x_g.C.User)
            (cond (!x_g.C.On)
             (cond (!x_g.C.Stopped)
              (cond (decide (((List.length x_g.Pages:Nat):Int)=(0:Int)))
               (cond (decide (((List.length x_g.In:Nat):Int)=(0:Int)))
                (some (decide (((List.length x_g.Out:Nat):Int)=(0:Int))))
                (some false))
               (some false))
              (some false))
             (some false))
            (some false))
           (some false))
          (some false))
         (some false))
        (some false))
       (some false))
      (some false))
     (some false))
    (some false))
   (some false))
  (some false)
noncomputable def g93:Sg tG:=⟨[.st 64],.one .b,nH⟩
theorem s93:Sok 93 g93:=sgx [] trivial .o kr kr kr
noncomputable def aIc  (s3:Unit):Option Bool:=some true
noncomputable def qR (s4:Int)(s5:Unit):Option (LO Int (JO Unit Bool)):=some (.next (w64 (s4+(1:Int))))
noncomputable def mM (s2:(List Int)×(List Bool))(s4:Int):Option (LO Int (JO Unit Bool)):=
 cond (decide (s4<(20:Int)))
  (Option.bind (grd ((0:Int)<=s4/\s4<((List.length s2.1:Nat):Int)) (cond (decide ((1:Int)<(List.getD s2.1 (Int.toNat s4) default)))
   (grd ((0:Int)<=s4/\s4<((List.length s2.2:Nat):Int)) (cond (List.getD s2.2 (Int.toNat s4) default)
    (some (.out (.ret (.out false))))
    (some (.go ()))))
   (some (.go ())))) λj5=>
   JO.run j5 (qR s4))
  (some (.ret (.go ())))
noncomputable def xB  (s2:(List Int)×(List Bool)):Option Bool:=
 Option.bind (Option.bind (iter (mM s2) (0:Int)) LO.val) λj3=>
  JO.run j3 aIc
noncomputable def qU (s6:(List Int)×(List Bool)×Int)(s7:(List Int)×(List Bool)):Option (LO ((List Int)×(List Bool)×Int) (JO ((List Int)×(List Bool)) Bool)):=some (.next (s7.1,s7.2,w64 (s6.2.2+(1:Int))))
noncomputable def pS (s12:(List Int)×(List Bool)×Int)(s13:(List Bool)×(List Int)):Option (LO ((List Int)×(List Bool)×Int) (JO ((List Int)×(List Bool)) (LO ((List Int)×(List Bool)×Int) (JO ((List Int)×(List Bool)) Bool)))):=some (.next (s13.2,s13.1,w64 (s12.2.2+(1:Int))))
noncomputable def pN (x_h:DHost)(s6:(List Int)×(List Bool)×Int)(s12:(List Int)×(List Bool)×Int)(s14:Unit):Option (JO ((List Bool)×(List Int)) (LO ((List Int)×(List Bool)×Int) (JO ((List Int)×(List Bool)) (LO ((List Int)×(List Bool)×Int) (JO ((List Int)×(List Bool)) Bool))))):=
 cond (decide ((0:Int)<=(List.getD (List.getD x_h.Guests (Int.toNat s6.2.2) default).Pages (Int.toNat s12.2.2) default).Frame))
  (grd ((0:Int)<=(List.getD (List.getD x_h.Guests (Int.toNat s6.2.2) default).Pages (Int.toNat s12.2.2) default).Frame/\(List.getD (List.getD x_h.Guests (Int.toNat s6.2.2) default).Pages (Int.toNat s12.2.2) default).Frame<((List.length s12.1:Nat):Int)) (grd ((0:Int)<=(List.getD (List.getD x_h.Guests (Int.toNat s6.2.2) default).Pages (Int.toNat s12.2.2) default).Frame/\(List.getD (List.getD x_h.Guests (Int.toNat s6.2.2) default).Pages (Int.toNat s12.2.2) default).Frame<((List.length s12.1:Nat):Int)) (grd ((0:Int)<=(List.getD (List.getD x_h.Guests (Int.toNat s6.2.2) default).Pages (Int.toNat s12.2.2) default).Frame/\(List.getD (List.getD x_h.Guests (Int.toNat s6.2.2) default).Pages (Int.toNat s12.2.2) default).Frame<((List.length s12.2.1:Nat):Int)) (cond (List.getD s12.2.1 (Int.toNat (List.getD (List.getD x_h.Guests (Int.toNat s6.2.2) default).Pages (Int.toNat s12.2.2) default).Frame) default)
   (grd ((0:Int)<=(List.getD (List.getD x_h.Guests (Int.toNat s6.2.2) default).Pages (Int.toNat s12.2.2) default).Frame/\(List.getD (List.getD x_h.Guests (Int.toNat s6.2.2) default).Pages (Int.toNat s12.2.2) default).Frame<((List.length s12.2.1:Nat):Int)) (some (.go ((List.set s12.2.1 (Int.toNat (List.getD (List.getD x_h.Guests (Int.toNat s6.2.2) default).Pages (Int.toNat s12.2.2) default).Frame) true),List.set s12.1 (Int.toNat (List.getD (List.getD x_h.Guests (Int.toNat s6.2.2) default).Pages (Int.toNat s12.2.2) default).Frame) (w64 ((List.getD s12.1 (Int.toNat (List.getD (List.getD x_h.Guests (Int.toNat s6.2.2) default).Pages (Int.toNat s12.2.2) default).Frame) default)+(1:Int)))))))
   (grd ((0:Int)<=(List.getD (List.getD x_h.Guests (Int.toNat s6.2.2) default).Pages (Int.toNat s12.2.2) default).Frame/\(List.getD (List.getD x_h.Guests (Int.toNat s6.2.2) default).Pages (Int.toNat s12.2.2) default).Frame<((List.length s12.2.1:Nat):Int)) (some (.go ((List.set s12.2.1 (Int.toNat (List.getD (List.getD x_h.Guests (Int.toNat s6.2.2) default).Pages (Int.toNat s12.2.2) default).Frame) (List.getD (List.getD x_h.Guests (Int.toNat s6.2.2) default).Pages (Int.toNat s12.2.2) default).Write),List.set s12.1 (Int.toNat (List.getD (List.getD x_h.Guests (Int.toNat s6.2.2) default).Pages (Int.toNat s12.2.2) default).Frame) (w64 ((List.getD s12.1 (Int.toNat (List.getD (List.getD x_h.Guests (Int.toNat s6.2.2) default).Pages (Int.toNat s12.2.2) default).Frame) default)+(1:Int)))))))))))
  (some (.go (s12.2.1,s12.1)))
noncomputable def jC (x_h:DHost)(s6:(List Int)×(List Bool)×Int)(s12:(List Int)×(List Bool)×Int):Option (LO ((List Int)×(List Bool)×Int) (JO ((List Int)×(List Bool)) (LO ((List Int)×(List Bool)×Int) (JO ((List Int)×(List Bool)) Bool)))):=
 cond (decide (s12.2.2<((List.length (List.getD x_h.Guests (Int.toNat s6.2.2) default).Pages:Nat):Int)))
  (Option.bind (grd ((0:Int)<=s12.2.2/\s12.2.2<((List.length (List.getD x_h.Guests (Int.toNat s6.2.2) default).Pages:Nat):Int)) (Option.bind (Option.bind (eW (List.getD (List.getD x_h.Guests (Int.toNat s6.2.2) default).Pages (Int.toNat s12.2.2) default).Frame (-1:Int) (19:Int)) λv15=>
   cond (!v15)
    (some (.out (.out (.ret (.out (.ret (.out false)))))))
    (cond (decide ((List.getD (List.getD x_h.Guests (Int.toNat s6.2.2) default).Pages (Int.toNat s12.2.2) default).Frame=(-1:Int)))
     (cond (List.getD (List.getD x_h.Guests (Int.toNat s6.2.2) default).Pages (Int.toNat s12.2.2) default).Write
      (some (.out (.out (.ret (.out (.ret (.out false)))))))
      (cond (List.getD (List.getD x_h.Guests (Int.toNat s6.2.2) default).Pages (Int.toNat s12.2.2) default).Dirty
       (some (.out (.out (.ret (.out (.ret (.out false)))))))
       (some (.go ()))))
     (some (.go ())))) λj14=>
   JO.run j14 (pN x_h s6 s12))) λj13=>
   JO.run j13 (pS s12))
  (some (.ret (.go (s12.1,s12.2.1))))
noncomputable def kE (x_h:DHost)(s6:(List Int)×(List Bool)×Int):Option (LO ((List Int)×(List Bool)×Int) (JO ((List Int)×(List Bool)) Bool)):=
 cond (decide (s6.2.2<((List.length x_h.Guests:Nat):Int)))
  (Option.bind (grd ((0:Int)<=s6.2.2/\s6.2.2<((List.length x_h.Guests:Nat):Int)) (cond (!(List.getD x_h.Guests (Int.toNat s6.2.2) default).Live)
   (Option.bind (nH (DGuest.mk (List.getD x_h.Guests (Int.toNat s6.2.2) default).Live (DCore.mk ((List.getD x_h.Guests (Int.toNat s6.2.2) default).C).Regs ((List.getD x_h.Guests (Int.toNat s6.2.2) default).C).Pc ((List.getD x_h.Guests (Int.toNat s6.2.2) default).C).Root ((List.getD x_h.Guests (Int.toNat s6.2.2) default).C).Vector ((List.getD x_h.Guests (Int.toNat s6.2.2) default).C).Saved ((List.getD x_h.Guests (Int.toNat s6.2.2) default).C).SavedUser ((List.getD x_h.Guests (Int.toNat s6.2.2) default).C).Cause ((List.getD x_h.Guests (Int.toNat s6.2.2) default).C).Bad ((List.getD x_h.Guests (Int.toNat s6.2.2) default).C).Timer ((List.getD x_h.Guests (Int.toNat s6.2.2) default).C).Waits ((List.getD x_h.Guests (Int.toNat s6.2.2) default).C).User ((List.getD x_h.Guests (Int.toNat s6.2.2) default).C).On ((List.getD x_h.Guests (Int.toNat s6.2.2) default).C).Stopped) (List.getD x_h.Guests (Int.toNat s6.2.2) default).Pages (List.getD x_h.Guests (Int.toNat s6.2.2) default).In (List.getD x_h.Guests (Int.toNat s6.2.2) default).Out)) λv8=>
   cond (!v8)
    (some (.out (.ret (.out false))))
    (some (.go (s6.1,s6.2.1))))
   (Option.bind (nD (DCore.mk ((List.getD x_h.Guests (Int.toNat s6.2.2) default).C).Regs ((List.getD x_h.Guests (Int.toNat s6.2.2) default).C).Pc ((List.getD x_h.Guests (Int.toNat s6.2.2) default).C).Root ((List.getD x_h.Guests (Int.toNat s6.2.2) default).C).Vector ((List.getD x_h.Guests (Int.toNat s6.2.2) default).C).Saved ((List.getD x_h.Guests (Int.toNat s6.2.2) default).C).SavedUser ((List.getD x_h.Guests (Int.toNat s6.2.2) default).C).Cause ((List.getD x_h.Guests (Int.toNat s6.2.2) default).C).Bad ((List.getD x_h.Guests (Int.toNat s6.2.2) default).C).Timer ((List.getD x_h.Guests (Int.toNat s6.2.2) default).C).Waits ((List.getD x_h.Guests (Int.toNat s6.2.2) default).C).User ((List.getD x_h.Guests (Int.toNat s6.2.2) default).C).On ((List.getD x_h.Guests (Int.toNat s6.2.2) default).C).Stopped)) λv9=>
   cond (!v9)
    (some (.out (.ret (.out false))))
    (cond (!decide (((List.length (List.getD x_h.Guests (Int.toNat s6.2.2) default).Pages:Nat):Int)=(8:Int)))
     (some (.out (.ret (.out false))))
     (Option.bind (fV (List.getD x_h.Guests (Int.toNat s6.2.2) default).In (30:Int)) λv10=>
     cond (!v10)
      (some (.out (.ret (.out false))))
      (Option.bind (fV (List.getD x_h.Guests (Int.toNat s6.2.2) default).Out (30:Int)) λv11=>
      cond (!v11)
       (some (.out (.ret (.out false))))
       (Option.bind (iter (jC x_h s6) (s6.1,s6.2.1,(0:Int))) LO.val))))))) λj7=>
   JO.run j7 (qU s6))
  (some (.ret (.go (s6.1,s6.2.1))))
noncomputable def nE (x_h:DHost):Option Bool:=
 Option.bind (fV x_h.Words (160:Int)) λv1=>
 cond (!v1)
  (some false)
  (cond (!decide (((List.length x_h.Words:Nat):Int)=(160:Int)))
   (some false)
   (cond (!decide (((List.length x_h.Guests:Nat):Int)=(3:Int)))
    (some false)
    (Option.bind (Option.bind (iter (kE x_h) ((List.replicate (Int.toNat (20:Int)) (0:Int)),List.replicate (Int.toNat (20:Int)) false,(0:Int))) LO.val) λj2=>
     JO.run j2 xB)))
noncomputable def g48:Sg tG:=⟨[.st 26],.one .b,nE⟩
theorem s48:Sok 48 g48:=sgx [(92,.r g92),(93,.r g93),(94,.r g94),(79,.r g79)] ⟨s92,s93,s94,s79,trivial⟩ (.s .o (.s .o (.s .o (.s .o (.j ⟨[],[],[(.s 3,.ro 3),(.s 4,.ro 4)]⟩ (.s .o (.k (.l ⟨[1],[],[(.s 3,.ro 3),(.s 4,.ro 4),(.s 5,.i .i64)]⟩ (.s .o (.j ⟨[1,5],[],[(.s 3,.ro 3),(.s 4,.ro 4)]⟩ (.k (.s .o (.s .o (.s .o (.s .o (.k (.l ⟨[1,5,6],[],[(.s 3,.ro 3),(.s 4,.ro 4),(.s 7,.i .i64)]⟩ (.s .o (.j ⟨[1,5,6,7],[],[(.s 4,.ro 4),(.s 3,.ro 3)]⟩ (.k (.s .o (.j ⟨[1,3,4,5,6,7,8],[],[]⟩ .o .o))) .o))))))))) .o))))) (.j ⟨[],[],[]⟩ (.s .o (.k (.l ⟨[3,4],[],[(.s 9,.i .i64)]⟩ (.s .o (.j ⟨[3,4,9],[],[]⟩ .o .o))))) .o)))))) kr kr kr
noncomputable def aCc (x_a:DSlot):Option DSlot:=some x_a
noncomputable def bLc:Sg tG:=⟨[.st 172],.one (.st 66),aCc⟩
theorem bOo:Sok 143 bLc:=sgx [] trivial .o kr kr kr
noncomputable def aFr  (s1:List DSlot):Option (List DSlot):=some s1
noncomputable def lT (x_a:List DSlot)(s2:(List DSlot)×Int):Option (LO ((List DSlot)×Int) (JO (List DSlot) (List DSlot))):=
 cond (decide (s2.2<((List.length x_a:Nat):Int)))
  (grd ((0:Int)<=s2.2/\s2.2<((List.length x_a:Nat):Int)) (Option.bind (aCc (DSlot.mk (List.getD x_a (Int.toNat s2.2) default).Frame (List.getD x_a (Int.toNat s2.2) default).Write (List.getD x_a (Int.toNat s2.2) default).Dirty)) λv3=>
   grd ((0:Int)<=s2.2/\s2.2<((List.length s2.1:Nat):Int)) (some (.next ((List.set s2.1 (Int.toNat s2.2) v3),w64 (s2.2+(1:Int)))))))
  (some (.ret (.go s2.1)))
noncomputable def pL (x_a:List DSlot):Option (List DSlot):=
 grd ((0:Int)<=((List.length x_a:Nat):Int)/\((List.length x_a:Nat):Int)*16<=2^47/\((List.length x_a:Nat):Int)<=2^47) (Option.bind (Option.bind (iter (lT x_a) ((List.replicate (Int.toNat ((List.length x_a:Nat):Int)) (DSlot.mk (0:Int) false false)),(0:Int))) LO.val) λj1=>
  JO.run j1 aFr)
noncomputable def bLk:Sg tG:=⟨[.row 172],.one (.row 66),pL⟩
theorem bNp:Sok 122 bLk:=sgx [(143,.r bLc)] ⟨bOo,trivial⟩ (.s .o (.s .o (.j ⟨[],[],[(.s 3,.ro 66)]⟩ (.s .o (.k (.l ⟨[0],[],[(.s 3,.ro 66),(.s 4,.i .i64)]⟩ .o))) .o))) kr kr kr
noncomputable def mD (x_a:DGuest):Option DGuest:=
 Option.bind (qJ x_a.C) λv1=>
 Option.bind (pL x_a.Pages) λv2=>
 Option.bind (iX x_a.In) λv3=>
 Option.bind (iX x_a.Out) λv4=>
 some (DGuest.mk x_a.Live v1 v2 v3 v4)
noncomputable def bLg:Sg tG:=⟨[.st 133],.one (.st 64),mD⟩
theorem bOa:Sok 101 bLg:=sgx [(121,.r bKp),(122,.r bLk),(59,.r g59)] ⟨bNz,bNp,s59,trivial⟩ .o kr kr kr
noncomputable def aEi  (s1:List DGuest):Option (List DGuest):=some s1
noncomputable def kY (x_a:List DGuest)(s2:(List DGuest)×Int):Option (LO ((List DGuest)×Int) (JO (List DGuest) (List DGuest))):=
 cond (decide (s2.2<((List.length x_a:Nat):Int)))
  (grd ((0:Int)<=s2.2/\s2.2<((List.length x_a:Nat):Int)) (Option.bind (mD (DGuest.mk (List.getD x_a (Int.toNat s2.2) default).Live (DCore.mk ((List.getD x_a (Int.toNat s2.2) default).C).Regs ((List.getD x_a (Int.toNat s2.2) default).C).Pc ((List.getD x_a (Int.toNat s2.2) default).C).Root ((List.getD x_a (Int.toNat s2.2) default).C).Vector ((List.getD x_a (Int.toNat s2.2) default).C).Saved ((List.getD x_a (Int.toNat s2.2) default).C).SavedUser ((List.getD x_a (Int.toNat s2.2) default).C).Cause ((List.getD x_a (Int.toNat s2.2) default).C).Bad ((List.getD x_a (Int.toNat s2.2) default).C).Timer ((List.getD x_a (Int.toNat s2.2) default).C).Waits ((List.getD x_a (Int.toNat s2.2) default).C).User ((List.getD x_a (Int.toNat s2.2) default).C).On ((List.getD x_a (Int.toNat s2.2) default).C).Stopped) (List.getD x_a (Int.toNat s2.2) default).Pages (List.getD x_a (Int.toNat s2.2) default).In (List.getD x_a (Int.toNat s2.2) default).Out)) λv3=>
   grd ((0:Int)<=s2.2/\s2.2<((List.length s2.1:Nat):Int)) (some (.next ((List.set s2.1 (Int.toNat s2.2) v3),w64 (s2.2+(1:Int)))))))
  (some (.ret (.go s2.1)))
noncomputable def nY (x_a:List DGuest):Option (List DGuest):=
 grd ((0:Int)<=((List.length x_a:Nat):Int)/\((List.length x_a:Nat):Int)*176<=2^47/\((List.length x_a:Nat):Int)<=2^47) (Option.bind (Option.bind (iter (kY x_a) ((List.replicate (Int.toNat ((List.length x_a:Nat):Int)) (DGuest.mk false (DCore.mk ([]:List Int) (0:Int) (0:Int) (0:Int) (0:Int) false (0:Int) (0:Int) (0:Int) false false false false) ([]:List DSlot) ([]:List Int) ([]:List Int))),(0:Int))) LO.val) λj1=>
  JO.run j1 aEi)
noncomputable def g60:Sg tG:=⟨[.row 133],.one (.row 1064),nY⟩
theorem s60:Sok 60 g60:=sgx [(101,.r bLg)] ⟨bOa,trivial⟩ (.s .o (.s (.g [] [] [.fo (.s 3) 0]) (.j ⟨[],[],[(.s 3,.ro 1064)]⟩ (.s .o (.k (.l ⟨[0],[],[(.s 3,.ro 1064),(.s 4,.i .i64)]⟩ (.s .o (.s (.k (.g [] [] [.fo (.s 3) 0])) .o))))) .o))) kr kr kr
noncomputable def dD (x_a:DHost):Option DHost:=
 Option.bind (iX x_a.Words) λv1=>
 Option.bind (nY x_a.Guests) λv2=>
 some (DHost.mk v1 v2)
noncomputable def g21:Sg tG:=⟨[.st 42],.one (.st 2026),dD⟩
theorem s21:Sok 21 g21:=sgx [(59,.r g59),(60,.r g60)] ⟨s59,s60,trivial⟩ .o kr kr kr
theorem gB{x_a:DHost}{R_:DHost}(hh:dD x_a=some R_):Fn Try.prog 21 [.agg [bo (eI .i64) x_a.Words,bo cG x_a.Guests]] (.agg [.own 3 1 (List.length R_.Words) (fl (eI .i64) R_.Words),.own 64 17 (List.length R_.Guests) (fl bB R_.Guests)]):=kc (s21 x_a R_ hh)
noncomputable def nI (x_a:DSlot)(x_b:DSlot):Option Bool:=
 cond (!decide (x_a.Frame=x_b.Frame))
  (some false)
  (cond (!(x_a.Write==x_b.Write))
   (some false)
   (cond (!(x_a.Dirty==x_b.Dirty))
    (some false)
    (some true)))
noncomputable def bLr:Sg tG:=⟨[.st 66,.st 66],.one .b,nI⟩
theorem bNw:Sok 144 bLr:=sgx [] trivial .o kr kr kr
noncomputable def aGc  (s1:Unit):Option Bool:=some true
noncomputable def lV (x_a:List DSlot)(x_b:List DSlot)(s2:Int):Option (LO Int (JO Unit Bool)):=
 cond (decide (s2<((List.length x_a:Nat):Int)))
  (grd ((0:Int)<=s2/\s2<((List.length x_a:Nat):Int)) (grd ((0:Int)<=s2/\s2<((List.length x_b:Nat):Int)) (Option.bind (nI (DSlot.mk (List.getD x_a (Int.toNat s2) default).Frame (List.getD x_a (Int.toNat s2) default).Write (List.getD x_a (Int.toNat s2) default).Dirty) (DSlot.mk (List.getD x_b (Int.toNat s2) default).Frame (List.getD x_b (Int.toNat s2) default).Write (List.getD x_b (Int.toNat s2) default).Dirty)) λv3=>
   cond (!v3)
    (some (.ret (.out false)))
    (some (.next (w64 (s2+(1:Int))))))))
  (some (.ret (.go ())))
noncomputable def oU (x_a:List DSlot)(x_b:List DSlot):Option Bool:=
 cond (!decide (((List.length x_a:Nat):Int)=((List.length x_b:Nat):Int)))
  (some false)
  (Option.bind (Option.bind (iter (lV x_a x_b) (0:Int)) LO.val) λj1=>
   JO.run j1 aGc)
noncomputable def bKa:Sg tG:=⟨[.row 66,.row 66],.one .b,oU⟩
theorem bOi:Sok 124 bKa:=sgx [(144,.r bLr)] ⟨bNw,trivial⟩ (.s .o (.s .o (.j ⟨[],[],[]⟩ (.s .o (.k (.l ⟨[0,1],[],[(.s 5,.i .i64)]⟩ .o))) .o))) kr kr kr
noncomputable def lZ (x_a:DGuest)(x_b:DGuest):Option Bool:=
 cond (!(x_a.Live==x_b.Live))
  (some false)
  (Option.bind (qD x_a.C x_b.C) λv1=>
  cond (!v1)
   (some false)
   (Option.bind (oU x_a.Pages x_b.Pages) λv2=>
   cond (!v2)
    (some false)
    (Option.bind (iW x_a.In x_b.In) λv3=>
    cond (!v3)
     (some false)
     (Option.bind (iW x_a.Out x_b.Out) λv4=>
     cond (!v4)
      (some false)
      (some true)))))
noncomputable def bLz:Sg tG:=⟨[.st 64,.st 64],.one .b,lZ⟩
theorem bOc:Sok 102 bLz:=sgx [(123,.r bKm),(124,.r bKa),(61,.r g61)] ⟨bNn,bOi,s61,trivial⟩ .o kr kr kr
noncomputable def aDy  (s1:Unit):Option Bool:=some true
noncomputable def lB (x_a:List DGuest)(x_b:List DGuest)(s2:Int):Option (LO Int (JO Unit Bool)):=
 cond (decide (s2<((List.length x_a:Nat):Int)))
  (grd ((0:Int)<=s2/\s2<((List.length x_a:Nat):Int)) (grd ((0:Int)<=s2/\s2<((List.length x_b:Nat):Int)) (Option.bind (lZ (DGuest.mk (List.getD x_a (Int.toNat s2) default).Live (DCore.mk ((List.getD x_a (Int.toNat s2) default).C).Regs ((List.getD x_a (Int.toNat s2) default).C).Pc ((List.getD x_a (Int.toNat s2) default).C).Root ((List.getD x_a (Int.toNat s2) default).C).Vector ((List.getD x_a (Int.toNat s2) default).C).Saved ((List.getD x_a (Int.toNat s2) default).C).SavedUser ((List.getD x_a (Int.toNat s2) default).C).Cause ((List.getD x_a (Int.toNat s2) default).C).Bad ((List.getD x_a (Int.toNat s2) default).C).Timer ((List.getD x_a (Int.toNat s2) default).C).Waits ((List.getD x_a (Int.toNat s2) default).C).User ((List.getD x_a (Int.toNat s2) default).C).On ((List.getD x_a (Int.toNat s2) default).C).Stopped) (List.getD x_a (Int.toNat s2) default).Pages (List.getD x_a (Int.toNat s2) default).In (List.getD x_a (Int.toNat s2) default).Out) (DGuest.mk (List.getD x_b (Int.toNat s2) default).Live (DCore.mk ((List.getD x_b (Int.toNat s2) default).C).Regs ((List.getD x_b (Int.toNat s2) default).C).Pc ((List.getD x_b (Int.toNat s2) default).C).Root ((List.getD x_b (Int.toNat s2) default).C).Vector ((List.getD x_b (Int.toNat s2) default).C).Saved ((List.getD x_b (Int.toNat s2) default).C).SavedUser ((List.getD x_b (Int.toNat s2) default).C).Cause ((List.getD x_b (Int.toNat s2) default).C).Bad ((List.getD x_b (Int.toNat s2) default).C).Timer ((List.getD x_b (Int.toNat s2) default).C).Waits ((List.getD x_b (Int.toNat s2) default).C).User ((List.getD x_b (Int.toNat s2) default).C).On ((List.getD x_b (Int.toNat s2) default).C).Stopped) (List.getD x_b (Int.toNat s2) default).Pages (List.getD x_b (Int.toNat s2) default).In (List.getD x_b (Int.toNat s2) default).Out)) λv3=>
   cond (!v3)
    (some (.ret (.out false)))
    (some (.next (w64 (s2+(1:Int))))))))
  (some (.ret (.go ())))
noncomputable def oA (x_a:List DGuest)(x_b:List DGuest):Option Bool:=
 cond (!decide (((List.length x_a:Nat):Int)=((List.length x_b:Nat):Int)))
  (some false)
  (Option.bind (Option.bind (iter (lB x_a x_b) (0:Int)) LO.val) λj1=>
   JO.run j1 aDy)
noncomputable def g62:Sg tG:=⟨[.row 64,.row 64],.one .b,oA⟩
theorem s62:Sok 62 g62:=sgx [(102,.r bLz)] ⟨bOc,trivial⟩ (.s .o (.s .o (.j ⟨[],[],[]⟩ (.s .o (.k (.l ⟨[0,1],[],[(.s 5,.i .i64)]⟩ .o))) .o))) kr kr kr
noncomputable def dE (x_a:DHost)(x_b:DHost):Option Bool:=
 Option.bind (iW x_a.Words x_b.Words) λv1=>
 cond (!v1)
  (some false)
  (Option.bind (oA x_a.Guests x_b.Guests) λv2=>
  cond (!v2)
   (some false)
   (some true))
noncomputable def g22:Sg tG:=⟨[.st 26,.st 26],.one .b,dE⟩
theorem s22:Sok 22 g22:=sgx [(61,.r g61),(62,.r g62)] ⟨s61,s62,trivial⟩ .o kr kr kr
theorem gC{x_a:DHost}{x_b:DHost}{R_:Bool}(hh:dE x_a x_b=some R_):Fn Try.prog 22 [.agg [bo (eI .i64) x_a.Words,bo bG x_a.Guests],.agg [bo (eI .i64) x_b.Words,bo bG x_b.Guests]] (.bool R_):=kc (s22 x_a x_b R_ hh)
noncomputable def oY (x_a:List DSlot)(x_left:Int):Option Int:=
 cond (decide ((w64 (x_left-((List.length x_a:Nat):Int)))<(0:Int)))
  (some (-1:Int))
  (some (w64 (x_left-((List.length x_a:Nat):Int))))
noncomputable def bKr:Sg tG:=⟨[.row 172,.i .i64],.one (.i .i64),oY⟩
theorem bOm:Sok 120 bKr:=sgx [] trivial .o kr kr kr
noncomputable def mB (x_a:DGuest)(x_left:Int):Option Int:=
 Option.bind (qC x_a.C x_left) λv1=>
 cond (decide (v1<(0:Int)))
  (some (-1:Int))
  (Option.bind (oY x_a.Pages v1) λv2=>
  cond (decide (v2<(0:Int)))
   (some (-1:Int))
   (Option.bind (iY x_a.In v2) λv3=>
   cond (decide (v3<(0:Int)))
    (some (-1:Int))
    (Option.bind (iY x_a.Out v3) λv4=>
    cond (decide (v4<(0:Int)))
     (some (-1:Int))
     (some v4))))
noncomputable def bJr:Sg tG:=⟨[.st 133,.i .i64],.one (.i .i64),mB⟩
theorem bNu:Sok 100 bJr:=sgx [(119,.r bKy),(120,.r bKr),(57,.r g57)] ⟨bNj,bOm,s57,trivial⟩ .o kr kr kr
noncomputable def aEb  (s1:Int):Option Int:=some s1
noncomputable def iK (x_a:List DGuest)(s2:Int×Int):Option (LO (Int×Int) (JO Int Int)):=
 cond (decide (s2.2<((List.length x_a:Nat):Int)))
  (grd ((0:Int)<=s2.2/\s2.2<((List.length x_a:Nat):Int)) (Option.bind (mB (DGuest.mk (List.getD x_a (Int.toNat s2.2) default).Live (DCore.mk ((List.getD x_a (Int.toNat s2.2) default).C).Regs ((List.getD x_a (Int.toNat s2.2) default).C).Pc ((List.getD x_a (Int.toNat s2.2) default).C).Root ((List.getD x_a (Int.toNat s2.2) default).C).Vector ((List.getD x_a (Int.toNat s2.2) default).C).Saved ((List.getD x_a (Int.toNat s2.2) default).C).SavedUser ((List.getD x_a (Int.toNat s2.2) default).C).Cause ((List.getD x_a (Int.toNat s2.2) default).C).Bad ((List.getD x_a (Int.toNat s2.2) default).C).Timer ((List.getD x_a (Int.toNat s2.2) default).C).Waits ((List.getD x_a (Int.toNat s2.2) default).C).User ((List.getD x_a (Int.toNat s2.2) default).C).On ((List.getD x_a (Int.toNat s2.2) default).C).Stopped) (List.getD x_a (Int.toNat s2.2) default).Pages (List.getD x_a (Int.toNat s2.2) default).In (List.getD x_a (Int.toNat s2.2) default).Out) s2.1) λv3=>
   cond (decide (v3<(0:Int)))
    (some (.ret (.out (-1:Int))))
    (some (.next (v3,w64 (s2.2+(1:Int)))))))
  (some (.ret (.go s2.1)))
noncomputable def nS (x_a:List DGuest)(x_left:Int):Option Int:=
 cond (decide ((w64 (x_left-((List.length x_a:Nat):Int)))<(0:Int)))
  (some (-1:Int))
  (Option.bind (Option.bind (iter (iK x_a) ((w64 (x_left-((List.length x_a:Nat):Int))),(0:Int))) LO.val) λj1=>
   JO.run j1 aEb)
noncomputable def g58:Sg tG:=⟨[.row 133,.i .i64],.one (.i .i64),nS⟩
theorem s58:Sok 58 g58:=sgx [(100,.r bJr)] ⟨bNu,trivial⟩ (.s .o (.s .o (.s .o (.j ⟨[],[],[(.s 1,.i .i64)]⟩ (.s .o (.k (.l ⟨[0],[],[(.s 1,.i .i64),(.s 5,.i .i64)]⟩ .o))) .o)))) kr kr kr
noncomputable def gL (x_a:DHost)(x_left:Int):Option Int:=
 Option.bind (iY x_a.Words x_left) λv1=>
 cond (decide (v1<(0:Int)))
  (some (-1:Int))
  (Option.bind (nS x_a.Guests v1) λv2=>
  cond (decide (v2<(0:Int)))
   (some (-1:Int))
   (some v2))
noncomputable def g20:Sg tG:=⟨[.st 42,.i .i64],.one (.i .i64),gL⟩
theorem s20:Sok 20 g20:=sgx [(57,.r g57),(58,.r g58)] ⟨s57,s58,trivial⟩ .o kr kr kr
theorem yR{x_a:DHost}{x_left:Int}{R_:Int}(hh:gL x_a x_left=some R_):Fn Try.prog 20 [.agg [bo (eI .i64) x_a.Words,bo cG x_a.Guests],.int .i64 x_left] (.int .i64 R_):=kc (s20 x_a x_left R_ hh)
noncomputable def dJ (x_list:List Int):Option (List Int):=grd ((0:Int)<=((List.length x_list:Nat):Int)/\((List.length x_list:Nat):Int)*8<=2^47/\((List.length x_list:Nat):Int)<=2^47) (some (over (List.replicate (Int.toNat ((List.length x_list:Nat):Int)) (0:Int)) 0 (List.length (List.replicate (Int.toNat ((List.length x_list:Nat):Int)) (0:Int))) x_list))
noncomputable def g88:Sg tG:=⟨[.row 3],.one (.row 3),dJ⟩
theorem s88:Sok 88 g88:=sgx [] trivial .o kr kr kr
theorem aMr{x_list:List Int}{R_:(List Int)}(hh:dJ x_list=some R_):Fn Try.prog 88 [bo (eI .i64) x_list] (.own 3 1 (List.length R_) (fl (eI .i64) R_)):=kc (s88 x_list R_ hh)
noncomputable def qE (x_c:DCore):Option DCore:=grd ((List.length ([]:List Int)+List.length x_c.Regs)*8<=2^47/\List.length ([]:List Int)+List.length x_c.Regs<=2^47) (some (DCore.mk (([]:List Int)++x_c.Regs) x_c.Pc x_c.Root x_c.Vector x_c.Saved x_c.SavedUser x_c.Cause x_c.Bad x_c.Timer x_c.Waits x_c.User x_c.On x_c.Stopped))
noncomputable def g95:Sg tG:=⟨[.st 61],.one (.st 61),qE⟩
theorem s95:Sok 95 g95:=sgx [] trivial .o kr kr kr
noncomputable def oV (x_guests:List DGuest)(x_g:Int):Option Bool:=
 cond (decide ((0:Int)<=x_g))
  (cond (decide (x_g<(3:Int)))
   (grd ((0:Int)<=x_g/\x_g<((List.length x_guests:Nat):Int)) (some (List.getD x_guests (Int.toNat x_g) default).Live))
   (some false))
  (some false)
noncomputable def g76:Sg tG:=⟨[.row 64,.i .i64],.one .b,oV⟩
theorem s76:Sok 76 g76:=sgx [] trivial .o kr kr kr
noncomputable def fH (x_h:DHost)(x_g:Int):Option Bool:=
 Option.bind (kM x_h) λv1=>
 cond v1
  (Option.bind (oV x_h.Guests x_g) λv2=>
  some v2)
  (some false)
noncomputable def g31:Sg tG:=⟨[.st 26,.i .i64],.one .b,fH⟩
theorem s31:Sok 31 g31:=sgx [(39,.r g39),(76,.r g76)] ⟨s39,s76,trivial⟩ .o kr kr kr
theorem xA{x_h:DHost}{x_g:Int}{R_:Bool}(hh:fH x_h x_g=some R_):Fn Try.prog 31 [.agg (fU x_h),.int .i64 x_g] (.bool R_):=kc (s31 x_h x_g R_ hh)
noncomputable def kS (x_h:DHost)(x_g:Int):Option Bool:=
 Option.bind (nE x_h) λv1=>
 cond v1
  (Option.bind (eW x_g (0:Int) (2:Int)) λv2=>
  cond v2
   (grd ((0:Int)<=x_g/\x_g<((List.length x_h.Guests:Nat):Int)) (some (List.getD x_h.Guests (Int.toNat x_g) default).Live))
   (some false))
  (some false)
noncomputable def g33:Sg tG:=⟨[.st 26,.i .i64],.one .b,kS⟩
theorem s33:Sok 33 g33:=sgx [(48,.r g48),(79,.r g79)] ⟨s48,s79,trivial⟩ .o kr kr kr
noncomputable def lM (x_b:DBare):Option DBare:=
 Option.bind (dJ x_b.C.Regs) λv1=>
 Option.bind (dJ x_b.Mem) λv2=>
 Option.bind (dJ x_b.In) λv3=>
 Option.bind (dJ x_b.Out) λv4=>
 some (DBare.mk (DCore.mk v1 x_b.C.Pc x_b.C.Root x_b.C.Vector x_b.C.Saved x_b.C.SavedUser x_b.C.Cause x_b.C.Bad x_b.C.Timer x_b.C.Waits x_b.C.User x_b.C.On x_b.C.Stopped) v2 v3 v4)
noncomputable def g91:Sg tG:=⟨[.st 81],.one (.st 81),lM⟩
theorem s91:Sok 91 g91:=sgx [(88,.r g88)] ⟨s88,trivial⟩ .o kr kr kr
noncomputable def qG (x_words:List Int)(x_page:Int):Option (List Int):=grd ((0:Int)<=(w64 (x_page*(8:Int)))/\(w64 (x_page*(8:Int)))<=(w64 ((w64 (x_page+(1:Int)))*(8:Int)))/\(w64 ((w64 (x_page+(1:Int)))*(8:Int)))<=((List.length x_words:Nat):Int)) (some (List.take (Int.toNat (w64 ((w64 (x_page+(1:Int)))*(8:Int)))-Int.toNat (w64 (x_page*(8:Int)))) (List.drop (Int.toNat (w64 (x_page*(8:Int)))) x_words)))
noncomputable def bLe:Sg tG:=⟨[.row 3,.i .i64],.one (.rb 3),qG⟩
theorem bOk:Sok 108 bLe:=sgx [] trivial .o kr kr kr
noncomputable def iL (x_pages:List DSlot):Option (List DSlot):=grd ((0:Int)<=((List.length x_pages:Nat):Int)/\((List.length x_pages:Nat):Int)*16<=2^47/\((List.length x_pages:Nat):Int)<=2^47) (some (over (List.replicate (Int.toNat ((List.length x_pages:Nat):Int)) (DSlot.mk (0:Int) false false)) 0 (List.length (List.replicate (Int.toNat ((List.length x_pages:Nat):Int)) (DSlot.mk (0:Int) false false))) x_pages))
noncomputable def g90:Sg tG:=⟨[.row 66],.one (.row 66),iL⟩
theorem s90:Sok 90 g90:=sgx [] trivial .o kr kr kr
noncomputable def dU (x_guest:DGuest):Option DGuest:=
 cond (!x_guest.Live)
  (some (DGuest.mk false (DCore.mk ([]:List Int) (0:Int) (0:Int) (0:Int) (0:Int) false (0:Int) (0:Int) (0:Int) false false false false) ([]:List DSlot) ([]:List Int) ([]:List Int)))
  (Option.bind (dJ x_guest.C.Regs) λv1=>
  Option.bind (iL x_guest.Pages) λv2=>
  Option.bind (dJ x_guest.In) λv3=>
  Option.bind (dJ x_guest.Out) λv4=>
  some (DGuest.mk x_guest.Live (DCore.mk v1 x_guest.C.Pc x_guest.C.Root x_guest.C.Vector x_guest.C.Saved x_guest.C.SavedUser x_guest.C.Cause x_guest.C.Bad x_guest.C.Timer x_guest.C.Waits x_guest.C.User x_guest.C.On x_guest.C.Stopped) v2 v3 v4))
noncomputable def bMk:Sg tG:=⟨[.st 64],.one (.st 64),dU⟩
theorem bNl:Sok 116 bMk:=sgx [(88,.r g88),(90,.r g90)] ⟨s88,s90,trivial⟩ .o kr kr kr
noncomputable def yH  (s1:List DGuest):Option (List DGuest):=some s1
noncomputable def cX (x_guests:List DGuest)(s2:(List DGuest)×Int):Option (LO ((List DGuest)×Int) (JO (List DGuest) (List DGuest))):=
 cond (decide (s2.2<((List.length x_guests:Nat):Int)))
  (grd ((0:Int)<=s2.2/\s2.2<((List.length x_guests:Nat):Int)) (Option.bind (dU (DGuest.mk (List.getD x_guests (Int.toNat s2.2) default).Live (DCore.mk ((List.getD x_guests (Int.toNat s2.2) default).C).Regs ((List.getD x_guests (Int.toNat s2.2) default).C).Pc ((List.getD x_guests (Int.toNat s2.2) default).C).Root ((List.getD x_guests (Int.toNat s2.2) default).C).Vector ((List.getD x_guests (Int.toNat s2.2) default).C).Saved ((List.getD x_guests (Int.toNat s2.2) default).C).SavedUser ((List.getD x_guests (Int.toNat s2.2) default).C).Cause ((List.getD x_guests (Int.toNat s2.2) default).C).Bad ((List.getD x_guests (Int.toNat s2.2) default).C).Timer ((List.getD x_guests (Int.toNat s2.2) default).C).Waits ((List.getD x_guests (Int.toNat s2.2) default).C).User ((List.getD x_guests (Int.toNat s2.2) default).C).On ((List.getD x_guests (Int.toNat s2.2) default).C).Stopped) (List.getD x_guests (Int.toNat s2.2) default).Pages (List.getD x_guests (Int.toNat s2.2) default).In (List.getD x_guests (Int.toNat s2.2) default).Out)) λv3=>
   grd ((0:Int)<=s2.2/\s2.2<((List.length s2.1:Nat):Int)) (some (.next ((List.set s2.1 (Int.toNat s2.2) v3),w64 (s2.2+(1:Int)))))))
  (some (.ret (.go s2.1)))
noncomputable def fL (x_guests:List DGuest):Option (List DGuest):=
 grd ((0:Int)<=((List.length x_guests:Nat):Int)/\((List.length x_guests:Nat):Int)*176<=2^47/\((List.length x_guests:Nat):Int)<=2^47) (Option.bind (Option.bind (iter (cX x_guests) ((List.replicate (Int.toNat ((List.length x_guests:Nat):Int)) (DGuest.mk false (DCore.mk ([]:List Int) (0:Int) (0:Int) (0:Int) (0:Int) false (0:Int) (0:Int) (0:Int) false false false false) ([]:List DSlot) ([]:List Int) ([]:List Int))),(0:Int))) LO.val) λj1=>
  JO.run j1 yH)
noncomputable def g89:Sg tG:=⟨[.row 64],.one (.row 1064),fL⟩
theorem s89:Sok 89 g89:=sgx [(116,.r bMk)] ⟨bNl,trivial⟩ (.s .o (.s (.g [] [] [.fo (.s 3) 0]) (.j ⟨[],[],[(.s 3,.ro 1064)]⟩ (.s .o (.k (.l ⟨[9,10],[],[(.s 3,.ro 1064),(.s 11,.i .i64)]⟩ (.s .o (.s .o (.s (.k (.s .o (.g [] [] [.fo (.s 3) 0]))) .o)))))) .o))) kr kr kr
noncomputable def gV (x_guests:List DGuest)(x_g:Int)(x_guest:DGuest):Option (List DGuest):=
 Option.bind (fL x_guests) λv1=>
 grd ((0:Int)<=x_g/\x_g<((List.length v1:Nat):Int)) (some (List.set v1 (Int.toNat x_g) x_guest))
noncomputable def g43:Sw tG:=⟨[.v (.row 64),.v (.i .i64),.os 64],.one (.row 1064),gV⟩
theorem s43:Sjk 43 g43:=sgy [(89,.r g89)] ⟨s89,trivial⟩ (.s .o (.s .o (.s (.g [] [] [.fo (.s 7) 0]) .o))) kr kr kr
theorem uX{x_guests:List DGuest}{x_g:Int}{x_guest:DGuest}{R_:(List DGuest)}(hh:gV x_guests x_g x_guest=some R_):Inl Try.prog 43 [bo bG x_guests,.int .i64 x_g,.agg [.bool x_guest.Live,.sref 0 [] 0 (List.length x_guest.C.Regs) 1,.int .i64 x_guest.C.Pc,.int .i64 x_guest.C.Root,.int .i64 x_guest.C.Vector,.int .i64 x_guest.C.Saved,.bool x_guest.C.SavedUser,.int .i64 x_guest.C.Cause,.int .i64 x_guest.C.Bad,.int .i64 x_guest.C.Timer,.bool x_guest.C.Waits,.bool x_guest.C.User,.bool x_guest.C.On,.bool x_guest.C.Stopped,.sref 1 [] 0 (List.length x_guest.Pages) 3,.sref 2 [] 0 (List.length x_guest.In) 1,.sref 3 [] 0 (List.length x_guest.Out) 1]] [(3,some (rI_3 x_guest.Out)),(2,some (rI_3 x_guest.In)),(1,some (rC66 x_guest.Pages)),(0,some (rI_3 x_guest.C.Regs))] 4 (.sref 4 [] 0 (List.length R_) 17) [(4,some (rO64 R_))] 5:=kc (s43 x_guests x_g x_guest R_ hh)
theorem aFw:LW 69 ⟨20,[.cell 4 true 2,.tmp 5],.seq (.reg false (rg 69 0)) (.seq (.seq (.reg false (rg 69 1)) (.cond (.t 9) (.seq (.reg false (rg 69 2)) .ret) .skip)) (.seq (.regd (rg 69 3) (rg 69 4)) .ret))⟩:=kr
noncomputable def iQ (x_h:DHost)(x_g:Int):Option (DHost×Bool):=
 Option.bind (fH x_h x_g) λv1=>
 cond (!v1)
  (some ((DHost.mk ([]:List Int) ([]:List DGuest)),false))
  (Option.bind (dJ x_h.Words) λv2=>
  Option.bind (gV x_h.Guests x_g (DGuest.mk false (DCore.mk ([]:List Int) (0:Int) (0:Int) (0:Int) (0:Int) false (0:Int) (0:Int) (0:Int) false false false false) ([]:List DSlot) ([]:List Int) ([]:List Int))) λv3=>
  some ((DHost.mk v2 v3),true))
theorem aHo{x_h:DHost}{x_g:Int}{R_:DHost×Bool}(hh:iQ x_h x_g=some R_):Fn Try.prog 69 [.agg (fU x_h),.int .i64 x_g] (.tup [.agg [.own 3 1 (List.length R_.1.Words) (fl (eI .i64) R_.1.Words),.own 64 17 (List.length R_.1.Guests) (fl bB R_.1.Guests)],.bool R_.2]):=by let z1:EH:=(0,some (rB26 x_h));let z2:=(1,ii x_g);let z3:EH:=(1,some ⟨26,[.nil,.nil]⟩);let z4:=(12,bo (eI .i64) x_h.Words);let z5:=(4,pp 1);unfold iQ at hh;refine Fn.start aFw [0,1] (E:=sp 20 [(0,.agg (fU x_h)),z2]) kr (v:= .tup [.agg [sw 0 R_.1.Words,.sref 1 [] 0 (List.length R_.1.Guests) 17],bb R_.2]) (Hr:=[(1,some (rO64 R_.1.Guests)),(0,some (rI_3 R_.1.Words))]) (k:=2) kr (sy [1,2,4] [0,1] (sp 20 [z2,(2,pp 0),z5]) [z1,z3] 2 (Aw.seq (Aw.sreg [1,2,4,9] [0,1] (yj 2  (sp 20 [z2,(2,pp 0),z5,(6,.agg (fU x_h)),(7,ii x_g)]) [z1,z3] 2 ?_))));obtain⟨v1,hv1,hh⟩:=bind_some hh;refine ys (.call 31 [.t 6,.t 7]) (some 8) (bE (r:=bb v1) (v:=bb v1) (Hr:=[]) (n':=2) (xA hv1) (cE (vs:=[.agg (fU x_h),ii x_g]) kr (bD (aC (rP (rE _))) (cz1 cA))) rfl rfl kr ?_);refine yt (sp 20 [z2,(2,pp 0),z5,(9,bb (!v1))]) [z1,z3] 2 ?_;rcases bJ hh with⟨hb,hh⟩|⟨hb,hh⟩;{refine cT hb (sy [4,5] [1] (sp 20 [z5,(5,bb false)]) [z3] 2 (Aw.ret (cL ?_)));rw[cQ hh];exact pH (r':= .tup [.agg [.nil,.nil],bb false]) kr (Ent.list [none,none] rfl rfl (Nat.zero_le _) (kT (jV rz)) (kX dd rfl rfl (kX dd rfl rfl bH)))};refine cF hb (Aw.xskip (λ_ _ _ hq=>dA hq) (Aw.sregd [4,5] [1,2,7] [] kr (dj 2 (sp 20 [z2,(2,pp 0),z5,(9,bb (!v1)),(11,pp 0),z4]) [z1,z3] 2 ?_)));obtain⟨v2,hv2,hh⟩:=bind_some hh;let z6:EH:=(2,some (rI_3 v2));refine ds (.call 88 [.t 12]) (some 13) (lO rfl (bE (r:= .own 3 1 (List.length v2) (fl (eI .i64) v2)) (v:=sw 2 v2) (Hr:=[z6]) (n':=3) (aMr hv2) (cE (vs:=[bo (eI .i64) x_h.Words]) kr (bD (aC (cP (aL aP))) cA)) nrr nrr kr ⟨⟨⟨by decide,fF (n:=2) (n0:=2) (r:= .own 3 1 (List.length v2) (fl (eI .i64) v2)) (v:=sw 2 v2) (Hr:=[z6]) (n':=3) kr dd⟩,Hld.un ?_⟩⟩));refine dt (sp 20 [z2,(2,pp 0),z5,(9,bb (!v1)),(11,pp 0),z4,(13,sw 2 v2),(14,.ptr 0 [] 1),(15,bo bG x_h.Guests),(16,ii x_g),(17,.agg (bb false:: .nil::nV [.nil,.nil,.nil]))]) [z6,z1,z3] 3 ?_;obtain⟨v3,hv3,hh⟩:=bind_some hh;refine ys (.call 43 [.t 15,.t 16,.t 17]) (some 18) (aRo (args:=[bo bG x_h.Guests,ii x_g,.agg (bb false:: .nil::nV [.nil,.nil,.nil])]) (args2:=[bo bG x_h.Guests,ii x_g,.agg (bb false:: .sref 3 [] 0 0 1::nV [.sref 4 [] 0 0 3,.sref 5 [] 0 0 1,.sref 6 [] 0 0 1])]) kr (Ent.trans (Ent.nils (n:=6) (e:=3) (xs2:=[bo bG x_h.Guests,ii x_g,.agg (bb false:: .sref 3 [] 0 0 1::nV [.sref 4 [] 0 0 3,.sref 5 [] 0 0 1,.sref 6 [] 0 0 1])]) (aJ (.same _) (aJ (.same _) (aJ (.agg _ _ (aJ (.same _) (aJ (.same _) (aJ (.same _) (aJ (.same _) (aJ (.same _) (aJ (.same _) (aJ (.same _) (aJ (.same _) (aJ (.same _) (aJ (.same _) (aJ (.same _) (aJ (.same _) (aJ (.same _) (aJ (.same _) (aJ (.same _) (aJ (.same _) (aJ (.nil _) sC)))))))))))))))))) sC)))) (Ent.trans (Ent.nils (n:=5) (e:=3) (xs2:=[bo bG x_h.Guests,ii x_g,.agg (bb false:: .sref 3 [] 0 0 1::nV [.sref 4 [] 0 0 3,.sref 5 [] 0 0 1,.nil])]) (aJ (.same _) (aJ (.same _) (aJ (.agg _ _ (aJ (.same _) (aJ (.same _) (aJ (.same _) (aJ (.same _) (aJ (.same _) (aJ (.same _) (aJ (.same _) (aJ (.same _) (aJ (.same _) (aJ (.same _) (aJ (.same _) (aJ (.same _) (aJ (.same _) (aJ (.same _) (aJ (.same _) (aJ (.nil _) (aJ (.same _) sC)))))))))))))))))) sC)))) (Ent.trans (Ent.nils (n:=4) (e:=66) (xs2:=[bo bG x_h.Guests,ii x_g,.agg (bb false:: .sref 3 [] 0 0 1::nV [.sref 4 [] 0 0 3,.nil,.nil])]) (aJ (.same _) (aJ (.same _) (aJ (.agg _ _ (aJ (.same _) (aJ (.same _) (aJ (.same _) (aJ (.same _) (aJ (.same _) (aJ (.same _) (aJ (.same _) (aJ (.same _) (aJ (.same _) (aJ (.same _) (aJ (.same _) (aJ (.same _) (aJ (.same _) (aJ (.same _) (aJ (.nil _) (aJ (.same _) (aJ (.same _) sC)))))))))))))))))) sC)))) (Ent.nils (n:=3) (e:=3) (xs2:=[bo bG x_h.Guests,ii x_g,.agg (bb false:: .sref 3 [] 0 0 1::nV [.nil,.nil,.nil])]) (aJ (.same _) (aJ (.same _) (aJ (.agg _ _ (aJ (.same _) (aJ (.nil _) (aJ (.same _) (aJ (.same _) (aJ (.same _) (aJ (.same _) (aJ (.same _) (aJ (.same _) (aJ (.same _) (aJ (.same _) (aJ (.same _) (aJ (.same _) (aJ (.same _) (aJ (.same _) (aJ (.same _) (aJ (.same _) (aJ (.same _) sC)))))))))))))))))) sC))))))) (Inl.frameB (v':= .sref 7 [] 0 (List.length v3) 17) (Hp':=[(7,some (rO64 v3))]) (n':=8) [3,4,5,6] (uX hv3) rfl rfl rfl rz rfl (hq ⟨3,[]⟩ (aO rfl) (hq ⟨3,[]⟩ (aO rfl) (hq ⟨66,[]⟩ (aO rfl) (hq ⟨3,[]⟩ (aO rfl) bH)))) aJs rfl (hn bZ bH) rfl) ?_);refine yt (sp 20 [z5,(5,bb true)]) [(1,some ⟨26,[sw 2 v2,.sref 7 [] 0 (List.length v3) 17]⟩),z6,(7,some (rO64 v3))] 8 (Aw.ret ?_);rw[cQ hh];exact pH (r':= .tup [.agg [sw 2 v2,.sref 7 [] 0 (List.length v3) 17],bb true]) kr (Ent.list [some 2,some 7] rfl rfl (Nat.zero_le _) (kT (jV rz)) (hn bZ (hn bU bH)))
noncomputable def g69:Sg tG:=⟨[.st 26,.i .i64],.two (.st 2026) .b,iQ⟩
theorem s69:Sok 69 g69:=λx_h x_g R_ hh=>kc (aHo (x_h:=x_h) (x_g:=x_g) hh)
noncomputable def fB (x_g:DGuest):Option DGuest:=
 cond (!x_g.Live)
  (some (DGuest.mk false (DCore.mk ([]:List Int) (0:Int) (0:Int) (0:Int) (0:Int) false (0:Int) (0:Int) (0:Int) false false false false) ([]:List DSlot) ([]:List Int) ([]:List Int)))
  (Option.bind (qE x_g.C) λv1=>
  grd (List.length x_g.Pages*16<=2^47/\List.length x_g.Pages<=2^47) (grd (List.length x_g.In*8<=2^47/\List.length x_g.In<=2^47) (grd (List.length x_g.Out*8<=2^47/\List.length x_g.Out<=2^47) (some (DGuest.mk true v1 x_g.Pages x_g.In x_g.Out)))))
noncomputable def g50:Sg tG:=⟨[.st 64],.one (.st 64),fB⟩
theorem s50:Sok 50 g50:=sgx [(95,.r g95)] ⟨s95,trivial⟩ .o kr kr kr
noncomputable def aIr (x_h:DHost)(s1:List DGuest):Option DHost:=some (DHost.mk (([]:List Int)++x_h.Words) s1)
noncomputable def mU (x_h:DHost)(s2:(List DGuest)×Int):Option (LO ((List DGuest)×Int) (JO (List DGuest) DHost)):=
 cond (decide (s2.2<((List.length x_h.Guests:Nat):Int)))
  (grd ((0:Int)<=s2.2/\s2.2<((List.length x_h.Guests:Nat):Int)) (Option.bind (fB (DGuest.mk (List.getD x_h.Guests (Int.toNat s2.2) default).Live (DCore.mk ((List.getD x_h.Guests (Int.toNat s2.2) default).C).Regs ((List.getD x_h.Guests (Int.toNat s2.2) default).C).Pc ((List.getD x_h.Guests (Int.toNat s2.2) default).C).Root ((List.getD x_h.Guests (Int.toNat s2.2) default).C).Vector ((List.getD x_h.Guests (Int.toNat s2.2) default).C).Saved ((List.getD x_h.Guests (Int.toNat s2.2) default).C).SavedUser ((List.getD x_h.Guests (Int.toNat s2.2) default).C).Cause ((List.getD x_h.Guests (Int.toNat s2.2) default).C).Bad ((List.getD x_h.Guests (Int.toNat s2.2) default).C).Timer ((List.getD x_h.Guests (Int.toNat s2.2) default).C).Waits ((List.getD x_h.Guests (Int.toNat s2.2) default).C).User ((List.getD x_h.Guests (Int.toNat s2.2) default).C).On ((List.getD x_h.Guests (Int.toNat s2.2) default).C).Stopped) (List.getD x_h.Guests (Int.toNat s2.2) default).Pages (List.getD x_h.Guests (Int.toNat s2.2) default).In (List.getD x_h.Guests (Int.toNat s2.2) default).Out)) λv3=>
   grd ((List.length s2.1+1)*176<=2^47/\List.length s2.1+1<=2^47) (some (.next ((s2.1++([v3]:List DGuest)),w64 (s2.2+(1:Int)))))))
  (some (.ret (.go s2.1)))
noncomputable def jA (x_h:DHost):Option DHost:=
 grd ((List.length ([]:List Int)+List.length x_h.Words)*8<=2^47/\List.length ([]:List Int)+List.length x_h.Words<=2^47) (Option.bind (Option.bind (iter (mU x_h) (([]:List DGuest),(0:Int))) LO.val) λj1=>
  JO.run j1 (aIr x_h))
noncomputable def g49:Sg tG:=⟨[.st 26],.one (.st 2026),jA⟩
theorem s49:Sok 49 g49:=sgx [(50,.r g50)] ⟨s50,trivial⟩ (.s .o (.s .o (.j ⟨[2,3],[],[(.c 3 1,.ro 1064)]⟩ (.s .o (.k (.l ⟨[1,2,3],[],[(.c 3 1,.ro 1064),(.s 4,.i .i64)]⟩ (.s .o (.s (.k (.g [] [] [.fo (.c 3 1) 0])) .o))))) .o))) kr kr kr
noncomputable def aCj  (s1:Unit):Option Int:=some (-1:Int)
noncomputable def gS (x_guests:List DGuest)(s2:Int):Option (LO Int (JO Unit Int)):=
 cond (decide (s2<((List.length x_guests:Nat):Int)))
  (grd ((0:Int)<=s2/\s2<((List.length x_guests:Nat):Int)) (cond (!(List.getD x_guests (Int.toNat s2) default).Live)
   (some (.ret (.out s2)))
   (some (.next (w64 (s2+(1:Int)))))))
  (some (.ret (.go ())))
noncomputable def kF (x_guests:List DGuest):Option Int:=
 Option.bind (Option.bind (iter (gS x_guests) (0:Int)) LO.val) λj1=>
  JO.run j1 aCj
noncomputable def g40:Sg tG:=⟨[.row 64],.one (.i .i64),kF⟩
theorem s40:Sok 40 g40:=sgx [] trivial (.s .o (.j ⟨[],[],[]⟩ (.s .o (.k (.l ⟨[5,6],[],[(.s 7,.i .i64)]⟩ .o))) .o)) kr kr kr
theorem aFv{x_guests:List DGuest}{R_:Int}(hh:kF x_guests=some R_):Fn Try.prog 40 [bo bG x_guests] (.int .i64 R_):=kc (s40 x_guests R_ hh)
noncomputable def aDn  (s2:List DSlot):Option (List DSlot):=some s2
noncomputable def iD (v1:List DSlot)(s3:(List DSlot)×Int):Option (LO ((List DSlot)×Int) (JO (List DSlot) (List DSlot))):=
 cond (decide (s3.2<((List.length v1:Nat):Int)))
  (grd ((0:Int)<=s3.2/\s3.2<((List.length s3.1:Nat):Int)) (some (.next ((List.set s3.1 (Int.toNat s3.2) (DSlot.mk (List.getD s3.1 (Int.toNat s3.2) default).Frame (List.getD s3.1 (Int.toNat s3.2) default).Write false)),w64 (s3.2+(1:Int))))))
  (some (.ret (.go s3.1)))
noncomputable def lE (x_pages:List DSlot):Option (List DSlot):=
 Option.bind (iL x_pages) λv1=>
 Option.bind (Option.bind (iter (iD v1) (v1,(0:Int))) LO.val) λj2=>
  JO.run j2 aDn
noncomputable def g42:Sg tG:=⟨[.row 66],.one (.row 66),lE⟩
theorem s42:Sok 42 g42:=sgx [(90,.r g90)] ⟨s90,trivial⟩ (.s .o (.s .o (.j ⟨[],[],[(.s 3,.ro 66)]⟩ (.s .o (.k (.l ⟨[8],[],[(.s 3,.ro 66),(.s 9,.i .i64)]⟩ .o))) .o))) kr kr kr
theorem aHy{x_pages:List DSlot}{R_:(List DSlot)}(hh:lE x_pages=some R_):Fn Try.prog 42 [bo hZ x_pages] (.own 66 3 (List.length R_) (fl hZ R_)):=kc (s42 x_pages R_ hh)
noncomputable def qN (x_h:DHost)(x_g:Int)(x_at:Int):Option Int:=
 grd ((0:Int)<=x_g/\x_g<((List.length x_h.Guests:Nat):Int)) (grd ((0:Int)<=(w64 (Int.tdiv x_at (8:Int)))/\(w64 (Int.tdiv x_at (8:Int)))<((List.length (List.getD x_h.Guests (Int.toNat x_g) default).Pages:Nat):Int)) (cond (decide ((List.getD (List.getD x_h.Guests (Int.toNat x_g) default).Pages (Int.toNat (w64 (Int.tdiv x_at (8:Int)))) default).Frame<(0:Int)))
  (some (0:Int))
  (grd ((0:Int)<=(w64 ((w64 ((List.getD (List.getD x_h.Guests (Int.toNat x_g) default).Pages (Int.toNat (w64 (Int.tdiv x_at (8:Int)))) default).Frame*(8:Int)))+(Int.tmod x_at (8:Int))))/\(w64 ((w64 ((List.getD (List.getD x_h.Guests (Int.toNat x_g) default).Pages (Int.toNat (w64 (Int.tdiv x_at (8:Int)))) default).Frame*(8:Int)))+(Int.tmod x_at (8:Int))))<((List.length x_h.Words:Nat):Int)) (some (List.getD x_h.Words (Int.toNat (w64 ((w64 ((List.getD (List.getD x_h.Guests (Int.toNat x_g) default).Pages (Int.toNat (w64 (Int.tdiv x_at (8:Int)))) default).Frame*(8:Int)))+(Int.tmod x_at (8:Int))))) default)))))
noncomputable def g80:Sg tG:=⟨[.st 26,.i .i64,.i .i64],.one (.i .i64),qN⟩
theorem s80:Sok 80 g80:=sgx [] trivial .o kr kr kr
noncomputable def fR (x_words:List Int)(x_s:DSlot):Option (List Int):=
 cond (decide (x_s.Frame=(-1:Int)))
  (some (List.replicate (Int.toNat (8:Int)) (0:Int)))
  (Option.bind (qG x_words x_s.Frame) λv1=>
  some v1)
noncomputable def g78:Sg tG:=⟨[.row 3,.st 66],.one (.rb 3),fR⟩
theorem s78:Sok 78 g78:=sgx [(108,.r bLe)] ⟨bOk,trivial⟩ .o kr kr kr
noncomputable def eH (x_h:DHost):Option DHost:=
 Option.bind (dJ x_h.Words) λv1=>
 Option.bind (fL x_h.Guests) λv2=>
 some (DHost.mk v1 v2)
noncomputable def g41:Sg tG:=⟨[.st 26],.one (.st 2026),eH⟩
theorem s41:Sok 41 g41:=sgx [(88,.r g88),(89,.r g89)] ⟨s88,s89,trivial⟩ .o kr kr kr
theorem aDp{x_h:DHost}{R_:DHost}(hh:eH x_h=some R_):Fn Try.prog 41 [.agg (fU x_h)] (.agg [.own 3 1 (List.length R_.Words) (fl (eI .i64) R_.Words),.own 64 17 (List.length R_.Guests) (fl bB R_.Guests)]):=kc (s41 x_h R_ hh)
theorem aCl:LW 103 ⟨38,[.tmp 4],.seq (.reg false (rg 103 0)) (.seq (.seq (.reg false (rg 103 1)) (.block 0 (.loop (.seq (.seq (.reg false (rg 103 2)) (.cond (.t 9) .skip (.exit 0))) (.seq (.block 1 (.seq (.reg false (rg 103 3)) (.seq (.reg false (rg 103 4)) (.seq (.reg false (rg 103 5)) (.seq (.reg false (rg 103 6)) (.seq (.reg false (rg 103 7)) (.reg false (rg 103 8)))))))) (.reg false (rg 103 9))))))) (.seq (.reg false (rg 103 11)) .ret))⟩:=kr
noncomputable def nO  (s1:Int×(List DSlot)):Option ((List DSlot)×Int):=some (s1.2,s1.1)
noncomputable def gU  (s2:(List DSlot)×Int×Int):Option (LO ((List DSlot)×Int×Int) (JO (Int×(List DSlot)) ((List DSlot)×Int))):=
 cond (decide (s2.2.2<((List.length s2.1:Nat):Int)))
  (grd ((0:Int)<=s2.2.2/\s2.2.2<((List.length s2.1:Nat):Int)) (grd ((0:Int)<=s2.2.2/\s2.2.2<((List.length s2.1:Nat):Int)) (grd ((0:Int)<=s2.2.2/\s2.2.2<((List.length s2.1:Nat):Int)) (some (.next ((List.set s2.1 (Int.toNat s2.2.2) (DSlot.mk s2.2.1 (decide ((Int.tmod (w64 (s2.2.1+(1:Int))) (3:Int))=(0:Int))) (decide ((Int.tmod (w64 ((w64 (s2.2.1+(1:Int)))+(1:Int))) (3:Int))=(0:Int))))),w64 ((w64 ((w64 (s2.2.1+(1:Int)))+(1:Int)))+(1:Int)),w64 (s2.2.2+(1:Int))))))))
  (some (.ret (.go (s2.2.1,s2.1))))
noncomputable def kH (x_a:List DSlot)(x_k:Int):Option ((List DSlot)×Int):=
 Option.bind (Option.bind (iter gU (x_a,x_k,(0:Int))) LO.val) λj1=>
  JO.run j1 nO
theorem aGb{x_a:List DSlot}{x_k:Int}{R_:(List DSlot)×Int}(hh:kH x_a x_k=some R_):Inl Try.prog 103 [.sref 0 [] 0 (List.length x_a) 3,.int .i64 x_k] [(0,some (rC66 x_a))] 1 (.int .i64 R_.2) [(0,some (rC66 R_.1))] 1:=by let z8:EV:=(0,.sref 0 [] 0 (List.length x_a) 3);let z9:EH:=(0,some (rC66 x_a));unfold kH at hh;refine Inl.start aCl [0,1] [0] (E:=sp 38 [z8,(1,ii x_k)]) (H1:=[z9]) kr kr (sy [0,1] [0] (sp 38 [z8,(1,ii x_k)]) [z9] 1 ?_);obtain⟨j1,hh,hk1⟩:=bind_some hh;refine Aw.join (S:=Int×(List DSlot)) (λs1=>sp 38 [(1,ii s1.1)]) (λs1=>[(0,some (rC66 s1.2))]) 1 (λs1=>nO s1=some R_) ?_ ?_;{intro s1 hh;unfold nO at hh;refine sy [4] [0] (sp 38 [(4,ii s1.1)]) [(0,some (rC66 s1.2))] 1 (Aw.ret ?_);rw[cQ hh];exact pH (r':=ii s1.1) kr (el [some 0] (kT eR) (hn jU bH))};intro Q1 hN1 hR1 hE1;refine sy [0,1,5] [0] (sp 38 [z8,(1,ii x_k),(5,ii 0)]) [z9] 1 (Aw.block ?_);obtain⟨o2,hi2,hk2⟩:=bind_some hh;refine Aw.iter (λ(s2:(List DSlot)×Int×Int)=>sp 38 [(0,.sref 0 [] 0 (List.length s2.1) 3),(1,ii s2.2.1),(5,ii s2.2.2)]) (λ(s2:(List DSlot)×Int×Int)=>[(0,some (rC66 s2.1))]) 1 hi2 (el [some 0] (kP kr (rs (.sref 0 [] 0 (List.length x_a) 3) (ri (ri uN)))) (hn jU bH)) ?_;intro s2 u2 Q2 hh hN2 hX2 hR2;let z10:EV:=(0,.sref 0 [] 0 (List.length s2.1) 3);let z11:EH:=(0,some (rC66 s2.1));let z12:=(1,ii (w64 ((w64 ((w64 (s2.2.1+(1:Int)))+(1:Int)))+(1:Int))));let z13:=(1,ii (w64 ((w64 (s2.2.1+(1:Int)))+(1:Int))));let z14:=(1,ii (w64 (s2.2.1+(1:Int))));let z15:=(5,ii s2.2.2);let z16:=(9,bb (decide (s2.2.2<((List.length s2.1:Nat):Int))));let z1:=DSlot.mk s2.2.1 (decide ((Int.tmod (w64 (s2.2.1+(1:Int))) (3:Int))=(0:Int))) (decide ((Int.tmod (w64 ((w64 (s2.2.1+(1:Int)))+(1:Int))) (3:Int))=(0:Int)));let z3:=List.set s2.1 (Int.toNat s2.2.2) z1;let z2:=List.getD s2.1 (Int.toNat s2.2.2) default;let z4:=DSlot.mk s2.2.1 (decide ((Int.tmod (w64 (s2.2.1+(1:Int))) (3:Int))=(0:Int))) z2.Dirty;let z6:=List.set s2.1 (Int.toNat s2.2.2) z4;let z5:=DSlot.mk s2.2.1 z2.Write z2.Dirty;let z7:=List.set s2.1 (Int.toNat s2.2.2) z5;unfold gU at hh;refine Aw.seq (sy [0,1,5,9] [0] (sp 38 [z10,(1,ii s2.2.1),z15,z16]) [z11] 1 ?_);rcases aFi hh with⟨hb,hh⟩|⟨hb,hh⟩;{refine cF hb (Aw.exit (aJj (hX2 _ _ _ _ _ (cQ hh) ?_)));intro hout;rw[hout]at hk2;refine aKn ?_;obtain rfl:=cQ hk2;exact hN1 (s2.2.1,s2.1) _ _ _ hk1 (el [some 0] (kP kr (ri uN)) (hn jU bH))};refine cT hb (Aw.xskip (λ_ _ _ hq=>dA hq) (Aw.seq (Aw.block (Aw.sreg [0,1,5] [0] ?_))));obtain⟨hg72,hh⟩:=aG hh;refine yjc 5 [(0:Int)<=s2.2.2/\s2.2.2<((List.length s2.1:Nat):Int)] (sp 38 [z10,(1,ii s2.2.1),z15,z16,(12,.sref 0 [] 0 (List.length s2.1) 3),(13,ii s2.2.2),(14,ii s2.2.1),(15,.ptr 0 [] (0+(Int.toNat s2.2.2)*3)),(16,.ptr 0 [] (0+(Int.toNat s2.2.2)*3+0))]) [z11] 1 (.cons hg72 .nil) ?_;let q1:Root:=(rC66 z7);let z17:=(0,some q1);refine ys (.store 1 (.t 16) (.t 14)) none (xD (c:=hZ) (xs:=s2.1) (e:=66) (r:=0) (π:=[]) (o:=0+(Int.toNat s2.2.2)*3+0) (i:=(Int.toNat s2.2.2)) (off:=0) (vs:=[ii s2.2.1]) (y:=z5) (H':=[z17,z11]) xC kr kr kr kr ltn ltn dd kr kr ?_);refine yt (sp 38 [z10,(1,ii s2.2.1),z15]) [z17] 1 (sy [0,1,5] [0] (sp 38 [z10,z14,z15]) [z17] 1 (Aw.sreg [0,1,5] [0] ?_));obtain⟨hg71,hh⟩:=aG hh;refine yjc 7 [(3:Int)≠0,(0:Int)<=s2.2.2/\s2.2.2<((List.length s2.1:Nat):Int)] (sp 38 [z10,z14,z15,(19,.sref 0 [] 0 (List.length s2.1) 3),(20,ii s2.2.2),(21,ii (w64 (s2.2.1+(1:Int)))),(22,ii (Int.tmod (w64 (s2.2.1+(1:Int))) (3:Int))),(23,bb (decide ((Int.tmod (w64 (s2.2.1+(1:Int))) (3:Int))=(0:Int)))),(24,.ptr 0 [] (0+(Int.toNat s2.2.2)*3)),(25,.ptr 0 [] (0+(Int.toNat s2.2.2)*3+1))]) [z17] 1 (.cons dd (.cons hg71 .nil)) ?_;let q2:Root:=(rC66 z6);let z18:=(0,some q2);refine ys (.store 1 (.t 25) (.t 23)) none (fG (bN ltn) (List.set_set ..) (c:=hZ) (xs:=z7) (e:=66) (r:=0) (π:=[]) (o:=0+(Int.toNat s2.2.2)*3+1) (i:=(Int.toNat s2.2.2)) (off:=1) (vs:=[bb (decide ((Int.tmod (w64 (s2.2.1+(1:Int))) (3:Int))=(0:Int)))]) (y:=z4) (H':=[z18,z17]) xC kr kr kr kr ltn ltn dd kr kr ?_);refine yt (sp 38 [z10,z14,z15]) [z18] 1 (sy [0,1,5] [0] (sp 38 [z10,z13,z15]) [z18] 1 (Aw.sreg [0,1,5] [0] ?_));obtain⟨hg70,hh⟩:=aG hh;refine yjc 7 [(3:Int)≠0,(0:Int)<=s2.2.2/\s2.2.2<((List.length s2.1:Nat):Int)] (sp 38 [z10,z13,z15,(28,.sref 0 [] 0 (List.length s2.1) 3),(29,ii s2.2.2),(30,ii (w64 ((w64 (s2.2.1+(1:Int)))+(1:Int)))),(31,ii (Int.tmod (w64 ((w64 (s2.2.1+(1:Int)))+(1:Int))) (3:Int))),(32,bb (decide ((Int.tmod (w64 ((w64 (s2.2.1+(1:Int)))+(1:Int))) (3:Int))=(0:Int)))),(33,.ptr 0 [] (0+(Int.toNat s2.2.2)*3)),(34,.ptr 0 [] (0+(Int.toNat s2.2.2)*3+2))]) [z18] 1 (.cons dd (.cons hg70 .nil)) ?_;let q3:Root:=(rC66 z3);refine ys (.store 1 (.t 34) (.t 32)) none (fG (bN ltn) (List.set_set ..) (c:=hZ) (xs:=z6) (e:=66) (r:=0) (π:=[]) (o:=0+(Int.toNat s2.2.2)*3+2) (i:=(Int.toNat s2.2.2)) (off:=2) (vs:=[bb (decide ((Int.tmod (w64 ((w64 (s2.2.1+(1:Int)))+(1:Int))) (3:Int))=(0:Int)))]) (y:=z1) (H':=[(0,some q3),z18]) xC kr kr kr kr ltn ltn dd kr kr ?_);exact yt (sp 38 [z10,z13,z15]) [(0,some q3)] 1 (Aw.xreg [0,1,5] [0] (λ_ _ _ hq=>aLg (dA hq)) (yt (sp 38 [z10,z12,z15]) [(0,some q3)] 1 (Aw.oreg (ye (sp 38 [z10,z12,(5,ii (w64 (s2.2.2+(1:Int)))),(10,ii s2.2.2),(11,ii (w64 (s2.2.2+(1:Int))))]) [(0,some q3)] 1 (hN2 (z3,w64 ((w64 ((w64 (s2.2.1+(1:Int)))+(1:Int)))+(1:Int)),w64 (s2.2.2+(1:Int))) _ _ _ (cQ hh) (el [some 0] (kP kr (rs (.sref 0 [] 0 (List.length s2.1) 3) (ri (ri uN)))) (hn jU bH)))))))
theorem aCg:LW 64 ⟨157,[.tmp 4],.seq (.reg false (rg 64 0)) (.seq (.seq (.reg false (rg 64 1)) (.block 0 (.loop (.seq (.seq (.reg false (rg 64 2)) (.cond (.t 9) .skip (.exit 0))) (.seq (.block 1 (.seq (.reg false (rg 64 3)) (.seq (.reg false (rg 64 4)) (.seq (.reg false (rg 64 5)) (.seq (.reg false (rg 64 6)) (.seq (.reg false (rg 64 7)) (.seq (.reg false (rg 64 8)) (.seq (.reg false (rg 64 9)) (.seq (.reg false (rg 64 10)) (.seq (.reg false (rg 64 11)) (.seq (.reg false (rg 64 12)) (.seq (.reg false (rg 64 13)) (.seq (.reg false (rg 64 14)) (.seq (.reg false (rg 64 15)) (.seq (.reg false (rg 64 16)) (.seq (.reg false (rg 64 17)) (.seq (.reg false (rg 64 18)) (.seq (.reg false (rg 64 19)) (.seq (.reg false (rg 64 20)) (.seq (.reg false (rg 64 21)) (.seq (.reg false (rg 64 22)) (.seq (.reg false (rg 64 23)) (.seq (.reg false (rg 64 24)) (.seq (.reg false (rg 64 25)) (.seq (.reg false (rg 64 26)) (.seq (.reg false (rg 64 27)) (.seq (.reg false (rg 64 28)) (.seq (.reg false (rg 64 29)) (.seq (.reg false (rg 64 30)) (.seq (.reg false (rg 64 31)) (.reg false (rg 64 32)))))))))))))))))))))))))))))))) (.reg false (rg 64 33))))))) (.seq (.reg false (rg 64 35)) .ret))⟩:=kr
noncomputable def mV  (s1:Int×(List DGuest)):Option ((List DGuest)×Int):=some (s1.2,s1.1)
noncomputable def gJ  (s2:(List DGuest)×Int×Int):Option (LO ((List DGuest)×Int×Int) (JO (Int×(List DGuest)) ((List DGuest)×Int))):=
 cond (decide (s2.2.2<((List.length s2.1:Nat):Int)))
  (grd ((0:Int)<=s2.2.2/\s2.2.2<((List.length s2.1:Nat):Int)) (grd ((0:Int)<=s2.2.2/\s2.2.2<((List.length s2.1:Nat):Int)) (Option.bind (fI ((List.getD s2.1 (Int.toNat s2.2.2) default).C).Regs (w64 (s2.2.1+(1:Int)))) λv3=>
   grd (List.length v3.1=(List.length ((List.getD s2.1 (Int.toNat s2.2.2) default).C).Regs)) (grd ((0:Int)<=s2.2.2/\s2.2.2<((List.length s2.1:Nat):Int)) (grd ((0:Int)<=s2.2.2/\s2.2.2<((List.length s2.1:Nat):Int)) (grd ((0:Int)<=s2.2.2/\s2.2.2<((List.length s2.1:Nat):Int)) (grd ((0:Int)<=s2.2.2/\s2.2.2<((List.length s2.1:Nat):Int)) (grd ((0:Int)<=s2.2.2/\s2.2.2<((List.length s2.1:Nat):Int)) (grd ((0:Int)<=s2.2.2/\s2.2.2<((List.length s2.1:Nat):Int)) (grd ((0:Int)<=s2.2.2/\s2.2.2<((List.length s2.1:Nat):Int)) (grd ((0:Int)<=s2.2.2/\s2.2.2<((List.length s2.1:Nat):Int)) (grd ((0:Int)<=s2.2.2/\s2.2.2<((List.length s2.1:Nat):Int)) (grd ((0:Int)<=s2.2.2/\s2.2.2<((List.length s2.1:Nat):Int)) (grd ((0:Int)<=s2.2.2/\s2.2.2<((List.length s2.1:Nat):Int)) (grd ((0:Int)<=s2.2.2/\s2.2.2<((List.length s2.1:Nat):Int)) (grd ((0:Int)<=s2.2.2/\s2.2.2<((List.length s2.1:Nat):Int)) (Option.bind (kH (List.getD s2.1 (Int.toNat s2.2.2) default).Pages (w64 ((w64 ((w64 ((w64 ((w64 ((w64 ((w64 ((w64 ((w64 ((w64 ((w64 ((w64 (v3.2+(1:Int)))+(1:Int)))+(1:Int)))+(1:Int)))+(1:Int)))+(1:Int)))+(1:Int)))+(1:Int)))+(1:Int)))+(1:Int)))+(1:Int)))+(1:Int)))) λv4=>
    grd (List.length v4.1=(List.length (List.getD s2.1 (Int.toNat s2.2.2) default).Pages)) (grd ((0:Int)<=s2.2.2/\s2.2.2<((List.length s2.1:Nat):Int)) (Option.bind (fI (List.getD s2.1 (Int.toNat s2.2.2) default).In v4.2) λv5=>
     grd (List.length v5.1=(List.length (List.getD s2.1 (Int.toNat s2.2.2) default).In)) (grd ((0:Int)<=s2.2.2/\s2.2.2<((List.length s2.1:Nat):Int)) (Option.bind (fI (List.getD s2.1 (Int.toNat s2.2.2) default).Out v5.2) λv6=>
      grd (List.length v6.1=(List.length (List.getD s2.1 (Int.toNat s2.2.2) default).Out)) (some (.next ((List.set s2.1 (Int.toNat s2.2.2) (DGuest.mk (decide ((Int.tmod s2.2.1 (3:Int))=(0:Int))) (DCore.mk v3.1 v3.2 (w64 (v3.2+(1:Int))) (w64 ((w64 (v3.2+(1:Int)))+(1:Int))) (w64 ((w64 ((w64 (v3.2+(1:Int)))+(1:Int)))+(1:Int))) (decide ((Int.tmod (w64 ((w64 ((w64 ((w64 (v3.2+(1:Int)))+(1:Int)))+(1:Int)))+(1:Int))) (3:Int))=(0:Int))) (w64 ((w64 ((w64 ((w64 ((w64 (v3.2+(1:Int)))+(1:Int)))+(1:Int)))+(1:Int)))+(1:Int))) (w64 ((w64 ((w64 ((w64 ((w64 ((w64 (v3.2+(1:Int)))+(1:Int)))+(1:Int)))+(1:Int)))+(1:Int)))+(1:Int))) (w64 ((w64 ((w64 ((w64 ((w64 ((w64 ((w64 (v3.2+(1:Int)))+(1:Int)))+(1:Int)))+(1:Int)))+(1:Int)))+(1:Int)))+(1:Int))) (decide ((Int.tmod (w64 ((w64 ((w64 ((w64 ((w64 ((w64 ((w64 ((w64 (v3.2+(1:Int)))+(1:Int)))+(1:Int)))+(1:Int)))+(1:Int)))+(1:Int)))+(1:Int)))+(1:Int))) (3:Int))=(0:Int))) (decide ((Int.tmod (w64 ((w64 ((w64 ((w64 ((w64 ((w64 ((w64 ((w64 ((w64 (v3.2+(1:Int)))+(1:Int)))+(1:Int)))+(1:Int)))+(1:Int)))+(1:Int)))+(1:Int)))+(1:Int)))+(1:Int))) (3:Int))=(0:Int))) (decide ((Int.tmod (w64 ((w64 ((w64 ((w64 ((w64 ((w64 ((w64 ((w64 ((w64 ((w64 (v3.2+(1:Int)))+(1:Int)))+(1:Int)))+(1:Int)))+(1:Int)))+(1:Int)))+(1:Int)))+(1:Int)))+(1:Int)))+(1:Int))) (3:Int))=(0:Int))) (decide ((Int.tmod (w64 ((w64 ((w64 ((w64 ((w64 ((w64 ((w64 ((w64 ((w64 ((w64 ((w64 (v3.2+(1:Int)))+(1:Int)))+(1:Int)))+(1:Int)))+(1:Int)))+(1:Int)))+(1:Int)))+(1:Int)))+(1:Int)))+(1:Int)))+(1:Int))) (3:Int))=(0:Int)))) v4.1 v5.1 v6.1)),v6.2,w64 (s2.2.2+(1:Int))))))))))))))))))))))))))
  (some (.ret (.go (s2.2.1,s2.1))))
noncomputable def jD (x_a:List DGuest)(x_k:Int):Option ((List DGuest)×Int):=
 Option.bind (Option.bind (iter gJ (x_a,x_k,(0:Int))) LO.val) λj1=>
  JO.run j1 mV
theorem aDc{x_a:List DGuest}{x_k:Int}{R_:(List DGuest)×Int}(hh:jD x_a x_k=some R_):Inl Try.prog 64 [.sref 0 [] 0 (List.length x_a) 17,.int .i64 x_k] [(0,some (rO64 x_a))] 1 (.int .i64 R_.2) [(0,some (rO64 R_.1))] 1:=by let z49:EV:=(0,.sref 0 [] 0 (List.length x_a) 17);let z50:EH:=(0,some (rO64 x_a));unfold jD at hh;refine Inl.start aCg [0,1] [0] (E:=sp 157 [z49,(1,ii x_k)]) (H1:=[z50]) kr kr (sy [0,1] [0] (sp 157 [z49,(1,ii x_k)]) [z50] 1 ?_);obtain⟨j1,hh,hk1⟩:=bind_some hh;refine Aw.join (S:=Int×(List DGuest)) (λs1=>sp 157 [(1,ii s1.1)]) (λs1=>[(0,some (rO64 s1.2))]) 1 (λs1=>mV s1=some R_) ?_ ?_;{intro s1 hh;unfold mV at hh;refine sy [4] [0] (sp 157 [(4,ii s1.1)]) [(0,some (rO64 s1.2))] 1 (Aw.ret ?_);rw[cQ hh];exact pH (r':=ii s1.1) kr (el [some 0] (kT eR) (hn bZ bH))};intro Q1 hN1 hR1 hE1;refine sy [0,1,5] [0] (sp 157 [z49,(1,ii x_k),(5,ii 0)]) [z50] 1 (Aw.block ?_);obtain⟨o2,hi2,hk2⟩:=bind_some hh;refine Aw.iter (λ(s2:(List DGuest)×Int×Int)=>sp 157 [(0,.sref 0 [] 0 (List.length s2.1) 17),(1,ii s2.2.1),(5,ii s2.2.2)]) (λ(s2:(List DGuest)×Int×Int)=>[(0,some (rO64 s2.1))]) 1 hi2 (el [some 0] (kP kr (rs (.sref 0 [] 0 (List.length x_a) 17) (ri (ri uN)))) (hn bZ bH)) ?_;intro s2 u2 Q2 hh hN2 hX2 hR2;let z51:EV:=(0,.sref 0 [] 0 (List.length s2.1) 17);let z52:EH:=(0,some (rO64 s2.1));let z53:=(1,ii (w64 (s2.2.1+(1:Int))));let z54:=(5,ii s2.2.2);let z55:=(9,bb (decide (s2.2.2<((List.length s2.1:Nat):Int))));let z1:=List.getD s2.1 (Int.toNat s2.2.2) default;let z3:=DGuest.mk (decide ((Int.tmod s2.2.1 (3:Int))=(0:Int))) z1.C z1.Pages z1.In z1.Out;let z20:=List.set s2.1 (Int.toNat s2.2.2) z3;unfold gJ at hh;refine Aw.seq (sy [0,1,5,9] [0] (sp 157 [z51,(1,ii s2.2.1),z54,z55]) [z52] 1 ?_);rcases aFi hh with⟨hb,hh⟩|⟨hb,hh⟩;{refine cF hb (Aw.exit (aJj (hX2 _ _ _ _ _ (cQ hh) ?_)));intro hout;rw[hout]at hk2;refine aKn ?_;obtain rfl:=cQ hk2;exact hN1 (s2.2.1,s2.1) _ _ _ hk1 (el [some 0] (kP kr (ri uN)) (hn bZ bH))};refine cT hb (Aw.xskip (λ_ _ _ hq=>dA hq) (Aw.seq (Aw.block (Aw.sreg [0,1,5] [0] ?_))));obtain⟨hg504,hh⟩:=aG hh;refine yjc 7 [(3:Int)≠0,(0:Int)<=s2.2.2/\s2.2.2<((List.length s2.1:Nat):Int)] (sp 157 [z51,(1,ii s2.2.1),z54,z55,(12,.sref 0 [] 0 (List.length s2.1) 17),(13,ii s2.2.2),(14,ii s2.2.1),(15,ii (Int.tmod s2.2.1 (3:Int))),(16,bb (decide ((Int.tmod s2.2.1 (3:Int))=(0:Int)))),(17,.ptr 0 [] (0+(Int.toNat s2.2.2)*17)),(18,.ptr 0 [] (0+(Int.toNat s2.2.2)*17+0))]) [z52] 1 (.cons dd (.cons hg504 .nil)) ?_;let q1:Root:=(rO64 z20);let z56:=(0,some q1);refine ys (.store 1 (.t 18) (.t 16)) none (xD (c:=bB) (xs:=s2.1) (e:=64) (r:=0) (π:=[]) (o:=0+(Int.toNat s2.2.2)*17+0) (i:=(Int.toNat s2.2.2)) (off:=0) (vs:=[bb (decide ((Int.tmod s2.2.1 (3:Int))=(0:Int)))]) (y:=z3) (H':=[z56,z52]) aE kr kr kr kr ltn ltn dd kr kr ?_);refine yt (sp 157 [z51,(1,ii s2.2.1),z54]) [z56] 1 (sy [0,1,5] [0] (sp 157 [z51,z53,z54]) [z56] 1 (Aw.sreg [0,1,5] [0] ?_));obtain⟨hg503,hh⟩:=aG hh;refine yjc 5 [(0:Int)<=s2.2.2/\s2.2.2<((List.length s2.1:Nat):Int)] (sp 157 [z51,z53,z54,(21,.sref 0 [] 0 (List.length s2.1) 17),(22,ii s2.2.2),(23,.ptr 0 [] (0+(Int.toNat s2.2.2)*17)),(24,.ptr 0 [] (0+(Int.toNat s2.2.2)*17+1)),(25,.ptr 0 [] (0+(Int.toNat s2.2.2)*17+1+0))]) [z56] 1 (.cons hg503 .nil) (ys (.load false 1 (.t 25)) (some 26) (aBv (bN ltn) (c:=bB) (xs:=z20) (e:=64) (r:=0) (π:=[]) (o:=0+(Int.toNat s2.2.2)*17+1+0) (i:=(Int.toNat s2.2.2)) (off:=1) (v:= .sref 0 [0+(Int.toNat s2.2.2)*17+1+0+0] 0 (List.length (z1.C).Regs) 1) aE kr kr ltn ltn dd kr ?_));refine yu 1 [(26,.sref 0 [0+(Int.toNat s2.2.2)*17+1+0+0] 0 (List.length (z1.C).Regs) 1),(27,ii (w64 (s2.2.1+(1:Int))))] [z56] 1 ?_;obtain⟨v3,hv3,hh⟩:=bind_some hh;let z57:=(1,ii (w64 ((w64 ((w64 ((w64 ((w64 ((w64 ((w64 ((w64 ((w64 ((w64 ((w64 ((w64 (v3.2+(1:Int)))+(1:Int)))+(1:Int)))+(1:Int)))+(1:Int)))+(1:Int)))+(1:Int)))+(1:Int)))+(1:Int)))+(1:Int)))+(1:Int)))+(1:Int))));let z58:=(1,ii (w64 ((w64 ((w64 ((w64 ((w64 ((w64 ((w64 ((w64 ((w64 ((w64 ((w64 (v3.2+(1:Int)))+(1:Int)))+(1:Int)))+(1:Int)))+(1:Int)))+(1:Int)))+(1:Int)))+(1:Int)))+(1:Int)))+(1:Int)))+(1:Int))));let z59:=(1,ii (w64 ((w64 ((w64 ((w64 ((w64 ((w64 ((w64 ((w64 ((w64 ((w64 (v3.2+(1:Int)))+(1:Int)))+(1:Int)))+(1:Int)))+(1:Int)))+(1:Int)))+(1:Int)))+(1:Int)))+(1:Int)))+(1:Int))));let z60:=(1,ii (w64 ((w64 ((w64 ((w64 ((w64 ((w64 ((w64 ((w64 ((w64 (v3.2+(1:Int)))+(1:Int)))+(1:Int)))+(1:Int)))+(1:Int)))+(1:Int)))+(1:Int)))+(1:Int)))+(1:Int))));let z61:=(1,ii (w64 ((w64 ((w64 ((w64 ((w64 ((w64 ((w64 ((w64 (v3.2+(1:Int)))+(1:Int)))+(1:Int)))+(1:Int)))+(1:Int)))+(1:Int)))+(1:Int)))+(1:Int))));let z62:=(1,ii (w64 ((w64 ((w64 ((w64 ((w64 ((w64 ((w64 (v3.2+(1:Int)))+(1:Int)))+(1:Int)))+(1:Int)))+(1:Int)))+(1:Int)))+(1:Int))));let z63:=(1,ii (w64 ((w64 ((w64 ((w64 ((w64 ((w64 (v3.2+(1:Int)))+(1:Int)))+(1:Int)))+(1:Int)))+(1:Int)))+(1:Int))));let z64:=(1,ii (w64 ((w64 ((w64 ((w64 ((w64 (v3.2+(1:Int)))+(1:Int)))+(1:Int)))+(1:Int)))+(1:Int))));let z65:=(1,ii (w64 ((w64 ((w64 ((w64 (v3.2+(1:Int)))+(1:Int)))+(1:Int)))+(1:Int))));let z66:=(1,ii (w64 ((w64 ((w64 (v3.2+(1:Int)))+(1:Int)))+(1:Int))));let z67:=(1,ii (w64 ((w64 (v3.2+(1:Int)))+(1:Int))));let z68:=(1,ii (w64 (v3.2+(1:Int))));let z4:=DCore.mk v3.1 (z1.C).Pc (z1.C).Root (z1.C).Vector (z1.C).Saved (z1.C).SavedUser (z1.C).Cause (z1.C).Bad (z1.C).Timer (z1.C).Waits (z1.C).User (z1.C).On (z1.C).Stopped;let z21:=DGuest.mk (decide ((Int.tmod s2.2.1 (3:Int))=(0:Int))) z4 z1.Pages z1.In z1.Out;let z37:=List.set s2.1 (Int.toNat s2.2.2) z21;let z5:=DCore.mk v3.1 v3.2 (z1.C).Root (z1.C).Vector (z1.C).Saved (z1.C).SavedUser (z1.C).Cause (z1.C).Bad (z1.C).Timer (z1.C).Waits (z1.C).User (z1.C).On (z1.C).Stopped;let z22:=DGuest.mk (decide ((Int.tmod s2.2.1 (3:Int))=(0:Int))) z5 z1.Pages z1.In z1.Out;let z38:=List.set s2.1 (Int.toNat s2.2.2) z22;let z6:=DCore.mk v3.1 v3.2 (w64 (v3.2+(1:Int))) (z1.C).Vector (z1.C).Saved (z1.C).SavedUser (z1.C).Cause (z1.C).Bad (z1.C).Timer (z1.C).Waits (z1.C).User (z1.C).On (z1.C).Stopped;let z23:=DGuest.mk (decide ((Int.tmod s2.2.1 (3:Int))=(0:Int))) z6 z1.Pages z1.In z1.Out;let z39:=List.set s2.1 (Int.toNat s2.2.2) z23;let z7:=DCore.mk v3.1 v3.2 (w64 (v3.2+(1:Int))) (w64 ((w64 (v3.2+(1:Int)))+(1:Int))) (z1.C).Saved (z1.C).SavedUser (z1.C).Cause (z1.C).Bad (z1.C).Timer (z1.C).Waits (z1.C).User (z1.C).On (z1.C).Stopped;let z24:=DGuest.mk (decide ((Int.tmod s2.2.1 (3:Int))=(0:Int))) z7 z1.Pages z1.In z1.Out;let z40:=List.set s2.1 (Int.toNat s2.2.2) z24;let z8:=DCore.mk v3.1 v3.2 (w64 (v3.2+(1:Int))) (w64 ((w64 (v3.2+(1:Int)))+(1:Int))) (w64 ((w64 ((w64 (v3.2+(1:Int)))+(1:Int)))+(1:Int))) (z1.C).SavedUser (z1.C).Cause (z1.C).Bad (z1.C).Timer (z1.C).Waits (z1.C).User (z1.C).On (z1.C).Stopped;let z25:=DGuest.mk (decide ((Int.tmod s2.2.1 (3:Int))=(0:Int))) z8 z1.Pages z1.In z1.Out;let z41:=List.set s2.1 (Int.toNat s2.2.2) z25;let z9:=DCore.mk v3.1 v3.2 (w64 (v3.2+(1:Int))) (w64 ((w64 (v3.2+(1:Int)))+(1:Int))) (w64 ((w64 ((w64 (v3.2+(1:Int)))+(1:Int)))+(1:Int))) (decide ((Int.tmod (w64 ((w64 ((w64 ((w64 (v3.2+(1:Int)))+(1:Int)))+(1:Int)))+(1:Int))) (3:Int))=(0:Int))) (z1.C).Cause (z1.C).Bad (z1.C).Timer (z1.C).Waits (z1.C).User (z1.C).On (z1.C).Stopped;let z26:=DGuest.mk (decide ((Int.tmod s2.2.1 (3:Int))=(0:Int))) z9 z1.Pages z1.In z1.Out;let z42:=List.set s2.1 (Int.toNat s2.2.2) z26;let z10:=DCore.mk v3.1 v3.2 (w64 (v3.2+(1:Int))) (w64 ((w64 (v3.2+(1:Int)))+(1:Int))) (w64 ((w64 ((w64 (v3.2+(1:Int)))+(1:Int)))+(1:Int))) (decide ((Int.tmod (w64 ((w64 ((w64 ((w64 (v3.2+(1:Int)))+(1:Int)))+(1:Int)))+(1:Int))) (3:Int))=(0:Int))) (w64 ((w64 ((w64 ((w64 ((w64 (v3.2+(1:Int)))+(1:Int)))+(1:Int)))+(1:Int)))+(1:Int))) (z1.C).Bad (z1.C).Timer (z1.C).Waits (z1.C).User (z1.C).On (z1.C).Stopped;let z27:=DGuest.mk (decide ((Int.tmod s2.2.1 (3:Int))=(0:Int))) z10 z1.Pages z1.In z1.Out;let z43:=List.set s2.1 (Int.toNat s2.2.2) z27;let z11:=DCore.mk v3.1 v3.2 (w64 (v3.2+(1:Int))) (w64 ((w64 (v3.2+(1:Int)))+(1:Int))) (w64 ((w64 ((w64 (v3.2+(1:Int)))+(1:Int)))+(1:Int))) (decide ((Int.tmod (w64 ((w64 ((w64 ((w64 (v3.2+(1:Int)))+(1:Int)))+(1:Int)))+(1:Int))) (3:Int))=(0:Int))) (w64 ((w64 ((w64 ((w64 ((w64 (v3.2+(1:Int)))+(1:Int)))+(1:Int)))+(1:Int)))+(1:Int))) (w64 ((w64 ((w64 ((w64 ((w64 ((w64 (v3.2+(1:Int)))+(1:Int)))+(1:Int)))+(1:Int)))+(1:Int)))+(1:Int))) (z1.C).Timer (z1.C).Waits (z1.C).User (z1.C).On (z1.C).Stopped;let z28:=DGuest.mk (decide ((Int.tmod s2.2.1 (3:Int))=(0:Int))) z11 z1.Pages z1.In z1.Out;let z44:=List.set s2.1 (Int.toNat s2.2.2) z28;let z12:=DCore.mk v3.1 v3.2 (w64 (v3.2+(1:Int))) (w64 ((w64 (v3.2+(1:Int)))+(1:Int))) (w64 ((w64 ((w64 (v3.2+(1:Int)))+(1:Int)))+(1:Int))) (decide ((Int.tmod (w64 ((w64 ((w64 ((w64 (v3.2+(1:Int)))+(1:Int)))+(1:Int)))+(1:Int))) (3:Int))=(0:Int))) (w64 ((w64 ((w64 ((w64 ((w64 (v3.2+(1:Int)))+(1:Int)))+(1:Int)))+(1:Int)))+(1:Int))) (w64 ((w64 ((w64 ((w64 ((w64 ((w64 (v3.2+(1:Int)))+(1:Int)))+(1:Int)))+(1:Int)))+(1:Int)))+(1:Int))) (w64 ((w64 ((w64 ((w64 ((w64 ((w64 ((w64 (v3.2+(1:Int)))+(1:Int)))+(1:Int)))+(1:Int)))+(1:Int)))+(1:Int)))+(1:Int))) (z1.C).Waits (z1.C).User (z1.C).On (z1.C).Stopped;let z29:=DGuest.mk (decide ((Int.tmod s2.2.1 (3:Int))=(0:Int))) z12 z1.Pages z1.In z1.Out;let z45:=List.set s2.1 (Int.toNat s2.2.2) z29;let z13:=DCore.mk v3.1 v3.2 (w64 (v3.2+(1:Int))) (w64 ((w64 (v3.2+(1:Int)))+(1:Int))) (w64 ((w64 ((w64 (v3.2+(1:Int)))+(1:Int)))+(1:Int))) (decide ((Int.tmod (w64 ((w64 ((w64 ((w64 (v3.2+(1:Int)))+(1:Int)))+(1:Int)))+(1:Int))) (3:Int))=(0:Int))) (w64 ((w64 ((w64 ((w64 ((w64 (v3.2+(1:Int)))+(1:Int)))+(1:Int)))+(1:Int)))+(1:Int))) (w64 ((w64 ((w64 ((w64 ((w64 ((w64 (v3.2+(1:Int)))+(1:Int)))+(1:Int)))+(1:Int)))+(1:Int)))+(1:Int))) (w64 ((w64 ((w64 ((w64 ((w64 ((w64 ((w64 (v3.2+(1:Int)))+(1:Int)))+(1:Int)))+(1:Int)))+(1:Int)))+(1:Int)))+(1:Int))) (decide ((Int.tmod (w64 ((w64 ((w64 ((w64 ((w64 ((w64 ((w64 ((w64 (v3.2+(1:Int)))+(1:Int)))+(1:Int)))+(1:Int)))+(1:Int)))+(1:Int)))+(1:Int)))+(1:Int))) (3:Int))=(0:Int))) (z1.C).User (z1.C).On (z1.C).Stopped;let z30:=DGuest.mk (decide ((Int.tmod s2.2.1 (3:Int))=(0:Int))) z13 z1.Pages z1.In z1.Out;let z46:=List.set s2.1 (Int.toNat s2.2.2) z30;let z14:=DCore.mk v3.1 v3.2 (w64 (v3.2+(1:Int))) (w64 ((w64 (v3.2+(1:Int)))+(1:Int))) (w64 ((w64 ((w64 (v3.2+(1:Int)))+(1:Int)))+(1:Int))) (decide ((Int.tmod (w64 ((w64 ((w64 ((w64 (v3.2+(1:Int)))+(1:Int)))+(1:Int)))+(1:Int))) (3:Int))=(0:Int))) (w64 ((w64 ((w64 ((w64 ((w64 (v3.2+(1:Int)))+(1:Int)))+(1:Int)))+(1:Int)))+(1:Int))) (w64 ((w64 ((w64 ((w64 ((w64 ((w64 (v3.2+(1:Int)))+(1:Int)))+(1:Int)))+(1:Int)))+(1:Int)))+(1:Int))) (w64 ((w64 ((w64 ((w64 ((w64 ((w64 ((w64 (v3.2+(1:Int)))+(1:Int)))+(1:Int)))+(1:Int)))+(1:Int)))+(1:Int)))+(1:Int))) (decide ((Int.tmod (w64 ((w64 ((w64 ((w64 ((w64 ((w64 ((w64 ((w64 (v3.2+(1:Int)))+(1:Int)))+(1:Int)))+(1:Int)))+(1:Int)))+(1:Int)))+(1:Int)))+(1:Int))) (3:Int))=(0:Int))) (decide ((Int.tmod (w64 ((w64 ((w64 ((w64 ((w64 ((w64 ((w64 ((w64 ((w64 (v3.2+(1:Int)))+(1:Int)))+(1:Int)))+(1:Int)))+(1:Int)))+(1:Int)))+(1:Int)))+(1:Int)))+(1:Int))) (3:Int))=(0:Int))) (z1.C).On (z1.C).Stopped;let z31:=DGuest.mk (decide ((Int.tmod s2.2.1 (3:Int))=(0:Int))) z14 z1.Pages z1.In z1.Out;let z47:=List.set s2.1 (Int.toNat s2.2.2) z31;let z15:=DCore.mk v3.1 v3.2 (w64 (v3.2+(1:Int))) (w64 ((w64 (v3.2+(1:Int)))+(1:Int))) (w64 ((w64 ((w64 (v3.2+(1:Int)))+(1:Int)))+(1:Int))) (decide ((Int.tmod (w64 ((w64 ((w64 ((w64 (v3.2+(1:Int)))+(1:Int)))+(1:Int)))+(1:Int))) (3:Int))=(0:Int))) (w64 ((w64 ((w64 ((w64 ((w64 (v3.2+(1:Int)))+(1:Int)))+(1:Int)))+(1:Int)))+(1:Int))) (w64 ((w64 ((w64 ((w64 ((w64 ((w64 (v3.2+(1:Int)))+(1:Int)))+(1:Int)))+(1:Int)))+(1:Int)))+(1:Int))) (w64 ((w64 ((w64 ((w64 ((w64 ((w64 ((w64 (v3.2+(1:Int)))+(1:Int)))+(1:Int)))+(1:Int)))+(1:Int)))+(1:Int)))+(1:Int))) (decide ((Int.tmod (w64 ((w64 ((w64 ((w64 ((w64 ((w64 ((w64 ((w64 (v3.2+(1:Int)))+(1:Int)))+(1:Int)))+(1:Int)))+(1:Int)))+(1:Int)))+(1:Int)))+(1:Int))) (3:Int))=(0:Int))) (decide ((Int.tmod (w64 ((w64 ((w64 ((w64 ((w64 ((w64 ((w64 ((w64 ((w64 (v3.2+(1:Int)))+(1:Int)))+(1:Int)))+(1:Int)))+(1:Int)))+(1:Int)))+(1:Int)))+(1:Int)))+(1:Int))) (3:Int))=(0:Int))) (decide ((Int.tmod (w64 ((w64 ((w64 ((w64 ((w64 ((w64 ((w64 ((w64 ((w64 ((w64 (v3.2+(1:Int)))+(1:Int)))+(1:Int)))+(1:Int)))+(1:Int)))+(1:Int)))+(1:Int)))+(1:Int)))+(1:Int)))+(1:Int))) (3:Int))=(0:Int))) (z1.C).Stopped;let z32:=DGuest.mk (decide ((Int.tmod s2.2.1 (3:Int))=(0:Int))) z15 z1.Pages z1.In z1.Out;let z48:=List.set s2.1 (Int.toNat s2.2.2) z32;let z2:=DCore.mk v3.1 v3.2 (w64 (v3.2+(1:Int))) (w64 ((w64 (v3.2+(1:Int)))+(1:Int))) (w64 ((w64 ((w64 (v3.2+(1:Int)))+(1:Int)))+(1:Int))) (decide ((Int.tmod (w64 ((w64 ((w64 ((w64 (v3.2+(1:Int)))+(1:Int)))+(1:Int)))+(1:Int))) (3:Int))=(0:Int))) (w64 ((w64 ((w64 ((w64 ((w64 (v3.2+(1:Int)))+(1:Int)))+(1:Int)))+(1:Int)))+(1:Int))) (w64 ((w64 ((w64 ((w64 ((w64 ((w64 (v3.2+(1:Int)))+(1:Int)))+(1:Int)))+(1:Int)))+(1:Int)))+(1:Int))) (w64 ((w64 ((w64 ((w64 ((w64 ((w64 ((w64 (v3.2+(1:Int)))+(1:Int)))+(1:Int)))+(1:Int)))+(1:Int)))+(1:Int)))+(1:Int))) (decide ((Int.tmod (w64 ((w64 ((w64 ((w64 ((w64 ((w64 ((w64 ((w64 (v3.2+(1:Int)))+(1:Int)))+(1:Int)))+(1:Int)))+(1:Int)))+(1:Int)))+(1:Int)))+(1:Int))) (3:Int))=(0:Int))) (decide ((Int.tmod (w64 ((w64 ((w64 ((w64 ((w64 ((w64 ((w64 ((w64 ((w64 (v3.2+(1:Int)))+(1:Int)))+(1:Int)))+(1:Int)))+(1:Int)))+(1:Int)))+(1:Int)))+(1:Int)))+(1:Int))) (3:Int))=(0:Int))) (decide ((Int.tmod (w64 ((w64 ((w64 ((w64 ((w64 ((w64 ((w64 ((w64 ((w64 ((w64 (v3.2+(1:Int)))+(1:Int)))+(1:Int)))+(1:Int)))+(1:Int)))+(1:Int)))+(1:Int)))+(1:Int)))+(1:Int)))+(1:Int))) (3:Int))=(0:Int))) (decide ((Int.tmod (w64 ((w64 ((w64 ((w64 ((w64 ((w64 ((w64 ((w64 ((w64 ((w64 ((w64 (v3.2+(1:Int)))+(1:Int)))+(1:Int)))+(1:Int)))+(1:Int)))+(1:Int)))+(1:Int)))+(1:Int)))+(1:Int)))+(1:Int)))+(1:Int))) (3:Int))=(0:Int)));let z16:=DGuest.mk (decide ((Int.tmod s2.2.1 (3:Int))=(0:Int))) z2 z1.Pages z1.In z1.Out;let z33:=List.set s2.1 (Int.toNat s2.2.2) z16;obtain⟨hg466,hh⟩:=aG hh;have hgqv3:=Eq.symm hg466;refine ys (.call 63 [.t 26,.t 27]) (some 28) (aAj (e':=3) (sz':=1) (m':=(List.length (z1.C).Regs)) (cs':=(fl (eI .i64) (z1.C).Regs)) (ds:=(fl (eI .i64) v3.1)) (c:=bB) (xs:=z20) (R:=0) (e:=64) (o:=0+(Int.toNat s2.2.2)*17+1+0+0) (i:=(Int.toNat s2.2.2)) (off:=1) (y:=z21) (m2:=(List.length v3.1)) (args:=[.sref 0 [0+(Int.toNat s2.2.2)*17+1+0+0] 0 (List.length (z1.C).Regs) 1,ii (w64 (s2.2.1+(1:Int)))]) (args2:=[.sref 1 [] 0 (List.length (z1.C).Regs) 1,ii (w64 (s2.2.1+(1:Int)))]) kr aE kr ltn ltn dd (bN ltn) kr (xT (.sref _ _ _) (xT (.same _) aPf)) (Inl.frameB (v':=ii v3.2) (Hp':=[(1,some (rI_3 v3.1))]) (n':=2) [1] (mX hv3) rfl rfl rfl rz rfl (hn bU bH) eR rfl (hn bU bH) rfl) kr kr hgqv3 kr (List.set_set ..) ?_);let q2:Root:=(rO64 z37);refine yt (sp 157 [z51,(1,ii v3.2),z54]) [(0,some q2)] 2 (Aw.sreg [0,1,5] [0] ?_);obtain⟨hg502,hh⟩:=aG hh;refine yjc 6 [(0:Int)<=s2.2.2/\s2.2.2<((List.length s2.1:Nat):Int)] (sp 157 [z51,(1,ii v3.2),z54,(29,.sref 0 [] 0 (List.length s2.1) 17),(30,ii s2.2.2),(31,ii v3.2),(32,.ptr 0 [] (0+(Int.toNat s2.2.2)*17)),(33,.ptr 0 [] (0+(Int.toNat s2.2.2)*17+1)),(34,.ptr 0 [] (0+(Int.toNat s2.2.2)*17+1+1))]) [(0,some q2)] 2 (.cons hg502 .nil) ?_;let q3:Root:=(rO64 z38);let z69:=(0,some q3);refine ys (.store 1 (.t 34) (.t 31)) none (fG (bN ltn) (List.set_set ..) (c:=bB) (xs:=z37) (e:=64) (r:=0) (π:=[]) (o:=0+(Int.toNat s2.2.2)*17+1+1) (i:=(Int.toNat s2.2.2)) (off:=2) (vs:=[ii v3.2]) (y:=z22) (H':=[z69,(0,some q2)]) aE kr kr kr kr ltn ltn dd kr kr ?_);refine yt (sp 157 [z51,(1,ii v3.2),z54]) [z69] 2 (sy [0,1,5] [0] (sp 157 [z51,z68,z54]) [z69] 2 (Aw.sreg [0,1,5] [0] ?_));obtain⟨hg501,hh⟩:=aG hh;refine yjc 6 [(0:Int)<=s2.2.2/\s2.2.2<((List.length s2.1:Nat):Int)] (sp 157 [z51,z68,z54,(37,.sref 0 [] 0 (List.length s2.1) 17),(38,ii s2.2.2),(39,ii (w64 (v3.2+(1:Int)))),(40,.ptr 0 [] (0+(Int.toNat s2.2.2)*17)),(41,.ptr 0 [] (0+(Int.toNat s2.2.2)*17+1)),(42,.ptr 0 [] (0+(Int.toNat s2.2.2)*17+1+2))]) [z69] 2 (.cons hg501 .nil) ?_;let q4:Root:=(rO64 z39);let z70:=(0,some q4);refine ys (.store 1 (.t 42) (.t 39)) none (fG (bN ltn) (List.set_set ..) (c:=bB) (xs:=z38) (e:=64) (r:=0) (π:=[]) (o:=0+(Int.toNat s2.2.2)*17+1+2) (i:=(Int.toNat s2.2.2)) (off:=3) (vs:=[ii (w64 (v3.2+(1:Int)))]) (y:=z23) (H':=[z70,z69]) aE kr kr kr kr ltn ltn dd kr kr ?_);refine yt (sp 157 [z51,z68,z54]) [z70] 2 (sy [0,1,5] [0] (sp 157 [z51,z67,z54]) [z70] 2 (Aw.sreg [0,1,5] [0] ?_));obtain⟨hg500,hh⟩:=aG hh;refine yjc 6 [(0:Int)<=s2.2.2/\s2.2.2<((List.length s2.1:Nat):Int)] (sp 157 [z51,z67,z54,(45,.sref 0 [] 0 (List.length s2.1) 17),(46,ii s2.2.2),(47,ii (w64 ((w64 (v3.2+(1:Int)))+(1:Int)))),(48,.ptr 0 [] (0+(Int.toNat s2.2.2)*17)),(49,.ptr 0 [] (0+(Int.toNat s2.2.2)*17+1)),(50,.ptr 0 [] (0+(Int.toNat s2.2.2)*17+1+3))]) [z70] 2 (.cons hg500 .nil) ?_;let q5:Root:=(rO64 z40);let z71:=(0,some q5);refine ys (.store 1 (.t 50) (.t 47)) none (fG (bN ltn) (List.set_set ..) (c:=bB) (xs:=z39) (e:=64) (r:=0) (π:=[]) (o:=0+(Int.toNat s2.2.2)*17+1+3) (i:=(Int.toNat s2.2.2)) (off:=4) (vs:=[ii (w64 ((w64 (v3.2+(1:Int)))+(1:Int)))]) (y:=z24) (H':=[z71,z70]) aE kr kr kr kr ltn ltn dd kr kr ?_);refine yt (sp 157 [z51,z67,z54]) [z71] 2 (sy [0,1,5] [0] (sp 157 [z51,z66,z54]) [z71] 2 (Aw.sreg [0,1,5] [0] ?_));obtain⟨hg499,hh⟩:=aG hh;refine yjc 6 [(0:Int)<=s2.2.2/\s2.2.2<((List.length s2.1:Nat):Int)] (sp 157 [z51,z66,z54,(53,.sref 0 [] 0 (List.length s2.1) 17),(54,ii s2.2.2),(55,ii (w64 ((w64 ((w64 (v3.2+(1:Int)))+(1:Int)))+(1:Int)))),(56,.ptr 0 [] (0+(Int.toNat s2.2.2)*17)),(57,.ptr 0 [] (0+(Int.toNat s2.2.2)*17+1)),(58,.ptr 0 [] (0+(Int.toNat s2.2.2)*17+1+4))]) [z71] 2 (.cons hg499 .nil) ?_;let q6:Root:=(rO64 z41);let z72:=(0,some q6);refine ys (.store 1 (.t 58) (.t 55)) none (fG (bN ltn) (List.set_set ..) (c:=bB) (xs:=z40) (e:=64) (r:=0) (π:=[]) (o:=0+(Int.toNat s2.2.2)*17+1+4) (i:=(Int.toNat s2.2.2)) (off:=5) (vs:=[ii (w64 ((w64 ((w64 (v3.2+(1:Int)))+(1:Int)))+(1:Int)))]) (y:=z25) (H':=[z72,z71]) aE kr kr kr kr ltn ltn dd kr kr ?_);refine yt (sp 157 [z51,z66,z54]) [z72] 2 (sy [0,1,5] [0] (sp 157 [z51,z65,z54]) [z72] 2 (Aw.sreg [0,1,5] [0] ?_));obtain⟨hg498,hh⟩:=aG hh;refine yjc 8 [(3:Int)≠0,(0:Int)<=s2.2.2/\s2.2.2<((List.length s2.1:Nat):Int)] (sp 157 [z51,z65,z54,(61,.sref 0 [] 0 (List.length s2.1) 17),(62,ii s2.2.2),(63,ii (w64 ((w64 ((w64 ((w64 (v3.2+(1:Int)))+(1:Int)))+(1:Int)))+(1:Int)))),(64,ii (Int.tmod (w64 ((w64 ((w64 ((w64 (v3.2+(1:Int)))+(1:Int)))+(1:Int)))+(1:Int))) (3:Int))),(65,bb (decide ((Int.tmod (w64 ((w64 ((w64 ((w64 (v3.2+(1:Int)))+(1:Int)))+(1:Int)))+(1:Int))) (3:Int))=(0:Int)))),(66,.ptr 0 [] (0+(Int.toNat s2.2.2)*17)),(67,.ptr 0 [] (0+(Int.toNat s2.2.2)*17+1)),(68,.ptr 0 [] (0+(Int.toNat s2.2.2)*17+1+5))]) [z72] 2 (.cons dd (.cons hg498 .nil)) ?_;let q7:Root:=(rO64 z42);let z73:=(0,some q7);refine ys (.store 1 (.t 68) (.t 65)) none (fG (bN ltn) (List.set_set ..) (c:=bB) (xs:=z41) (e:=64) (r:=0) (π:=[]) (o:=0+(Int.toNat s2.2.2)*17+1+5) (i:=(Int.toNat s2.2.2)) (off:=6) (vs:=[bb (decide ((Int.tmod (w64 ((w64 ((w64 ((w64 (v3.2+(1:Int)))+(1:Int)))+(1:Int)))+(1:Int))) (3:Int))=(0:Int)))]) (y:=z26) (H':=[z73,z72]) aE kr kr kr kr ltn ltn dd kr kr ?_);refine yt (sp 157 [z51,z65,z54]) [z73] 2 (sy [0,1,5] [0] (sp 157 [z51,z64,z54]) [z73] 2 (Aw.sreg [0,1,5] [0] ?_));obtain⟨hg497,hh⟩:=aG hh;refine yjc 6 [(0:Int)<=s2.2.2/\s2.2.2<((List.length s2.1:Nat):Int)] (sp 157 [z51,z64,z54,(71,.sref 0 [] 0 (List.length s2.1) 17),(72,ii s2.2.2),(73,ii (w64 ((w64 ((w64 ((w64 ((w64 (v3.2+(1:Int)))+(1:Int)))+(1:Int)))+(1:Int)))+(1:Int)))),(74,.ptr 0 [] (0+(Int.toNat s2.2.2)*17)),(75,.ptr 0 [] (0+(Int.toNat s2.2.2)*17+1)),(76,.ptr 0 [] (0+(Int.toNat s2.2.2)*17+1+6))]) [z73] 2 (.cons hg497 .nil) ?_;let q8:Root:=(rO64 z43);let z74:=(0,some q8);refine ys (.store 1 (.t 76) (.t 73)) none (fG (bN ltn) (List.set_set ..) (c:=bB) (xs:=z42) (e:=64) (r:=0) (π:=[]) (o:=0+(Int.toNat s2.2.2)*17+1+6) (i:=(Int.toNat s2.2.2)) (off:=7) (vs:=[ii (w64 ((w64 ((w64 ((w64 ((w64 (v3.2+(1:Int)))+(1:Int)))+(1:Int)))+(1:Int)))+(1:Int)))]) (y:=z27) (H':=[z74,z73]) aE kr kr kr kr ltn ltn dd kr kr ?_);refine yt (sp 157 [z51,z64,z54]) [z74] 2 (sy [0,1,5] [0] (sp 157 [z51,z63,z54]) [z74] 2 (Aw.sreg [0,1,5] [0] ?_));obtain⟨hg496,hh⟩:=aG hh;refine yjc 6 [(0:Int)<=s2.2.2/\s2.2.2<((List.length s2.1:Nat):Int)] (sp 157 [z51,z63,z54,(79,.sref 0 [] 0 (List.length s2.1) 17),(80,ii s2.2.2),(81,ii (w64 ((w64 ((w64 ((w64 ((w64 ((w64 (v3.2+(1:Int)))+(1:Int)))+(1:Int)))+(1:Int)))+(1:Int)))+(1:Int)))),(82,.ptr 0 [] (0+(Int.toNat s2.2.2)*17)),(83,.ptr 0 [] (0+(Int.toNat s2.2.2)*17+1)),(84,.ptr 0 [] (0+(Int.toNat s2.2.2)*17+1+7))]) [z74] 2 (.cons hg496 .nil) ?_;let q9:Root:=(rO64 z44);let z75:=(0,some q9);refine ys (.store 1 (.t 84) (.t 81)) none (fG (bN ltn) (List.set_set ..) (c:=bB) (xs:=z43) (e:=64) (r:=0) (π:=[]) (o:=0+(Int.toNat s2.2.2)*17+1+7) (i:=(Int.toNat s2.2.2)) (off:=8) (vs:=[ii (w64 ((w64 ((w64 ((w64 ((w64 ((w64 (v3.2+(1:Int)))+(1:Int)))+(1:Int)))+(1:Int)))+(1:Int)))+(1:Int)))]) (y:=z28) (H':=[z75,z74]) aE kr kr kr kr ltn ltn dd kr kr ?_);refine yt (sp 157 [z51,z63,z54]) [z75] 2 (sy [0,1,5] [0] (sp 157 [z51,z62,z54]) [z75] 2 (Aw.sreg [0,1,5] [0] ?_));obtain⟨hg495,hh⟩:=aG hh;refine yjc 6 [(0:Int)<=s2.2.2/\s2.2.2<((List.length s2.1:Nat):Int)] (sp 157 [z51,z62,z54,(87,.sref 0 [] 0 (List.length s2.1) 17),(88,ii s2.2.2),(89,ii (w64 ((w64 ((w64 ((w64 ((w64 ((w64 ((w64 (v3.2+(1:Int)))+(1:Int)))+(1:Int)))+(1:Int)))+(1:Int)))+(1:Int)))+(1:Int)))),(90,.ptr 0 [] (0+(Int.toNat s2.2.2)*17)),(91,.ptr 0 [] (0+(Int.toNat s2.2.2)*17+1)),(92,.ptr 0 [] (0+(Int.toNat s2.2.2)*17+1+8))]) [z75] 2 (.cons hg495 .nil) ?_;let q10:Root:=(rO64 z45);let z76:=(0,some q10);refine ys (.store 1 (.t 92) (.t 89)) none (fG (bN ltn) (List.set_set ..) (c:=bB) (xs:=z44) (e:=64) (r:=0) (π:=[]) (o:=0+(Int.toNat s2.2.2)*17+1+8) (i:=(Int.toNat s2.2.2)) (off:=9) (vs:=[ii (w64 ((w64 ((w64 ((w64 ((w64 ((w64 ((w64 (v3.2+(1:Int)))+(1:Int)))+(1:Int)))+(1:Int)))+(1:Int)))+(1:Int)))+(1:Int)))]) (y:=z29) (H':=[z76,z75]) aE kr kr kr kr ltn ltn dd kr kr ?_);refine yt (sp 157 [z51,z62,z54]) [z76] 2 (sy [0,1,5] [0] (sp 157 [z51,z61,z54]) [z76] 2 (Aw.sreg [0,1,5] [0] ?_));obtain⟨hg494,hh⟩:=aG hh;refine yjc 8 [(3:Int)≠0,(0:Int)<=s2.2.2/\s2.2.2<((List.length s2.1:Nat):Int)] (sp 157 [z51,z61,z54,(95,.sref 0 [] 0 (List.length s2.1) 17),(96,ii s2.2.2),(97,ii (w64 ((w64 ((w64 ((w64 ((w64 ((w64 ((w64 ((w64 (v3.2+(1:Int)))+(1:Int)))+(1:Int)))+(1:Int)))+(1:Int)))+(1:Int)))+(1:Int)))+(1:Int)))),(98,ii (Int.tmod (w64 ((w64 ((w64 ((w64 ((w64 ((w64 ((w64 ((w64 (v3.2+(1:Int)))+(1:Int)))+(1:Int)))+(1:Int)))+(1:Int)))+(1:Int)))+(1:Int)))+(1:Int))) (3:Int))),(99,bb (decide ((Int.tmod (w64 ((w64 ((w64 ((w64 ((w64 ((w64 ((w64 ((w64 (v3.2+(1:Int)))+(1:Int)))+(1:Int)))+(1:Int)))+(1:Int)))+(1:Int)))+(1:Int)))+(1:Int))) (3:Int))=(0:Int)))),(100,.ptr 0 [] (0+(Int.toNat s2.2.2)*17)),(101,.ptr 0 [] (0+(Int.toNat s2.2.2)*17+1)),(102,.ptr 0 [] (0+(Int.toNat s2.2.2)*17+1+9))]) [z76] 2 (.cons dd (.cons hg494 .nil)) ?_;let q11:Root:=(rO64 z46);let z77:=(0,some q11);refine ys (.store 1 (.t 102) (.t 99)) none (fG (bN ltn) (List.set_set ..) (c:=bB) (xs:=z45) (e:=64) (r:=0) (π:=[]) (o:=0+(Int.toNat s2.2.2)*17+1+9) (i:=(Int.toNat s2.2.2)) (off:=10) (vs:=[bb (decide ((Int.tmod (w64 ((w64 ((w64 ((w64 ((w64 ((w64 ((w64 ((w64 (v3.2+(1:Int)))+(1:Int)))+(1:Int)))+(1:Int)))+(1:Int)))+(1:Int)))+(1:Int)))+(1:Int))) (3:Int))=(0:Int)))]) (y:=z30) (H':=[z77,z76]) aE kr kr kr kr ltn ltn dd kr kr ?_);refine yt (sp 157 [z51,z61,z54]) [z77] 2 (sy [0,1,5] [0] (sp 157 [z51,z60,z54]) [z77] 2 (Aw.sreg [0,1,5] [0] ?_));obtain⟨hg493,hh⟩:=aG hh;refine yjc 8 [(3:Int)≠0,(0:Int)<=s2.2.2/\s2.2.2<((List.length s2.1:Nat):Int)] (sp 157 [z51,z60,z54,(105,.sref 0 [] 0 (List.length s2.1) 17),(106,ii s2.2.2),(107,ii (w64 ((w64 ((w64 ((w64 ((w64 ((w64 ((w64 ((w64 ((w64 (v3.2+(1:Int)))+(1:Int)))+(1:Int)))+(1:Int)))+(1:Int)))+(1:Int)))+(1:Int)))+(1:Int)))+(1:Int)))),(108,ii (Int.tmod (w64 ((w64 ((w64 ((w64 ((w64 ((w64 ((w64 ((w64 ((w64 (v3.2+(1:Int)))+(1:Int)))+(1:Int)))+(1:Int)))+(1:Int)))+(1:Int)))+(1:Int)))+(1:Int)))+(1:Int))) (3:Int))),(109,bb (decide ((Int.tmod (w64 ((w64 ((w64 ((w64 ((w64 ((w64 ((w64 ((w64 ((w64 (v3.2+(1:Int)))+(1:Int)))+(1:Int)))+(1:Int)))+(1:Int)))+(1:Int)))+(1:Int)))+(1:Int)))+(1:Int))) (3:Int))=(0:Int)))),(110,.ptr 0 [] (0+(Int.toNat s2.2.2)*17)),(111,.ptr 0 [] (0+(Int.toNat s2.2.2)*17+1)),(112,.ptr 0 [] (0+(Int.toNat s2.2.2)*17+1+10))]) [z77] 2 (.cons dd (.cons hg493 .nil)) ?_;let q12:Root:=(rO64 z47);let z78:=(0,some q12);refine ys (.store 1 (.t 112) (.t 109)) none (fG (bN ltn) (List.set_set ..) (c:=bB) (xs:=z46) (e:=64) (r:=0) (π:=[]) (o:=0+(Int.toNat s2.2.2)*17+1+10) (i:=(Int.toNat s2.2.2)) (off:=11) (vs:=[bb (decide ((Int.tmod (w64 ((w64 ((w64 ((w64 ((w64 ((w64 ((w64 ((w64 ((w64 (v3.2+(1:Int)))+(1:Int)))+(1:Int)))+(1:Int)))+(1:Int)))+(1:Int)))+(1:Int)))+(1:Int)))+(1:Int))) (3:Int))=(0:Int)))]) (y:=z31) (H':=[z78,z77]) aE kr kr kr kr ltn ltn dd kr kr ?_);refine yt (sp 157 [z51,z60,z54]) [z78] 2 (sy [0,1,5] [0] (sp 157 [z51,z59,z54]) [z78] 2 (Aw.sreg [0,1,5] [0] ?_));obtain⟨hg492,hh⟩:=aG hh;refine yjc 8 [(3:Int)≠0,(0:Int)<=s2.2.2/\s2.2.2<((List.length s2.1:Nat):Int)] (sp 157 [z51,z59,z54,(115,.sref 0 [] 0 (List.length s2.1) 17),(116,ii s2.2.2),(117,ii (w64 ((w64 ((w64 ((w64 ((w64 ((w64 ((w64 ((w64 ((w64 ((w64 (v3.2+(1:Int)))+(1:Int)))+(1:Int)))+(1:Int)))+(1:Int)))+(1:Int)))+(1:Int)))+(1:Int)))+(1:Int)))+(1:Int)))),(118,ii (Int.tmod (w64 ((w64 ((w64 ((w64 ((w64 ((w64 ((w64 ((w64 ((w64 ((w64 (v3.2+(1:Int)))+(1:Int)))+(1:Int)))+(1:Int)))+(1:Int)))+(1:Int)))+(1:Int)))+(1:Int)))+(1:Int)))+(1:Int))) (3:Int))),(119,bb (decide ((Int.tmod (w64 ((w64 ((w64 ((w64 ((w64 ((w64 ((w64 ((w64 ((w64 ((w64 (v3.2+(1:Int)))+(1:Int)))+(1:Int)))+(1:Int)))+(1:Int)))+(1:Int)))+(1:Int)))+(1:Int)))+(1:Int)))+(1:Int))) (3:Int))=(0:Int)))),(120,.ptr 0 [] (0+(Int.toNat s2.2.2)*17)),(121,.ptr 0 [] (0+(Int.toNat s2.2.2)*17+1)),(122,.ptr 0 [] (0+(Int.toNat s2.2.2)*17+1+11))]) [z78] 2 (.cons dd (.cons hg492 .nil)) ?_;let q13:Root:=(rO64 z48);let z79:=(0,some q13);refine ys (.store 1 (.t 122) (.t 119)) none (fG (bN ltn) (List.set_set ..) (c:=bB) (xs:=z47) (e:=64) (r:=0) (π:=[]) (o:=0+(Int.toNat s2.2.2)*17+1+11) (i:=(Int.toNat s2.2.2)) (off:=12) (vs:=[bb (decide ((Int.tmod (w64 ((w64 ((w64 ((w64 ((w64 ((w64 ((w64 ((w64 ((w64 ((w64 (v3.2+(1:Int)))+(1:Int)))+(1:Int)))+(1:Int)))+(1:Int)))+(1:Int)))+(1:Int)))+(1:Int)))+(1:Int)))+(1:Int))) (3:Int))=(0:Int)))]) (y:=z32) (H':=[z79,z78]) aE kr kr kr kr ltn ltn dd kr kr ?_);refine yt (sp 157 [z51,z59,z54]) [z79] 2 (sy [0,1,5] [0] (sp 157 [z51,z58,z54]) [z79] 2 (Aw.sreg [0,1,5] [0] ?_));obtain⟨hg491,hh⟩:=aG hh;refine yjc 8 [(3:Int)≠0,(0:Int)<=s2.2.2/\s2.2.2<((List.length s2.1:Nat):Int)] (sp 157 [z51,z58,z54,(125,.sref 0 [] 0 (List.length s2.1) 17),(126,ii s2.2.2),(127,ii (w64 ((w64 ((w64 ((w64 ((w64 ((w64 ((w64 ((w64 ((w64 ((w64 ((w64 (v3.2+(1:Int)))+(1:Int)))+(1:Int)))+(1:Int)))+(1:Int)))+(1:Int)))+(1:Int)))+(1:Int)))+(1:Int)))+(1:Int)))+(1:Int)))),(128,ii (Int.tmod (w64 ((w64 ((w64 ((w64 ((w64 ((w64 ((w64 ((w64 ((w64 ((w64 ((w64 (v3.2+(1:Int)))+(1:Int)))+(1:Int)))+(1:Int)))+(1:Int)))+(1:Int)))+(1:Int)))+(1:Int)))+(1:Int)))+(1:Int)))+(1:Int))) (3:Int))),(129,bb (decide ((Int.tmod (w64 ((w64 ((w64 ((w64 ((w64 ((w64 ((w64 ((w64 ((w64 ((w64 ((w64 (v3.2+(1:Int)))+(1:Int)))+(1:Int)))+(1:Int)))+(1:Int)))+(1:Int)))+(1:Int)))+(1:Int)))+(1:Int)))+(1:Int)))+(1:Int))) (3:Int))=(0:Int)))),(130,.ptr 0 [] (0+(Int.toNat s2.2.2)*17)),(131,.ptr 0 [] (0+(Int.toNat s2.2.2)*17+1)),(132,.ptr 0 [] (0+(Int.toNat s2.2.2)*17+1+12))]) [z79] 2 (.cons dd (.cons hg491 .nil)) ?_;let q14:Root:=(rO64 z33);let z80:=(0,some q14);refine ys (.store 1 (.t 132) (.t 129)) none (fG (bN ltn) (List.set_set ..) (c:=bB) (xs:=z48) (e:=64) (r:=0) (π:=[]) (o:=0+(Int.toNat s2.2.2)*17+1+12) (i:=(Int.toNat s2.2.2)) (off:=13) (vs:=[bb (decide ((Int.tmod (w64 ((w64 ((w64 ((w64 ((w64 ((w64 ((w64 ((w64 ((w64 ((w64 ((w64 (v3.2+(1:Int)))+(1:Int)))+(1:Int)))+(1:Int)))+(1:Int)))+(1:Int)))+(1:Int)))+(1:Int)))+(1:Int)))+(1:Int)))+(1:Int))) (3:Int))=(0:Int)))]) (y:=z16) (H':=[z80,z79]) aE kr kr kr kr ltn ltn dd kr kr ?_);refine yt (sp 157 [z51,z58,z54]) [z80] 2 (sy [0,1,5] [0] (sp 157 [z51,z57,z54]) [z80] 2 (Aw.sreg [0,1,5] [0] ?_));obtain⟨hg490,hh⟩:=aG hh;refine yjc 4 [(0:Int)<=s2.2.2/\s2.2.2<((List.length s2.1:Nat):Int)] (sp 157 [z51,z57,z54,(135,.sref 0 [] 0 (List.length s2.1) 17),(136,ii s2.2.2),(137,.ptr 0 [] (0+(Int.toNat s2.2.2)*17)),(138,.ptr 0 [] (0+(Int.toNat s2.2.2)*17+14))]) [z80] 2 (.cons hg490 .nil) (ys (.load false 1 (.t 138)) (some 139) (aBv (bN ltn) (c:=bB) (xs:=z33) (e:=64) (r:=0) (π:=[]) (o:=0+(Int.toNat s2.2.2)*17+14) (i:=(Int.toNat s2.2.2)) (off:=14) (v:= .sref 0 [0+(Int.toNat s2.2.2)*17+14+0] 0 (List.length z1.Pages) 3) aE kr kr ltn ltn dd kr ?_));refine yu 1 [(139,.sref 0 [0+(Int.toNat s2.2.2)*17+14+0] 0 (List.length z1.Pages) 3),(140,ii (w64 ((w64 ((w64 ((w64 ((w64 ((w64 ((w64 ((w64 ((w64 ((w64 ((w64 ((w64 (v3.2+(1:Int)))+(1:Int)))+(1:Int)))+(1:Int)))+(1:Int)))+(1:Int)))+(1:Int)))+(1:Int)))+(1:Int)))+(1:Int)))+(1:Int)))+(1:Int))))] [z80] 2 ?_;obtain⟨v4,hv4,hh⟩:=bind_some hh;let z17:=DGuest.mk (decide ((Int.tmod s2.2.1 (3:Int))=(0:Int))) z2 v4.1 z1.In z1.Out;let z34:=List.set s2.1 (Int.toNat s2.2.2) z17;obtain⟨hg481,hh⟩:=aG hh;have hgqv4:=Eq.symm hg481;refine ys (.call 103 [.t 139,.t 140]) (some 141) (aAj (e':=66) (sz':=3) (m':=(List.length z1.Pages)) (cs':=(fl hZ z1.Pages)) (ds:=(fl hZ v4.1)) (c:=bB) (xs:=z33) (R:=0) (e:=64) (o:=0+(Int.toNat s2.2.2)*17+14+0) (i:=(Int.toNat s2.2.2)) (off:=14) (y:=z17) (m2:=(List.length v4.1)) (args:=[.sref 0 [0+(Int.toNat s2.2.2)*17+14+0] 0 (List.length z1.Pages) 3,ii (w64 ((w64 ((w64 ((w64 ((w64 ((w64 ((w64 ((w64 ((w64 ((w64 ((w64 ((w64 (v3.2+(1:Int)))+(1:Int)))+(1:Int)))+(1:Int)))+(1:Int)))+(1:Int)))+(1:Int)))+(1:Int)))+(1:Int)))+(1:Int)))+(1:Int)))+(1:Int)))]) (args2:=[.sref 2 [] 0 (List.length z1.Pages) 3,ii (w64 ((w64 ((w64 ((w64 ((w64 ((w64 ((w64 ((w64 ((w64 ((w64 ((w64 ((w64 (v3.2+(1:Int)))+(1:Int)))+(1:Int)))+(1:Int)))+(1:Int)))+(1:Int)))+(1:Int)))+(1:Int)))+(1:Int)))+(1:Int)))+(1:Int)))+(1:Int)))]) kr aE kr ltn ltn dd (bN ltn) kr (xT (.sref _ _ _) (xT (.same _) aPf)) (Inl.frameB (v':=ii v4.2) (Hp':=[(2,some (rC66 v4.1))]) (n':=3) [2] (aGb hv4) rfl rfl rfl rz rfl (hn jU bH) eR rfl (hn jU bH) rfl) kr kr hgqv4 kr (List.set_set ..) ?_);let q15:Root:=(rO64 z34);refine yt (sp 157 [z51,(1,ii v4.2),z54]) [(0,some q15)] 3 (Aw.sreg [0,1,5] [0] ?_);obtain⟨hg489,hh⟩:=aG hh;refine yjc 4 [(0:Int)<=s2.2.2/\s2.2.2<((List.length s2.1:Nat):Int)] (sp 157 [z51,(1,ii v4.2),z54,(142,.sref 0 [] 0 (List.length s2.1) 17),(143,ii s2.2.2),(144,.ptr 0 [] (0+(Int.toNat s2.2.2)*17)),(145,.ptr 0 [] (0+(Int.toNat s2.2.2)*17+15))]) [(0,some q15)] 3 (.cons hg489 .nil) (ys (.load false 1 (.t 145)) (some 146) (aBv (bN ltn) (c:=bB) (xs:=z34) (e:=64) (r:=0) (π:=[]) (o:=0+(Int.toNat s2.2.2)*17+15) (i:=(Int.toNat s2.2.2)) (off:=15) (v:= .sref 0 [0+(Int.toNat s2.2.2)*17+15+0] 0 (List.length z1.In) 1) aE kr kr ltn ltn dd kr ?_));refine yu 1 [(146,.sref 0 [0+(Int.toNat s2.2.2)*17+15+0] 0 (List.length z1.In) 1),(147,ii v4.2)] [(0,some q15)] 3 ?_;obtain⟨v5,hv5,hh⟩:=bind_some hh;let z18:=DGuest.mk (decide ((Int.tmod s2.2.1 (3:Int))=(0:Int))) z2 v4.1 v5.1 z1.Out;let z35:=List.set s2.1 (Int.toNat s2.2.2) z18;obtain⟨hg484,hh⟩:=aG hh;have hgqv5:=Eq.symm hg484;refine ys (.call 63 [.t 146,.t 147]) (some 148) (aAj (e':=3) (sz':=1) (m':=(List.length z1.In)) (cs':=(fl (eI .i64) z1.In)) (ds:=(fl (eI .i64) v5.1)) (c:=bB) (xs:=z34) (R:=0) (e:=64) (o:=0+(Int.toNat s2.2.2)*17+15+0) (i:=(Int.toNat s2.2.2)) (off:=15) (y:=z18) (m2:=(List.length v5.1)) (args:=[.sref 0 [0+(Int.toNat s2.2.2)*17+15+0] 0 (List.length z1.In) 1,ii v4.2]) (args2:=[.sref 3 [] 0 (List.length z1.In) 1,ii v4.2]) kr aE kr ltn ltn dd (bN ltn) kr (xT (.sref _ _ _) (xT (.same _) aPf)) (Inl.frameB (v':=ii v5.2) (Hp':=[(3,some (rI_3 v5.1))]) (n':=4) [3] (mX hv5) rfl rfl rfl rz rfl (hn bU bH) eR rfl (hn bU bH) rfl) kr kr hgqv5 kr (List.set_set ..) ?_);let q16:Root:=(rO64 z35);refine yt (sp 157 [z51,(1,ii v5.2),z54]) [(0,some q16)] 4 (Aw.xreg [0,1,5] [0] (λ_ _ _ hq=>aLg (dA hq)) ?_);obtain⟨hg488,hh⟩:=aG hh;refine yjc 4 [(0:Int)<=s2.2.2/\s2.2.2<((List.length s2.1:Nat):Int)] (sp 157 [z51,(1,ii v5.2),z54,(149,.sref 0 [] 0 (List.length s2.1) 17),(150,ii s2.2.2),(151,.ptr 0 [] (0+(Int.toNat s2.2.2)*17)),(152,.ptr 0 [] (0+(Int.toNat s2.2.2)*17+16))]) [(0,some q16)] 4 (.cons hg488 .nil) (ys (.load false 1 (.t 152)) (some 153) (aBv (bN ltn) (c:=bB) (xs:=z35) (e:=64) (r:=0) (π:=[]) (o:=0+(Int.toNat s2.2.2)*17+16) (i:=(Int.toNat s2.2.2)) (off:=16) (v:= .sref 0 [0+(Int.toNat s2.2.2)*17+16+0] 0 (List.length z1.Out) 1) aE kr kr ltn ltn dd kr ?_));refine yu 1 [(153,.sref 0 [0+(Int.toNat s2.2.2)*17+16+0] 0 (List.length z1.Out) 1),(154,ii v5.2)] [(0,some q16)] 4 ?_;obtain⟨v6,hv6,hh⟩:=bind_some hh;let z19:=DGuest.mk (decide ((Int.tmod s2.2.1 (3:Int))=(0:Int))) z2 v4.1 v5.1 v6.1;let z36:=List.set s2.1 (Int.toNat s2.2.2) z19;obtain⟨hg487,hh⟩:=aG hh;have hgqv6:=Eq.symm hg487;refine ys (.call 63 [.t 153,.t 154]) (some 155) (aAj (e':=3) (sz':=1) (m':=(List.length z1.Out)) (cs':=(fl (eI .i64) z1.Out)) (ds:=(fl (eI .i64) v6.1)) (c:=bB) (xs:=z35) (R:=0) (e:=64) (o:=0+(Int.toNat s2.2.2)*17+16+0) (i:=(Int.toNat s2.2.2)) (off:=16) (y:=z19) (m2:=(List.length v6.1)) (args:=[.sref 0 [0+(Int.toNat s2.2.2)*17+16+0] 0 (List.length z1.Out) 1,ii v5.2]) (args2:=[.sref 4 [] 0 (List.length z1.Out) 1,ii v5.2]) kr aE kr ltn ltn dd (bN ltn) kr (xT (.sref _ _ _) (xT (.same _) aPf)) (Inl.frameB (v':=ii v6.2) (Hp':=[(4,some (rI_3 v6.1))]) (n':=5) [4] (mX hv6) rfl rfl rfl rz rfl (hn bU bH) eR rfl (hn bU bH) rfl) kr kr hgqv6 kr (List.set_set ..) ?_);let q17:Root:=(rO64 z36);exact yt (sp 157 [z51,(1,ii v6.2),z54]) [(0,some q17)] 5 (Aw.oreg (ye (sp 157 [z51,(1,ii v6.2),(5,ii (w64 (s2.2.2+(1:Int)))),(10,ii s2.2.2),(11,ii (w64 (s2.2.2+(1:Int))))]) [(0,some q17)] 5 (hN2 (z36,v6.2,w64 (s2.2.2+(1:Int))) _ _ _ (cQ hh) (el [some 0] (kP kr (rs (.sref 0 [] 0 (List.length s2.1) 17) (ri (ri uN)))) (hn bZ bH)))))
theorem aFs:LW 23 ⟨14,[.tmp 4],.seq (.reg false (rg 23 0)) (.seq (.reg false (rg 23 1)) (.seq (.reg false (rg 23 2)) (.seq (.reg false (rg 23 3)) .ret)))⟩:=kr
noncomputable def dR (x_a:DHost)(x_k:Int):Option ((List Int)×(List DGuest)×Int):=
 Option.bind (fI x_a.Words x_k) λv1=>
 grd (List.length v1.1=(List.length x_a.Words)) (Option.bind (jD x_a.Guests v1.2) λv2=>
  grd (List.length v2.1=(List.length x_a.Guests)) (some (v1.1,v2.1,v2.2)))
theorem gX{x_a:DHost}{x_k:Int}{R_:(List Int)×(List DGuest)×Int}(hh:dR x_a x_k=some R_):Inl Try.prog 23 [.agg [.sref 0 [] 0 (List.length x_a.Words) 1,.sref 1 [] 0 (List.length x_a.Guests) 17],.int .i64 x_k] [(1,some (rO64 x_a.Guests)),(0,some (rI_3 x_a.Words))] 2 (.int .i64 R_.2.2) [(0,some (rI_3 R_.1)),(1,some (rO64 R_.2.1))] 2:=by unfold dR at hh;let q1:Root:=(rI_3 x_a.Words);let q2:Root:=(rO64 x_a.Guests);let z1:=(1,some q2);refine Inl.start aFs [0,1] [0,1] (E:=sp 14 [(0,.agg [sw 0 x_a.Words,.sref 1 [] 0 (List.length x_a.Guests) 17]),(1,ii x_k)]) (H1:=[(0,some q1),z1]) kr kr (Aw.sreg [1,2] [0,1,2] ?_);let q3:Root:=⟨26,[sw 0 x_a.Words,.sref 1 [] 0 (List.length x_a.Guests) 17]⟩;refine yt (sp 14 [(1,ii x_k),(2,pp 2)]) [(0,some q1),z1,(2,some q3)] 3 (Aw.sreg [1,2] [0,1,2] (yu 3 [(5,pp 2),(6,sw 0 x_a.Words),(7,ii x_k)] [(0,some q1),z1,(2,some q3)] 3 ?_));obtain⟨v1,hv1,hh⟩:=bind_some hh;let z2:EH:=(0,some (rI_3 v1.1));obtain⟨hg2,hh⟩:=aG hh;refine ys (.call 63 [.t 6,.t 7]) (some 8) (cf (ii v1.2) [z2] 3 [0] (mX hv1) [sw 0 x_a.Words,ii x_k] rz (hn bU bH) eR (hn bU bH) ?_);refine yt (sp 14 [(1,ii v1.2),(2,pp 2)]) [z2,z1,(2,some q3)] 3 (Aw.sreg [1] [0,1] (yu 3 [(9,.ptr 2 [] 1),(10,.sref 1 [] 0 (List.length x_a.Guests) 17),(11,ii v1.2)] [z2,z1,(2,some q3)] 3 ?_));obtain⟨v2,hv2,hh⟩:=bind_some hh;let z3:EH:=(1,some (rO64 v2.1));obtain⟨hg4,hh⟩:=aG hh;refine ys (.call 64 [.t 10,.t 11]) (some 12) (cf (ii v2.2) [z3] 3 [1] (aDc hv2) [.sref 1 [] 0 (List.length x_a.Guests) 17,ii v1.2] rz (hn bZ bH) eR (hn bZ bH) ?_);refine yt (sp 14 [(1,ii v2.2)]) [z2,z3] 3 (sy [4] [0,1] (sp 14 [(4,ii v2.2)]) [z2,z3] 3 (Aw.ret ?_));rw[cQ hh];exact pH (r':=ii v2.2) kr (el [some 0,some 1] (kT eR) (hn bU (hn bZ bH)))
noncomputable def aCi  (s1:Int):Option Int:=some s1
noncomputable def kJ (x_a:List DSlot)(s2:Int×Int):Option (LO (Int×Int) (JO Int Int)):=
 cond (decide (s2.2<((List.length x_a:Nat):Int)))
  (grd ((0:Int)<=s2.2/\s2.2<((List.length x_a:Nat):Int)) (cond (!decide ((List.getD x_a (Int.toNat s2.2) default).Frame=s2.1))
   (some (.ret (.out (-1:Int))))
   (grd ((0:Int)<=s2.2/\s2.2<((List.length x_a:Nat):Int)) (cond (!((List.getD x_a (Int.toNat s2.2) default).Write==(decide ((Int.tmod (w64 (s2.1+(1:Int))) (3:Int))=(0:Int)))))
    (some (.ret (.out (-1:Int))))
    (grd ((0:Int)<=s2.2/\s2.2<((List.length x_a:Nat):Int)) (cond (!((List.getD x_a (Int.toNat s2.2) default).Dirty==(decide ((Int.tmod (w64 ((w64 (s2.1+(1:Int)))+(1:Int))) (3:Int))=(0:Int)))))
     (some (.ret (.out (-1:Int))))
     (some (.next ((w64 ((w64 ((w64 (s2.1+(1:Int)))+(1:Int)))+(1:Int))),w64 (s2.2+(1:Int)))))))))))
  (some (.ret (.go s2.1)))
noncomputable def mT (x_a:List DSlot)(x_k:Int):Option Int:=
 Option.bind (Option.bind (iter (kJ x_a) (x_k,(0:Int))) LO.val) λj1=>
  JO.run j1 aCi
noncomputable def bLw:Sg tG:=⟨[.row 66,.i .i64],.one (.i .i64),mT⟩
theorem bNk:Sok 104 bLw:=sgx [] trivial (.s .o (.j ⟨[],[],[(.s 1,.i .i64)]⟩ (.s .o (.k (.l ⟨[0],[],[(.s 1,.i .i64),(.s 5,.i .i64)]⟩ .o))) .o)) kr kr kr
noncomputable def aAc  (s1:Int):Option Int:=some s1
noncomputable def jM (x_a:List DGuest)(s2:Int×Int):Option (LO (Int×Int) (JO Int Int)):=
 cond (decide (s2.2<((List.length x_a:Nat):Int)))
  (grd ((0:Int)<=s2.2/\s2.2<((List.length x_a:Nat):Int)) (cond (!((List.getD x_a (Int.toNat s2.2) default).Live==(decide ((Int.tmod s2.1 (3:Int))=(0:Int)))))
   (some (.ret (.out (-1:Int))))
   (grd ((0:Int)<=s2.2/\s2.2<((List.length x_a:Nat):Int)) (Option.bind (gF ((List.getD x_a (Int.toNat s2.2) default).C).Regs (w64 (s2.1+(1:Int)))) λv3=>
    cond (decide (v3<(0:Int)))
     (some (.ret (.out (-1:Int))))
     (grd ((0:Int)<=s2.2/\s2.2<((List.length x_a:Nat):Int)) (cond (!decide (((List.getD x_a (Int.toNat s2.2) default).C).Pc=v3))
      (some (.ret (.out (-1:Int))))
      (grd ((0:Int)<=s2.2/\s2.2<((List.length x_a:Nat):Int)) (cond (!decide (((List.getD x_a (Int.toNat s2.2) default).C).Root=(w64 (v3+(1:Int)))))
       (some (.ret (.out (-1:Int))))
       (grd ((0:Int)<=s2.2/\s2.2<((List.length x_a:Nat):Int)) (cond (!decide (((List.getD x_a (Int.toNat s2.2) default).C).Vector=(w64 ((w64 (v3+(1:Int)))+(1:Int)))))
        (some (.ret (.out (-1:Int))))
        (grd ((0:Int)<=s2.2/\s2.2<((List.length x_a:Nat):Int)) (cond (!decide (((List.getD x_a (Int.toNat s2.2) default).C).Saved=(w64 ((w64 ((w64 (v3+(1:Int)))+(1:Int)))+(1:Int)))))
         (some (.ret (.out (-1:Int))))
         (grd ((0:Int)<=s2.2/\s2.2<((List.length x_a:Nat):Int)) (cond (!(((List.getD x_a (Int.toNat s2.2) default).C).SavedUser==(decide ((Int.tmod (w64 ((w64 ((w64 ((w64 (v3+(1:Int)))+(1:Int)))+(1:Int)))+(1:Int))) (3:Int))=(0:Int)))))
          (some (.ret (.out (-1:Int))))
          (grd ((0:Int)<=s2.2/\s2.2<((List.length x_a:Nat):Int)) (cond (!decide (((List.getD x_a (Int.toNat s2.2) default).C).Cause=(w64 ((w64 ((w64 ((w64 ((w64 (v3+(1:Int)))+(1:Int)))+(1:Int)))+(1:Int)))+(1:Int)))))
           (some (.ret (.out (-1:Int))))
           (grd ((0:Int)<=s2.2/\s2.2<((List.length x_a:Nat):Int)) (cond (!decide (((List.getD x_a (Int.toNat s2.2) default).C).Bad=(w64 ((w64 ((w64 ((w64 ((w64 ((w64 (v3+(1:Int)))+(1:Int)))+(1:Int)))+(1:Int)))+(1:Int)))+(1:Int)))))
            (some (.ret (.out (-1:Int))))
            (grd ((0:Int)<=s2.2/\s2.2<((List.length x_a:Nat):Int)) (cond (!decide (((List.getD x_a (Int.toNat s2.2) default).C).Timer=(w64 ((w64 ((w64 ((w64 ((w64 ((w64 ((w64 (v3+(1:Int)))+(1:Int)))+(1:Int)))+(1:Int)))+(1:Int)))+(1:Int)))+(1:Int)))))
             (some (.ret (.out (-1:Int))))
             (grd ((0:Int)<=s2.2/\s2.2<((List.length x_a:Nat):Int)) (cond (!(((List.getD x_a (Int.toNat s2.2) default).C).Waits==(decide ((Int.tmod (w64 ((w64 ((w64 ((w64 ((w64 ((w64 ((w64 ((w64 (v3+(1:Int)))+(1:Int)))+(1:Int)))+(1:Int)))+(1:Int)))+(1:Int)))+(1:Int)))+(1:Int))) (3:Int))=(0:Int)))))
              (some (.ret (.out (-1:Int))))
              (grd ((0:Int)<=s2.2/\s2.2<((List.length x_a:Nat):Int)) (cond (!(((List.getD x_a (Int.toNat s2.2) default).C).User==(decide ((Int.tmod (w64 ((w64 ((w64 ((w64 ((w64 ((w64 ((w64 ((w64 ((w64 (v3+(1:Int)))+(1:Int)))+(1:Int)))+(1:Int)))+(1:Int)))+(1:Int)))+(1:Int)))+(1:Int)))+(1:Int))) (3:Int))=(0:Int)))))
               (some (.ret (.out (-1:Int))))
               (grd ((0:Int)<=s2.2/\s2.2<((List.length x_a:Nat):Int)) (cond (!(((List.getD x_a (Int.toNat s2.2) default).C).On==(decide ((Int.tmod (w64 ((w64 ((w64 ((w64 ((w64 ((w64 ((w64 ((w64 ((w64 ((w64 (v3+(1:Int)))+(1:Int)))+(1:Int)))+(1:Int)))+(1:Int)))+(1:Int)))+(1:Int)))+(1:Int)))+(1:Int)))+(1:Int))) (3:Int))=(0:Int)))))
                (some (.ret (.out (-1:Int))))
                (grd ((0:Int)<=s2.2/\s2.2<((List.length x_a:Nat):Int)) (cond (!(((List.getD x_a (Int.toNat s2.2) default).C).Stopped==(decide ((Int.tmod (w64 ((w64 ((w64 ((w64 ((w64 ((w64 ((w64 ((w64 ((w64 ((w64 ((w64 (v3+(1:Int)))+(1:Int)))+(1:Int)))+(1:Int)))+(1:Int)))+(1:Int)))+(1:Int)))+(1:Int)))+(1:Int)))+(1:Int)))+(1:Int))) (3:Int))=(0:Int)))))
                 (some (.ret (.out (-1:Int))))
                 (grd ((0:Int)<=s2.2/\s2.2<((List.length x_a:Nat):Int)) (Option.bind (mT (List.getD x_a (Int.toNat s2.2) default).Pages (w64 ((w64 ((w64 ((w64 ((w64 ((w64 ((w64 ((w64 ((w64 ((w64 ((w64 ((w64 (v3+(1:Int)))+(1:Int)))+(1:Int)))+(1:Int)))+(1:Int)))+(1:Int)))+(1:Int)))+(1:Int)))+(1:Int)))+(1:Int)))+(1:Int)))+(1:Int)))) λv4=>
                  cond (decide (v4<(0:Int)))
                   (some (.ret (.out (-1:Int))))
                   (grd ((0:Int)<=s2.2/\s2.2<((List.length x_a:Nat):Int)) (Option.bind (gF (List.getD x_a (Int.toNat s2.2) default).In v4) λv5=>
                    cond (decide (v5<(0:Int)))
                     (some (.ret (.out (-1:Int))))
                     (grd ((0:Int)<=s2.2/\s2.2<((List.length x_a:Nat):Int)) (Option.bind (gF (List.getD x_a (Int.toNat s2.2) default).Out v5) λv6=>
                      cond (decide (v6<(0:Int)))
                       (some (.ret (.out (-1:Int))))
                       (some (.next (v6,w64 (s2.2+(1:Int)))))))))))))))))))))))))))))))))))))))
  (some (.ret (.go s2.1)))
noncomputable def lU (x_a:List DGuest)(x_k:Int):Option Int:=
 Option.bind (Option.bind (iter (jM x_a) (x_k,(0:Int))) LO.val) λj1=>
  JO.run j1 aAc
noncomputable def g71:Sg tG:=⟨[.row 64,.i .i64],.one (.i .i64),lU⟩
theorem s71:Sok 71 g71:=sgx [(70,.r g70),(104,.r bLw)] ⟨s70,bNk,trivial⟩ (.s .o (.j ⟨[],[],[(.s 1,.i .i64)]⟩ (.s .o (.k (.l ⟨[0],[],[(.s 1,.i .i64),(.s 5,.i .i64)]⟩ .o))) .o)) kr kr kr
noncomputable def dS (x_a:DHost)(x_k:Int):Option Int:=
 Option.bind (gF x_a.Words x_k) λv1=>
 cond (decide (v1<(0:Int)))
  (some (-1:Int))
  (Option.bind (lU x_a.Guests v1) λv2=>
  cond (decide (v2<(0:Int)))
   (some (-1:Int))
   (some v2))
noncomputable def g28:Sg tG:=⟨[.st 26,.i .i64],.one (.i .i64),dS⟩
theorem s28:Sok 28 g28:=sgx [(70,.r g70),(71,.r g71)] ⟨s70,s71,trivial⟩ .o kr kr kr
theorem mW{x_a:DHost}{x_k:Int}{R_:Int}(hh:dS x_a x_k=some R_):Fn Try.prog 28 [.agg [bo (eI .i64) x_a.Words,bo bG x_a.Guests],.int .i64 x_k] (.int .i64 R_):=kc (s28 x_a x_k R_ hh)
noncomputable def eV (x_h:DHost)(x_g:Int)(x_b:DBare):Option DHost:=
 Option.bind (eH x_h) λv1=>
 Option.bind (lM x_b) λv2=>
 grd ((0:Int)<=x_g/\x_g<((List.length v1.Guests:Nat):Int)) (grd ((0:Int)<=x_g/\x_g<((List.length v1.Guests:Nat):Int)) (grd ((0:Int)<=x_g/\x_g<((List.length v1.Guests:Nat):Int)) (some (DHost.mk v1.Words (let z0:=List.set v1.Guests (Int.toNat x_g) (DGuest.mk (List.getD v1.Guests (Int.toNat x_g) default).Live v2.C (List.getD v1.Guests (Int.toNat x_g) default).Pages (List.getD v1.Guests (Int.toNat x_g) default).In (List.getD v1.Guests (Int.toNat x_g) default).Out);let z1:=List.set z0 (Int.toNat x_g) (DGuest.mk (List.getD z0 (Int.toNat x_g) default).Live (DCore.mk ((List.getD z0 (Int.toNat x_g) default).C).Regs ((List.getD z0 (Int.toNat x_g) default).C).Pc ((List.getD z0 (Int.toNat x_g) default).C).Root ((List.getD z0 (Int.toNat x_g) default).C).Vector ((List.getD z0 (Int.toNat x_g) default).C).Saved ((List.getD z0 (Int.toNat x_g) default).C).SavedUser ((List.getD z0 (Int.toNat x_g) default).C).Cause ((List.getD z0 (Int.toNat x_g) default).C).Bad ((List.getD z0 (Int.toNat x_g) default).C).Timer ((List.getD z0 (Int.toNat x_g) default).C).Waits ((List.getD z0 (Int.toNat x_g) default).C).User ((List.getD z0 (Int.toNat x_g) default).C).On ((List.getD z0 (Int.toNat x_g) default).C).Stopped) (List.getD z0 (Int.toNat x_g) default).Pages v2.In (List.getD z0 (Int.toNat x_g) default).Out);List.set z1 (Int.toNat x_g) (DGuest.mk (List.getD z1 (Int.toNat x_g) default).Live (DCore.mk ((List.getD z1 (Int.toNat x_g) default).C).Regs ((List.getD z1 (Int.toNat x_g) default).C).Pc ((List.getD z1 (Int.toNat x_g) default).C).Root ((List.getD z1 (Int.toNat x_g) default).C).Vector ((List.getD z1 (Int.toNat x_g) default).C).Saved ((List.getD z1 (Int.toNat x_g) default).C).SavedUser ((List.getD z1 (Int.toNat x_g) default).C).Cause ((List.getD z1 (Int.toNat x_g) default).C).Bad ((List.getD z1 (Int.toNat x_g) default).C).Timer ((List.getD z1 (Int.toNat x_g) default).C).Waits ((List.getD z1 (Int.toNat x_g) default).C).User ((List.getD z1 (Int.toNat x_g) default).C).On ((List.getD z1 (Int.toNat x_g) default).C).Stopped) (List.getD z1 (Int.toNat x_g) default).Pages (List.getD z1 (Int.toNat x_g) default).In v2.Out))))))
noncomputable def g45:Sg tG:=⟨[.st 26,.i .i64,.st 81],.one (.st 2026),eV⟩
theorem s45:Sok 45 g45:=sgx [(41,.r g41),(91,.r g91)] ⟨s41,s91,trivial⟩ (.s .o (.s .o (.s .o (.s (.g [] [] [.fo (.c 7 1) 0]) (.s (.g [] [] [.fo (.c 7 1) 0]) (.s (.g [] [] [.fo (.c 7 1) 0]) .o)))))) kr kr kr
theorem aCe{x_h:DHost}{x_g:Int}{x_b:DBare}{R_:DHost}(hh:eV x_h x_g x_b=some R_):Fn Try.prog 45 [.agg (fU x_h),.int .i64 x_g,.agg (pQ x_b)] (.agg [.own 3 1 (List.length R_.Words) (fl (eI .i64) R_.Words),.own 64 17 (List.length R_.Guests) (fl bB R_.Guests)]):=kc (s45 x_h x_g x_b R_ hh)
noncomputable def gZ (x_h:DHost)(x_g:Int):Option DBare:=grd ((0:Int)<=x_g/\x_g<((List.length x_h.Guests:Nat):Int)) (some (DBare.mk (DCore.mk ((List.getD x_h.Guests (Int.toNat x_g) default).C).Regs ((List.getD x_h.Guests (Int.toNat x_g) default).C).Pc ((List.getD x_h.Guests (Int.toNat x_g) default).C).Root ((List.getD x_h.Guests (Int.toNat x_g) default).C).Vector ((List.getD x_h.Guests (Int.toNat x_g) default).C).Saved ((List.getD x_h.Guests (Int.toNat x_g) default).C).SavedUser ((List.getD x_h.Guests (Int.toNat x_g) default).C).Cause ((List.getD x_h.Guests (Int.toNat x_g) default).C).Bad ((List.getD x_h.Guests (Int.toNat x_g) default).C).Timer ((List.getD x_h.Guests (Int.toNat x_g) default).C).Waits ((List.getD x_h.Guests (Int.toNat x_g) default).C).User ((List.getD x_h.Guests (Int.toNat x_g) default).C).On ((List.getD x_h.Guests (Int.toNat x_g) default).C).Stopped) ([]:List Int) (List.getD x_h.Guests (Int.toNat x_g) default).In (List.getD x_h.Guests (Int.toNat x_g) default).Out))
noncomputable def g46:Sg tG:=⟨[.st 26,.i .i64],.one (.sb 81),gZ⟩
theorem s46:Sok 46 g46:=sgx [] trivial .o kr kr kr
theorem aGa{x_h:DHost}{x_g:Int}{R_:DBare}(hh:gZ x_h x_g=some R_):Fn Try.prog 46 [.agg (fU x_h),.int .i64 x_g] (.agg [bo (eI .i64) R_.C.Regs,.int .i64 R_.C.Pc,.int .i64 R_.C.Root,.int .i64 R_.C.Vector,.int .i64 R_.C.Saved,.bool R_.C.SavedUser,.int .i64 R_.C.Cause,.int .i64 R_.C.Bad,.int .i64 R_.C.Timer,.bool R_.C.Waits,.bool R_.C.User,.bool R_.C.On,.bool R_.C.Stopped,bo (eI .i64) R_.Mem,bo (eI .i64) R_.In,bo (eI .i64) R_.Out]):=kc (s46 x_h x_g R_ hh)
noncomputable def aGe  (s1:List Bool):Option (List Bool):=some s1
noncomputable def lP (x_a:List Bool)(s2:(List Bool)×Int):Option (LO ((List Bool)×Int) (JO (List Bool) (List Bool))):=
 cond (decide (s2.2<((List.length x_a:Nat):Int)))
  (grd ((0:Int)<=s2.2/\s2.2<((List.length x_a:Nat):Int)) (grd ((0:Int)<=s2.2/\s2.2<((List.length s2.1:Nat):Int)) (some (.next ((List.set s2.1 (Int.toNat s2.2) (List.getD x_a (Int.toNat s2.2) default)),w64 (s2.2+(1:Int)))))))
  (some (.ret (.go s2.1)))
noncomputable def oS (x_a:List Bool):Option (List Bool):=
 grd ((0:Int)<=((List.length x_a:Nat):Int)/\((List.length x_a:Nat):Int)*1<=2^47/\((List.length x_a:Nat):Int)<=2^47) (Option.bind (Option.bind (iter (lP x_a) ((List.replicate (Int.toNat ((List.length x_a:Nat):Int)) false),(0:Int))) LO.val) λj1=>
  JO.run j1 aGe)
noncomputable def g55:Sg tG:=⟨[.row 4],.one (.row 4),oS⟩
theorem s55:Sok 55 g55:=sgx [] trivial (.s .o (.s .o (.j ⟨[],[],[(.s 3,.ro 4)]⟩ (.s .o (.k (.l ⟨[0],[],[(.s 3,.ro 4),(.s 4,.i .i64)]⟩ .o))) .o))) kr kr kr
noncomputable def aFq  (s1:Unit):Option Bool:=some true
noncomputable def lQ (x_a:List Bool)(x_b:List Bool)(s2:Int):Option (LO Int (JO Unit Bool)):=
 cond (decide (s2<((List.length x_a:Nat):Int)))
  (grd ((0:Int)<=s2/\s2<((List.length x_a:Nat):Int)) (grd ((0:Int)<=s2/\s2<((List.length x_b:Nat):Int)) (cond (!((List.getD x_a (Int.toNat s2) default)==(List.getD x_b (Int.toNat s2) default)))
   (some (.ret (.out false)))
   (some (.next (w64 (s2+(1:Int))))))))
  (some (.ret (.go ())))
noncomputable def oR (x_a:List Bool)(x_b:List Bool):Option Bool:=
 cond (!decide (((List.length x_a:Nat):Int)=((List.length x_b:Nat):Int)))
  (some false)
  (Option.bind (Option.bind (iter (lQ x_a x_b) (0:Int)) LO.val) λj1=>
   JO.run j1 aFq)
noncomputable def g56:Sg tG:=⟨[.row 4,.row 4],.one .b,oR⟩
theorem s56:Sok 56 g56:=sgx [] trivial (.s .o (.s .o (.j ⟨[],[],[]⟩ (.s .o (.k (.l ⟨[0,1],[],[(.s 5,.i .i64)]⟩ .o))) .o))) kr kr kr
noncomputable def oX (x_a:List Bool)(x_left:Int):Option Int:=
 cond (decide ((w64 (x_left-((List.length x_a:Nat):Int)))<(0:Int)))
  (some (-1:Int))
  (some (w64 (x_left-((List.length x_a:Nat):Int))))
noncomputable def g54:Sg tG:=⟨[.row 4,.i .i64],.one (.i .i64),oX⟩
theorem s54:Sok 54 g54:=sgx [] trivial .o kr kr kr
theorem aEc:LW 65 ⟨21,[.tmp 4],.seq (.reg false (rg 65 0)) (.seq (.seq (.reg false (rg 65 1)) (.block 0 (.loop (.seq (.seq (.reg false (rg 65 2)) (.cond (.t 9) .skip (.exit 0))) (.seq (.block 1 (.seq (.reg false (rg 65 3)) (.reg false (rg 65 4)))) (.reg false (rg 65 5))))))) (.seq (.reg false (rg 65 7)) .ret))⟩:=kr
noncomputable def nQ  (s1:Int×(List Bool)):Option ((List Bool)×Int):=some (s1.2,s1.1)
noncomputable def gO  (s2:(List Bool)×Int×Int):Option (LO ((List Bool)×Int×Int) (JO (Int×(List Bool)) ((List Bool)×Int))):=
 cond (decide (s2.2.2<((List.length s2.1:Nat):Int)))
  (grd ((0:Int)<=s2.2.2/\s2.2.2<((List.length s2.1:Nat):Int)) (some (.next ((List.set s2.1 (Int.toNat s2.2.2) (decide ((Int.tmod s2.2.1 (3:Int))=(0:Int)))),w64 (s2.2.1+(1:Int)),w64 (s2.2.2+(1:Int))))))
  (some (.ret (.go (s2.2.1,s2.1))))
noncomputable def kG (x_a:List Bool)(x_k:Int):Option ((List Bool)×Int):=
 Option.bind (Option.bind (iter gO (x_a,x_k,(0:Int))) LO.val) λj1=>
  JO.run j1 nQ
theorem aGd{x_a:List Bool}{x_k:Int}{R_:(List Bool)×Int}(hh:kG x_a x_k=some R_):Inl Try.prog 65 [.sref 0 [] 0 (List.length x_a) 1,.int .i64 x_k] [(0,some (rT_4 x_a))] 1 (.int .i64 R_.2) [(0,some (rT_4 R_.1))] 1:=by let z2:EH:=(0,some (rT_4 x_a));unfold kG at hh;refine Inl.start aEc [0,1] [0] (E:=sp 21 [(0,sw 0 x_a),(1,ii x_k)]) (H1:=[z2]) kr kr (sy [0,1] [0] (sp 21 [(0,sw 0 x_a),(1,ii x_k)]) [z2] 1 ?_);obtain⟨j1,hh,hk1⟩:=bind_some hh;refine Aw.join (S:=Int×(List Bool)) (λs1=>sp 21 [(1,ii s1.1)]) (λs1=>[(0,some (rT_4 s1.2))]) 1 (λs1=>nQ s1=some R_) ?_ ?_;{intro s1 hh;unfold nQ at hh;refine sy [4] [0] (sp 21 [(4,ii s1.1)]) [(0,some (rT_4 s1.2))] 1 (Aw.ret ?_);rw[cQ hh];exact pH (r':=ii s1.1) kr (el [some 0] (kT eR) (hn jO bH))};intro Q1 hN1 hR1 hE1;refine sy [0,1,5] [0] (sp 21 [(0,sw 0 x_a),(1,ii x_k),(5,ii 0)]) [z2] 1 (Aw.block ?_);obtain⟨o2,hi2,hk2⟩:=bind_some hh;refine Aw.iter (λ(s2:(List Bool)×Int×Int)=>sp 21 [(0,sw 0 s2.1),(1,ii s2.2.1),(5,ii s2.2.2)]) (λ(s2:(List Bool)×Int×Int)=>[(0,some (rT_4 s2.1))]) 1 hi2 (el [some 0] (kP kr (rs (sw 0 x_a) (ri (ri uN)))) (hn jO bH)) ?_;intro s2 u2 Q2 hh hN2 hX2 hR2;let z3:EH:=(0,some (rT_4 s2.1));let z4:=(0,sw 0 s2.1);let z5:=(1,ii (w64 (s2.2.1+(1:Int))));let z6:=(5,ii s2.2.2);let z7:=(9,bb (decide (s2.2.2<((List.length s2.1:Nat):Int))));let z1:=List.set s2.1 (Int.toNat s2.2.2) (decide ((Int.tmod s2.2.1 (3:Int))=(0:Int)));unfold gO at hh;refine Aw.seq (sy [0,1,5,9] [0] (sp 21 [z4,(1,ii s2.2.1),z6,z7]) [z3] 1 ?_);rcases aFi hh with⟨hb,hh⟩|⟨hb,hh⟩;{refine cF hb (Aw.exit (aJj (hX2 _ _ _ _ _ (cQ hh) ?_)));intro hout;rw[hout]at hk2;refine aKn ?_;obtain rfl:=cQ hk2;exact hN1 (s2.2.1,s2.1) _ _ _ hk1 (el [some 0] (kP kr (ri uN)) (hn jO bH))};refine cT hb (Aw.xskip (λ_ _ _ hq=>dA hq) (Aw.seq (Aw.block (Aw.sreg [0,1,5] [0] ?_))));obtain⟨hg24,hh⟩:=aG hh;refine yjc 6 [(3:Int)≠0,(0:Int)<=s2.2.2/\s2.2.2<((List.length s2.1:Nat):Int)] (sp 21 [z4,(1,ii s2.2.1),z6,z7,(12,sw 0 s2.1),(13,ii s2.2.2),(14,ii s2.2.1),(15,ii (Int.tmod s2.2.1 (3:Int))),(16,bb (decide ((Int.tmod s2.2.1 (3:Int))=(0:Int)))),(17,.ptr 0 [] (0+(Int.toNat s2.2.2)*1))]) [z3] 1 (.cons dd (.cons hg24 .nil)) ?_;let q1:Root:=(rT_4 z1);refine ys (.store 1 (.t 17) (.t 16)) none (xD (c:=eB) (xs:=s2.1) (e:=4) (r:=0) (π:=[]) (o:=0+(Int.toNat s2.2.2)*1) (i:=(Int.toNat s2.2.2)) (off:=0) (vs:=[bb (decide ((Int.tmod s2.2.1 (3:Int))=(0:Int)))]) (y:=(decide ((Int.tmod s2.2.1 (3:Int))=(0:Int)))) (H':=[(0,some q1),z3]) kU kr kr kr kr ltn ltn dd kr kr ?_);exact yt (sp 21 [z4,(1,ii s2.2.1),z6]) [(0,some q1)] 1 (Aw.xreg [0,1,5] [0] (λ_ _ _ hq=>aLg (dA hq)) (yt (sp 21 [z4,z5,z6]) [(0,some q1)] 1 (Aw.oreg (ye (sp 21 [z4,z5,(5,ii (w64 (s2.2.2+(1:Int)))),(10,ii s2.2.2),(11,ii (w64 (s2.2.2+(1:Int))))]) [(0,some q1)] 1 (hN2 (z1,w64 (s2.2.1+(1:Int)),w64 (s2.2.2+(1:Int))) _ _ _ (cQ hh) (el [some 0] (kP kr (rs (sw 0 s2.1) (ri (ri uN)))) (hn jO bH)))))))
noncomputable def aCd  (s1:Int):Option Int:=some s1
noncomputable def kI (x_a:List Bool)(s2:Int×Int):Option (LO (Int×Int) (JO Int Int)):=
 cond (decide (s2.2<((List.length x_a:Nat):Int)))
  (grd ((0:Int)<=s2.2/\s2.2<((List.length x_a:Nat):Int)) (cond (!((List.getD x_a (Int.toNat s2.2) default)==(decide ((Int.tmod s2.1 (3:Int))=(0:Int)))))
   (some (.ret (.out (-1:Int))))
   (some (.next ((w64 (s2.1+(1:Int))),w64 (s2.2+(1:Int)))))))
  (some (.ret (.go s2.1)))
noncomputable def mN (x_a:List Bool)(x_k:Int):Option Int:=
 Option.bind (Option.bind (iter (kI x_a) (x_k,(0:Int))) LO.val) λj1=>
  JO.run j1 aCd
noncomputable def g66:Sg tG:=⟨[.row 4,.i .i64],.one (.i .i64),mN⟩
theorem s66:Sok 66 g66:=sgx [] trivial (.s .o (.j ⟨[],[],[(.s 1,.i .i64)]⟩ (.s .o (.k (.l ⟨[0],[],[(.s 1,.i .i64),(.s 5,.i .i64)]⟩ .o))) .o)) kr kr kr
noncomputable def eD (x_a:DMove):Option DMove:=
 Option.bind (dD x_a.From) λv1=>
 Option.bind (dD x_a.To) λv2=>
 Option.bind (oS x_a.Left) λv3=>
 some (DMove.mk v1 v2 x_a.G x_a.N v3)
noncomputable def g18:Sg tG:=⟨[.st 44],.one (.st 2029),eD⟩
theorem s18:Sok 18 g18:=sgx [(21,.r g21),(55,.r g55)] ⟨s21,s55,trivial⟩ .o kr kr kr
theorem pE{x_a:DMove}{R_:DMove}(hh:eD x_a=some R_):Fn Try.prog 18 [.agg [bo (eI .i64) x_a.From.Words,bo cG x_a.From.Guests,bo (eI .i64) x_a.To.Words,bo cG x_a.To.Guests,.int .i64 x_a.G,.int .i64 x_a.N,bo eB x_a.Left]] (.agg [.own 3 1 (List.length R_.From.Words) (fl (eI .i64) R_.From.Words),.own 64 17 (List.length R_.From.Guests) (fl bB R_.From.Guests),.own 3 1 (List.length R_.To.Words) (fl (eI .i64) R_.To.Words),.own 64 17 (List.length R_.To.Guests) (fl bB R_.To.Guests),.int .i64 R_.G,.int .i64 R_.N,.own 4 1 (List.length R_.Left) (fl eB R_.Left)]):=kc (s18 x_a R_ hh)
noncomputable def fO (x_a:DMove)(x_b:DMove):Option Bool:=
 Option.bind (dE x_a.From x_b.From) λv1=>
 cond (!v1)
  (some false)
  (Option.bind (dE x_a.To x_b.To) λv2=>
  cond (!v2)
   (some false)
   (cond (!decide (x_a.G=x_b.G))
    (some false)
    (cond (!decide (x_a.N=x_b.N))
     (some false)
     (Option.bind (oR x_a.Left x_b.Left) λv3=>
     cond (!v3)
      (some false)
      (some true)))))
noncomputable def g19:Sg tG:=⟨[.st 29,.st 29],.one .b,fO⟩
theorem s19:Sok 19 g19:=sgx [(22,.r g22),(56,.r g56)] ⟨s22,s56,trivial⟩ .o kr kr kr
theorem pA{x_a:DMove}{x_b:DMove}{R_:Bool}(hh:fO x_a x_b=some R_):Fn Try.prog 19 [.agg (uJ x_a),.agg (uJ x_b)] (.bool R_):=kc (s19 x_a x_b R_ hh)
noncomputable def kO (x_a:DMove)(x_left:Int):Option Int:=
 Option.bind (gL x_a.From x_left) λv1=>
 cond (decide (v1<(0:Int)))
  (some (-1:Int))
  (Option.bind (gL x_a.To v1) λv2=>
  cond (decide (v2<(0:Int)))
   (some (-1:Int))
   (Option.bind (oX x_a.Left v2) λv3=>
   cond (decide (v3<(0:Int)))
    (some (-1:Int))
    (some v3)))
noncomputable def g17:Sg tG:=⟨[.st 44,.i .i64],.one (.i .i64),kO⟩
theorem s17:Sok 17 g17:=sgx [(20,.r g20),(54,.r g54)] ⟨s20,s54,trivial⟩ .o kr kr kr
theorem aNf{x_a:DMove}{x_left:Int}{R_:Int}(hh:kO x_a x_left=some R_):Fn Try.prog 17 [.agg [bo (eI .i64) x_a.From.Words,bo cG x_a.From.Guests,bo (eI .i64) x_a.To.Words,bo cG x_a.To.Guests,.int .i64 x_a.G,.int .i64 x_a.N,bo eB x_a.Left],.int .i64 x_left] (.int .i64 R_):=kc (s17 x_a x_left R_ hh)
theorem aFp:LW 24 ⟨18,[.tmp 4],.seq (.reg false (rg 24 0)) (.seq (.reg false (rg 24 1)) (.seq (.reg false (rg 24 2)) (.seq (.reg false (rg 24 3)) (.seq (.reg false (rg 24 4)) .ret))))⟩:=kr
noncomputable def iO (x_a:DMove)(x_k:Int):Option ((List Int)×(List DGuest)×(List Int)×(List DGuest)×(List Bool)×Int):=
 Option.bind (dR x_a.From x_k) λv1=>
 grd (List.length v1.1=(List.length x_a.From.Words)) (grd (List.length v1.2.1=(List.length x_a.From.Guests)) (Option.bind (dR x_a.To v1.2.2) λv2=>
  grd (List.length v2.1=(List.length x_a.To.Words)) (grd (List.length v2.2.1=(List.length x_a.To.Guests)) (Option.bind (kG x_a.Left v2.2.2) λv3=>
   grd (List.length v3.1=(List.length x_a.Left)) (some (v1.1,v1.2.1,v2.1,v2.2.1,v3.1,v3.2))))))
theorem wM{x_a:DMove}{x_k:Int}{R_:(List Int)×(List DGuest)×(List Int)×(List DGuest)×(List Bool)×Int}(hh:iO x_a x_k=some R_):Inl Try.prog 24 [.agg [.sref 0 [] 0 (List.length x_a.From.Words) 1,.sref 1 [] 0 (List.length x_a.From.Guests) 17,.sref 2 [] 0 (List.length x_a.To.Words) 1,.sref 3 [] 0 (List.length x_a.To.Guests) 17,.int .i64 x_a.G,.int .i64 x_a.N,.sref 4 [] 0 (List.length x_a.Left) 1],.int .i64 x_k] [(4,some (rT_4 x_a.Left)),(3,some (rO64 x_a.To.Guests)),(2,some (rI_3 x_a.To.Words)),(1,some (rO64 x_a.From.Guests)),(0,some (rI_3 x_a.From.Words))] 5 (.int .i64 R_.2.2.2.2.2) [(0,some (rI_3 R_.1)),(1,some (rO64 R_.2.1)),(2,some (rI_3 R_.2.2.1)),(3,some (rO64 R_.2.2.2.1)),(4,some (rT_4 R_.2.2.2.2.1))] 5:=by let z1:EH:=(4,some (rT_4 x_a.Left));unfold iO at hh;let q1:Root:=(rI_3 x_a.From.Words);let q2:Root:=(rO64 x_a.From.Guests);let q3:Root:=(rI_3 x_a.To.Words);let z2:=(2,some q3);let q4:Root:=(rO64 x_a.To.Guests);let z3:=(3,some q4);refine Inl.start aFp [0,1] [0,1,2,3,4] (E:=sp 18 [(0,.agg [sw 0 x_a.From.Words,.sref 1 [] 0 (List.length x_a.From.Guests) 17,sw 2 x_a.To.Words,.sref 3 [] 0 (List.length x_a.To.Guests) 17,ii x_a.G,ii x_a.N,sw 4 x_a.Left]),(1,ii x_k)]) (H1:=[(0,some q1),(1,some q2),z2,z3,z1]) kr kr (Aw.sreg [1,2] [0,1,2,3,4,5] ?_);let q5:Root:=⟨29,[sw 0 x_a.From.Words,.sref 1 [] 0 (List.length x_a.From.Guests) 17,sw 2 x_a.To.Words,.sref 3 [] 0 (List.length x_a.To.Guests) 17,ii x_a.G,ii x_a.N,sw 4 x_a.Left]⟩;let z4:=(5,some q5);refine yt (sp 18 [(1,ii x_k),(2,pp 5)]) [(0,some q1),(1,some q2),z2,z3,z1,z4] 6 (Aw.sreg [1,2] [0,1,2,3,4,5] (yu 3 [(5,pp 5),(6,.agg [sw 0 x_a.From.Words,.sref 1 [] 0 (List.length x_a.From.Guests) 17]),(7,ii x_k)] [(0,some q1),(1,some q2),z2,z3,z1,z4] 6 ?_));obtain⟨v1,hv1,hh⟩:=bind_some hh;let z5:EH:=(0,some (rI_3 v1.1));let z6:EH:=(1,some (rO64 v1.2.1));obtain⟨hg3,hh⟩:=aG hh;obtain⟨hg4,hh⟩:=aG hh;refine ys (.call 23 [.t 6,.t 7]) (some 8) (cf (ii v1.2.2) [z5,z6] 6 [0,1] (gX hv1) [.agg [sw 0 x_a.From.Words,.sref 1 [] 0 (List.length x_a.From.Guests) 17],ii x_k] rz (hn bZ (hn bU bH)) eR (hn bU (hn bZ bH)) ?_);refine yt (sp 18 [(1,ii v1.2.2),(2,pp 5)]) [z5,z6,z2,z3,z1,z4] 6 (Aw.sreg [1,2] [0,1,2,3,4,5] (yu 3 [(9,.ptr 5 [] 2),(10,.agg [sw 2 x_a.To.Words,.sref 3 [] 0 (List.length x_a.To.Guests) 17]),(11,ii v1.2.2)] [z5,z6,z2,z3,z1,z4] 6 ?_));obtain⟨v2,hv2,hh⟩:=bind_some hh;let z7:EH:=(2,some (rI_3 v2.1));let z8:EH:=(3,some (rO64 v2.2.1));obtain⟨hg7,hh⟩:=aG hh;obtain⟨hg8,hh⟩:=aG hh;refine ys (.call 23 [.t 10,.t 11]) (some 12) (cf (ii v2.2.2) [z7,z8] 6 [2,3] (gX hv2) [.agg [sw 2 x_a.To.Words,.sref 3 [] 0 (List.length x_a.To.Guests) 17],ii v1.2.2] rz (hn bZ (hn bU bH)) eR (hn bU (hn bZ bH)) ?_);refine yt (sp 18 [(1,ii v2.2.2),(2,pp 5)]) [z5,z6,z7,z8,z1,z4] 6 (Aw.sreg [1] [0,1,2,3,4] (yu 3 [(13,.ptr 5 [] 6),(14,sw 4 x_a.Left),(15,ii v2.2.2)] [z5,z6,z7,z8,z1,z4] 6 ?_));obtain⟨v3,hv3,hh⟩:=bind_some hh;let z9:EH:=(4,some (rT_4 v3.1));obtain⟨hg10,hh⟩:=aG hh;refine ys (.call 65 [.t 14,.t 15]) (some 16) (cf (ii v3.2) [z9] 6 [4] (aGd hv3) [sw 4 x_a.Left,ii v2.2.2] rz (hn jO bH) eR (hn jO bH) ?_);refine yt (sp 18 [(1,ii v3.2)]) [z5,z6,z7,z8,z9] 6 (sy [4] [0,1,2,3,4] (sp 18 [(4,ii v3.2)]) [z5,z6,z7,z8,z9] 6 (Aw.ret ?_));rw[cQ hh];exact pH (r':=ii v3.2) kr (el [some 0,some 1,some 2,some 3,some 4] (kT eR) (hn bU (hn bZ (hn bU (hn bZ (hn jO bH))))))
noncomputable def iS (x_a:DMove)(x_k:Int):Option Int:=
 Option.bind (dS x_a.From x_k) λv1=>
 cond (decide (v1<(0:Int)))
  (some (-1:Int))
  (Option.bind (dS x_a.To v1) λv2=>
  cond (decide (v2<(0:Int)))
   (some (-1:Int))
   (Option.bind (mN x_a.Left v2) λv3=>
   cond (decide (v3<(0:Int)))
    (some (-1:Int))
    (some v3)))
noncomputable def g25:Sg tG:=⟨[.st 29,.i .i64],.one (.i .i64),iS⟩
theorem s25:Sok 25 g25:=sgx [(28,.r g28),(66,.r g66)] ⟨s28,s66,trivial⟩ .o kr kr kr
theorem wU{x_a:DMove}{x_k:Int}{R_:Int}(hh:iS x_a x_k=some R_):Fn Try.prog 25 [.agg (uJ x_a),.int .i64 x_k] (.int .i64 R_):=kc (s25 x_a x_k R_ hh)
noncomputable def aCh  (s1:Unit):Option Bool:=some true
noncomputable def kK (x_a:List Int)(x_b:List Int)(s2:Int):Option (LO Int (JO Unit Bool)):=
 cond (decide (s2<((List.length x_a:Nat):Int)))
  (grd ((0:Int)<=s2/\s2<((List.length x_a:Nat):Int)) (grd ((0:Int)<=s2/\s2<((List.length x_b:Nat):Int)) (cond (!decide ((List.getD x_a (Int.toNat s2) default)=(List.getD x_b (Int.toNat s2) default)))
   (some (.ret (.out false)))
   (some (.next (w64 (s2+(1:Int))))))))
  (some (.ret (.go ())))
noncomputable def mY (x_a:List Int)(x_b:List Int):Option Bool:=
 Option.bind (Option.bind (iter (kK x_a x_b) (0:Int)) LO.val) λj1=>
  JO.run j1 aCh
noncomputable def g77:Sg tG:=⟨[.row 3,.row 3],.one .b,mY⟩
theorem s77:Sok 77 g77:=sgx [] trivial (.s .o (.j ⟨[],[],[]⟩ (.s .o (.k (.l ⟨[1,7,8],[],[(.s 9,.i .i64)]⟩ .o))) .o)) kr kr kr
noncomputable def aGf  (s1:List Int):Option (List Int):=some s1
noncomputable def jG (x_h:DHost)(x_g:Int)(x_page:Int)(s2:(List Int)×Int):Option (LO ((List Int)×Int) (JO (List Int) (List Int))):=
 cond (decide (s2.2<(8:Int)))
  (Option.bind (qN x_h x_g (w64 ((w64 (x_page*(8:Int)))+s2.2))) λv3=>
  grd ((List.length s2.1+List.length ([v3]:List Int))*8<=2^47/\List.length s2.1+List.length ([v3]:List Int)<=2^47) (some (.next ((s2.1++([v3]:List Int)),w64 (s2.2+(1:Int))))))
  (some (.ret (.go s2.1)))
noncomputable def lY (x_h:DHost)(x_g:Int)(x_page:Int):Option (List Int):=
 Option.bind (Option.bind (iter (jG x_h x_g x_page) (([]:List Int),(0:Int))) LO.val) λj1=>
  JO.run j1 aGf
noncomputable def g34:Sg tG:=⟨[.st 26,.i .i64,.i .i64],.one (.row 3),lY⟩
theorem s34:Sok 34 g34:=sgx [(80,.r g80)] ⟨s80,trivial⟩ (.s .o (.s .o (.j ⟨[],[],[(.s 7,.ro 3)]⟩ (.s .o (.k (.l ⟨[1,2,3],[],[(.s 7,.ro 3),(.s 8,.i .i64)]⟩ .o))) .o))) kr kr kr
noncomputable def qM (x_m:DMove)(x_page:Int):Option Bool:=
 grd ((0:Int)<=x_m.G/\x_m.G<((List.length x_m.From.Guests:Nat):Int)) (grd ((0:Int)<=x_page/\x_page<((List.length (List.getD x_m.From.Guests (Int.toNat x_m.G) default).Pages:Nat):Int)) (grd ((0:Int)<=x_m.N/\x_m.N<((List.length x_m.To.Guests:Nat):Int)) (grd ((0:Int)<=x_page/\x_page<((List.length (List.getD x_m.To.Guests (Int.toNat x_m.N) default).Pages:Nat):Int)) (Option.bind (fR x_m.From.Words (DSlot.mk (List.getD (List.getD x_m.From.Guests (Int.toNat x_m.G) default).Pages (Int.toNat x_page) default).Frame (List.getD (List.getD x_m.From.Guests (Int.toNat x_m.G) default).Pages (Int.toNat x_page) default).Write (List.getD (List.getD x_m.From.Guests (Int.toNat x_m.G) default).Pages (Int.toNat x_page) default).Dirty)) λv1=>
  Option.bind (fR x_m.To.Words (DSlot.mk (List.getD (List.getD x_m.To.Guests (Int.toNat x_m.N) default).Pages (Int.toNat x_page) default).Frame (List.getD (List.getD x_m.To.Guests (Int.toNat x_m.N) default).Pages (Int.toNat x_page) default).Write (List.getD (List.getD x_m.To.Guests (Int.toNat x_m.N) default).Pages (Int.toNat x_page) default).Dirty)) λv2=>
  Option.bind (mY v1 v2) λv3=>
  some v3))))
noncomputable def g32:Sg tG:=⟨[.st 29,.i .i64],.one .b,qM⟩
theorem s32:Sok 32 g32:=sgx [(78,.r g78),(77,.r g77)] ⟨s78,s77,trivial⟩ .o kr kr kr
noncomputable def aJb  (s3:Unit):Option Bool:=some true
noncomputable def rA (s4:Int)(s5:Unit):Option (LO Int (JO Unit Bool)):=some (.next (w64 (s4+(1:Int))))
noncomputable def mL (x_m:DMove)(s4:Int):Option (LO Int (JO Unit Bool)):=
 cond (decide (s4<((List.length (List.getD x_m.From.Guests (Int.toNat x_m.G) default).Pages:Nat):Int)))
  (Option.bind (grd ((0:Int)<=s4/\s4<((List.length (List.getD x_m.From.Guests (Int.toNat x_m.G) default).Pages:Nat):Int)) (cond (List.getD (List.getD x_m.From.Guests (Int.toNat x_m.G) default).Pages (Int.toNat s4) default).Dirty
   (some (.out (.ret (.out false))))
   (grd ((0:Int)<=s4/\s4<((List.length x_m.Left:Nat):Int)) (cond (!(List.getD x_m.Left (Int.toNat s4) default))
    (Option.bind (qM x_m s4) λv6=>
    cond (!v6)
     (some (.out (.ret (.out false))))
     (some (.go ())))
    (some (.go ())))))) λj5=>
   JO.run j5 (rA s4))
  (some (.ret (.go ())))
noncomputable def nK (x_m:DMove):Option Bool:=
 Option.bind (fH x_m.From x_m.G) λv1=>
 cond (!v1)
  (some false)
  (Option.bind (fH x_m.To x_m.N) λv2=>
  cond (!v2)
   (some false)
   (cond (!decide (((List.length x_m.Left:Nat):Int)=(8:Int)))
    (some false)
    (Option.bind (grd ((0:Int)<=x_m.G/\x_m.G<((List.length x_m.From.Guests:Nat):Int)) (Option.bind (iter (mL x_m) (0:Int)) LO.val)) λj3=>
     JO.run j3 aJb)))
noncomputable def g9:Sg tG:=⟨[.st 29],.one .b,nK⟩
theorem s9:Sok 9 g9:=sgx [(31,.r g31),(32,.r g32)] ⟨s31,s32,trivial⟩ (.s .o (.s .o (.j ⟨[],[],[]⟩ (.s .o (.k (.l ⟨[1,32,33],[],[(.s 34,.i .i64)]⟩ (.s .o (.s .o (.j ⟨[1,32,33,34],[],[]⟩ .o .o)))))) .o))) kr kr kr
noncomputable def aIh  (s3:Unit):Option Bool:=some true
noncomputable def wK (s4:Int)(s5:Unit):Option (LO Int (JO Unit Bool)):=some (.next (w64 (s4+(1:Int))))
noncomputable def hT (x_m:DMove)(s4:Int)(v6:List Int)(v7:List Int)(s8:Int):Option (LO Int (JO Unit (LO Int (JO Unit Bool)))):=
 cond (decide (s8<(8:Int)))
  (grd ((0:Int)<=s4/\s4<((List.length x_m.Left:Nat):Int)) (cond (!(List.getD x_m.Left (Int.toNat s4) default))
   (grd ((0:Int)<=s8/\s8<((List.length v6:Nat):Int)) (grd ((0:Int)<=s8/\s8<((List.length v7:Nat):Int)) (cond (!decide ((List.getD v6 (Int.toNat s8) default)=(List.getD v7 (Int.toNat s8) default)))
    (some (.ret (.out (.ret (.out false)))))
    (some (.next (w64 (s8+(1:Int))))))))
   (some (.ret (.go ())))))
  (some (.ret (.go ())))
noncomputable def mO (x_m:DMove)(s4:Int):Option (LO Int (JO Unit Bool)):=
 cond (decide (s4<(8:Int)))
  (Option.bind (grd ((0:Int)<=x_m.G/\x_m.G<((List.length x_m.From.Guests:Nat):Int)) (grd ((0:Int)<=s4/\s4<((List.length (List.getD x_m.From.Guests (Int.toNat x_m.G) default).Pages:Nat):Int)) (cond (List.getD (List.getD x_m.From.Guests (Int.toNat x_m.G) default).Pages (Int.toNat s4) default).Dirty
   (some (.out (.ret (.out false))))
   (Option.bind (lY x_m.From x_m.G s4) λv6=>
   Option.bind (lY x_m.To x_m.N s4) λv7=>
   Option.bind (iter (hT x_m s4 v6 v7) (0:Int)) LO.val)))) λj5=>
   JO.run j5 (wK s4))
  (some (.ret (.go ())))
noncomputable def nA (x_m:DMove):Option Bool:=
 Option.bind (kS x_m.From x_m.G) λv1=>
 cond (!v1)
  (some false)
  (Option.bind (kS x_m.To x_m.N) λv2=>
  cond (!v2)
   (some false)
   (cond (!decide (((List.length x_m.Left:Nat):Int)=(8:Int)))
    (some false)
    (Option.bind (Option.bind (iter (mO x_m) (0:Int)) LO.val) λj3=>
     JO.run j3 aIh)))
noncomputable def g10:Sg tG:=⟨[.st 29],.one .b,nA⟩
theorem s10:Sok 10 g10:=sgx [(33,.r g33),(34,.r g34)] ⟨s33,s34,trivial⟩ (.s .o (.s .o (.j ⟨[],[],[]⟩ (.s .o (.k (.l ⟨[1],[],[(.s 3,.i .i64)]⟩ (.s .o (.j ⟨[1,3],[],[]⟩ (.k (.s .o (.s .o (.s .o (.k (.l ⟨[1,3,4,5],[],[(.s 6,.i .i64)]⟩ .o)))))) .o))))) .o))) kr kr kr
noncomputable def pJ (x_m:DMove):Option DMove:=
 Option.bind (jA x_m.From) λv1=>
 Option.bind (jA x_m.To) λv2=>
 grd (List.length x_m.Left*1<=2^47/\List.length x_m.Left<=2^47) (some (DMove.mk v1 v2 x_m.G x_m.N x_m.Left))
noncomputable def g67:Sg tG:=⟨[.st 29],.one (.st 2029),pJ⟩
theorem s67:Sok 67 g67:=sgx [(49,.r g49)] ⟨s49,trivial⟩ .o kr kr kr
noncomputable def sT  (s1:List DSlot):Option (List DSlot):=some s1
noncomputable def dO  (s2:(List DSlot)×Int):Option (LO ((List DSlot)×Int) (JO (List DSlot) (List DSlot))):=
 cond (decide (s2.2<((List.length (List.replicate (Int.toNat (8:Int)) (DSlot.mk (0:Int) false false)):Nat):Int)))
  (grd ((0:Int)<=s2.2/\s2.2<((List.length s2.1:Nat):Int)) (some (.next ((List.set s2.1 (Int.toNat s2.2) (DSlot.mk (-1:Int) false false)),w64 (s2.2+(1:Int))))))
  (some (.ret (.go s2.1)))
noncomputable def eP:Option (List DSlot):=
 Option.bind (Option.bind (iter dO ((List.replicate (Int.toNat (8:Int)) (DSlot.mk (0:Int) false false)),(0:Int))) LO.val) λj1=>
  JO.run j1 sT
noncomputable def g44:Sg tG:=⟨[],.one (.row 66),eP⟩
theorem s44:Sok 44 g44:=sgx [] trivial (.s .o (.s .o (.j ⟨[],[],[(.s 1,.ro 66)]⟩ (.s .o (.k (.l ⟨[5],[],[(.s 1,.ro 66),(.s 6,.i .i64)]⟩ .o))) .o))) kr kr kr
theorem uM{R_:(List DSlot)}(hh:eP=some R_):Fn Try.prog 44 [] (.own 66 3 (List.length R_) (fl hZ R_)):=kc (s44  R_ hh)
noncomputable def aFu  (s1:List Bool):Option (List Bool):=some s1
noncomputable def jE  (s2:(List Bool)×Int):Option (LO ((List Bool)×Int) (JO (List Bool) (List Bool))):=
 cond (decide (s2.2<((List.length (List.replicate (Int.toNat (8:Int)) false):Nat):Int)))
  (grd ((0:Int)<=s2.2/\s2.2<((List.length s2.1:Nat):Int)) (some (.next ((List.set s2.1 (Int.toNat s2.2) true),w64 (s2.2+(1:Int))))))
  (some (.ret (.go s2.1)))
noncomputable def mF:Option (List Bool):=
 Option.bind (Option.bind (iter jE ((List.replicate (Int.toNat (8:Int)) false),(0:Int))) LO.val) λj1=>
  JO.run j1 aFu
noncomputable def g47:Sg tG:=⟨[],.one (.row 4),mF⟩
theorem s47:Sok 47 g47:=sgx [] trivial (.s .o (.s .o (.j ⟨[],[],[(.s 1,.ro 4)]⟩ (.s .o (.k (.l ⟨[5],[],[(.s 1,.ro 4),(.s 6,.i .i64)]⟩ .o))) .o))) kr kr kr
theorem aLl{R_:(List Bool)}(hh:mF=some R_):Fn Try.prog 47 [] (.own 4 1 (List.length R_) (fl eB R_)):=kc (s47  R_ hh)
theorem aDx:LW 13 ⟨61,[.cell 6 true 7,.tmp 7],.seq (.reg false (rg 13 0)) (.seq (.seq (.reg false (rg 13 1)) (.cond (.t 19) (.seq (.reg false (rg 13 2)) .ret) .skip)) (.seq (.reg false (rg 13 3)) (.seq (.seq (.reg false (rg 13 4)) (.cond (.t 25) (.seq (.reg false (rg 13 5)) .ret) .skip)) (.seq (.reg false (rg 13 6)) (.seq (.regd (rg 13 7) (rg 13 8)) (.seq (.regd (rg 13 9) (rg 13 10)) (.seq (.regd (rg 13 11) (rg 13 12)) .ret)))))))⟩:=kr
noncomputable def fT (x_from:DHost)(x_to:DHost)(x_g:Int):Option (DMove×Bool):=
 Option.bind (fH x_from x_g) λv1=>
 cond (!v1)
  (some ((DMove.mk (DHost.mk ([]:List Int) ([]:List DGuest)) (DHost.mk ([]:List Int) ([]:List DGuest)) (0:Int) (0:Int) ([]:List Bool)),false))
  (Option.bind (kM x_to) λv2=>
  cond (!v2)
   (some ((DMove.mk (DHost.mk ([]:List Int) ([]:List DGuest)) (DHost.mk ([]:List Int) ([]:List DGuest)) (0:Int) (0:Int) ([]:List Bool)),false))
   (Option.bind (kF x_to.Guests) λv3=>
   cond (decide (v3=(-1:Int)))
    (some ((DMove.mk (DHost.mk ([]:List Int) ([]:List DGuest)) (DHost.mk ([]:List Int) ([]:List DGuest)) (0:Int) (0:Int) ([]:List Bool)),false))
    (Option.bind (eH x_from) λv4=>
    grd ((0:Int)<=x_g/\x_g<((List.length x_from.Guests:Nat):Int)) (Option.bind (lE (List.getD x_from.Guests (Int.toNat x_g) default).Pages) λv5=>
     grd ((0:Int)<=x_g/\x_g<((List.length v4.Guests:Nat):Int)) (Option.bind eP  λv6=>
      Option.bind (gV x_to.Guests v3 (DGuest.mk true (DCore.mk ([]:List Int) (0:Int) (0:Int) (0:Int) (0:Int) false (0:Int) (0:Int) (0:Int) false false false false) v6 ([]:List Int) ([]:List Int))) λv7=>
      Option.bind (gZ x_from x_g) λv8=>
      Option.bind (eV (DHost.mk x_to.Words v7) v3 v8) λv9=>
      Option.bind mF  λv10=>
      some ((DMove.mk (DHost.mk v4.Words (List.set v4.Guests (Int.toNat x_g) (DGuest.mk (List.getD v4.Guests (Int.toNat x_g) default).Live (DCore.mk ((List.getD v4.Guests (Int.toNat x_g) default).C).Regs ((List.getD v4.Guests (Int.toNat x_g) default).C).Pc ((List.getD v4.Guests (Int.toNat x_g) default).C).Root ((List.getD v4.Guests (Int.toNat x_g) default).C).Vector ((List.getD v4.Guests (Int.toNat x_g) default).C).Saved ((List.getD v4.Guests (Int.toNat x_g) default).C).SavedUser ((List.getD v4.Guests (Int.toNat x_g) default).C).Cause ((List.getD v4.Guests (Int.toNat x_g) default).C).Bad ((List.getD v4.Guests (Int.toNat x_g) default).C).Timer ((List.getD v4.Guests (Int.toNat x_g) default).C).Waits ((List.getD v4.Guests (Int.toNat x_g) default).C).User ((List.getD v4.Guests (Int.toNat x_g) default).C).On ((List.getD v4.Guests (Int.toNat x_g) default).C).Stopped) v5 (List.getD v4.Guests (Int.toNat x_g) default).In (List.getD v4.Guests (Int.toNat x_g) default).Out))) v9 x_g v3 v10),true))))))
theorem pV{x_from:DHost}{x_to:DHost}{x_g:Int}{R_:DMove×Bool}(hh:fT x_from x_to x_g=some R_):Fn Try.prog 13 [.agg (fU x_from),.agg (fU x_to),.int .i64 x_g] (.tup [.agg [.own 3 1 (List.length R_.1.From.Words) (fl (eI .i64) R_.1.From.Words),.own 64 17 (List.length R_.1.From.Guests) (fl bB R_.1.From.Guests),.own 3 1 (List.length R_.1.To.Words) (fl (eI .i64) R_.1.To.Words),.own 64 17 (List.length R_.1.To.Guests) (fl bB R_.1.To.Guests),.int .i64 R_.1.G,.int .i64 R_.1.N,.own 4 1 (List.length R_.1.Left) (fl eB R_.1.Left)],.bool R_.2]):=by let z4:EH:=(0,some (rB26 x_from));let z5:EH:=(1,some (rB26 x_to));let z6:=(10,pp 13);let z7:=(2,ii x_g);let z8:EV:=(29,.ptr 5 [] 1);let z9:=(3,pp 0);let z10:=(31,ii x_g);let z11:EV:=(32,.ptr 0 [] 1);let z12:=(33,bo bG x_from.Guests);let z13:=(34,ii x_g);let z14:EV:=(35,.bptr (fl bG x_from.Guests) (Int.toNat x_g*17));let z15:EV:=(36,.bptr (fl bG x_from.Guests) (Int.toNat x_g*17+14));let z16:=(4,pp 1);let z17:=(42,bo (eI .i64) x_to.Words);let z18:=(44,bo bG x_to.Guests);let z19:EV:=(53,.agg (fU x_from));let z20:=(6,pp 2);let z21:=(9,pp 5);let z1:=List.getD x_from.Guests (Int.toNat x_g) default;unfold fT at hh;refine Fn.start aDx [0,1,2] (E:=sp 61 [(0,.agg (fU x_from)),(1,.agg (fU x_to)),z7]) kr (v:= .tup [.agg [sw 0 R_.1.From.Words,.sref 1 [] 0 (List.length R_.1.From.Guests) 17,sw 2 R_.1.To.Words,.sref 3 [] 0 (List.length R_.1.To.Guests) 17,ii R_.1.G,ii R_.1.N,sw 4 R_.1.Left],bb R_.2]) (Hr:=[(4,some (rT_4 R_.1.Left)),(3,some (rO64 R_.1.To.Guests)),(2,some (rI_3 R_.1.To.Words)),(1,some (rO64 R_.1.From.Guests)),(0,some (rI_3 R_.1.From.Words))]) (k:=5) kr (Aw.sreg [2,3,4,6] [0,1,2] ?_);let q1:Root:=⟨29,[.nil,.nil,.nil,.nil,ii 0,ii 0,.nil]⟩;let z22:=(2,some q1);refine yt (sp 61 [z7,z9,z16,z20]) [z4,z5,z22] 3 (Aw.seq (Aw.sreg [2,3,4,6,19] [0,1,2] (yj 2  (sp 61 [z7,z9,z16,z20,(11,.agg (fU x_from)),(12,ii x_g)]) [z4,z5,z22] 3 ?_)));obtain⟨v1,hv1,hh⟩:=bind_some hh;refine ys (.call 31 [.t 11,.t 12]) (some 13) (bE (r:=bb v1) (v:=bb v1) (Hr:=[]) (n':=3) (xA hv1) (cE (vs:=[.agg (fU x_from),ii x_g]) kr (bD (aC (rP (rE _))) (cz1 cA))) rfl rfl kr ?_);refine yu 2 [(13,bb v1),(14,bb (!v1)),(15,bb (!v1))] [z4,z5,z22] 3 ?_;rcases bJ hh with⟨hb,hh⟩|⟨hb,hh⟩;{refine yb 14 hb (yb 15 hb (yt (sp 61 [z7,z9,z16,z20,(19,bb true)]) [z4,z5,z22] 3 (cT rfl (sy [6,7] [2] (sp 61 [z20,(7,bb false)]) [z22] 3 (Aw.ret (cL ?_))))));rw[cQ hh];exact pH (r':= .tup [.agg [.nil,.nil,.nil,.nil,ii 0,ii 0,.nil],bb false]) kr (Ent.list [none,none,none,none,none] rfl rfl (Nat.zero_le _) (kT (jV rz)) (kX dd rfl rfl (kX dd rfl rfl (kX dd rfl rfl (kX dd rfl rfl (kX dd rfl rfl bH))))))};refine yb 14 hb (yb 15 hb (yu 1 [(14,bb false),(15,bb false),(16,.agg (fU x_to))] [z4,z5,z22] 3 ?_));obtain⟨v2,hv2,hh⟩:=bind_some hh;refine yg (.call 39 [.t 16]) (some 17) 15 false (bE (r:=bb v2) (v:=bb v2) (Hr:=[]) (n':=3) (aNb hv2) (cE (vs:=[.agg (fU x_to)]) kr (bD (aC (rP (rE _))) cA)) rfl rfl kr ?_);refine yt (sp 61 [z7,z9,z16,z20,(19,bb (!v2))]) [z4,z5,z22] 3 ?_;rcases bJ hh with⟨hb,hh⟩|⟨hb,hh⟩;{refine cT hb (sy [6,7] [2] (sp 61 [z20,(7,bb false)]) [z22] 3 (Aw.ret (cL ?_)));rw[cQ hh];exact pH (r':= .tup [.agg [.nil,.nil,.nil,.nil,ii 0,ii 0,.nil],bb false]) kr (Ent.list [none,none,none,none,none] rfl rfl (Nat.zero_le _) (kT (jV rz)) (kX dd rfl rfl (kX dd rfl rfl (kX dd rfl rfl (kX dd rfl rfl (kX dd rfl rfl bH))))))};refine cF hb (Aw.xskip (λ_ _ _ hq=>dA hq) (Aw.sreg [2,3,4,6,8] [0,1,2] (yj 2  (sp 61 [z7,z9,z16,z20,(19,bb (!v2)),(21,.ptr 1 [] 1),(22,bo bG x_to.Guests)]) [z4,z5,z22] 3 ?_)));obtain⟨v3,hv3,hh⟩:=bind_some hh;let z23:=(25,bb (decide (v3=(-1:Int))));let z24:=(8,ii v3);refine ys (.call 40 [.t 22]) (some 23) (bE (r:=ii v3) (v:=ii v3) (Hr:=[]) (n':=3) (aFv hv3) (cE (vs:=[bo bG x_to.Guests]) kr (bD (aC (cP (aL vR))) cA)) rfl rfl kr ?_);refine yt (sp 61 [z7,z9,z16,z20,z24]) [z4,z5,z22] 3 (Aw.seq (sy [2,3,4,6,8,25] [0,1,2] (sp 61 [z7,z9,z16,z20,z24,z23]) [z4,z5,z22] 3 ?_));rcases bJ hh with⟨hb,hh⟩|⟨hb,hh⟩;{refine cT hb (sy [6,7] [2] (sp 61 [z20,(7,bb false)]) [z22] 3 (Aw.ret (cL ?_)));rw[cQ hh];exact pH (r':= .tup [.agg [.nil,.nil,.nil,.nil,ii 0,ii 0,.nil],bb false]) kr (Ent.list [none,none,none,none,none] rfl rfl (Nat.zero_le _) (kT (jV rz)) (kX dd rfl rfl (kX dd rfl rfl (kX dd rfl rfl (kX dd rfl rfl (kX dd rfl rfl bH))))))};refine cF hb (Aw.xskip (λ_ _ _ hq=>dA hq) (Aw.sreg [2,3,4,6,8,9] [0,1,2,3,4,5] (yj 1  (sp 61 [z7,z9,z16,z20,z24,z23,(27,.agg (fU x_from))]) [z4,z5,z22] 3 ?_)));obtain⟨v4,hv4,hh⟩:=bind_some hh;let z25:EV:=(30,.sref 4 [] 0 (List.length v4.Guests) 17);let z26:EV:=(50,.agg [sw 3 v4.Words,.sref 7 [] 0 (List.length v4.Guests) 17]);let z2:=List.getD v4.Guests (Int.toNat x_g) default;let q2:Root:=(rO64 v4.Guests);let z27:=(4,some q2);let q3:Root:=(rI_3 v4.Words);let z28:=(3,some q3);refine ys (.call 41 [.t 27]) (some 28) (bE (r:= .agg [.own 3 1 (List.length v4.Words) (fl (eI .i64) v4.Words),.own 64 17 (List.length v4.Guests) (fl bB v4.Guests)]) (v:= .agg [sw 3 v4.Words,.sref 4 [] 0 (List.length v4.Guests) 17]) (Hr:=[z27,z28]) (n':=5) (aDp hv4) (cE (vs:=[.agg (fU x_from)]) kr (bD (aC (rP (rE _))) cA)) nrr nrr kr ?_);let q4:Root:=⟨26,[sw 3 v4.Words,.sref 4 [] 0 (List.length v4.Guests) 17]⟩;let z29:=(5,some q4);refine yt (sp 61 [z7,z9,z16,z20,z24,z21]) [z4,z5,z22,z28,z27,z29] 6 (Aw.sregd [2,3,4,6,8,9] [0,1,2,3,4,5,6] [] kr (dj 6 (sp 61 [z7,z9,z16,z20,z24,z21,z8,z25,z10,z11,z12,z13]) [z4,z5,z22,z28,z27,z29] 6 ?_));obtain⟨hg3,hh⟩:=aG hh;refine ds (.iadr 17 (.t 33) (.t 34)) (some 35) (bHa rfl kr (bHi (kd:= .i64) (c:=bG) (xs:=x_from.Guests) aQz dd kr kr hg3 ?_));refine dj 1 (sp 61 [z7,z9,z16,z20,z24,z21,z8,z25,z10,z11,z12,z13,z14,z15]) [z4,z5,z22,z28,z27,z29] 6 (ds (.load false 1 (.t 36)) (some 37) (bHa rfl kr (bFi (c:=bG) (xs:=x_from.Guests) (o:=Int.toNat x_g*17+14) (i:=(Int.toNat x_g)) (off:=14) (v:=bo hZ z1.Pages) aQz kr ltn ltn dd kr ?_)));obtain⟨v5,hv5,hh⟩:=bind_some hh;let z30:EV:=(38,.sref 6 [] 0 (List.length v5) 3);let z31:EH:=(6,some (rC66 v5));let z3:=DGuest.mk z2.Live z2.C v5 z2.In z2.Out;refine ds (.call 42 [.t 37]) (some 38) (lO rfl (bE (r:= .own 66 3 (List.length v5) (fl hZ v5)) (v:= .sref 6 [] 0 (List.length v5) 3) (Hr:=[z31]) (n':=7) (aHy hv5) (cE (vs:=[bo hZ z1.Pages]) kr (bD (aC (cP (aL vX))) cA)) nrr nrr kr ⟨⟨⟨by decide,fF (n:=6) (n0:=6) (r:= .own 66 3 (List.length v5) (fl hZ v5)) (v:= .sref 6 [] 0 (List.length v5) 3) (Hr:=[z31]) (n':=7) kr dd⟩,Hld.un ?_⟩⟩));refine dt (sp 61 [z7,z9,z16,z20,z24,z21,z8,z25,z10,z11,z12,z13,z14,z15,(37,bo hZ z1.Pages),z30]) [z31,z4,z5,z22,z28,z27,z29] 7 ?_;obtain⟨hg4,hh⟩:=aG hh;refine yjc 2 [(0:Int)<=x_g/\x_g<((List.length v4.Guests:Nat):Int)] (sp 61 [z7,z9,z16,z20,z24,z21,z8,z25,z10,z11,z12,z13,z14,z15,(37,bo hZ z1.Pages),z30,(39,.ptr 4 [] (0+(Int.toNat x_g)*17)),(40,.ptr 4 [] (0+(Int.toNat x_g)*17+14))]) [z31,z4,z5,z22,z28,z27,z29] 7 (.cons hg4 .nil) (ys (.store 1 (.t 40) (.t 38)) none (bDi (c:=bB) (xs:=v4.Guests) (e:=64) (r:=4) (o:=0+(Int.toNat x_g)*17+14) (i:=(Int.toNat x_g)) (off:=14) (vs:=[.sref 6 [] 0 (List.length v5) 3]) aE kr kr kr kr ltn ltn dd ?_));refine yt (sp 61 [z7,z9,z16,z20,z24,z21]) [z4,z5,z22,z28,(4,some ⟨64,aV (fl bB v4.Guests) (0+(Int.toNat x_g)*17+14) [.sref 6 [] 0 (List.length v5) 3]⟩),z29,z31] 7 ?_;let q5:Root:=⟨26,[sw 3 v4.Words,.sref 7 [] 0 (List.length v4.Guests) 17]⟩;let z32:=(5,some q5);refine Aw.ent (Ent.foldP (c:=bB) (xs:=v4.Guests) (i:=(Int.toNat x_g)) (off:=14) (o:=0+(Int.toNat x_g)*17+14) (y:=z3) (R:=4) (e:=64) (us2:=sp 61 [z7,z9,z16,z20,z24,z21]) (H2:=[z4,z5,z22,z28,z32]) (L:=[some (some 6)]) (ws:=[.own 66 3 (List.length v5) (fl hZ v5)]) aE kr ltn ltn (Nat.le_of_ble_eq_true rfl) kr (bMs kr eqn bMo) (by rfl) (by rfl) (bLj kr (aEn (u:=ii x_g) kr (.same _) (aEn (u:=pp 0) kr (.same _) (aEn (u:=pp 1) kr (.same _) (aEn (u:=pp 2) kr (.same _) (aEn (u:=ii v3) kr (.same _) (aEn (u:=pp 5) kr (.same _) bNd))))))) (aPm (t:=(rB26 x_from)) rfl kr rfl zX (aPm (t:=(rB26 x_to)) rfl kr rfl zX (aPm (t:=q1) rfl kr rfl zX (aPm (t:=q3) rfl kr rfl zX (aPm (t:=q4) rfl kr rfl (bHc (.same _) (bHc (.sref _ _ _ _ eqn) bNa)) bOl)))))) (Aw.sregd [2,3,6,8,9,10] [0,2,3,5,7,12,13] [8,9,10,11] kr ?_);let q6:Root:=(rO64 (List.set v4.Guests (Int.toNat x_g) z3));let z33:=(7,some q6);refine dj 5 (sp 61 [z7,z9,z16,z20,z24,z21,(41,pp 1),z17,(43,.ptr 1 [] 1),z18,(45,ii v3)]) [z33,z4,z5,z22,z28,z32] 8 ?_;obtain⟨v6,hv6,hh⟩:=bind_some hh;let z34:EV:=(46,.sref 8 [] 0 (List.length v6) 3);let z35:EV:=(47,.agg (bb true:: .nil::nV [.sref 8 [] 0 (List.length v6) 3,.nil,.nil]));let z36:EH:=(8,some (rC66 v6));refine ds (.call 44 []) (some 46) (lO rfl (bE (r:= .own 66 3 (List.length v6) (fl hZ v6)) (v:= .sref 8 [] 0 (List.length v6) 3) (Hr:=[z36]) (n':=9) (uM hv6) (cE (vs:=[]) kr cA) nrr nrr kr ⟨⟨⟨by decide,fF (n:=8) (n0:=8) (r:= .own 66 3 (List.length v6) (fl hZ v6)) (v:= .sref 8 [] 0 (List.length v6) 3) (Hr:=[z36]) (n':=9) kr dd⟩,Hld.un ?_⟩⟩));refine dj 1 (sp 61 [z7,z9,z16,z20,z24,z21,(41,pp 1),z17,(43,.ptr 1 [] 1),z18,(45,ii v3),z34,z35]) [z36,z33,z4,z5,z22,z28,z32] 9 ?_;obtain⟨v7,hv7,hh⟩:=bind_some hh;let z37:EH:=(12,some (rO64 v7));let z38:EV:=(51,.agg [bo (eI .i64) x_to.Words,.sref 12 [] 0 (List.length v7) 17]);refine ds (.call 43 [.t 44,.t 45,.t 47]) (some 48) (lO rfl (aRo (args:=[bo bG x_to.Guests,ii v3,.agg (bb true:: .nil::nV [.sref 8 [] 0 (List.length v6) 3,.nil,.nil])]) (args2:=[bo bG x_to.Guests,ii v3,.agg (bb true:: .sref 9 [] 0 0 1::nV [.sref 8 [] 0 (List.length v6) 3,.sref 10 [] 0 0 1,.sref 11 [] 0 0 1])]) kr (Ent.trans (Ent.nils (n:=11) (e:=3) (xs2:=[bo bG x_to.Guests,ii v3,.agg (bb true:: .sref 9 [] 0 0 1::nV [.sref 8 [] 0 (List.length v6) 3,.sref 10 [] 0 0 1,.sref 11 [] 0 0 1])]) (aJ (.same _) (aJ (.same _) (aJ (.agg _ _ (aJ (.same _) (aJ (.same _) (aJ (.same _) (aJ (.same _) (aJ (.same _) (aJ (.same _) (aJ (.same _) (aJ (.same _) (aJ (.same _) (aJ (.same _) (aJ (.same _) (aJ (.same _) (aJ (.same _) (aJ (.same _) (aJ (.same _) (aJ (.same _) (aJ (.nil _) sC)))))))))))))))))) sC)))) (Ent.trans (Ent.nils (n:=10) (e:=3) (xs2:=[bo bG x_to.Guests,ii v3,.agg (bb true:: .sref 9 [] 0 0 1::nV [.sref 8 [] 0 (List.length v6) 3,.sref 10 [] 0 0 1,.nil])]) (aJ (.same _) (aJ (.same _) (aJ (.agg _ _ (aJ (.same _) (aJ (.same _) (aJ (.same _) (aJ (.same _) (aJ (.same _) (aJ (.same _) (aJ (.same _) (aJ (.same _) (aJ (.same _) (aJ (.same _) (aJ (.same _) (aJ (.same _) (aJ (.same _) (aJ (.same _) (aJ (.same _) (aJ (.nil _) (aJ (.same _) sC)))))))))))))))))) sC)))) (Ent.nils (n:=9) (e:=3) (xs2:=[bo bG x_to.Guests,ii v3,.agg (bb true:: .sref 9 [] 0 0 1::nV [.sref 8 [] 0 (List.length v6) 3,.nil,.nil])]) (aJ (.same _) (aJ (.same _) (aJ (.agg _ _ (aJ (.same _) (aJ (.nil _) (aJ (.same _) (aJ (.same _) (aJ (.same _) (aJ (.same _) (aJ (.same _) (aJ (.same _) (aJ (.same _) (aJ (.same _) (aJ (.same _) (aJ (.same _) (aJ (.same _) (aJ (.same _) (aJ (.same _) (aJ (.same _) (aJ (.same _) sC)))))))))))))))))) sC)))))) (Inl.frameB (v':= .sref 12 [] 0 (List.length v7) 17) (Hp':=[z37]) (n':=13) [9,8,10,11] (uX hv7) rfl rfl rfl rz rfl (hq ⟨3,[]⟩ (aO rfl) (hq ⟨3,[]⟩ (aO rfl) (hn jU (hq ⟨3,[]⟩ (aO rfl) bH)))) aJs rfl (hn bZ bH) rfl) ⟨⟨⟨by decide,bJb (A:=[z37,(9,none),(8,none),(10,none),(11,none),(11,some ⟨3,[]⟩),(10,some ⟨3,[]⟩),(9,some ⟨3,[]⟩)]) kr kr⟩,Hld.un ?_⟩⟩));refine dt (sp 61 [z7,z9,z16,z20,z24,z21,z6,(41,pp 1),z17,(43,.ptr 1 [] 1),z18,(45,ii v3),z34,z35,(48,.sref 12 [] 0 (List.length v7) 17),(49,.agg [bo (eI .i64) x_to.Words,.sref 12 [] 0 (List.length v7) 17])]) [(13,some ⟨26,[.nil,.nil]⟩),z37,(9,none),(8,none),(10,none),(11,none),(11,some ⟨3,[]⟩),(10,some ⟨3,[]⟩),(9,some ⟨3,[]⟩),z36,z33,z4,z5,z22,z28,z32] 14 ?_;let q7:Root:=⟨26,[bo (eI .i64) x_to.Words,.sref 12 [] 0 (List.length v7) 17]⟩;let z39:=(13,some q7);refine yt (sp 61 [z7,z9,z20,z24,z21,z6]) [z4,z22,z28,z32,z33,z37,z39] 14 (Aw.sregd [6,7] [2,3,7,14,15,16] [] kr (dj 5 (sp 61 [z7,z9,z20,z24,z21,z6,z26,z38,(52,ii v3),z19,(54,ii x_g)]) [z4,z22,z28,z32,z33,z37,z39] 14 ?_));obtain⟨v8,hv8,hh⟩:=bind_some hh;refine ds (.call 46 [.t 53,.t 54]) (some 55) (lO rfl (aUb (r:= .agg (pQ v8)) (v:= .agg (pQ v8)) (Hr:=[]) (n':=14) (aGa hv8) (cE (vs:=[.agg (fU x_from),ii x_g]) kr (bD (aC (rP (rE _))) (cz1 cA))) nrr kr ⟨⟨⟨by decide,fF (n:=14) (n0:=14) (r:= .agg (pQ v8)) (v:= .agg (pQ v8)) (Hr:=[]) (n':=14) kr dd⟩,Hld.un ?_⟩⟩));obtain⟨v9,hv9,hh⟩:=bind_some hh;let z40:EV:=(56,.agg [sw 14 v9.Words,.sref 15 [] 0 (List.length v9.Guests) 17]);let q8:Root:=(rO64 v9.Guests);let z41:=(15,some q8);let q9:Root:=(rI_3 v9.Words);let z42:=(14,some q9);refine ds (.call 45 [.t 51,.t 52,.t 55]) (some 56) (lO rfl (bE (r:= .agg [.own 3 1 (List.length v9.Words) (fl (eI .i64) v9.Words),.own 64 17 (List.length v9.Guests) (fl bB v9.Guests)]) (v:= .agg [sw 14 v9.Words,.sref 15 [] 0 (List.length v9.Guests) 17]) (Hr:=[z41,z42]) (n':=16) (aCe hv9) (cE (vs:=[.agg [bo (eI .i64) x_to.Words,.sref 12 [] 0 (List.length v7) 17],ii v3,.agg (pQ v8)]) kr (bD (aW (aA (aC (cP (aL aP))) (aA (aX (B:=bG) (xs:=v7) (e:=64) aY aE eqn kr) bX))) (cz1 (bD (aC (rP (aFd _))) cA)))) nrr nrr kr ⟨⟨⟨by decide,fF (n:=14) (n0:=14) (r:= .agg [.own 3 1 (List.length v9.Words) (fl (eI .i64) v9.Words),.own 64 17 (List.length v9.Guests) (fl bB v9.Guests)]) (v:= .agg [sw 14 v9.Words,.sref 15 [] 0 (List.length v9.Guests) 17]) (Hr:=[z41,z42]) (n':=16) kr dd⟩,Hld.un ?_⟩⟩));refine dj 2 (sp 61 [z7,z9,z20,z24,z21,z6,z26,z38,(52,ii v3),z19,(54,ii x_g),(55,.agg (pQ v8)),z40,(57,ii x_g),(58,ii v3)]) [z41,z42,z4,z22,z28,z32,z33,z37,z39] 16 ?_;obtain⟨v10,hv10,hh⟩:=bind_some hh;let z43:EH:=(16,some (rT_4 v10));refine ds (.call 47 []) (some 59) (lO rfl (bE (r:= .own 4 1 (List.length v10) (fl eB v10)) (v:=sw 16 v10) (Hr:=[z43]) (n':=17) (aLl hv10) (cE (vs:=[]) kr cA) nrr nrr kr ⟨⟨⟨by decide,fF (n:=16) (n0:=16) (r:= .own 4 1 (List.length v10) (fl eB v10)) (v:=sw 16 v10) (Hr:=[z43]) (n':=17) kr dd⟩,Hld.un ?_⟩⟩));refine dt (sp 61 [z7,z9,z20,z24,z21,z6,z26,z38,(52,ii v3),z19,(54,ii x_g),(55,.agg (pQ v8)),z40,(57,ii x_g),(58,ii v3),(59,sw 16 v10)]) [z43,z41,z42,z4,z22,z28,z32,z33,z37,z39] 17 (yt (sp 61 [z20,(7,bb true)]) [(2,some ⟨29,[sw 3 v4.Words,.sref 7 [] 0 (List.length v4.Guests) 17,sw 14 v9.Words,.sref 15 [] 0 (List.length v9.Guests) 17,ii x_g,ii v3,sw 16 v10]⟩),z28,z33,z42,z41,z43] 17 (Aw.ret ?_));rw[cQ hh];exact pH (r':= .tup [.agg [sw 3 v4.Words,.sref 7 [] 0 (List.length v4.Guests) 17,sw 14 v9.Words,.sref 15 [] 0 (List.length v9.Guests) 17,ii x_g,ii v3,sw 16 v10],bb true]) kr (Ent.list [some 3,some 7,some 14,some 15,some 16] rfl rfl (Nat.zero_le _) (kT (jV rz)) (hn jO (hn bZ (hn bU (hn bZ (hn bU bH))))))
noncomputable def g13:Sg tG:=⟨[.st 26,.st 26,.i .i64],.two (.st 2029) .b,fT⟩
theorem s13:Sok 13 g13:=λx_from x_to x_g R_ hh=>kc (pV (x_from:=x_from) (x_to:=x_to) (x_g:=x_g) hh)
noncomputable def sP (x_g:Int)(s3:Int)(v4:DHost)(v5:DHost)(v6:DGuest)(s7:(List DGuest)×(List Bool)×(List DSlot)):Option (DMove×Bool):=grd ((0:Int)<=s3/\s3<((List.length v5.Guests:Nat):Int)) (some ((DMove.mk (DHost.mk v4.Words s7.1) (DHost.mk v5.Words (List.set v5.Guests (Int.toNat s3) (DGuest.mk v6.Live v6.C s7.2.2 v6.In v6.Out))) x_g s3 s7.2.1),true))
noncomputable def gP (x_g:Int)(s8:(List DGuest)×(List Bool)×(List DSlot)×Int):Option (LO ((List DGuest)×(List Bool)×(List DSlot)×Int) (JO ((List DGuest)×(List Bool)×(List DSlot)) (DMove×Bool))):=
 cond (decide (s8.2.2.2<(8:Int)))
  (grd ((0:Int)<=x_g/\x_g<((List.length s8.1:Nat):Int)) (grd ((0:Int)<=s8.2.2.2/\s8.2.2.2<((List.length (List.getD s8.1 (Int.toNat x_g) default).Pages:Nat):Int)) (grd ((0:Int)<=s8.2.2.2/\s8.2.2.2<((List.length s8.2.2.1:Nat):Int)) (grd ((List.length s8.2.1+List.length ([true]:List Bool))*1<=2^47/\List.length s8.2.1+List.length ([true]:List Bool)<=2^47) (some (.next ((List.set s8.1 (Int.toNat x_g) (DGuest.mk (List.getD s8.1 (Int.toNat x_g) default).Live (DCore.mk ((List.getD s8.1 (Int.toNat x_g) default).C).Regs ((List.getD s8.1 (Int.toNat x_g) default).C).Pc ((List.getD s8.1 (Int.toNat x_g) default).C).Root ((List.getD s8.1 (Int.toNat x_g) default).C).Vector ((List.getD s8.1 (Int.toNat x_g) default).C).Saved ((List.getD s8.1 (Int.toNat x_g) default).C).SavedUser ((List.getD s8.1 (Int.toNat x_g) default).C).Cause ((List.getD s8.1 (Int.toNat x_g) default).C).Bad ((List.getD s8.1 (Int.toNat x_g) default).C).Timer ((List.getD s8.1 (Int.toNat x_g) default).C).Waits ((List.getD s8.1 (Int.toNat x_g) default).C).User ((List.getD s8.1 (Int.toNat x_g) default).C).On ((List.getD s8.1 (Int.toNat x_g) default).C).Stopped) (List.set (List.getD s8.1 (Int.toNat x_g) default).Pages (Int.toNat s8.2.2.2) (DSlot.mk (List.getD (List.getD s8.1 (Int.toNat x_g) default).Pages (Int.toNat s8.2.2.2) default).Frame (List.getD (List.getD s8.1 (Int.toNat x_g) default).Pages (Int.toNat s8.2.2.2) default).Write false)) (List.getD s8.1 (Int.toNat x_g) default).In (List.getD s8.1 (Int.toNat x_g) default).Out)),s8.2.1++([true]:List Bool),List.set s8.2.2.1 (Int.toNat s8.2.2.2) (DSlot.mk (-1:Int) false false),w64 (s8.2.2.2+(1:Int)))))))))
  (some (.ret (.go (s8.1,s8.2.1,s8.2.2.1))))
noncomputable def sO (x_from:DHost)(x_to:DHost)(x_g:Int)(s3:Int):Option (DMove×Bool):=
 cond (decide (s3<(0:Int)))
  (some ((DMove.mk (DHost.mk ([]:List Int) ([]:List DGuest)) (DHost.mk ([]:List Int) ([]:List DGuest)) (0:Int) (0:Int) ([]:List Bool)),false))
  (Option.bind (jA x_from) λv4=>
  Option.bind (jA x_to) λv5=>
  grd ((0:Int)<=x_g/\x_g<((List.length x_from.Guests:Nat):Int)) (Option.bind (fB (DGuest.mk (List.getD x_from.Guests (Int.toNat x_g) default).Live (DCore.mk ((List.getD x_from.Guests (Int.toNat x_g) default).C).Regs ((List.getD x_from.Guests (Int.toNat x_g) default).C).Pc ((List.getD x_from.Guests (Int.toNat x_g) default).C).Root ((List.getD x_from.Guests (Int.toNat x_g) default).C).Vector ((List.getD x_from.Guests (Int.toNat x_g) default).C).Saved ((List.getD x_from.Guests (Int.toNat x_g) default).C).SavedUser ((List.getD x_from.Guests (Int.toNat x_g) default).C).Cause ((List.getD x_from.Guests (Int.toNat x_g) default).C).Bad ((List.getD x_from.Guests (Int.toNat x_g) default).C).Timer ((List.getD x_from.Guests (Int.toNat x_g) default).C).Waits ((List.getD x_from.Guests (Int.toNat x_g) default).C).User ((List.getD x_from.Guests (Int.toNat x_g) default).C).On ((List.getD x_from.Guests (Int.toNat x_g) default).C).Stopped) (List.getD x_from.Guests (Int.toNat x_g) default).Pages (List.getD x_from.Guests (Int.toNat x_g) default).In (List.getD x_from.Guests (Int.toNat x_g) default).Out)) λv6=>
   Option.bind (Option.bind (iter (gP x_g) (v4.Guests,([]:List Bool),v6.Pages,(0:Int))) LO.val) λj7=>
    JO.run j7 (sP x_g s3 v4 v5 v6)))
noncomputable def rY (s9:Int×Int)(s10:Int):Option (LO (Int×Int) (JO Int (DMove×Bool))):=some (.next (s10,w64 (s9.2-(1:Int))))
noncomputable def fJ (x_to:DHost)(s9:Int×Int):Option (LO (Int×Int) (JO Int (DMove×Bool))):=
 cond (decide ((0:Int)<=s9.2))
  (Option.bind (grd ((0:Int)<=s9.2/\s9.2<((List.length x_to.Guests:Nat):Int)) (cond (!(List.getD x_to.Guests (Int.toNat s9.2) default).Live)
   (some (.go s9.2))
   (some (.go s9.1)))) λj10=>
   JO.run j10 (rY s9))
  (some (.ret (.go s9.1)))
noncomputable def kB (x_from:DHost)(x_to:DHost)(x_g:Int):Option (DMove×Bool):=
 Option.bind (kS x_from x_g) λv1=>
 cond (!v1)
  (some ((DMove.mk (DHost.mk ([]:List Int) ([]:List DGuest)) (DHost.mk ([]:List Int) ([]:List DGuest)) (0:Int) (0:Int) ([]:List Bool)),false))
  (Option.bind (nE x_to) λv2=>
  cond (!v2)
   (some ((DMove.mk (DHost.mk ([]:List Int) ([]:List DGuest)) (DHost.mk ([]:List Int) ([]:List DGuest)) (0:Int) (0:Int) ([]:List Bool)),false))
   (Option.bind (Option.bind (iter (fJ x_to) ((-1:Int),(2:Int))) LO.val) λj3=>
    JO.run j3 (sO x_from x_to x_g)))
noncomputable def g14:Sg tG:=⟨[.st 26,.st 26,.i .i64],.two (.st 2029) .b,kB⟩
theorem s14:Sok 14 g14:=sgx [(33,.r g33),(48,.r g48),(49,.r g49),(50,.r g50)] ⟨s33,s48,s49,s50,trivial⟩ (.s .o (.s .o (.s .o (.j ⟨[2,3,4,6],[],[(.s 8,.i .i64)]⟩ (.s .o (.k (.l ⟨[2,3,4,6],[],[(.s 8,.i .i64),(.s 9,.i .i64)]⟩ (.s .o (.j ⟨[2,3,4,6,9],[],[(.s 8,.i .i64)]⟩ .o .o))))) (.s .o (.s .o (.s .o (.j ⟨[6,8,10,11],[],[(.c 10 1,.ro 1064),(.c 10 6,.ro 4),(.c 11 14,.ro 66)]⟩ (.s .o (.k (.l ⟨[2,6,8,10,11],[],[(.c 10 1,.ro 1064),(.c 10 6,.ro 4),(.c 11 14,.ro 66),(.s 12,.i .i64)]⟩ .o))) (.s (.g [] [] [.fo (.c 10 3) 0]) .o))))))))) kr kr kr
theorem aFt{x_from:DHost}{x_to:DHost}{x_g:Int}{R_:DMove×Bool}(hh:kB x_from x_to x_g=some R_):Fn Try.prog 14 [.agg (fU x_from),.agg (fU x_to),.int .i64 x_g] (.tup [.agg [.own 3 1 (List.length R_.1.From.Words) (fl (eI .i64) R_.1.From.Words),.own 64 17 (List.length R_.1.From.Guests) (fl bB R_.1.From.Guests),.own 3 1 (List.length R_.1.To.Words) (fl (eI .i64) R_.1.To.Words),.own 64 17 (List.length R_.1.To.Guests) (fl bB R_.1.To.Guests),.int .i64 R_.1.G,.int .i64 R_.1.N,.own 4 1 (List.length R_.1.Left) (fl eB R_.1.Left)],.bool R_.2]):=kc (s14 x_from x_to x_g R_ hh)
noncomputable def aFz  (s1:List DAct):Option (List DAct):=some s1
noncomputable def pM (s2:(List DAct)×Int)(s3:List DAct):Option (LO ((List DAct)×Int) (JO (List DAct) (List DAct))):=some (.next (s3,w64 (s2.2+(1:Int))))
noncomputable def jF (x_left:List Bool)(s2:(List DAct)×Int):Option (LO ((List DAct)×Int) (JO (List DAct) (List DAct))):=
 cond (decide (s2.2<((List.length x_left:Nat):Int)))
  (Option.bind (grd ((0:Int)<=s2.2/\s2.2<((List.length x_left:Nat):Int)) (cond (List.getD x_left (Int.toNat s2.2) default)
   (grd ((List.length s2.1+List.length ([DAct.mk (2:Int) s2.2]:List DAct))*16<=2^47/\List.length s2.1+List.length ([DAct.mk (2:Int) s2.2]:List DAct)<=2^47) (some (.go (s2.1++([DAct.mk (2:Int) s2.2]:List DAct)))))
   (some (.go s2.1)))) λj3=>
   JO.run j3 (pM s2))
  (some (.ret (.go s2.1)))
noncomputable def pK (x_left:List Bool):Option (List DAct):=
 Option.bind (Option.bind (iter (jF x_left) (([]:List DAct),(0:Int))) LO.val) λj1=>
  JO.run j1 aFz
noncomputable def g68:Sg tG:=⟨[.row 4],.one (.row 106),pK⟩
theorem s68:Sok 68 g68:=sgx [] trivial (.s .o (.s .o (.j ⟨[],[],[(.s 3,.ro 106)]⟩ (.s .o (.k (.l ⟨[7,8],[],[(.s 3,.ro 106),(.s 9,.i .i64)]⟩ (.s .o (.s .o (.j ⟨[7,8,9],[],[(.s 3,.ro 106)]⟩ .o .o)))))) .o))) kr kr kr
noncomputable def jW (x_m:DMove):Option (DHost×DHost×Bool):=
 Option.bind (nK x_m) λv1=>
 cond (!v1)
  (some ((DHost.mk ([]:List Int) ([]:List DGuest)),DHost.mk ([]:List Int) ([]:List DGuest),false))
  (Option.bind (pK x_m.Left) λv2=>
  cond (decide ((0:Int)<((List.length v2:Nat):Int)))
   (some ((DHost.mk ([]:List Int) ([]:List DGuest)),DHost.mk ([]:List Int) ([]:List DGuest),false))
   (Option.bind (iQ x_m.From x_m.G) λv3=>
   Option.bind (gZ x_m.From x_m.G) λv4=>
   Option.bind (eV x_m.To x_m.N v4) λv5=>
   some (v3.1,v5,true)))
noncomputable def g27:Sg tG:=⟨[.st 29],.three (.st 2026) (.st 2026) .b,jW⟩
theorem s27:Sok 27 g27:=sgx [(9,.r g9),(68,.r g68),(69,.r g69),(46,.r g46),(45,.r g45)] ⟨s9,s68,s69,s46,s45,trivial⟩ .o kr kr kr
theorem xS{x_m:DMove}{R_:DHost×DHost×Bool}(hh:jW x_m=some R_):Fn Try.prog 27 [.agg (uJ x_m)] (.tup [.agg [.own 3 1 (List.length R_.1.Words) (fl (eI .i64) R_.1.Words),.own 64 17 (List.length R_.1.Guests) (fl bB R_.1.Guests)],.agg [.own 3 1 (List.length R_.2.1.Words) (fl (eI .i64) R_.2.1.Words),.own 64 17 (List.length R_.2.1.Guests) (fl bB R_.2.1.Guests)],.bool R_.2.2]):=kc (s27 x_m R_ hh)
noncomputable def uU (x_m:DMove)(s2:Unit):Option (DHost×DHost×Bool):=
 Option.bind (pJ x_m) λv3=>
 grd ((0:Int)<=x_m.G/\x_m.G<((List.length x_m.From.Guests:Nat):Int)) (Option.bind (fB (DGuest.mk (List.getD x_m.From.Guests (Int.toNat x_m.G) default).Live (DCore.mk ((List.getD x_m.From.Guests (Int.toNat x_m.G) default).C).Regs ((List.getD x_m.From.Guests (Int.toNat x_m.G) default).C).Pc ((List.getD x_m.From.Guests (Int.toNat x_m.G) default).C).Root ((List.getD x_m.From.Guests (Int.toNat x_m.G) default).C).Vector ((List.getD x_m.From.Guests (Int.toNat x_m.G) default).C).Saved ((List.getD x_m.From.Guests (Int.toNat x_m.G) default).C).SavedUser ((List.getD x_m.From.Guests (Int.toNat x_m.G) default).C).Cause ((List.getD x_m.From.Guests (Int.toNat x_m.G) default).C).Bad ((List.getD x_m.From.Guests (Int.toNat x_m.G) default).C).Timer ((List.getD x_m.From.Guests (Int.toNat x_m.G) default).C).Waits ((List.getD x_m.From.Guests (Int.toNat x_m.G) default).C).User ((List.getD x_m.From.Guests (Int.toNat x_m.G) default).C).On ((List.getD x_m.From.Guests (Int.toNat x_m.G) default).C).Stopped) (List.getD x_m.From.Guests (Int.toNat x_m.G) default).Pages (List.getD x_m.From.Guests (Int.toNat x_m.G) default).In (List.getD x_m.From.Guests (Int.toNat x_m.G) default).Out)) λv4=>
  grd ((0:Int)<=x_m.N/\x_m.N<((List.length x_m.To.Guests:Nat):Int)) (grd ((List.length ([]:List DSlot)+List.length (List.getD x_m.To.Guests (Int.toNat x_m.N) default).Pages)*16<=2^47/\List.length ([]:List DSlot)+List.length (List.getD x_m.To.Guests (Int.toNat x_m.N) default).Pages<=2^47) (grd ((0:Int)<=x_m.N/\x_m.N<((List.length v3.To.Guests:Nat):Int)) (grd ((0:Int)<=x_m.G/\x_m.G<((List.length v3.From.Guests:Nat):Int)) (some ((DHost.mk v3.From.Words (List.set v3.From.Guests (Int.toNat x_m.G) (DGuest.mk false (DCore.mk ([]:List Int) (0:Int) (0:Int) (0:Int) (0:Int) false (0:Int) (0:Int) (0:Int) false false false false) ([]:List DSlot) ([]:List Int) ([]:List Int)))),DHost.mk v3.To.Words (List.set v3.To.Guests (Int.toNat x_m.N) (DGuest.mk v4.Live v4.C (([]:List DSlot)++(List.getD x_m.To.Guests (Int.toNat x_m.N) default).Pages) v4.In v4.Out)),true))))))
noncomputable def lW (x_m:DMove)(s5:Int):Option (LO Int (JO Unit (DHost×DHost×Bool))):=
 cond (decide (s5<(8:Int)))
  (grd ((0:Int)<=s5/\s5<((List.length x_m.Left:Nat):Int)) (cond (List.getD x_m.Left (Int.toNat s5) default)
   (some (.ret (.out ((DHost.mk ([]:List Int) ([]:List DGuest)),DHost.mk ([]:List Int) ([]:List DGuest),false))))
   (some (.next (w64 (s5+(1:Int)))))))
  (some (.ret (.go ())))
noncomputable def mA (x_m:DMove):Option (DHost×DHost×Bool):=
 Option.bind (nA x_m) λv1=>
 cond (!v1)
  (some ((DHost.mk ([]:List Int) ([]:List DGuest)),DHost.mk ([]:List Int) ([]:List DGuest),false))
  (Option.bind (Option.bind (iter (lW x_m) (0:Int)) LO.val) λj2=>
   JO.run j2 (uU x_m))
noncomputable def g26:Sg tG:=⟨[.st 29],.three (.st 2026) (.st 2026) .b,mA⟩
theorem s26:Sok 26 g26:=sgx [(10,.r g10),(67,.r g67),(50,.r g50)] ⟨s10,s67,s50,trivial⟩ (.s .o (.s .o (.j ⟨[1,2,3],[],[]⟩ (.s .o (.k (.l ⟨[1,2,3],[],[(.s 5,.i .i64)]⟩ .o))) (.s .o (.s .o (.s .o (.s (.g [] [] [.fo (.c 6 3) 0]) (.s (.g [] [] [.fo (.c 6 1) 0]) (.s (.m [1]) .o))))))))) kr kr kr
theorem aKs{x_m:DMove}{R_:DHost×DHost×Bool}(hh:mA x_m=some R_):Fn Try.prog 26 [.agg (uJ x_m)] (.tup [.agg [.own 3 1 (List.length R_.1.Words) (fl (eI .i64) R_.1.Words),.own 64 17 (List.length R_.1.Guests) (fl bB R_.1.Guests)],.agg [.own 3 1 (List.length R_.2.1.Words) (fl (eI .i64) R_.2.1.Words),.own 64 17 (List.length R_.2.1.Guests) (fl bB R_.2.1.Guests)],.bool R_.2.2]):=kc (s26 x_m R_ hh)
noncomputable def jK (x_aM:DMove):Option Bool:=
 Option.bind (kO x_aM (1048576:Int)) λv1=>
 cond (decide (v1<(0:Int)))
  (some true)
  (Option.bind (eD x_aM) λv2=>
  Option.bind (nA v2) λv3=>
  Option.bind (eD x_aM) λv4=>
  Option.bind (nK v4) λv5=>
  cond (!(v5==v3))
   (some false)
   (Option.bind (eD x_aM) λv6=>
   Option.bind (fO v4 v6) λv7=>
   cond (!v7)
    (some false)
    (some true)))
noncomputable def g5:Sg tG:=⟨[.st 44],.one .b,jK⟩
theorem s5:Sok 5 g5:=sgx [(17,.r g17),(18,.r g18),(10,.r g10),(9,.r g9),(19,.r g19)] ⟨s17,s18,s10,s9,s19,trivial⟩ .o kr kr kr
theorem zC{x_aM:DMove}{R_:Bool}(hh:jK x_aM=some R_):Fn Try.prog 5 [.agg [bo (eI .i64) x_aM.From.Words,bo cG x_aM.From.Guests,bo (eI .i64) x_aM.To.Words,bo cG x_aM.To.Guests,.int .i64 x_aM.G,.int .i64 x_aM.N,bo eB x_aM.Left]] (.bool R_):=kc (s5 x_aM R_ hh)
end Go.Proofs.Ytcgggihjcelmhaa
