/- Plain functions of the program, and that it hands back what they say. Made by program. -/
import Derived.Test.YtkjabgefacfpfaaWTD
import Derived.Test.YtkjabgefacfpfaaProg
namespace Go.Proofs.Ytkjabgefacfpfaa
open Go.RowKit
set_option maxRecDepth 100000
set_option linter.all false
set_option maxHeartbeats 0
noncomputable def aLh  (s1:List Int):Option (List Int):=some s1
noncomputable def kD (x_a:List Int)(s2:(List Int)×Int):Option (LO ((List Int)×Int) (JO (List Int) (List Int))):=
 cond (decide (s2.2<((List.length x_a:Nat):Int)))
  (grd ((0:Int)<=s2.2/\s2.2<((List.length x_a:Nat):Int)) (grd ((0:Int)<=s2.2/\s2.2<((List.length s2.1:Nat):Int)) (some (.next ((List.set s2.1 (Int.toNat s2.2) (List.getD x_a (Int.toNat s2.2) default)),w64 (s2.2+(1:Int)))))))
  (some (.ret (.go s2.1)))
noncomputable def iP (x_a:List Int):Option (List Int):=
 grd ((0:Int)<=((List.length x_a:Nat):Int)/\((List.length x_a:Nat):Int)*8<=2^47/\((List.length x_a:Nat):Int)<=2^47) (Option.bind (Option.bind (iter (kD x_a) ((List.replicate (Int.toNat ((List.length x_a:Nat):Int)) (0:Int)),(0:Int))) LO.val) λj1=>
  JO.run j1 aLh)
noncomputable def g60:Sg tG:=⟨[.row 3],.one (.row 3),iP⟩
theorem s60:Sok 60 g60:=sgx [] trivial (.s .o (.s .o (.j ⟨[],[],[(.s 3,.ro 3)]⟩ (.s .o (.k (.l ⟨[0],[],[(.s 3,.ro 3),(.s 4,.i .i64)]⟩ .o))) .o))) kr kr kr
noncomputable def yV  (s1:Unit):Option Bool:=some true
noncomputable def fF (x_a:List Int)(x_b:List Int)(s2:Int):Option (LO Int (JO Unit Bool)):=
 cond (decide (s2<((List.length x_a:Nat):Int)))
  (grd ((0:Int)<=s2/\s2<((List.length x_a:Nat):Int)) (grd ((0:Int)<=s2/\s2<((List.length x_b:Nat):Int)) (cond (!decide ((List.getD x_a (Int.toNat s2) default)=(List.getD x_b (Int.toNat s2) default)))
   (some (.ret (.out false)))
   (some (.next (w64 (s2+(1:Int))))))))
  (some (.ret (.go ())))
noncomputable def iR (x_a:List Int)(x_b:List Int):Option Bool:=
 cond (!decide (((List.length x_a:Nat):Int)=((List.length x_b:Nat):Int)))
  (some false)
  (Option.bind (Option.bind (iter (fF x_a x_b) (0:Int)) LO.val) λj1=>
   JO.run j1 yV)
noncomputable def g62:Sg tG:=⟨[.row 3,.row 3],.one .b,iR⟩
theorem s62:Sok 62 g62:=sgx [] trivial (.s .o (.s .o (.j ⟨[],[],[]⟩ (.s .o (.k (.l ⟨[0,1],[],[(.s 5,.i .i64)]⟩ .o))) .o))) kr kr kr
noncomputable def rJ (x_a:DCore):Option DCore:=
 Option.bind (iP x_a.Regs) λv1=>
 some (DCore.mk v1 x_a.Pc x_a.Root x_a.Vector x_a.Saved x_a.SavedUser x_a.Cause x_a.Bad x_a.Timer x_a.Waits x_a.User x_a.On x_a.Stopped)
noncomputable def bLa:Sg tG:=⟨[.st 120],.one (.st 38),rJ⟩
theorem bOn:Sok 126 bLa:=sgx [(60,.r g60)] ⟨s60,trivial⟩ .o kr kr kr
noncomputable def rK (x_a:DCore)(x_b:DCore):Option Bool:=
 Option.bind (iR x_a.Regs x_b.Regs) λv1=>
 cond (!v1)
  (some false)
  (cond (!decide (x_a.Pc=x_b.Pc))
   (some false)
   (cond (!decide (x_a.Root=x_b.Root))
    (some false)
    (cond (!decide (x_a.Vector=x_b.Vector))
     (some false)
     (cond (!decide (x_a.Saved=x_b.Saved))
      (some false)
      (cond (!(x_a.SavedUser==x_b.SavedUser))
       (some false)
       (cond (!decide (x_a.Cause=x_b.Cause))
        (some false)
        (cond (!decide (x_a.Bad=x_b.Bad))
         (some false)
         (cond (!decide (x_a.Timer=x_b.Timer))
          (some false)
          (cond (!(x_a.Waits==x_b.Waits))
           (some false)
           (cond (!(x_a.User==x_b.User))
            (some false)
            (cond (!(x_a.On==x_b.On))
             (some false)
             (cond (!(x_a.Stopped==x_b.Stopped))
              (some false)
              (some true)))))))))))))
noncomputable def bMo:Sg tG:=⟨[.st 38,.st 38],.one .b,rK⟩
theorem bOq:Sok 128 bMo:=sgx [(62,.r g62)] ⟨s62,trivial⟩ .o kr kr kr
noncomputable def iQ (x_a:List Int)(x_left:Int):Option Int:=
 cond (decide ((w64 (x_left-((List.length x_a:Nat):Int)))<(0:Int)))
  (some (-1:Int))
  (some (w64 (x_left-((List.length x_a:Nat):Int))))
noncomputable def g58:Sg tG:=⟨[.row 3,.i .i64],.one (.i .i64),iQ⟩
theorem s58:Sok 58 g58:=sgx [] trivial .o kr kr kr
noncomputable def rQ (x_a:DCore)(x_left:Int):Option Int:=
 Option.bind (iQ x_a.Regs x_left) λv1=>
 cond (decide (v1<(0:Int)))
  (some (-1:Int))
  (some v1)
noncomputable def bMq:Sg tG:=⟨[.st 120,.i .i64],.one (.i .i64),rQ⟩
theorem bPg:Sok 124 bMq:=sgx [(58,.r g58)] ⟨s58,trivial⟩ .o kr kr kr
theorem aIn:LW 64 ⟨19,[.tmp 4],.seq (.reg false (rg 64 0)) (.seq (.seq (.reg false (rg 64 1)) (.block 0 (.loop (.seq (.seq (.reg false (rg 64 2)) (.cond (.t 9) .skip (.exit 0))) (.seq (.block 1 (.seq (.reg false (rg 64 3)) (.reg false (rg 64 4)))) (.reg false (rg 64 5))))))) (.seq (.reg false (rg 64 7)) .ret))⟩:=kr
noncomputable def pT  (s1:Int×(List Int)):Option ((List Int)×Int):=some (s1.2,s1.1)
noncomputable def fP  (s2:(List Int)×Int×Int):Option (LO ((List Int)×Int×Int) (JO (Int×(List Int)) ((List Int)×Int))):=
 cond (decide (s2.2.2<((List.length s2.1:Nat):Int)))
  (grd ((0:Int)<=s2.2.2/\s2.2.2<((List.length s2.1:Nat):Int)) (some (.next ((List.set s2.1 (Int.toNat s2.2.2) s2.2.1),w64 (s2.2.1+(1:Int)),w64 (s2.2.2+(1:Int))))))
  (some (.ret (.go (s2.2.1,s2.1))))
noncomputable def eW (x_a:List Int)(x_k:Int):Option ((List Int)×Int):=
 Option.bind (Option.bind (iter fP (x_a,x_k,(0:Int))) LO.val) λj1=>
  JO.run j1 pT
theorem mX{x_a:List Int}{x_k:Int}{R_:(List Int)×Int}(hh:eW x_a x_k=some R_):Inl Try.prog 64 [.sref 0 [] 0 (List.length x_a) 1,.int .i64 x_k] [(0,some (rI_3 x_a))] 1 (.int .i64 R_.2) [(0,some (rI_3 R_.1))] 1:=by let z2:EH:=(0,some (rI_3 x_a));unfold eW at hh;refine Inl.start aIn [0,1] [0] (E:=sp 19 [(0,sw 0 x_a),(1,ii x_k)]) (H1:=[z2]) kr kr (sy [0,1] [0] (sp 19 [(0,sw 0 x_a),(1,ii x_k)]) [z2] 1 ?_);obtain⟨j1,hh,hk1⟩:=bind_some hh;refine Aw.join (S:=Int×(List Int)) (λs1=>sp 19 [(1,ii s1.1)]) (λs1=>[(0,some (rI_3 s1.2))]) 1 (λs1=>pT s1=some R_) ?_ ?_;{intro s1 hh;unfold pT at hh;refine sy [4] [0] (sp 19 [(4,ii s1.1)]) [(0,some (rI_3 s1.2))] 1 (Aw.ret ?_);rw[bM hh];exact rS (r':=ii s1.1) kr (el [some 0] (mL hU) (hn bA aW))};intro Q1 hN1 hR1 hE1;refine sy [0,1,5] [0] (sp 19 [(0,sw 0 x_a),(1,ii x_k),(5,ii 0)]) [z2] 1 (Aw.block ?_);obtain⟨o2,hi2,hk2⟩:=bind_some hh;refine Aw.iter (λ(s2:(List Int)×Int×Int)=>sp 19 [(0,sw 0 s2.1),(1,ii s2.2.1),(5,ii s2.2.2)]) (λ(s2:(List Int)×Int×Int)=>[(0,some (rI_3 s2.1))]) 1 hi2 (el [some 0] (gD kr (rs (sw 0 x_a) (ri (ri qU)))) (hn bA aW)) ?_;intro s2 u2 Q2 hh hN2 hX2 hR2;let z3:EH:=(0,some (rI_3 s2.1));let z4:=(0,sw 0 s2.1);let z5:=(1,ii (w64 (s2.2.1+(1:Int))));let z6:=(5,ii s2.2.2);let z7:=(9,bb (decide (s2.2.2<((List.length s2.1:Nat):Int))));let z1:=List.set s2.1 (Int.toNat s2.2.2) s2.2.1;unfold fP at hh;refine Aw.seq (sy [0,1,5,9] [0] (sp 19 [z4,(1,ii s2.2.1),z6,z7]) [z3] 1 ?_);rcases xZ hh with⟨hb,hh⟩|⟨hb,hh⟩;{refine cF hb (Aw.exit (aLl (hX2 _ _ _ _ _ (bM hh) ?_)));intro hout;rw[hout]at hk2;refine aMu ?_;obtain rfl:=bM hk2;exact hN1 (s2.2.1,s2.1) _ _ _ hk1 (el [some 0] (gD kr (ri qU)) (hn bA aW))};refine cT hb (Aw.xskip (λ_ _ _ hq=>dR hq) (Aw.seq (Aw.block (Aw.sreg [0,1,5] [0] ?_))));obtain⟨hg24,hh⟩:=aJ hh;refine yjc 4 [(0:Int)<=s2.2.2/\s2.2.2<((List.length s2.1:Nat):Int)] (sp 19 [z4,(1,ii s2.2.1),z6,z7,(12,sw 0 s2.1),(13,ii s2.2.2),(14,ii s2.2.1),(15,.ptr 0 [] (0+(Int.toNat s2.2.2)*1))]) [z3] 1 (.cons hg24 .nil) ?_;let q1:Root:=(rI_3 z1);refine ys (.store 1 (.t 15) (.t 14)) none (aEc (c:=(eI .i64)) (xs:=s2.1) (e:=3) (r:=0) (π:=[]) (o:=0+(Int.toNat s2.2.2)*1) (i:=(Int.toNat s2.2.2)) (off:=0) (vs:=[ii s2.2.1]) (y:=s2.2.1) (H':=[(0,some q1),z3]) aX kr kr kr kr ltn ltn dd kr kr ?_);exact yt (sp 19 [z4,(1,ii s2.2.1),z6]) [(0,some q1)] 1 (Aw.xreg [0,1,5] [0] (λ_ _ _ hq=>aHm (dR hq)) (yt (sp 19 [z4,z5,z6]) [(0,some q1)] 1 (Aw.oreg (ye (sp 19 [z4,z5,(5,ii (w64 (s2.2.2+(1:Int)))),(10,ii s2.2.2),(11,ii (w64 (s2.2.2+(1:Int))))]) [(0,some q1)] 1 (hN2 (z1,w64 (s2.2.1+(1:Int)),w64 (s2.2.2+(1:Int))) _ _ _ (bM hh) (el [some 0] (gD kr (rs (sw 0 s2.1) (ri (ri qU)))) (hn bA aW)))))))
noncomputable def aHe  (s1:Int):Option Int:=some s1
noncomputable def iD (x_a:List Int)(s2:Int×Int):Option (LO (Int×Int) (JO Int Int)):=
 cond (decide (s2.2<((List.length x_a:Nat):Int)))
  (grd ((0:Int)<=s2.2/\s2.2<((List.length x_a:Nat):Int)) (cond (!decide ((List.getD x_a (Int.toNat s2.2) default)=s2.1))
   (some (.ret (.out (-1:Int))))
   (some (.next ((w64 (s2.1+(1:Int))),w64 (s2.2+(1:Int)))))))
  (some (.ret (.go s2.1)))
noncomputable def fV (x_a:List Int)(x_k:Int):Option Int:=
 Option.bind (Option.bind (iter (iD x_a) (x_k,(0:Int))) LO.val) λj1=>
  JO.run j1 aHe
noncomputable def g66:Sg tG:=⟨[.row 3,.i .i64],.one (.i .i64),fV⟩
theorem s66:Sok 66 g66:=sgx [] trivial (.s .o (.j ⟨[],[],[(.s 1,.i .i64)]⟩ (.s .o (.k (.l ⟨[0],[],[(.s 1,.i .i64),(.s 5,.i .i64)]⟩ .o))) .o)) kr kr kr
end Go.Proofs.Ytkjabgefacfpfaa
