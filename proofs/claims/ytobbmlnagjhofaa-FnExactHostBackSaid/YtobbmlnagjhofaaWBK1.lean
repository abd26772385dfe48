/- Plain functions of the program, and that it hands back what they say. Made by program. -/
import Derived.Test.YtobbmlnagjhofaaWTD
import Derived.Test.YtobbmlnagjhofaaProg
namespace Go.Proofs.Ytobbmlnagjhofaa
open Go.RowKit
set_option maxRecDepth 100000
set_option linter.all false
set_option maxHeartbeats 0
noncomputable def mR (x_n:Int):Option Bool:=
 cond (decide ((0:Int)<=x_n))
  (some (decide (x_n<=(4095:Int))))
  (some false)
noncomputable def g52:Sg tG:=⟨[.i .i64],.one .b,mR⟩
theorem s52:Sok 52 g52:=sgx [] trivial .o kr kr kr
noncomputable def aFf  (s1:Unit):Option Bool:=some true
noncomputable def uJ (x_list:List Int)(s2:Int):Option (LO Int (JO Unit Bool)):=
 cond (decide (s2<((List.length x_list:Nat):Int)))
  (grd ((0:Int)<=s2/\s2<((List.length x_list:Nat):Int)) (Option.bind (mR (List.getD x_list (Int.toNat s2) default)) λv3=>
   cond (!v3)
    (some (.ret (.out false)))
    (some (.next (w64 (s2+(1:Int)))))))
  (some (.ret (.go ())))
noncomputable def gX (x_list:List Int):Option Bool:=
 Option.bind (Option.bind (iter (uJ x_list) (0:Int)) LO.val) λj1=>
  JO.run j1 aFf
noncomputable def g55:Sg tG:=⟨[.row 3],.one .b,gX⟩
theorem s55:Sok 55 g55:=sgx [(52,.r g52)] ⟨s52,trivial⟩ (.s .o (.j ⟨[],[],[]⟩ (.s .o (.k (.l ⟨[5,6],[],[(.s 7,.i .i64)]⟩ .o))) .o)) kr kr kr
noncomputable def dD (x_addr:Int):Option Bool:=
 cond (decide ((0:Int)<=x_addr))
  (some (decide (x_addr<(64:Int))))
  (some false)
noncomputable def bHx:Sg tG:=⟨[.i .i64],.one .b,dD⟩
theorem bJk:Sok 123 bHx:=sgx [] trivial .o kr kr kr
noncomputable def mQ (x_page:Int):Option Bool:=
 cond (decide ((0:Int)<=x_page))
  (some (decide (x_page<(8:Int))))
  (some false)
noncomputable def bCv:Sg tG:=⟨[.i .i64],.one .b,mQ⟩
theorem bIc:Sok 108 bCv:=sgx [] trivial .o kr kr kr
noncomputable def mS (x_root:Int):Option Bool:=
 cond (decide (x_root=(-1:Int)))
  (some true)
  (Option.bind (mQ x_root) λv1=>
  some v1)
noncomputable def bHh:Sg tG:=⟨[.i .i64],.one .b,mS⟩
theorem bJx:Sok 124 bHh:=sgx [(108,.r bCv)] ⟨bIc,trivial⟩ .o kr kr kr
noncomputable def mY (x_c:DCore):Option Bool:=
 cond (decide (((List.length x_c.Regs:Nat):Int)=(4:Int)))
  (Option.bind (gX x_c.Regs) λv1=>
  Option.bind (dD x_c.Pc) λv2=>
  cond v2
   (Option.bind (dD x_c.Vector) λv3=>
   cond v3
    (Option.bind (dD x_c.Saved) λv4=>
    cond v4
     (Option.bind (dD x_c.Bad) λv5=>
     cond (decide ((0:Int)<=x_c.Cause))
      (cond v1
       (cond v5
        (Option.bind (mS x_c.Root) λv6=>
        cond v6
         (cond (decide (x_c.Cause<=(4:Int)))
          (Option.bind (mR x_c.Timer) λv7=>
          some v7)
          (some false))
         (some false))
        (some false))
       (some false))
      (cond v1
       (cond v5
        (Option.bind (mS x_c.Root) λv8=>
        cond v8
         (some false)
         (some false))
        (some false))
       (some false)))
     (cond (decide ((0:Int)<=x_c.Cause))
      (cond v1
       (some false)
       (some false))
      (cond v1
       (some false)
       (some false))))
    (cond (decide ((0:Int)<=x_c.Cause))
     (cond v1
      (some false)
      (some false))
     (cond v1
      (some false)
      (some false))))
   (cond (decide ((0:Int)<=x_c.Cause))
    (cond v1
     (some false)
     (some false))
    (cond v1
     (some false)
     (some false))))
  (Option.bind (dD x_c.Pc) λv9=>
  cond v9
   (Option.bind (dD x_c.Vector) λv10=>
   cond v10
    (Option.bind (dD x_c.Saved) λv11=>
    cond v11
     (Option.bind (dD x_c.Bad) λv12=>
     cond (decide ((0:Int)<=x_c.Cause))
      (some false)
      (some false))
     (cond (decide ((0:Int)<=x_c.Cause))
      (some false)
      (some false)))
    (cond (decide ((0:Int)<=x_c.Cause))
     (some false)
     (some false)))
   (cond (decide ((0:Int)<=x_c.Cause))
    (some false)
    (some false)))
noncomputable def g99:Sg tG:=⟨[.st 34],.one .b,mY⟩
theorem s99:Sok 99 g99:=sgx [(55,.r g55),(123,.r bHx),(124,.r bHh),(52,.r g52)] ⟨s55,bJk,bJx,s52,trivial⟩ .o kr kr kr
noncomputable def rO (x_mem:List Int):Option Bool:=
 cond (decide (((List.length x_mem:Nat):Int)=(64:Int)))
  (Option.bind (gX x_mem) λv1=>
  some v1)
  (some false)
noncomputable def bHw:Sg tG:=⟨[.row 3],.one .b,rO⟩
theorem bJd:Sok 100 bHw:=sgx [(55,.r g55)] ⟨s55,trivial⟩ .o kr kr kr
noncomputable def kA (x_words:List Int):Option Bool:=
 cond (decide (((List.length x_words:Nat):Int)<=(30:Int)))
  (Option.bind (gX x_words) λv1=>
  some v1)
  (some false)
noncomputable def bBt:Sg tG:=⟨[.row 3],.one .b,kA⟩
theorem bHu:Sok 101 bBt:=sgx [(55,.r g55)] ⟨s55,trivial⟩ .o kr kr kr
noncomputable def nC (x_b:DBare):Option Bool:=
 Option.bind (mY x_b.C) λv1=>
 cond v1
  (Option.bind (rO x_b.Mem) λv2=>
  cond v2
   (Option.bind (kA x_b.In) λv3=>
   cond v3
    (Option.bind (kA x_b.Out) λv4=>
    some v4)
    (some false))
   (some false))
  (some false)
noncomputable def g64:Sg tG:=⟨[.st 36],.one .b,nC⟩
theorem s64:Sok 64 g64:=sgx [(99,.r g99),(100,.r bHw),(101,.r bBt)] ⟨s99,bJd,bHu,trivial⟩ .o kr kr kr
theorem aJw{x_b:DBare}{R_:Bool}(hh:nC x_b=some R_):Fn Try.prog 64 [.agg (dV x_b)] (.bool R_):=kc (s64 x_b R_ hh)
noncomputable def eG (x_n:Int)(x_low:Int)(x_high:Int):Option Bool:=
 cond (decide (x_low<=x_n))
  (some (decide (x_n<=x_high)))
  (some false)
noncomputable def g73:Sg tG:=⟨[.i .i64,.i .i64,.i .i64],.one .b,eG⟩
theorem s73:Sok 73 g73:=sgx [] trivial .o kr kr kr
noncomputable def iV (x_n:Int):Option Bool:=
 Option.bind (eG x_n (0:Int) (4095:Int)) λv1=>
 some v1
noncomputable def aWd:Sg tG:=⟨[.i .i64],.one .b,iV⟩
theorem bAq:Sok 126 aWd:=sgx [(73,.r g73)] ⟨s73,trivial⟩ .o kr kr kr
noncomputable def wF (x_c:DCore)(s1:Unit):Option Bool:=
 cond (decide (((List.length x_c.Regs:Nat):Int)=(4:Int)))
  (Option.bind (eG x_c.Pc (0:Int) (63:Int)) λv2=>
  cond v2
   (Option.bind (eG x_c.Vector (0:Int) (63:Int)) λv3=>
   cond v3
    (Option.bind (eG x_c.Saved (0:Int) (63:Int)) λv4=>
    cond v4
     (Option.bind (eG x_c.Bad (0:Int) (63:Int)) λv5=>
     cond v5
      (Option.bind (eG x_c.Root (-1:Int) (7:Int)) λv6=>
      cond v6
       (Option.bind (eG x_c.Cause (0:Int) (4:Int)) λv7=>
       cond v7
        (Option.bind (iV x_c.Timer) λv8=>
        some v8)
        (some false))
       (some false))
      (some false))
     (some false))
    (some false))
   (some false))
  (some false)
noncomputable def vV (x_c:DCore)(s9:Int):Option (LO Int (JO Unit Bool)):=
 cond (decide (s9<((List.length x_c.Regs:Nat):Int)))
  (grd ((0:Int)<=s9/\s9<((List.length x_c.Regs:Nat):Int)) (Option.bind (iV (List.getD x_c.Regs (Int.toNat s9) default)) λv10=>
   cond (!v10)
    (some (.ret (.out false)))
    (some (.next (w64 (s9+(1:Int)))))))
  (some (.ret (.go ())))
noncomputable def kI (x_c:DCore):Option Bool:=
 Option.bind (Option.bind (iter (vV x_c) (0:Int)) LO.val) λj1=>
  JO.run j1 (wF x_c)
noncomputable def bAn:Sg tG:=⟨[.st 34],.one .b,kI⟩
theorem bGa:Sok 104 bAn:=sgx [(126,.r aWd),(73,.r g73)] ⟨bAq,s73,trivial⟩ (.s .o (.j ⟨[1],[],[]⟩ (.s .o (.k (.l ⟨[1],[],[(.s 3,.i .i64)]⟩ .o))) .o)) kr kr kr
noncomputable def wZ (x_mem:List Int)(s1:Unit):Option Bool:=some (decide (((List.length x_mem:Nat):Int)=(64:Int)))
noncomputable def xE (x_mem:List Int)(s2:Int):Option (LO Int (JO Unit Bool)):=
 cond (decide (s2<((List.length x_mem:Nat):Int)))
  (grd ((0:Int)<=s2/\s2<((List.length x_mem:Nat):Int)) (Option.bind (iV (List.getD x_mem (Int.toNat s2) default)) λv3=>
   cond (!v3)
    (some (.ret (.out false)))
    (some (.next (w64 (s2+(1:Int)))))))
  (some (.ret (.go ())))
noncomputable def rQ (x_mem:List Int):Option Bool:=
 Option.bind (Option.bind (iter (xE x_mem) (0:Int)) LO.val) λj1=>
  JO.run j1 (wZ x_mem)
noncomputable def bGw:Sg tG:=⟨[.row 3],.one .b,rQ⟩
theorem bJs:Sok 105 bGw:=sgx [(126,.r aWd)] ⟨bAq,trivial⟩ (.s .o (.j ⟨[0],[],[]⟩ (.s .o (.k (.l ⟨[0],[],[(.s 3,.i .i64)]⟩ .o))) .o)) kr kr kr
noncomputable def pV (x_list:List Int)(x_most:Int)(s1:Unit):Option Bool:=some (decide (((List.length x_list:Nat):Int)<=x_most))
noncomputable def pU (x_list:List Int)(s2:Int):Option (LO Int (JO Unit Bool)):=
 cond (decide (s2<((List.length x_list:Nat):Int)))
  (grd ((0:Int)<=s2/\s2<((List.length x_list:Nat):Int)) (Option.bind (iV (List.getD x_list (Int.toNat s2) default)) λv3=>
   cond (!v3)
    (some (.ret (.out false)))
    (some (.next (w64 (s2+(1:Int)))))))
  (some (.ret (.go ())))
noncomputable def eH (x_list:List Int)(x_most:Int):Option Bool:=
 Option.bind (Option.bind (iter (pU x_list) (0:Int)) LO.val) λj1=>
  JO.run j1 (pV x_list x_most)
noncomputable def bBf:Sg tG:=⟨[.row 3,.i .i64],.one .b,eH⟩
theorem bGp:Sok 106 bBf:=sgx [(126,.r aWd)] ⟨bAq,trivial⟩ (.s .o (.j ⟨[0,1],[],[]⟩ (.s .o (.k (.l ⟨[0,1],[],[(.s 5,.i .i64)]⟩ .o))) .o)) kr kr kr
noncomputable def qE (x_b:DBare):Option Bool:=
 Option.bind (kI x_b.C) λv1=>
 cond v1
  (Option.bind (rQ x_b.Mem) λv2=>
  cond v2
   (Option.bind (eH x_b.In (30:Int)) λv3=>
   cond v3
    (Option.bind (eH x_b.Out (30:Int)) λv4=>
    some v4)
    (some false))
   (some false))
  (some false)
noncomputable def g68:Sg tG:=⟨[.st 36],.one .b,qE⟩
theorem s68:Sok 68 g68:=sgx [(104,.r bAn),(105,.r bGw),(106,.r bBf)] ⟨bGa,bJs,bGp,trivial⟩ .o kr kr kr
noncomputable def aGm  (s1:List Int):Option (List Int):=some s1
noncomputable def jY (x_a:List Int)(s2:(List Int)×Int):Option (LO ((List Int)×Int) (JO (List Int) (List Int))):=
 cond (decide (s2.2<((List.length x_a:Nat):Int)))
  (grd ((0:Int)<=s2.2/\s2.2<((List.length x_a:Nat):Int)) (grd ((0:Int)<=s2.2/\s2.2<((List.length s2.1:Nat):Int)) (some (.next ((List.set s2.1 (Int.toNat s2.2) (List.getD x_a (Int.toNat s2.2) default)),w64 (s2.2+(1:Int)))))))
  (some (.ret (.go s2.1)))
noncomputable def cY (x_a:List Int):Option (List Int):=
 grd ((0:Int)<=((List.length x_a:Nat):Int)/\((List.length x_a:Nat):Int)*8<=2^47/\((List.length x_a:Nat):Int)<=2^47) (Option.bind (Option.bind (iter (jY x_a) ((List.replicate (Int.toNat ((List.length x_a:Nat):Int)) (0:Int)),(0:Int))) LO.val) λj1=>
  JO.run j1 aGm)
noncomputable def g36:Sg tG:=⟨[.row 3],.one (.row 3),cY⟩
theorem s36:Sok 36 g36:=sgx [] trivial (.s .o (.s .o (.j ⟨[],[],[(.s 3,.ro 3)]⟩ (.s .o (.k (.l ⟨[0],[],[(.s 3,.ro 3),(.s 4,.i .i64)]⟩ .o))) .o))) kr kr kr
theorem pA{x_a:List Int}{R_:(List Int)}(hh:cY x_a=some R_):Fn Try.prog 36 [bo (eI .i64) x_a] (.own 3 1 (List.length R_) (fl (eI .i64) R_)):=kc (s36 x_a R_ hh)
noncomputable def vX  (s1:Unit):Option Bool:=some true
noncomputable def fQ (x_a:List Int)(x_b:List Int)(s2:Int):Option (LO Int (JO Unit Bool)):=
 cond (decide (s2<((List.length x_a:Nat):Int)))
  (grd ((0:Int)<=s2/\s2<((List.length x_a:Nat):Int)) (grd ((0:Int)<=s2/\s2<((List.length x_b:Nat):Int)) (cond (!decide ((List.getD x_a (Int.toNat s2) default)=(List.getD x_b (Int.toNat s2) default)))
   (some (.ret (.out false)))
   (some (.next (w64 (s2+(1:Int))))))))
  (some (.ret (.go ())))
noncomputable def dP (x_a:List Int)(x_b:List Int):Option Bool:=
 cond (!decide (((List.length x_a:Nat):Int)=((List.length x_b:Nat):Int)))
  (some false)
  (Option.bind (Option.bind (iter (fQ x_a x_b) (0:Int)) LO.val) λj1=>
   JO.run j1 vX)
noncomputable def g37:Sg tG:=⟨[.row 3,.row 3],.one .b,dP⟩
theorem s37:Sok 37 g37:=sgx [] trivial (.s .o (.s .o (.j ⟨[],[],[]⟩ (.s .o (.k (.l ⟨[0,1],[],[(.s 5,.i .i64)]⟩ .o))) .o))) kr kr kr
theorem aKl{x_a:List Int}{x_b:List Int}{R_:Bool}(hh:dP x_a x_b=some R_):Fn Try.prog 37 [bo (eI .i64) x_a,bo (eI .i64) x_b] (.bool R_):=kc (s37 x_a x_b R_ hh)
noncomputable def mX (x_a:DCore):Option DCore:=
 Option.bind (cY x_a.Regs) λv1=>
 some (DCore.mk v1 x_a.Pc x_a.Root x_a.Vector x_a.Saved x_a.SavedUser x_a.Cause x_a.Bad x_a.Timer x_a.Waits x_a.User x_a.On x_a.Stopped)
noncomputable def g82:Sg tG:=⟨[.st 60],.one (.st 34),mX⟩
theorem s82:Sok 82 g82:=sgx [(36,.r g36)] ⟨s36,trivial⟩ .o kr kr kr
noncomputable def mO (x_a:DCore)(x_b:DCore):Option Bool:=
 Option.bind (dP x_a.Regs x_b.Regs) λv1=>
 cond (!v1)
  (some false)
  (cond (!decide (x_a.Pc=x_b.Pc))
   (some false)
   (cond (!decide (x_a.Root=x_b.Root))
    (some false)
    (cond (!decide (x_a.Vector=x_b.Vector))
     (some false)
     (cond (!decide (x_a.Saved=x_b.Saved))
      (some false)
      (cond (!(x_a.SavedUser==x_b.SavedUser))
       (some false)
       (cond (!decide (x_a.Cause=x_b.Cause))
        (some false)
        (cond (!decide (x_a.Bad=x_b.Bad))
         (some false)
         (cond (!decide (x_a.Timer=x_b.Timer))
          (some false)
          (cond (!(x_a.Waits==x_b.Waits))
           (some false)
           (cond (!(x_a.User==x_b.User))
            (some false)
            (cond (!(x_a.On==x_b.On))
             (some false)
             (cond (!(x_a.Stopped==x_b.Stopped))
              (some false)
              (some true)))))))))))))
noncomputable def g83:Sg tG:=⟨[.st 34,.st 34],.one .b,mO⟩
theorem s83:Sok 83 g83:=sgx [(37,.r g37)] ⟨s37,trivial⟩ .o kr kr kr
noncomputable def eW (x_a:List Int)(x_left:Int):Option Int:=
 cond (decide ((w64 (x_left-((List.length x_a:Nat):Int)))<(0:Int)))
  (some (-1:Int))
  (some (w64 (x_left-((List.length x_a:Nat):Int))))
noncomputable def g74:Sg tG:=⟨[.row 3,.i .i64],.one (.i .i64),eW⟩
theorem s74:Sok 74 g74:=sgx [] trivial .o kr kr kr
noncomputable def nF (x_a:DCore)(x_left:Int):Option Int:=
 Option.bind (eW x_a.Regs x_left) λv1=>
 cond (decide (v1<(0:Int)))
  (some (-1:Int))
  (some v1)
noncomputable def g81:Sg tG:=⟨[.st 60,.i .i64],.one (.i .i64),nF⟩
theorem s81:Sok 81 g81:=sgx [(74,.r g74)] ⟨s74,trivial⟩ .o kr kr kr
theorem aFg:LW 38 ⟨19,[.tmp 4],.seq (.reg false (rg 38 0)) (.seq (.seq (.reg false (rg 38 1)) (.block 0 (.loop (.seq (.seq (.reg false (rg 38 2)) (.cond (.t 9) .skip (.exit 0))) (.seq (.block 1 (.seq (.reg false (rg 38 3)) (.reg false (rg 38 4)))) (.reg false (rg 38 5))))))) (.seq (.reg false (rg 38 7)) .ret))⟩:=kr
noncomputable def oG  (s1:Int×(List Int)):Option ((List Int)×Int):=some (s1.2,s1.1)
noncomputable def fT  (s2:(List Int)×Int×Int):Option (LO ((List Int)×Int×Int) (JO (Int×(List Int)) ((List Int)×Int))):=
 cond (decide (s2.2.2<((List.length s2.1:Nat):Int)))
  (grd ((0:Int)<=s2.2.2/\s2.2.2<((List.length s2.1:Nat):Int)) (some (.next ((List.set s2.1 (Int.toNat s2.2.2) s2.2.1),w64 (s2.2.1+(1:Int)),w64 (s2.2.2+(1:Int))))))
  (some (.ret (.go (s2.2.1,s2.1))))
noncomputable def cW (x_a:List Int)(x_k:Int):Option ((List Int)×Int):=
 Option.bind (Option.bind (iter fT (x_a,x_k,(0:Int))) LO.val) λj1=>
  JO.run j1 oG
theorem dY{x_a:List Int}{x_k:Int}{R_:(List Int)×Int}(hh:cW x_a x_k=some R_):Inl Try.prog 38 [.sref 0 [] 0 (List.length x_a) 1,.int .i64 x_k] [(0,some (rI_3 x_a))] 1 (.int .i64 R_.2) [(0,some (rI_3 R_.1))] 1:=by let z2:EH:=(0,some (rI_3 x_a));unfold cW at hh;refine Inl.start aFg [0,1] [0] (E:=sp 19 [(0,sw 0 x_a),(1,ii x_k)]) (H1:=[z2]) kr kr (sy [0,1] [0] (sp 19 [(0,sw 0 x_a),(1,ii x_k)]) [z2] 1 ?_);obtain⟨j1,hh,hk1⟩:=bind_some hh;refine Aw.join (S:=Int×(List Int)) (λs1=>sp 19 [(1,ii s1.1)]) (λs1=>[(0,some (rI_3 s1.2))]) 1 (λs1=>oG s1=some R_) ?_ ?_;{intro s1 hh;unfold oG at hh;refine sy [4] [0] (sp 19 [(4,ii s1.1)]) [(0,some (rI_3 s1.2))] 1 (Aw.ret ?_);rw[bX hh];exact nW (r':=ii s1.1) kr (el [some 0] (kB dU) (hn aN aP))};intro Q1 hN1 hR1 hE1;refine sy [0,1,5] [0] (sp 19 [(0,sw 0 x_a),(1,ii x_k),(5,ii 0)]) [z2] 1 (Aw.block ?_);obtain⟨o2,hi2,hk2⟩:=bind_some hh;refine Aw.iter (λ(s2:(List Int)×Int×Int)=>sp 19 [(0,sw 0 s2.1),(1,ii s2.2.1),(5,ii s2.2.2)]) (λ(s2:(List Int)×Int×Int)=>[(0,some (rI_3 s2.1))]) 1 hi2 (el [some 0] (eX kr (rs (sw 0 x_a) (ri (ri mK)))) (hn aN aP)) ?_;intro s2 u2 Q2 hh hN2 hX2 hR2;let z3:EH:=(0,some (rI_3 s2.1));let z4:=(0,sw 0 s2.1);let z5:=(1,ii (w64 (s2.2.1+(1:Int))));let z6:=(5,ii s2.2.2);let z7:=(9,bb (decide (s2.2.2<((List.length s2.1:Nat):Int))));let z1:=List.set s2.1 (Int.toNat s2.2.2) s2.2.1;unfold fT at hh;refine Aw.seq (sy [0,1,5,9] [0] (sp 19 [z4,(1,ii s2.2.1),z6,z7]) [z3] 1 ?_);rcases sS hh with⟨hb,hh⟩|⟨hb,hh⟩;{refine cF hb (Aw.exit (aCn (hX2 _ _ _ _ _ (bX hh) ?_)));intro hout;rw[hout]at hk2;refine aEq ?_;obtain rfl:=bX hk2;exact hN1 (s2.2.1,s2.1) _ _ _ hk1 (el [some 0] (eX kr (ri mK)) (hn aN aP))};refine cT hb (Aw.xskip (λ_ _ _ hq=>cG hq) (Aw.seq (Aw.block (Aw.sreg [0,1,5] [0] ?_))));obtain⟨hg24,hh⟩:=aE hh;refine yjc 4 [(0:Int)<=s2.2.2/\s2.2.2<((List.length s2.1:Nat):Int)] (sp 19 [z4,(1,ii s2.2.1),z6,z7,(12,sw 0 s2.1),(13,ii s2.2.2),(14,ii s2.2.1),(15,.ptr 0 [] (0+(Int.toNat s2.2.2)*1))]) [z3] 1 (.cons hg24 .nil) ?_;let q1:Root:=(rI_3 z1);refine ys (.store 1 (.t 15) (.t 14)) none (zR (c:=(eI .i64)) (xs:=s2.1) (e:=3) (r:=0) (π:=[]) (o:=0+(Int.toNat s2.2.2)*1) (i:=(Int.toNat s2.2.2)) (off:=0) (vs:=[ii s2.2.1]) (y:=s2.2.1) (H':=[(0,some q1),z3]) aF kr kr kr kr ltn ltn dd kr kr ?_);exact yt (sp 19 [z4,(1,ii s2.2.1),z6]) [(0,some q1)] 1 (Aw.xreg [0,1,5] [0] (λ_ _ _ hq=>xC (cG hq)) (yt (sp 19 [z4,z5,z6]) [(0,some q1)] 1 (Aw.oreg (ye (sp 19 [z4,z5,(5,ii (w64 (s2.2.2+(1:Int)))),(10,ii s2.2.2),(11,ii (w64 (s2.2.2+(1:Int))))]) [(0,some q1)] 1 (hN2 (z1,w64 (s2.2.1+(1:Int)),w64 (s2.2.2+(1:Int))) _ _ _ (bX hh) (el [some 0] (eX kr (rs (sw 0 s2.1) (ri (ri mK)))) (hn aN aP)))))))
noncomputable def aDa  (s1:Int):Option Int:=some s1
noncomputable def iN (x_a:List Int)(s2:Int×Int):Option (LO (Int×Int) (JO Int Int)):=
 cond (decide (s2.2<((List.length x_a:Nat):Int)))
  (grd ((0:Int)<=s2.2/\s2.2<((List.length x_a:Nat):Int)) (cond (!decide ((List.getD x_a (Int.toNat s2.2) default)=s2.1))
   (some (.ret (.out (-1:Int))))
   (some (.next ((w64 (s2.1+(1:Int))),w64 (s2.2+(1:Int)))))))
  (some (.ret (.go s2.1)))
noncomputable def gB (x_a:List Int)(x_k:Int):Option Int:=
 Option.bind (Option.bind (iter (iN x_a) (x_k,(0:Int))) LO.val) λj1=>
  JO.run j1 aDa
noncomputable def g79:Sg tG:=⟨[.row 3,.i .i64],.one (.i .i64),gB⟩
theorem s79:Sok 79 g79:=sgx [] trivial (.s .o (.j ⟨[],[],[(.s 1,.i .i64)]⟩ (.s .o (.k (.l ⟨[0],[],[(.s 1,.i .i64),(.s 5,.i .i64)]⟩ .o))) .o)) kr kr kr
noncomputable def nQ (x_c:DCore):Option Bool:=
 cond (decide (x_c.Pc=(0:Int)))
  (cond (decide (x_c.Root=(0:Int)))
   (cond (decide (x_c.Vector=(0:Int)))
    (cond (decide (x_c.Saved=(0:Int)))
     (cond x_c.SavedUser
      (cond (decide (((List.length x_c.Regs:Nat):Int)=(0:Int)))
       (cond (decide (x_c.Bad=(0:Int)))
        (cond (decide (x_c.Cause=(0:Int)))
         (cond (decide (x_c.Timer=(0:Int)))
          (some false)
          (some false))
         (some false))
        (some false))
       (some false))
      (cond x_c.Waits
       (cond (decide (((List.length x_c.Regs:Nat):Int)=(0:Int)))
        (cond (decide (x_c.Bad=(0:Int)))
         (cond (decide (x_c.Cause=(0:Int)))
          (cond (decide (x_c.Timer=(0:Int)))
           (some false)
           (some false))
          (some false))
         (some false))
        (some false))
       (cond x_c.User
        (cond (decide (((List.length x_c.Regs:Nat):Int)=(0:Int)))
         (cond (decide (x_c.Bad=(0:Int)))
          (cond (decide (x_c.Cause=(0:Int)))
           (cond (decide (x_c.Timer=(0:Int)))
            (some false)
            (some false))
           (some false))
          (some false))
         (some false))
        (cond x_c.On
         (cond (decide (((List.length x_c.Regs:Nat):Int)=(0:Int)))
          (cond (decide (x_c.Bad=(0:Int)))
           (cond (decide (x_c.Cause=(0:Int)))
            (cond (decide (x_c.Timer=(0:Int)))
             (some false)
             (some false))
            (some false))
           (some false))
          (some false))
         (cond (decide (((List.length x_c.Regs:Nat):Int)=(0:Int)))
          (cond (decide (x_c.Bad=(0:Int)))
           (cond (decide (x_c.Cause=(0:Int)))
            (cond (decide (x_c.Timer=(0:Int)))
             (some (!x_c.Stopped))
             (some false))
            (some false))
           (some false))
          (some false))))))
     (cond x_c.SavedUser
      (cond (decide (((List.length x_c.Regs:Nat):Int)=(0:Int)))
       (some false)
       (some false))
      (cond x_c.Waits
       (cond (decide (((List.length x_c.Regs:Nat):Int)=(0:Int)))
        (some false)
        (some false))
       (cond x_c.User
        (cond (decide (((List.length x_c.Regs:Nat):Int)=(0:Int)))
         (some false)
         (some false))
        (cond x_c.On
         (cond (decide (((List.length x_c.Regs:Nat):Int)=(0:Int)))
          (some false)
          (some false))
         (cond (decide (((List.length x_c.Regs:Nat):Int)=(0:Int)))
          (some false)
          (some false)))))))
    (cond x_c.SavedUser
     (cond (decide (((List.length x_c.Regs:Nat):Int)=(0:Int)))
      (some false)
      (some false))
     (cond x_c.Waits
      (cond (decide (((List.length x_c.Regs:Nat):Int)=(0:Int)))
       (some false)
       (some false))
      (cond x_c.User
       (cond (decide (((List.length x_c.Regs:Nat):Int)=(0:Int)))
        (some false)
        (some false))
       (cond x_c.On
        (cond (decide (((List.length x_c.Regs:Nat):Int)=(0:Int)))
         (some false)
         (some false))
        (cond (decide (((List.length x_c.Regs:Nat):Int)=(0:Int)))
         (some false)
         (some false)))))))
   (cond x_c.SavedUser
    (cond (decide (((List.length x_c.Regs:Nat):Int)=(0:Int)))
     (some false)
     (some false))
    (cond x_c.Waits
     (cond (decide (((List.length x_c.Regs:Nat):Int)=(0:Int)))
      (some false)
      (some false))
     (cond x_c.User
      (cond (decide (((List.length x_c.Regs:Nat):Int)=(0:Int)))
       (some false)
       (some false))
      (cond x_c.On
       (cond (decide (((List.length x_c.Regs:Nat):Int)=(0:Int)))
        (some false)
        (some false))
       (cond (decide (((List.length x_c.Regs:Nat):Int)=(0:Int)))
        (some false)
        (some false)))))))
  (cond x_c.SavedUser
   (cond (decide (((List.length x_c.Regs:Nat):Int)=(0:Int)))
    (some false)
    (some false))
   (cond x_c.Waits
    (cond (decide (((List.length x_c.Regs:Nat):Int)=(0:Int)))
     (some false)
     (some false))
    (cond x_c.User
     (cond (decide (((List.length x_c.Regs:Nat):Int)=(0:Int)))
      (some false)
      (some false))
     (cond x_c.On
      (cond (decide (((List.length x_c.Regs:Nat):Int)=(0:Int)))
       (some false)
       (some false))
      (cond (decide (((List.length x_c.Regs:Nat):Int)=(0:Int)))
       (some false)
       (some false))))))
noncomputable def bHz:Sg tG:=⟨[.st 34],.one .b,nQ⟩
theorem bJb:Sok 130 bHz:=sgx [] trivial .o kr kr kr
noncomputable def lN (x_guest:DGuest):Option Bool:=
 Option.bind (nQ x_guest.C) λv1=>
 cond v1
  (cond (decide (((List.length x_guest.Pages:Nat):Int)=(0:Int)))
   (cond (decide (((List.length x_guest.In:Nat):Int)=(0:Int)))
    (some (decide (((List.length x_guest.Out:Nat):Int)=(0:Int))))
    (some false))
   (some false))
  (some false)
noncomputable def bGj:Sg tG:=⟨[.st 80],.one .b,lN⟩
theorem bJo:Sok 118 bGj:=sgx [(130,.r bHz)] ⟨bJb,trivial⟩ .o kr kr kr
noncomputable def qA (x_s:DSlot):Option Bool:=
 cond (decide (x_s.Frame=(-1:Int)))
  (cond (!x_s.Write)
   (some (!x_s.Dirty))
   (some false))
  (cond (decide ((0:Int)<=x_s.Frame))
   (some (decide (x_s.Frame<(20:Int))))
   (some false))
noncomputable def bHv:Sg tG:=⟨[.st 83],.one .b,qA⟩
theorem bJn:Sok 131 bHv:=sgx [] trivial .o kr kr kr
noncomputable def aFb  (s1:Unit):Option Bool:=some true
noncomputable def uK (x_pages:List DSlot)(s2:Int):Option (LO Int (JO Unit Bool)):=
 cond (decide (s2<((List.length x_pages:Nat):Int)))
  (grd ((0:Int)<=s2/\s2<((List.length x_pages:Nat):Int)) (Option.bind (qA (DSlot.mk (List.getD x_pages (Int.toNat s2) default).Frame (List.getD x_pages (Int.toNat s2) default).Write (List.getD x_pages (Int.toNat s2) default).Dirty)) λv3=>
   cond (!v3)
    (some (.ret (.out false)))
    (some (.next (w64 (s2+(1:Int)))))))
  (some (.ret (.go ())))
noncomputable def oW (x_pages:List DSlot):Option Bool:=
 cond (!decide (((List.length x_pages:Nat):Int)=(8:Int)))
  (some false)
  (Option.bind (Option.bind (iter (uK x_pages) (0:Int)) LO.val) λj1=>
   JO.run j1 aFb)
noncomputable def bHb:Sg tG:=⟨[.row 83],.one .b,oW⟩
theorem bJm:Sok 119 bHb:=sgx [(131,.r bHv)] ⟨bJn,trivial⟩ (.s .o (.s .o (.j ⟨[],[],[]⟩ (.s .o (.k (.l ⟨[8,9],[],[(.s 10,.i .i64)]⟩ .o))) .o))) kr kr kr
noncomputable def lX (x_guest:DGuest):Option Bool:=
 cond (!x_guest.Live)
  (Option.bind (lN x_guest) λv1=>
  some v1)
  (Option.bind (mY x_guest.C) λv2=>
  cond v2
   (Option.bind (oW x_guest.Pages) λv3=>
   cond v3
    (Option.bind (kA x_guest.In) λv4=>
    cond v4
     (Option.bind (kA x_guest.Out) λv5=>
     some v5)
     (some false))
    (some false))
   (some false))
noncomputable def g92:Sg tG:=⟨[.st 80],.one .b,lX⟩
theorem s92:Sok 92 g92:=sgx [(118,.r bGj),(99,.r g99),(119,.r bHb),(101,.r bBt)] ⟨bJo,s99,bJm,bHu,trivial⟩ .o kr kr kr
noncomputable def aCy  (s1:Unit):Option Bool:=some true
noncomputable def kR (x_guests:List DGuest)(s2:Int):Option (LO Int (JO Unit Bool)):=
 cond (decide (s2<((List.length x_guests:Nat):Int)))
  (grd ((0:Int)<=s2/\s2<((List.length x_guests:Nat):Int)) (Option.bind (lX (DGuest.mk (List.getD x_guests (Int.toNat s2) default).Live (DCore.mk ((List.getD x_guests (Int.toNat s2) default).C).Regs ((List.getD x_guests (Int.toNat s2) default).C).Pc ((List.getD x_guests (Int.toNat s2) default).C).Root ((List.getD x_guests (Int.toNat s2) default).C).Vector ((List.getD x_guests (Int.toNat s2) default).C).Saved ((List.getD x_guests (Int.toNat s2) default).C).SavedUser ((List.getD x_guests (Int.toNat s2) default).C).Cause ((List.getD x_guests (Int.toNat s2) default).C).Bad ((List.getD x_guests (Int.toNat s2) default).C).Timer ((List.getD x_guests (Int.toNat s2) default).C).Waits ((List.getD x_guests (Int.toNat s2) default).C).User ((List.getD x_guests (Int.toNat s2) default).C).On ((List.getD x_guests (Int.toNat s2) default).C).Stopped) (List.getD x_guests (Int.toNat s2) default).Pages (List.getD x_guests (Int.toNat s2) default).In (List.getD x_guests (Int.toNat s2) default).Out)) λv3=>
   cond (!v3)
    (some (.ret (.out false)))
    (some (.next (w64 (s2+(1:Int)))))))
  (some (.ret (.go ())))
noncomputable def nS (x_guests:List DGuest):Option Bool:=
 cond (!decide (((List.length x_guests:Nat):Int)=(3:Int)))
  (some false)
  (Option.bind (Option.bind (iter (kR x_guests) (0:Int)) LO.val) λj1=>
   JO.run j1 aCy)
noncomputable def g56:Sg tG:=⟨[.row 80],.one .b,nS⟩
theorem s56:Sok 56 g56:=sgx [(92,.r g92)] ⟨s92,trivial⟩ (.s .o (.s .o (.j ⟨[],[],[]⟩ (.s .o (.k (.l ⟨[8,9],[],[(.s 10,.i .i64)]⟩ .o))) .o))) kr kr kr
noncomputable def qT  (s1:List Int):Option (List Int):=some s1
noncomputable def rA (s2:(List Int)×Int)(s3:List Int):Option (LO ((List Int)×Int) (JO (List Int) (List Int))):=some (.next (s3,w64 (s2.2+(1:Int))))
noncomputable def rD (s4:(List Int)×Int)(s5:List Int):Option (LO ((List Int)×Int) (JO (List Int) (LO ((List Int)×Int) (JO (List Int) (List Int))))):=some (.next (s5,w64 (s4.2+(1:Int))))
noncomputable def fS (x_guests:List DGuest)(s2:(List Int)×Int)(s4:(List Int)×Int):Option (LO ((List Int)×Int) (JO (List Int) (LO ((List Int)×Int) (JO (List Int) (List Int))))):=
 cond (decide (s4.2<((List.length (List.getD x_guests (Int.toNat s2.2) default).Pages:Nat):Int)))
  (Option.bind (grd ((0:Int)<=s4.2/\s4.2<((List.length (List.getD x_guests (Int.toNat s2.2) default).Pages:Nat):Int)) (cond (!decide ((List.getD (List.getD x_guests (Int.toNat s2.2) default).Pages (Int.toNat s4.2) default).Frame=(-1:Int)))
   (grd ((0:Int)<=(List.getD (List.getD x_guests (Int.toNat s2.2) default).Pages (Int.toNat s4.2) default).Frame/\(List.getD (List.getD x_guests (Int.toNat s2.2) default).Pages (Int.toNat s4.2) default).Frame<((List.length s4.1:Nat):Int)) (grd ((0:Int)<=(List.getD (List.getD x_guests (Int.toNat s2.2) default).Pages (Int.toNat s4.2) default).Frame/\(List.getD (List.getD x_guests (Int.toNat s2.2) default).Pages (Int.toNat s4.2) default).Frame<((List.length s4.1:Nat):Int)) (some (.go (List.set s4.1 (Int.toNat (List.getD (List.getD x_guests (Int.toNat s2.2) default).Pages (Int.toNat s4.2) default).Frame) (w64 ((List.getD s4.1 (Int.toNat (List.getD (List.getD x_guests (Int.toNat s2.2) default).Pages (Int.toNat s4.2) default).Frame) default)+(1:Int))))))))
   (some (.go s4.1)))) λj5=>
   JO.run j5 (rD s4))
  (some (.ret (.go s4.1)))
noncomputable def iP (x_guests:List DGuest)(s2:(List Int)×Int):Option (LO ((List Int)×Int) (JO (List Int) (List Int))):=
 cond (decide (s2.2<((List.length x_guests:Nat):Int)))
  (Option.bind (grd ((0:Int)<=s2.2/\s2.2<((List.length x_guests:Nat):Int)) (Option.bind (iter (fS x_guests s2) (s2.1,(0:Int))) LO.val)) λj3=>
   JO.run j3 (rA s2))
  (some (.ret (.go s2.1)))
noncomputable def iF (x_guests:List DGuest):Option (List Int):=
 Option.bind (Option.bind (iter (iP x_guests) ((List.replicate (Int.toNat (20:Int)) (0:Int)),(0:Int))) LO.val) λj1=>
  JO.run j1 qT
noncomputable def g93:Sg tG:=⟨[.row 80],.one (.row 3),iF⟩
theorem s93:Sok 93 g93:=sgx [] trivial (.s .o (.s .o (.j ⟨[],[],[(.s 3,.ro 3)]⟩ (.s .o (.k (.l ⟨[9,10],[],[(.s 3,.ro 3),(.s 11,.i .i64)]⟩ (.s .o (.s .o (.j ⟨[9,10,11],[],[(.s 3,.ro 3)]⟩ (.k (.s .o (.s .o (.k (.l ⟨[9,10,11,16,17],[],[(.s 3,.ro 3),(.s 18,.i .i64)]⟩ (.s .o (.s .o (.j ⟨[9,10,11,16,17,18],[],[(.s 3,.ro 3)]⟩ .o .o)))))))) .o)))))) .o))) kr kr kr
noncomputable def uN  (s2:Unit):Option Bool:=some true
noncomputable def nY (s3:Int)(s4:Unit):Option (LO Int (JO Unit Bool)):=some (.next (w64 (s3+(1:Int))))
noncomputable def jQ (s5:Int)(s6:Unit):Option (LO Int (JO Unit (LO Int (JO Unit Bool)))):=some (.next (w64 (s5+(1:Int))))
noncomputable def eM (x_guests:List DGuest)(v1:List Int)(s3:Int)(s5:Int):Option (LO Int (JO Unit (LO Int (JO Unit Bool)))):=
 cond (decide (s5<((List.length (List.getD x_guests (Int.toNat s3) default).Pages:Nat):Int)))
  (Option.bind (grd ((0:Int)<=s5/\s5<((List.length (List.getD x_guests (Int.toNat s3) default).Pages:Nat):Int)) (cond (List.getD (List.getD x_guests (Int.toNat s3) default).Pages (Int.toNat s5) default).Write
   (grd ((0:Int)<=(List.getD (List.getD x_guests (Int.toNat s3) default).Pages (Int.toNat s5) default).Frame/\(List.getD (List.getD x_guests (Int.toNat s3) default).Pages (Int.toNat s5) default).Frame<((List.length v1:Nat):Int)) (cond (decide ((1:Int)<(List.getD v1 (Int.toNat (List.getD (List.getD x_guests (Int.toNat s3) default).Pages (Int.toNat s5) default).Frame) default)))
    (some (.out (.ret (.out (.ret (.out false))))))
    (some (.go ()))))
   (some (.go ())))) λj6=>
   JO.run j6 (jQ s5))
  (some (.ret (.go ())))
noncomputable def fV (x_guests:List DGuest)(v1:List Int)(s3:Int):Option (LO Int (JO Unit Bool)):=
 cond (decide (s3<((List.length x_guests:Nat):Int)))
  (Option.bind (grd ((0:Int)<=s3/\s3<((List.length x_guests:Nat):Int)) (Option.bind (iter (eM x_guests v1 s3) (0:Int)) LO.val)) λj4=>
   JO.run j4 (nY s3))
  (some (.ret (.go ())))
noncomputable def hM (x_guests:List DGuest):Option Bool:=
 Option.bind (iF x_guests) λv1=>
 Option.bind (Option.bind (iter (fV x_guests v1) (0:Int)) LO.val) λj2=>
  JO.run j2 uN
noncomputable def g57:Sg tG:=⟨[.row 80],.one .b,hM⟩
theorem s57:Sok 57 g57:=sgx [(93,.r g93)] ⟨s93,trivial⟩ (.s .o (.s .o (.j ⟨[],[],[]⟩ (.s .o (.k (.l ⟨[3,10,11],[],[(.s 12,.i .i64)]⟩ (.s .o (.s .o (.j ⟨[3,10,11,12],[],[]⟩ (.k (.s .o (.s .o (.k (.l ⟨[3,10,11,12,17,18],[],[(.s 19,.i .i64)]⟩ (.s .o (.s .o (.j ⟨[3,10,11,12,17,18,19],[],[]⟩ .o .o)))))))) .o)))))) .o))) kr kr kr
noncomputable def pZ (x_h:DHost):Option Bool:=
 cond (decide (((List.length x_h.Words:Nat):Int)=(160:Int)))
  (Option.bind (gX x_h.Words) λv1=>
  cond v1
   (Option.bind (nS x_h.Guests) λv2=>
   cond v2
    (Option.bind (hM x_h.Guests) λv3=>
    some v3)
    (some false))
   (some false))
  (some false)
noncomputable def g15:Sg tG:=⟨[.st 26],.one .b,pZ⟩
theorem s15:Sok 15 g15:=sgx [(55,.r g55),(56,.r g56),(57,.r g57)] ⟨s55,s56,s57,trivial⟩ .o kr kr kr
noncomputable def mW (x_g:DGuest):Option Bool:=
 cond (decide (((List.length x_g.C.Regs:Nat):Int)=(0:Int)))
  (cond (decide (x_g.C.Pc=(0:Int)))
   (cond (decide (x_g.C.Root=(0:Int)))
    (cond (decide (x_g.C.Vector=(0:Int)))
     (cond (decide (x_g.C.Saved=(0:Int)))
      (cond (!x_g.C.SavedUser)
       (cond (decide (x_g.C.Cause=(0:Int)))
        (cond (decide (x_g.C.Bad=(0:Int)))
         (cond (decide (x_g.C.Timer=(0:Int)))
          (cond (!x_g.C.Waits)
           (cond (!x_g.C.User)
            (cond (!x_g.C.On)
             (cond (!x_g.C.Stopped)
              (cond (decide (((List.length x_g.Pages:Nat):Int)=(0:Int)))
               (cond (decide (((List.length x_g.In:Nat):Int)=(0:Int)))
                (some (decide (((List.length x_g.Out:Nat):Int)=(0:Int))))
                (some false))
               (some false))
              (some false))
             (some false))
            (some false))
           (some false))
          (some false))
         (some false))
        (some false))
       (some false))
      (some false))
     (some false))
    (some false))
   (some false))
  (some false)
noncomputable def bGy:Sg tG:=⟨[.st 80],.one .b,mW⟩
theorem bJr:Sok 116 bGy:=sgx [] trivial .o kr kr kr
noncomputable def aGz  (s3:Unit):Option Bool:=some true
noncomputable def qN (s4:Int)(s5:Unit):Option (LO Int (JO Unit Bool)):=some (.next (w64 (s4+(1:Int))))
noncomputable def mI (s2:(List Int)×(List Bool))(s4:Int):Option (LO Int (JO Unit Bool)):=
 cond (decide (s4<(20:Int)))
  (Option.bind (grd ((0:Int)<=s4/\s4<((List.length s2.1:Nat):Int)) (cond (decide ((1:Int)<(List.getD s2.1 (Int.toNat s4) default)))
   (grd ((0:Int)<=s4/\s4<((List.length s2.2:Nat):Int)) (cond (List.getD s2.2 (Int.toNat s4) default)
    (some (.out (.ret (.out false))))
    (some (.go ()))))
   (some (.go ())))) λj5=>
   JO.run j5 (qN s4))
  (some (.ret (.go ())))
noncomputable def vQ  (s2:(List Int)×(List Bool)):Option Bool:=
 Option.bind (Option.bind (iter (mI s2) (0:Int)) LO.val) λj3=>
  JO.run j3 aGz
noncomputable def qK (s6:(List Int)×(List Bool)×Int)(s7:(List Int)×(List Bool)):Option (LO ((List Int)×(List Bool)×Int) (JO ((List Int)×(List Bool)) Bool)):=some (.next (s7.1,s7.2,w64 (s6.2.2+(1:Int))))
noncomputable def pR (s12:(List Int)×(List Bool)×Int)(s13:(List Bool)×(List Int)):Option (LO ((List Int)×(List Bool)×Int) (JO ((List Int)×(List Bool)) (LO ((List Int)×(List Bool)×Int) (JO ((List Int)×(List Bool)) Bool)))):=some (.next (s13.2,s13.1,w64 (s12.2.2+(1:Int))))
noncomputable def pW (x_h:DHost)(s6:(List Int)×(List Bool)×Int)(s12:(List Int)×(List Bool)×Int)(s14:Unit):Option (JO ((List Bool)×(List Int)) (LO ((List Int)×(List Bool)×Int) (JO ((List Int)×(List Bool)) (LO ((List Int)×(List Bool)×Int) (JO ((List Int)×(List Bool)) Bool))))):=
 cond (decide ((0:Int)<=(List.getD (List.getD x_h.Guests (Int.toNat s6.2.2) default).Pages (Int.toNat s12.2.2) default).Frame))
  (grd ((0:Int)<=(List.getD (List.getD x_h.Guests (Int.toNat s6.2.2) default).Pages (Int.toNat s12.2.2) default).Frame/\(List.getD (List.getD x_h.Guests (Int.toNat s6.2.2) default).Pages (Int.toNat s12.2.2) default).Frame<((List.length s12.1:Nat):Int)) (grd ((0:Int)<=(List.getD (List.getD x_h.Guests (Int.toNat s6.2.2) default).Pages (Int.toNat s12.2.2) default).Frame/\(List.getD (List.getD x_h.Guests (Int.toNat s6.2.2) default).Pages (Int.toNat s12.2.2) default).Frame<((List.length s12.1:Nat):Int)) (grd ((0:Int)<=(List.getD (List.getD x_h.Guests (Int.toNat s6.2.2) default).Pages (Int.toNat s12.2.2) default).Frame/\(List.getD (List.getD x_h.Guests (Int.toNat s6.2.2) default).Pages (Int.toNat s12.2.2) default).Frame<((List.length s12.2.1:Nat):Int)) (cond (List.getD s12.2.1 (Int.toNat (List.getD (List.getD x_h.Guests (Int.toNat s6.2.2) default).Pages (Int.toNat s12.2.2) default).Frame) default)
   (grd ((0:Int)<=(List.getD (List.getD x_h.Guests (Int.toNat s6.2.2) default).Pages (Int.toNat s12.2.2) default).Frame/\(List.getD (List.getD x_h.Guests (Int.toNat s6.2.2) default).Pages (Int.toNat s12.2.2) default).Frame<((List.length s12.2.1:Nat):Int)) (some (.go ((List.set s12.2.1 (Int.toNat (List.getD (List.getD x_h.Guests (Int.toNat s6.2.2) default).Pages (Int.toNat s12.2.2) default).Frame) true),List.set s12.1 (Int.toNat (List.getD (List.getD x_h.Guests (Int.toNat s6.2.2) default).Pages (Int.toNat s12.2.2) default).Frame) (w64 ((List.getD s12.1 (Int.toNat (List.getD (List.getD x_h.Guests (Int.toNat s6.2.2) default).Pages (Int.toNat s12.2.2) default).Frame) default)+(1:Int)))))))
   (grd ((0:Int)<=(List.getD (List.getD x_h.Guests (Int.toNat s6.2.2) default).Pages (Int.toNat s12.2.2) default).Frame/\(List.getD (List.getD x_h.Guests (Int.toNat s6.2.2) default).Pages (Int.toNat s12.2.2) default).Frame<((List.length s12.2.1:Nat):Int)) (some (.go ((List.set s12.2.1 (Int.toNat (List.getD (List.getD x_h.Guests (Int.toNat s6.2.2) default).Pages (Int.toNat s12.2.2) default).Frame) (List.getD (List.getD x_h.Guests (Int.toNat s6.2.2) default).Pages (Int.toNat s12.2.2) default).Write),List.set s12.1 (Int.toNat (List.getD (List.getD x_h.Guests (Int.toNat s6.2.2) default).Pages (Int.toNat s12.2.2) default).Frame) (w64 ((List.getD s12.1 (Int.toNat (List.getD (List.getD x_h.Guests (Int.toNat s6.2.2) default).Pages (Int.toNat s12.2.2) default).Frame) default)+(1:Int)))))))))))
  (some (.go (s12.2.1,s12.1)))
noncomputable def jG (x_h:DHost)(s6:(List Int)×(List Bool)×Int)(s12:(List Int)×(List Bool)×Int):Option (LO ((List Int)×(List Bool)×Int) (JO ((List Int)×(List Bool)) (LO ((List Int)×(List Bool)×Int) (JO ((List Int)×(List Bool)) Bool)))):=
 cond (decide (s12.2.2<((List.length (List.getD x_h.Guests (Int.toNat s6.2.2) default).Pages:Nat):Int)))
  (Option.bind (grd ((0:Int)<=s12.2.2/\s12.2.2<((List.length (List.getD x_h.Guests (Int.toNat s6.2.2) default).Pages:Nat):Int)) (Option.bind (Option.bind (eG (List.getD (List.getD x_h.Guests (Int.toNat s6.2.2) default).Pages (Int.toNat s12.2.2) default).Frame (-1:Int) (19:Int)) λv15=>
   cond (!v15)
    (some (.out (.out (.ret (.out (.ret (.out false)))))))
    (cond (decide ((List.getD (List.getD x_h.Guests (Int.toNat s6.2.2) default).Pages (Int.toNat s12.2.2) default).Frame=(-1:Int)))
     (cond (List.getD (List.getD x_h.Guests (Int.toNat s6.2.2) default).Pages (Int.toNat s12.2.2) default).Write
      (some (.out (.out (.ret (.out (.ret (.out false)))))))
      (cond (List.getD (List.getD x_h.Guests (Int.toNat s6.2.2) default).Pages (Int.toNat s12.2.2) default).Dirty
       (some (.out (.out (.ret (.out (.ret (.out false)))))))
       (some (.go ()))))
     (some (.go ())))) λj14=>
   JO.run j14 (pW x_h s6 s12))) λj13=>
   JO.run j13 (pR s12))
  (some (.ret (.go (s12.1,s12.2.1))))
noncomputable def jW (x_h:DHost)(s6:(List Int)×(List Bool)×Int):Option (LO ((List Int)×(List Bool)×Int) (JO ((List Int)×(List Bool)) Bool)):=
 cond (decide (s6.2.2<((List.length x_h.Guests:Nat):Int)))
  (Option.bind (grd ((0:Int)<=s6.2.2/\s6.2.2<((List.length x_h.Guests:Nat):Int)) (cond (!(List.getD x_h.Guests (Int.toNat s6.2.2) default).Live)
   (Option.bind (mW (DGuest.mk (List.getD x_h.Guests (Int.toNat s6.2.2) default).Live (DCore.mk ((List.getD x_h.Guests (Int.toNat s6.2.2) default).C).Regs ((List.getD x_h.Guests (Int.toNat s6.2.2) default).C).Pc ((List.getD x_h.Guests (Int.toNat s6.2.2) default).C).Root ((List.getD x_h.Guests (Int.toNat s6.2.2) default).C).Vector ((List.getD x_h.Guests (Int.toNat s6.2.2) default).C).Saved ((List.getD x_h.Guests (Int.toNat s6.2.2) default).C).SavedUser ((List.getD x_h.Guests (Int.toNat s6.2.2) default).C).Cause ((List.getD x_h.Guests (Int.toNat s6.2.2) default).C).Bad ((List.getD x_h.Guests (Int.toNat s6.2.2) default).C).Timer ((List.getD x_h.Guests (Int.toNat s6.2.2) default).C).Waits ((List.getD x_h.Guests (Int.toNat s6.2.2) default).C).User ((List.getD x_h.Guests (Int.toNat s6.2.2) default).C).On ((List.getD x_h.Guests (Int.toNat s6.2.2) default).C).Stopped) (List.getD x_h.Guests (Int.toNat s6.2.2) default).Pages (List.getD x_h.Guests (Int.toNat s6.2.2) default).In (List.getD x_h.Guests (Int.toNat s6.2.2) default).Out)) λv8=>
   cond (!v8)
    (some (.out (.ret (.out false))))
    (some (.go (s6.1,s6.2.1))))
   (Option.bind (kI (DCore.mk ((List.getD x_h.Guests (Int.toNat s6.2.2) default).C).Regs ((List.getD x_h.Guests (Int.toNat s6.2.2) default).C).Pc ((List.getD x_h.Guests (Int.toNat s6.2.2) default).C).Root ((List.getD x_h.Guests (Int.toNat s6.2.2) default).C).Vector ((List.getD x_h.Guests (Int.toNat s6.2.2) default).C).Saved ((List.getD x_h.Guests (Int.toNat s6.2.2) default).C).SavedUser ((List.getD x_h.Guests (Int.toNat s6.2.2) default).C).Cause ((List.getD x_h.Guests (Int.toNat s6.2.2) default).C).Bad ((List.getD x_h.Guests (Int.toNat s6.2.2) default).C).Timer ((List.getD x_h.Guests (Int.toNat s6.2.2) default).C).Waits ((List.getD x_h.Guests (Int.toNat s6.2.2) default).C).User ((List.getD x_h.Guests (Int.toNat s6.2.2) default).C).On ((List.getD x_h.Guests (Int.toNat s6.2.2) default).C).Stopped)) λv9=>
   cond (!v9)
    (some (.out (.ret (.out false))))
    (cond (!decide (((List.length (List.getD x_h.Guests (Int.toNat s6.2.2) default).Pages:Nat):Int)=(8:Int)))
     (some (.out (.ret (.out false))))
     (Option.bind (eH (List.getD x_h.Guests (Int.toNat s6.2.2) default).In (30:Int)) λv10=>
     cond (!v10)
      (some (.out (.ret (.out false))))
      (Option.bind (eH (List.getD x_h.Guests (Int.toNat s6.2.2) default).Out (30:Int)) λv11=>
      cond (!v11)
       (some (.out (.ret (.out false))))
       (Option.bind (iter (jG x_h s6) (s6.1,s6.2.1,(0:Int))) LO.val))))))) λj7=>
   JO.run j7 (qK s6))
  (some (.ret (.go (s6.1,s6.2.1))))
noncomputable def mU (x_h:DHost):Option Bool:=
 Option.bind (eH x_h.Words (160:Int)) λv1=>
 cond (!v1)
  (some false)
  (cond (!decide (((List.length x_h.Words:Nat):Int)=(160:Int)))
   (some false)
   (cond (!decide (((List.length x_h.Guests:Nat):Int)=(3:Int)))
    (some false)
    (Option.bind (Option.bind (iter (jW x_h) ((List.replicate (Int.toNat (20:Int)) (0:Int)),List.replicate (Int.toNat (20:Int)) false,(0:Int))) LO.val) λj2=>
     JO.run j2 vQ)))
noncomputable def g90:Sg tG:=⟨[.st 26],.one .b,mU⟩
theorem s90:Sok 90 g90:=sgx [(106,.r bBf),(116,.r bGy),(104,.r bAn),(73,.r g73)] ⟨bGp,bJr,bGa,s73,trivial⟩ (.s .o (.s .o (.s .o (.s .o (.j ⟨[],[],[(.s 3,.ro 3),(.s 4,.ro 4)]⟩ (.s .o (.k (.l ⟨[1],[],[(.s 3,.ro 3),(.s 4,.ro 4),(.s 5,.i .i64)]⟩ (.s .o (.j ⟨[1,5],[],[(.s 3,.ro 3),(.s 4,.ro 4)]⟩ (.k (.s .o (.s .o (.s .o (.s .o (.k (.l ⟨[1,5,6],[],[(.s 3,.ro 3),(.s 4,.ro 4),(.s 7,.i .i64)]⟩ (.s .o (.j ⟨[1,5,6,7],[],[(.s 4,.ro 4),(.s 3,.ro 3)]⟩ (.k (.s .o (.j ⟨[1,3,4,5,6,7,8],[],[]⟩ .o .o))) .o))))))))) .o))))) (.j ⟨[],[],[]⟩ (.s .o (.k (.l ⟨[3,4],[],[(.s 9,.i .i64)]⟩ (.s .o (.j ⟨[3,4,9],[],[]⟩ .o .o))))) .o)))))) kr kr kr
noncomputable def aAw (x_a:DSlot):Option DSlot:=some x_a
noncomputable def bGv:Sg tG:=⟨[.st 145],.one (.st 83),aAw⟩
theorem bJp:Sok 133 bGv:=sgx [] trivial .o kr kr kr
noncomputable def aFd  (s1:List DSlot):Option (List DSlot):=some s1
noncomputable def lM (x_a:List DSlot)(s2:(List DSlot)×Int):Option (LO ((List DSlot)×Int) (JO (List DSlot) (List DSlot))):=
 cond (decide (s2.2<((List.length x_a:Nat):Int)))
  (grd ((0:Int)<=s2.2/\s2.2<((List.length x_a:Nat):Int)) (Option.bind (aAw (DSlot.mk (List.getD x_a (Int.toNat s2.2) default).Frame (List.getD x_a (Int.toNat s2.2) default).Write (List.getD x_a (Int.toNat s2.2) default).Dirty)) λv3=>
   grd ((0:Int)<=s2.2/\s2.2<((List.length s2.1:Nat):Int)) (some (.next ((List.set s2.1 (Int.toNat s2.2) v3),w64 (s2.2+(1:Int)))))))
  (some (.ret (.go s2.1)))
noncomputable def pJ (x_a:List DSlot):Option (List DSlot):=
 grd ((0:Int)<=((List.length x_a:Nat):Int)/\((List.length x_a:Nat):Int)*16<=2^47/\((List.length x_a:Nat):Int)<=2^47) (Option.bind (Option.bind (iter (lM x_a) ((List.replicate (Int.toNat ((List.length x_a:Nat):Int)) (DSlot.mk (0:Int) false false)),(0:Int))) LO.val) λj1=>
  JO.run j1 aFd)
noncomputable def bGo:Sg tG:=⟨[.row 145],.one (.row 83),pJ⟩
theorem bJa:Sok 128 bGo:=sgx [(133,.r bGv)] ⟨bJp,trivial⟩ (.s .o (.s .o (.j ⟨[],[],[(.s 3,.ro 83)]⟩ (.s .o (.k (.l ⟨[0],[],[(.s 3,.ro 83),(.s 4,.i .i64)]⟩ .o))) .o))) kr kr kr
noncomputable def lR (x_a:DGuest):Option DGuest:=
 Option.bind (mX x_a.C) λv1=>
 Option.bind (pJ x_a.Pages) λv2=>
 Option.bind (cY x_a.In) λv3=>
 Option.bind (cY x_a.Out) λv4=>
 some (DGuest.mk x_a.Live v1 v2 v3 v4)
noncomputable def bIe:Sg tG:=⟨[.st 124],.one (.st 80),lR⟩
theorem bJv:Sok 110 bIe:=sgx [(82,.r g82),(128,.r bGo),(36,.r g36)] ⟨s82,bJa,s36,trivial⟩ .o kr kr kr
noncomputable def aDr  (s1:List DGuest):Option (List DGuest):=some s1
noncomputable def kU (x_a:List DGuest)(s2:(List DGuest)×Int):Option (LO ((List DGuest)×Int) (JO (List DGuest) (List DGuest))):=
 cond (decide (s2.2<((List.length x_a:Nat):Int)))
  (grd ((0:Int)<=s2.2/\s2.2<((List.length x_a:Nat):Int)) (Option.bind (lR (DGuest.mk (List.getD x_a (Int.toNat s2.2) default).Live (DCore.mk ((List.getD x_a (Int.toNat s2.2) default).C).Regs ((List.getD x_a (Int.toNat s2.2) default).C).Pc ((List.getD x_a (Int.toNat s2.2) default).C).Root ((List.getD x_a (Int.toNat s2.2) default).C).Vector ((List.getD x_a (Int.toNat s2.2) default).C).Saved ((List.getD x_a (Int.toNat s2.2) default).C).SavedUser ((List.getD x_a (Int.toNat s2.2) default).C).Cause ((List.getD x_a (Int.toNat s2.2) default).C).Bad ((List.getD x_a (Int.toNat s2.2) default).C).Timer ((List.getD x_a (Int.toNat s2.2) default).C).Waits ((List.getD x_a (Int.toNat s2.2) default).C).User ((List.getD x_a (Int.toNat s2.2) default).C).On ((List.getD x_a (Int.toNat s2.2) default).C).Stopped) (List.getD x_a (Int.toNat s2.2) default).Pages (List.getD x_a (Int.toNat s2.2) default).In (List.getD x_a (Int.toNat s2.2) default).Out)) λv3=>
   grd ((0:Int)<=s2.2/\s2.2<((List.length s2.1:Nat):Int)) (some (.next ((List.set s2.1 (Int.toNat s2.2) v3),w64 (s2.2+(1:Int)))))))
  (some (.ret (.go s2.1)))
noncomputable def oC (x_a:List DGuest):Option (List DGuest):=
 grd ((0:Int)<=((List.length x_a:Nat):Int)/\((List.length x_a:Nat):Int)*176<=2^47/\((List.length x_a:Nat):Int)<=2^47) (Option.bind (Option.bind (iter (kU x_a) ((List.replicate (Int.toNat ((List.length x_a:Nat):Int)) (DGuest.mk false (DCore.mk ([]:List Int) (0:Int) (0:Int) (0:Int) (0:Int) false (0:Int) (0:Int) (0:Int) false false false false) ([]:List DSlot) ([]:List Int) ([]:List Int))),(0:Int))) LO.val) λj1=>
  JO.run j1 aDr)
noncomputable def g76:Sg tG:=⟨[.row 124],.one (.row 1080),oC⟩
theorem s76:Sok 76 g76:=sgx [(110,.r bIe)] ⟨bJv,trivial⟩ (.s .o (.s (.g [] [] [.fo (.s 3) 0]) (.j ⟨[],[],[(.s 3,.ro 1080)]⟩ (.s .o (.k (.l ⟨[0],[],[(.s 3,.ro 1080),(.s 4,.i .i64)]⟩ (.s .o (.s (.k (.g [] [] [.fo (.s 3) 0])) .o))))) .o))) kr kr kr
noncomputable def cQ (x_a:DHost):Option DHost:=
 Option.bind (cY x_a.Words) λv1=>
 Option.bind (oC x_a.Guests) λv2=>
 some (DHost.mk v1 v2)
noncomputable def g28:Sg tG:=⟨[.st 55],.one (.st 2026),cQ⟩
theorem s28:Sok 28 g28:=sgx [(36,.r g36),(76,.r g76)] ⟨s36,s76,trivial⟩ .o kr kr kr
theorem dM{x_a:DHost}{R_:DHost}(hh:cQ x_a=some R_):Fn Try.prog 28 [.agg [bo (eI .i64) x_a.Words,bo cB x_a.Guests]] (.agg [.own 3 1 (List.length R_.Words) (fl (eI .i64) R_.Words),.own 80 17 (List.length R_.Guests) (fl bY R_.Guests)]):=kc (s28 x_a R_ hh)
noncomputable def nD (x_a:DSlot)(x_b:DSlot):Option Bool:=
 cond (!decide (x_a.Frame=x_b.Frame))
  (some false)
  (cond (!(x_a.Write==x_b.Write))
   (some false)
   (cond (!(x_a.Dirty==x_b.Dirty))
    (some false)
    (some true)))
noncomputable def bHo:Sg tG:=⟨[.st 83,.st 83],.one .b,nD⟩
theorem bJc:Sok 134 bHo:=sgx [] trivial .o kr kr kr
noncomputable def aFi  (s1:Unit):Option Bool:=some true
noncomputable def lJ (x_a:List DSlot)(x_b:List DSlot)(s2:Int):Option (LO Int (JO Unit Bool)):=
 cond (decide (s2<((List.length x_a:Nat):Int)))
  (grd ((0:Int)<=s2/\s2<((List.length x_a:Nat):Int)) (grd ((0:Int)<=s2/\s2<((List.length x_b:Nat):Int)) (Option.bind (nD (DSlot.mk (List.getD x_a (Int.toNat s2) default).Frame (List.getD x_a (Int.toNat s2) default).Write (List.getD x_a (Int.toNat s2) default).Dirty) (DSlot.mk (List.getD x_b (Int.toNat s2) default).Frame (List.getD x_b (Int.toNat s2) default).Write (List.getD x_b (Int.toNat s2) default).Dirty)) λv3=>
   cond (!v3)
    (some (.ret (.out false)))
    (some (.next (w64 (s2+(1:Int))))))))
  (some (.ret (.go ())))
noncomputable def oX (x_a:List DSlot)(x_b:List DSlot):Option Bool:=
 cond (!decide (((List.length x_a:Nat):Int)=((List.length x_b:Nat):Int)))
  (some false)
  (Option.bind (Option.bind (iter (lJ x_a x_b) (0:Int)) LO.val) λj1=>
   JO.run j1 aFi)
noncomputable def bHg:Sg tG:=⟨[.row 83,.row 83],.one .b,oX⟩
theorem bJj:Sok 129 bHg:=sgx [(134,.r bHo)] ⟨bJc,trivial⟩ (.s .o (.s .o (.j ⟨[],[],[]⟩ (.s .o (.k (.l ⟨[0,1],[],[(.s 5,.i .i64)]⟩ .o))) .o))) kr kr kr
noncomputable def lW (x_a:DGuest)(x_b:DGuest):Option Bool:=
 cond (!(x_a.Live==x_b.Live))
  (some false)
  (Option.bind (mO x_a.C x_b.C) λv1=>
  cond (!v1)
   (some false)
   (Option.bind (oX x_a.Pages x_b.Pages) λv2=>
   cond (!v2)
    (some false)
    (Option.bind (dP x_a.In x_b.In) λv3=>
    cond (!v3)
     (some false)
     (Option.bind (dP x_a.Out x_b.Out) λv4=>
     cond (!v4)
      (some false)
      (some true)))))
noncomputable def bGu:Sg tG:=⟨[.st 80,.st 80],.one .b,lW⟩
theorem bJf:Sok 111 bGu:=sgx [(83,.r g83),(129,.r bHg),(37,.r g37)] ⟨s83,bJj,s37,trivial⟩ .o kr kr kr
noncomputable def aDl  (s1:Unit):Option Bool:=some true
noncomputable def kZ (x_a:List DGuest)(x_b:List DGuest)(s2:Int):Option (LO Int (JO Unit Bool)):=
 cond (decide (s2<((List.length x_a:Nat):Int)))
  (grd ((0:Int)<=s2/\s2<((List.length x_a:Nat):Int)) (grd ((0:Int)<=s2/\s2<((List.length x_b:Nat):Int)) (Option.bind (lW (DGuest.mk (List.getD x_a (Int.toNat s2) default).Live (DCore.mk ((List.getD x_a (Int.toNat s2) default).C).Regs ((List.getD x_a (Int.toNat s2) default).C).Pc ((List.getD x_a (Int.toNat s2) default).C).Root ((List.getD x_a (Int.toNat s2) default).C).Vector ((List.getD x_a (Int.toNat s2) default).C).Saved ((List.getD x_a (Int.toNat s2) default).C).SavedUser ((List.getD x_a (Int.toNat s2) default).C).Cause ((List.getD x_a (Int.toNat s2) default).C).Bad ((List.getD x_a (Int.toNat s2) default).C).Timer ((List.getD x_a (Int.toNat s2) default).C).Waits ((List.getD x_a (Int.toNat s2) default).C).User ((List.getD x_a (Int.toNat s2) default).C).On ((List.getD x_a (Int.toNat s2) default).C).Stopped) (List.getD x_a (Int.toNat s2) default).Pages (List.getD x_a (Int.toNat s2) default).In (List.getD x_a (Int.toNat s2) default).Out) (DGuest.mk (List.getD x_b (Int.toNat s2) default).Live (DCore.mk ((List.getD x_b (Int.toNat s2) default).C).Regs ((List.getD x_b (Int.toNat s2) default).C).Pc ((List.getD x_b (Int.toNat s2) default).C).Root ((List.getD x_b (Int.toNat s2) default).C).Vector ((List.getD x_b (Int.toNat s2) default).C).Saved ((List.getD x_b (Int.toNat s2) default).C).SavedUser ((List.getD x_b (Int.toNat s2) default).C).Cause ((List.getD x_b (Int.toNat s2) default).C).Bad ((List.getD x_b (Int.toNat s2) default).C).Timer ((List.getD x_b (Int.toNat s2) default).C).Waits ((List.getD x_b (Int.toNat s2) default).C).User ((List.getD x_b (Int.toNat s2) default).C).On ((List.getD x_b (Int.toNat s2) default).C).Stopped) (List.getD x_b (Int.toNat s2) default).Pages (List.getD x_b (Int.toNat s2) default).In (List.getD x_b (Int.toNat s2) default).Out)) λv3=>
   cond (!v3)
    (some (.ret (.out false)))
    (some (.next (w64 (s2+(1:Int))))))))
  (some (.ret (.go ())))
noncomputable def nV (x_a:List DGuest)(x_b:List DGuest):Option Bool:=
 cond (!decide (((List.length x_a:Nat):Int)=((List.length x_b:Nat):Int)))
  (some false)
  (Option.bind (Option.bind (iter (kZ x_a x_b) (0:Int)) LO.val) λj1=>
   JO.run j1 aDl)
noncomputable def g77:Sg tG:=⟨[.row 80,.row 80],.one .b,nV⟩
theorem s77:Sok 77 g77:=sgx [(111,.r bGu)] ⟨bJf,trivial⟩ (.s .o (.s .o (.j ⟨[],[],[]⟩ (.s .o (.k (.l ⟨[0,1],[],[(.s 5,.i .i64)]⟩ .o))) .o))) kr kr kr
noncomputable def cS (x_a:DHost)(x_b:DHost):Option Bool:=
 Option.bind (dP x_a.Words x_b.Words) λv1=>
 cond (!v1)
  (some false)
  (Option.bind (nV x_a.Guests x_b.Guests) λv2=>
  cond (!v2)
   (some false)
   (some true))
noncomputable def g29:Sg tG:=⟨[.st 26,.st 26],.one .b,cS⟩
theorem s29:Sok 29 g29:=sgx [(37,.r g37),(77,.r g77)] ⟨s37,s77,trivial⟩ .o kr kr kr
theorem dN{x_a:DHost}{x_b:DHost}{R_:Bool}(hh:cS x_a x_b=some R_):Fn Try.prog 29 [.agg [bo (eI .i64) x_a.Words,bo cH x_a.Guests],.agg [bo (eI .i64) x_b.Words,bo cH x_b.Guests]] (.bool R_):=kc (s29 x_a x_b R_ hh)
noncomputable def oV (x_a:List DSlot)(x_left:Int):Option Int:=
 cond (decide ((w64 (x_left-((List.length x_a:Nat):Int)))<(0:Int)))
  (some (-1:Int))
  (some (w64 (x_left-((List.length x_a:Nat):Int))))
noncomputable def bHm:Sg tG:=⟨[.row 145,.i .i64],.one (.i .i64),oV⟩
theorem bJh:Sok 127 bHm:=sgx [] trivial .o kr kr kr
noncomputable def lT (x_a:DGuest)(x_left:Int):Option Int:=
 Option.bind (nF x_a.C x_left) λv1=>
 cond (decide (v1<(0:Int)))
  (some (-1:Int))
  (Option.bind (oV x_a.Pages v1) λv2=>
  cond (decide (v2<(0:Int)))
   (some (-1:Int))
   (Option.bind (eW x_a.In v2) λv3=>
   cond (decide (v3<(0:Int)))
    (some (-1:Int))
    (Option.bind (eW x_a.Out v3) λv4=>
    cond (decide (v4<(0:Int)))
     (some (-1:Int))
     (some v4))))
noncomputable def bHq:Sg tG:=⟨[.st 124,.i .i64],.one (.i .i64),lT⟩
theorem bJg:Sok 109 bHq:=sgx [(81,.r g81),(127,.r bHm),(74,.r g74)] ⟨s81,bJh,s74,trivial⟩ .o kr kr kr
noncomputable def aCl  (s1:Int):Option Int:=some s1
noncomputable def iI (x_a:List DGuest)(s2:Int×Int):Option (LO (Int×Int) (JO Int Int)):=
 cond (decide (s2.2<((List.length x_a:Nat):Int)))
  (grd ((0:Int)<=s2.2/\s2.2<((List.length x_a:Nat):Int)) (Option.bind (lT (DGuest.mk (List.getD x_a (Int.toNat s2.2) default).Live (DCore.mk ((List.getD x_a (Int.toNat s2.2) default).C).Regs ((List.getD x_a (Int.toNat s2.2) default).C).Pc ((List.getD x_a (Int.toNat s2.2) default).C).Root ((List.getD x_a (Int.toNat s2.2) default).C).Vector ((List.getD x_a (Int.toNat s2.2) default).C).Saved ((List.getD x_a (Int.toNat s2.2) default).C).SavedUser ((List.getD x_a (Int.toNat s2.2) default).C).Cause ((List.getD x_a (Int.toNat s2.2) default).C).Bad ((List.getD x_a (Int.toNat s2.2) default).C).Timer ((List.getD x_a (Int.toNat s2.2) default).C).Waits ((List.getD x_a (Int.toNat s2.2) default).C).User ((List.getD x_a (Int.toNat s2.2) default).C).On ((List.getD x_a (Int.toNat s2.2) default).C).Stopped) (List.getD x_a (Int.toNat s2.2) default).Pages (List.getD x_a (Int.toNat s2.2) default).In (List.getD x_a (Int.toNat s2.2) default).Out) s2.1) λv3=>
   cond (decide (v3<(0:Int)))
    (some (.ret (.out (-1:Int))))
    (some (.next (v3,w64 (s2.2+(1:Int)))))))
  (some (.ret (.go s2.1)))
noncomputable def oD (x_a:List DGuest)(x_left:Int):Option Int:=
 cond (decide ((w64 (x_left-((List.length x_a:Nat):Int)))<(0:Int)))
  (some (-1:Int))
  (Option.bind (Option.bind (iter (iI x_a) ((w64 (x_left-((List.length x_a:Nat):Int))),(0:Int))) LO.val) λj1=>
   JO.run j1 aCl)
noncomputable def g75:Sg tG:=⟨[.row 124,.i .i64],.one (.i .i64),oD⟩
theorem s75:Sok 75 g75:=sgx [(109,.r bHq)] ⟨bJg,trivial⟩ (.s .o (.s .o (.s .o (.j ⟨[],[],[(.s 1,.i .i64)]⟩ (.s .o (.k (.l ⟨[0],[],[(.s 1,.i .i64),(.s 5,.i .i64)]⟩ .o))) .o)))) kr kr kr
noncomputable def iY (x_a:DHost)(x_left:Int):Option Int:=
 Option.bind (eW x_a.Words x_left) λv1=>
 cond (decide (v1<(0:Int)))
  (some (-1:Int))
  (Option.bind (oD x_a.Guests v1) λv2=>
  cond (decide (v2<(0:Int)))
   (some (-1:Int))
   (some v2))
noncomputable def g27:Sg tG:=⟨[.st 55,.i .i64],.one (.i .i64),iY⟩
theorem s27:Sok 27 g27:=sgx [(74,.r g74),(75,.r g75)] ⟨s74,s75,trivial⟩ .o kr kr kr
theorem sN{x_a:DHost}{x_left:Int}{R_:Int}(hh:iY x_a x_left=some R_):Fn Try.prog 27 [.agg [bo (eI .i64) x_a.Words,bo cB x_a.Guests],.int .i64 x_left] (.int .i64 R_):=kc (s27 x_a x_left R_ hh)
noncomputable def dK (x_list:List Int):Option (List Int):=grd ((0:Int)<=((List.length x_list:Nat):Int)/\((List.length x_list:Nat):Int)*8<=2^47/\((List.length x_list:Nat):Int)<=2^47) (some (over (List.replicate (Int.toNat ((List.length x_list:Nat):Int)) (0:Int)) 0 (List.length (List.replicate (Int.toNat ((List.length x_list:Nat):Int)) (0:Int))) x_list))
noncomputable def g87:Sg tG:=⟨[.row 3],.one (.row 3),dK⟩
theorem s87:Sok 87 g87:=sgx [] trivial .o kr kr kr
theorem aKu{x_list:List Int}{R_:(List Int)}(hh:dK x_list=some R_):Fn Try.prog 87 [bo (eI .i64) x_list] (.own 3 1 (List.length R_) (fl (eI .i64) R_)):=kc (s87 x_list R_ hh)
noncomputable def nE (x_c:DCore):Option DCore:=grd ((List.length ([]:List Int)+List.length x_c.Regs)*8<=2^47/\List.length ([]:List Int)+List.length x_c.Regs<=2^47) (some (DCore.mk (([]:List Int)++x_c.Regs) x_c.Pc x_c.Root x_c.Vector x_c.Saved x_c.SavedUser x_c.Cause x_c.Bad x_c.Timer x_c.Waits x_c.User x_c.On x_c.Stopped))
noncomputable def g71:Sg tG:=⟨[.st 34],.one (.st 34),nE⟩
theorem s71:Sok 71 g71:=sgx [] trivial .o kr kr kr
noncomputable def pB (x_guests:List DGuest)(x_g:Int):Option Bool:=
 cond (decide ((0:Int)<=x_g))
  (cond (decide (x_g<(3:Int)))
   (grd ((0:Int)<=x_g/\x_g<((List.length x_guests:Nat):Int)) (some (List.getD x_guests (Int.toNat x_g) default).Live))
   (some false))
  (some false)
noncomputable def g86:Sg tG:=⟨[.row 80,.i .i64],.one .b,pB⟩
theorem s86:Sok 86 g86:=sgx [] trivial .o kr kr kr
noncomputable def fF (x_h:DHost)(x_g:Int):Option Bool:=
 Option.bind (pZ x_h) λv1=>
 cond v1
  (Option.bind (pB x_h.Guests x_g) λv2=>
  some v2)
  (some false)
noncomputable def g42:Sg tG:=⟨[.st 26,.i .i64],.one .b,fF⟩
theorem s42:Sok 42 g42:=sgx [(15,.r g15),(86,.r g86)] ⟨s15,s86,trivial⟩ .o kr kr kr
theorem aGs{x_h:DHost}{x_g:Int}{R_:Bool}(hh:fF x_h x_g=some R_):Fn Try.prog 42 [.agg (mE x_h),.int .i64 x_g] (.bool R_):=kc (s42 x_h x_g R_ hh)
noncomputable def iX (x_h:DHost)(x_g:Int):Option Bool:=
 Option.bind (mU x_h) λv1=>
 cond v1
  (Option.bind (eG x_g (0:Int) (2:Int)) λv2=>
  cond v2
   (grd ((0:Int)<=x_g/\x_g<((List.length x_h.Guests:Nat):Int)) (some (List.getD x_h.Guests (Int.toNat x_g) default).Live))
   (some false))
  (some false)
noncomputable def g48:Sg tG:=⟨[.st 26,.i .i64],.one .b,iX⟩
theorem s48:Sok 48 g48:=sgx [(90,.r g90),(73,.r g73)] ⟨s90,s73,trivial⟩ .o kr kr kr
noncomputable def jE (x_b:DBare):Option DBare:=
 Option.bind (dK x_b.C.Regs) λv1=>
 Option.bind (dK x_b.Mem) λv2=>
 Option.bind (dK x_b.In) λv3=>
 Option.bind (dK x_b.Out) λv4=>
 some (DBare.mk (DCore.mk v1 x_b.C.Pc x_b.C.Root x_b.C.Vector x_b.C.Saved x_b.C.SavedUser x_b.C.Cause x_b.C.Bad x_b.C.Timer x_b.C.Waits x_b.C.User x_b.C.On x_b.C.Stopped) v2 v3 v4)
noncomputable def g53:Sg tG:=⟨[.st 36],.one (.st 36),jE⟩
theorem s53:Sok 53 g53:=sgx [(87,.r g87)] ⟨s87,trivial⟩ .o kr kr kr
theorem aJt:LW 117 ⟨12,[.tmp 4],.seq (.reg false (rg 117 0)) (.seq (.reg false (rg 117 1)) .ret)⟩:=kr
noncomputable def iZ (x_words:List Int)(x_page:Int):Option (List Int):=grd ((0:Int)<=(w64 (x_page*(8:Int)))/\(w64 (x_page*(8:Int)))<=(w64 ((w64 (x_page+(1:Int)))*(8:Int)))/\(w64 ((w64 (x_page+(1:Int)))*(8:Int)))<=((List.length x_words:Nat):Int)) (some (List.take (Int.toNat (w64 ((w64 (x_page+(1:Int)))*(8:Int)))-Int.toNat (w64 (x_page*(8:Int)))) (List.drop (Int.toNat (w64 (x_page*(8:Int)))) x_words)))
noncomputable def bGl:Sg tG:=⟨[.row 3,.i .i64],.one (.rb 3),iZ⟩
theorem bHc:Sok 117 bGl:=sgx [] trivial .o kr kr kr
theorem yP{x_words:List Int}{x_page:Int}{R_:(List Int)}(hh:iZ x_words x_page=some R_):Fn Try.prog 117 [bo (eI .i64) x_words,.int .i64 x_page] (bo (eI .i64) R_):=kc (bHc x_words x_page R_ hh)
noncomputable def iS (x_words:List Int)(x_page:Int):Option ((List Int)×(Nat×Nat)):=grd ((0:Int)<=(w64 (x_page*(8:Int)))/\(w64 (x_page*(8:Int)))<=(w64 ((w64 (x_page+(1:Int)))*(8:Int)))/\(w64 ((w64 (x_page+(1:Int)))*(8:Int)))<=((List.length x_words:Nat):Int)) (some (x_words,((Int.toNat (w64 (x_page*(8:Int)))),(Int.toNat (w64 ((w64 (x_page+(1:Int)))*(8:Int)))-Int.toNat (w64 (x_page*(8:Int)))))))
theorem wN{x_words:List Int}{x_page:Int}{R_:(List Int)×(Nat×Nat)}(hh:iS x_words x_page=some R_):Inl Try.prog 117 [.sref 0 [] 0 (List.length x_words) 1,.int .i64 x_page] [(0,some (rI_3 x_words))] 1 (.sref 0 [] (0+R_.2.1*1) R_.2.2 1) [(0,some (rI_3 R_.1))] 1:=by unfold iS at hh;let q1:Root:=(rI_3 x_words);refine Inl.start aJt [0,1] [0] (E:=sp 12 [(0,sw 0 x_words),(1,ii x_page)]) (H1:=[(0,some q1)]) kr kr (sy [0,1] [0] (sp 12 [(0,sw 0 x_words),(1,ii x_page)]) [(0,some q1)] 1 (Aw.sreg [4] [0] (yu 6 [(5,sw 0 x_words),(6,ii x_page),(7,ii (w64 (x_page*(8:Int)))),(8,ii x_page),(9,ii (w64 (x_page+(1:Int)))),(10,ii (w64 ((w64 (x_page+(1:Int)))*(8:Int))))] [(0,some q1)] 1 ?_)));obtain⟨hg2,hh⟩:=aE hh;refine ys (.slc 1 (.t 5) (some (.t 7)) (some (.t 10))) (some 11) (aOs (r:=0) (π:=[]) (o:=0) (k:=(List.length x_words)) (sz:=1) (l:=(w64 (x_page*(8:Int)))) (h:=(w64 ((w64 (x_page+(1:Int)))*(8:Int)))) kr kr kr hg2 ?_);refine yt (sp 12 [(4,.sref 0 [] (0+Int.toNat (w64 (x_page*(8:Int)))*1) (Int.toNat (w64 ((w64 (x_page+(1:Int)))*(8:Int)))-Int.toNat (w64 (x_page*(8:Int)))) 1)]) [(0,some q1)] 1 (Aw.ret ?_);rw[bX hh];exact nW (r':= .sref 0 [] (0+Int.toNat (w64 (x_page*(8:Int)))*1) (Int.toNat (w64 ((w64 (x_page+(1:Int)))*(8:Int)))-Int.toNat (w64 (x_page*(8:Int)))) 1) kr (el [some 0] (kB tK) (hn aN aP))
theorem aHo:LW 91 ⟨29,[.tmp 4],.seq (.reg false (rg 91 0)) (.seq (.reg false (rg 91 1)) (.seq (.seq (.reg false (rg 91 2)) (.block 0 (.loop (.seq (.reg false (rg 91 3)) (.seq (.cond (.t 12) .skip (.exit 0)) (.seq (.block 1 (.seq (.reg false (rg 91 4)) (.seq (.reg false (rg 91 5)) (.cond (.t 18) (.regd (rg 91 6) (rg 91 7)) .skip)))) (.reg false (rg 91 8)))))))) (.seq (.reg false (rg 91 10)) .ret)))⟩:=kr
noncomputable def pO  (s1:List Int):Option (List Int):=some s1
noncomputable def pN (s2:(List Int)×Int)(s3:List Int):Option (LO ((List Int)×Int) (JO (List Int) (List Int))):=some (.next (s3,w64 (s2.2+(1:Int))))
noncomputable def uI (x_words:List Int)(x_pages:List DSlot)(s2:(List Int)×Int):Option (LO ((List Int)×Int) (JO (List Int) (List Int))):=
 cond (decide (s2.2<((List.length x_pages:Nat):Int)))
  (Option.bind (grd ((0:Int)<=s2.2/\s2.2<((List.length x_pages:Nat):Int)) (cond (!decide ((List.getD x_pages (Int.toNat s2.2) default).Frame=(-1:Int)))
   (Option.bind (iS s2.1 s2.2) λv4=>
   grd (List.length v4.1=(List.length s2.1)) (grd (v4.2.1+v4.2.2<=List.length v4.1) (Option.bind (iZ x_words (List.getD x_pages (Int.toNat s2.2) default).Frame) λv5=>
    some (.go (over v4.1 v4.2.1 v4.2.2 v5)))))
   (some (.go s2.1)))) λj3=>
   JO.run j3 (pN s2))
  (some (.ret (.go s2.1)))
noncomputable def pI (x_words:List Int)(x_pages:List DSlot):Option (List Int):=
 Option.bind (Option.bind (iter (uI x_words x_pages) ((List.replicate (Int.toNat (64:Int)) (0:Int)),(0:Int))) LO.val) λj1=>
  JO.run j1 pO
theorem aIa{x_words:List Int}{x_pages:List DSlot}{R_:(List Int)}(hh:pI x_words x_pages=some R_):Fn Try.prog 91 [bo (eI .i64) x_words,bo eR x_pages] (.own 3 1 (List.length R_) (fl (eI .i64) R_)):=by let z2:=(0,bo (eI .i64) x_words);let z3:=(1,bo eR x_pages);let z4:=(10,ii ((List.length x_pages:Nat):Int));let z5:EV:=(5,.sref 0 [] 0 (List.length (List.replicate (Int.toNat (64:Int)) (0:Int))) 1);let z6:=(9,bo eR x_pages);unfold pI at hh;refine Fn.start aHo [0,1] (E:=sp 29 [z2,z3]) kr (v:=sw 0 R_) (Hr:=[(0,some (rI_3 R_))]) (k:=1) kr (sy [0,1] [] (sp 29 [z2,z3]) [] 0 (Aw.sreg [0,1,5] [0] (ys (.mk 3 1 8 [ii 0] (.c (ii 64))) (some 8) (bDh (c:=(eI .i64)) (d:=(0:Int)) (k:=(64:Int)) kr dd kr ?_))));let q1:Root:=(rI_3 (List.replicate (Int.toNat (64:Int)) (0:Int)));refine yt (sp 29 [z2,z3,z5]) [(0,some q1)] 1 ?_;obtain⟨j1,hh,hk1⟩:=bind_some hh;refine Aw.join (S:=(List Int)) (λs1=>sp 29 [(5,sw 0 s1)]) (λs1=>[(0,some (rI_3 s1))]) 1 (λs1=>pO s1=some R_) ?_ ?_;{intro s1 hh;unfold pO at hh;refine sy [4] [0] (sp 29 [(4,sw 0 s1)]) [(0,some (rI_3 s1))] 1 (Aw.ret ?_);rw[bX hh];exact nW (r':=sw 0 s1) kr (Ent.list [some 0] rfl rfl (Nat.zero_le _) (kB tK) (hn aN aP))};intro Q1 hN1 hR1 hE1;refine sy [0,5,9,10,11] [0] (sp 29 [z2,z5,z6,z4,(11,ii 0)]) [(0,some q1)] 1 (Aw.block ?_);obtain⟨o2,hi2,hk2⟩:=bind_some hh;refine Aw.iter (λ(s2:(List Int)×Int)=>sp 29 [(0,bo (eI .i64) x_words),(5,sw 0 s2.1),(9,bo eR x_pages),(10,ii ((List.length x_pages:Nat):Int)),(11,ii s2.2)]) (λ(s2:(List Int)×Int)=>[(0,some (rI_3 s2.1))]) 1 hi2 (el [some 0] (eX kr (ro aN (rs (.sref 0 [] 0 (List.length (List.replicate (Int.toNat (64:Int)) (0:Int))) 1) (ro eT (ri (ri mK)))))) (hn aN aP)) ?_;intro s2 u2 Q2 hh hN2 hX2 hR2;let z7:EH:=(0,some (rI_3 s2.1));let z8:=(11,ii s2.2);let z9:=(12,bb (decide (s2.2<((List.length x_pages:Nat):Int))));let z10:=(5,sw 0 s2.1);let z11:=(6,ii s2.2);let z1:=List.getD x_pages (Int.toNat s2.2) default;let z12:=(18,bb (!decide (z1.Frame=(-1:Int))));unfold uI at hh;refine sy [0,5,9,10,11,12] [0] (sp 29 [z2,z10,z6,z4,z8,z9]) [z7] 1 (Aw.seq ?_);rcases sS hh with⟨hb,hh⟩|⟨hb,hh⟩;{refine cF hb (Aw.exit (aCn (hX2 _ _ _ _ _ (bX hh) ?_)));intro hout;rw[hout]at hk2;refine aEq ?_;obtain rfl:=bX hk2;exact hN1 s2.1 _ _ _ hk1 (el [some 0] (eX kr (rs (sw 0 s2.1) mK)) (hn aN aP))};refine cT hb (Aw.xskip (λ_ _ _ hq=>cG hq) ?_);obtain⟨j3,hh,hk3⟩:=bind_some hh;refine Aw.join (S:=(List Int)) (λs3=>sp 29 [(0,bo (eI .i64) x_words),(5,sw 0 s3),(9,bo eR x_pages),(10,ii ((List.length x_pages:Nat):Int)),(11,ii s2.2)]) (λs3=>[(0,some (rI_3 s3))]) 1 (λs3=>pN s2 s3=some u2) ?_ ?_;{intro s3 hh;unfold pN at hh;exact Aw.oreg (ye (sp 29 [z2,(5,sw 0 s3),z6,z4,(11,ii (w64 (s2.2+(1:Int)))),(27,ii (w64 (s2.2+(1:Int))))]) [(0,some (rI_3 s3))] 1 (hN2 (s3,w64 (s2.2+(1:Int))) _ _ _ (bX hh) (el [some 0] (eX kr (ro aN (rs (sw 0 s3) (ro eT (ri (ri mK)))))) (hn aN aP))))};intro Q3 hN3 hR3 hE3;refine Aw.block (Aw.sreg [0,5,6,7,9,10,11] [0,1] (yj 1  (sp 29 [z2,z10,z6,z4,z8,z9,(13,ii s2.2)]) [z7] 1 ?_));obtain⟨hg104,hh⟩:=aE hh;refine ys (.iadr 3 (.t 9) (.t 11)) (some 14) (aSp (kd:= .i64) (c:=eR) (xs:=x_pages) lC dd kr kr hg104 ?_);refine ys (.load true 3 (.t 14)) (some 15) (aMp (c:=eR) (xs:=x_pages) (o:=Int.toNat s2.2*3) (i:=(Int.toNat s2.2)) (off:=0) (v:= .agg [ii z1.Frame,bb z1.Write,bb z1.Dirty]) lC kr ltn ltn dd kr ?_);let q2:Root:=⟨83,[ii z1.Frame,bb z1.Write,bb z1.Dirty]⟩;let z13:=(1,some q2);refine yt (sp 29 [z2,z10,z11,(7,pp 1),z6,z4,z8]) [z7,z13] 2 (sy [0,5,6,7,9,10,11,18] [0,1] (sp 29 [z2,z10,z11,(7,pp 1),z6,z4,z8,z12]) [z7,z13] 2 ?_);rcases sS hh with⟨hb,hh⟩|⟨hb,hh⟩;{refine cF hb (Aw.skip (xC ?_));obtain rfl:=bX hh;exact hN3 s2.1 _ _ _ hk3 (el [some 0] (eX kr (ro aN (rs (sw 0 s2.1) (ro eT (ri (ri mK)))))) (hn aN aP))};refine cT hb (Aw.oregd [0] kr (dj 2 (sp 29 [z2,z10,z11,(7,pp 1),z6,z4,z8,z12,(19,sw 0 s2.1),(20,ii s2.2)]) [z7,z13] 2 ?_));obtain⟨v4,hv4,hh⟩:=bind_some hh;let z14:EH:=(0,some (rI_3 v4.1));let z15:EV:=(21,.sref 0 [] (0+v4.2.1*1) v4.2.2 1);obtain⟨hg107,hh⟩:=aE hh;obtain⟨hg108,hh⟩:=aE hh;refine ds (.call 117 [.t 19,.t 20]) (some 21) (oU rfl (cf (.sref 0 [] (0+v4.2.1*1) v4.2.2 1) [z14] 2 [0] (wN hv4) [sw 0 s2.1,ii s2.2] rz (hn aN aP) tK (hn aN aP) ⟨⟨⟨by decide,aZd rfl rfl⟩,Hld.un ?_⟩⟩));refine dt (sp 29 [z2,z10,z11,(7,pp 1),z6,z4,z8,z12,(19,sw 0 s2.1),(20,ii s2.2),z15,(22,bo (eI .i64) x_words),(23,pp 1),(24,ii z1.Frame)]) [z14,(0,none),z7,z13] 2 ?_;obtain⟨v5,hv5,hh⟩:=bind_some hh;refine ys (.call 117 [.t 22,.t 24]) (some 25) (aGh (r:=bo (eI .i64) v5) (v:=bo (eI .i64) v5) (Hr:=[]) (n':=2) (yP hv5) (bS (vs:=[bo (eI .i64) x_words,ii z1.Frame]) kr (aR (aB (cL (aX aI))) (cz1 bI))) nrr kr ?_);let q3:Root:=(rI_3 (over v4.1 v4.2.1 v4.2.2 v5));refine ys (.cpy 1 (.t 21) (.t 25)) (some 26) (aIx (c:=(eI .i64)) (xs:=v4.1) (ys:=v5) (e:=3) (r:=0) (π:=[]) (o:=0+v4.2.1*1) (k:=v4.2.2) (i:=v4.2.1) (H':=[(0,some q3),z14,(0,none),z7,z13]) aF (rpv kr (aNn (c:=(eI .i64)) (xs:=v5) aF)) kr kr ltn ltn kr ?_);refine ye (sp 29 [z2,z10,z11,(7,pp 1),z6,z4,z8,z12,(19,sw 0 s2.1),(20,ii s2.2),z15,(22,bo (eI .i64) x_words),(23,pp 1),(24,ii z1.Frame),(25,bo (eI .i64) v5),(26,ii ((min v4.2.2 (List.length v5):Nat):Int))]) [(0,some q3),z14,(0,none),z7,z13] 2 (xC ?_);obtain rfl:=bX hh;exact hN3 (over v4.1 v4.2.1 v4.2.2 v5) _ _ _ hk3 (el [some 0] (eX kr (ro aN (rs (sw 0 s2.1) (ro eT (ri (ri mK)))))) (hn aN aP))
noncomputable def g91:Sg tG:=⟨[.row 3,.row 83],.one (.row 3),pI⟩
theorem s91:Sok 91 g91:=λx_words x_pages R_ hh=>kc (aIa (x_words:=x_words) (x_pages:=x_pages) hh)
noncomputable def aBa (x_h:DHost)(x_g:Int):Option DBare:=
 grd ((0:Int)<=x_g/\x_g<((List.length x_h.Guests:Nat):Int)) (Option.bind (pI x_h.Words (List.getD x_h.Guests (Int.toNat x_g) default).Pages) λv1=>
  some (DBare.mk (DCore.mk ((List.getD x_h.Guests (Int.toNat x_g) default).C).Regs ((List.getD x_h.Guests (Int.toNat x_g) default).C).Pc ((List.getD x_h.Guests (Int.toNat x_g) default).C).Root ((List.getD x_h.Guests (Int.toNat x_g) default).C).Vector ((List.getD x_h.Guests (Int.toNat x_g) default).C).Saved ((List.getD x_h.Guests (Int.toNat x_g) default).C).SavedUser ((List.getD x_h.Guests (Int.toNat x_g) default).C).Cause ((List.getD x_h.Guests (Int.toNat x_g) default).C).Bad ((List.getD x_h.Guests (Int.toNat x_g) default).C).Timer ((List.getD x_h.Guests (Int.toNat x_g) default).C).Waits ((List.getD x_h.Guests (Int.toNat x_g) default).C).User ((List.getD x_h.Guests (Int.toNat x_g) default).C).On ((List.getD x_h.Guests (Int.toNat x_g) default).C).Stopped) v1 (List.getD x_h.Guests (Int.toNat x_g) default).In (List.getD x_h.Guests (Int.toNat x_g) default).Out))
noncomputable def g54:Sg tG:=⟨[.st 26,.i .i64],.one (.sb 36),aBa⟩
theorem s54:Sok 54 g54:=sgx [(91,.r g91)] ⟨s91,trivial⟩ .o kr kr kr
noncomputable def aHz (x_h:DHost)(x_g:Int):Option (DBare×Bool):=
 Option.bind (fF x_h x_g) λv1=>
 cond (!v1)
  (some ((DBare.mk (DCore.mk ([]:List Int) (0:Int) (0:Int) (0:Int) (0:Int) false (0:Int) (0:Int) (0:Int) false false false false) ([]:List Int) ([]:List Int) ([]:List Int)),false))
  (Option.bind (aBa x_h x_g) λv2=>
  Option.bind (jE v2) λv3=>
  some (v3,true))
noncomputable def g14:Sg tG:=⟨[.st 26,.i .i64],.two (.st 36) .b,aHz⟩
theorem s14:Sok 14 g14:=sgx [(42,.r g42),(54,.r g54),(53,.r g53)] ⟨s42,s54,s53,trivial⟩ .o kr kr kr
noncomputable def zX  (s1:List Int):Option (List Int):=some s1
noncomputable def sB (s3:(List Int)×Int)(s4:List Int):Option (LO ((List Int)×Int) (JO (List Int) (List Int))):=some (.next (s4,w64 (s3.2+(1:Int))))
noncomputable def jP (v2:List Int)(s3:(List Int)×Int):Option (LO ((List Int)×Int) (JO (List Int) (List Int))):=
 cond (decide (s3.2<((List.length v2:Nat):Int)))
  (Option.bind (grd ((0:Int)<=s3.2/\s3.2<((List.length v2:Nat):Int)) (cond (decide ((List.getD v2 (Int.toNat s3.2) default)=(0:Int)))
   (grd ((List.length s3.1+List.length ([s3.2]:List Int))*8<=2^47/\List.length s3.1+List.length ([s3.2]:List Int)<=2^47) (some (.go (s3.1++([s3.2]:List Int)))))
   (some (.go s3.1)))) λj4=>
   JO.run j4 (sB s3))
  (some (.ret (.go s3.1)))
noncomputable def lL (x_guests:List DGuest):Option (List Int):=
 Option.bind (Option.bind (iF x_guests) λv2=>
  Option.bind (iter (jP v2) (([]:List Int),(0:Int))) LO.val) λj1=>
  JO.run j1 zX
noncomputable def g59:Sg tG:=⟨[.row 80],.one (.row 3),lL⟩
theorem s59:Sok 59 g59:=sgx [(93,.r g93)] ⟨s93,trivial⟩ (.s .o (.s .o (.j ⟨[],[],[(.s 3,.ro 3)]⟩ (.s .o (.k (.l ⟨[8,9],[],[(.s 3,.ro 3),(.s 10,.i .i64)]⟩ (.s .o (.s .o (.j ⟨[8,9,10],[],[(.s 3,.ro 3)]⟩ .o .o)))))) .o))) kr kr kr
noncomputable def wB  (s1:List Int):Option (List Int):=some s1
noncomputable def wH (s2:(List Int)×Int)(s3:List Int):Option (LO ((List Int)×Int) (JO (List Int) (List Int))):=some (.next (s3,w64 (s2.2+(1:Int))))
noncomputable def qR (s4:(List Int)×Int)(s5:List Int):Option (LO ((List Int)×Int) (JO (List Int) (LO ((List Int)×Int) (JO (List Int) (List Int))))):=some (.next (s5,w64 (s4.2+(1:Int))))
noncomputable def kC (x_h:DHost)(s2:(List Int)×Int)(s4:(List Int)×Int):Option (LO ((List Int)×Int) (JO (List Int) (LO ((List Int)×Int) (JO (List Int) (List Int))))):=
 grd ((0:Int)<=s2.2/\s2.2<((List.length x_h.Guests:Nat):Int)) (cond (decide (s4.2<((List.length (List.getD x_h.Guests (Int.toNat s2.2) default).Pages:Nat):Int)))
  (Option.bind (grd ((0:Int)<=s2.2/\s2.2<((List.length x_h.Guests:Nat):Int)) (grd ((0:Int)<=s4.2/\s4.2<((List.length (List.getD x_h.Guests (Int.toNat s2.2) default).Pages:Nat):Int)) (cond (decide ((0:Int)<=(List.getD (List.getD x_h.Guests (Int.toNat s2.2) default).Pages (Int.toNat s4.2) default).Frame))
   (grd ((0:Int)<=(List.getD (List.getD x_h.Guests (Int.toNat s2.2) default).Pages (Int.toNat s4.2) default).Frame/\(List.getD (List.getD x_h.Guests (Int.toNat s2.2) default).Pages (Int.toNat s4.2) default).Frame<((List.length s4.1:Nat):Int)) (grd ((0:Int)<=(List.getD (List.getD x_h.Guests (Int.toNat s2.2) default).Pages (Int.toNat s4.2) default).Frame/\(List.getD (List.getD x_h.Guests (Int.toNat s2.2) default).Pages (Int.toNat s4.2) default).Frame<((List.length s4.1:Nat):Int)) (some (.go (List.set s4.1 (Int.toNat (List.getD (List.getD x_h.Guests (Int.toNat s2.2) default).Pages (Int.toNat s4.2) default).Frame) (w64 ((List.getD s4.1 (Int.toNat (List.getD (List.getD x_h.Guests (Int.toNat s2.2) default).Pages (Int.toNat s4.2) default).Frame) default)+(1:Int))))))))
   (some (.go s4.1))))) λj5=>
   JO.run j5 (qR s4))
  (some (.ret (.go s4.1))))
noncomputable def mJ (x_h:DHost)(s2:(List Int)×Int):Option (LO ((List Int)×Int) (JO (List Int) (List Int))):=
 cond (decide (s2.2<((List.length x_h.Guests:Nat):Int)))
  (Option.bind (Option.bind (iter (kC x_h s2) (s2.1,(0:Int))) LO.val) λj3=>
   JO.run j3 (wH s2))
  (some (.ret (.go s2.1)))
noncomputable def nG (x_h:DHost):Option (List Int):=
 Option.bind (Option.bind (iter (mJ x_h) ((List.replicate (Int.toNat (20:Int)) (0:Int)),(0:Int))) LO.val) λj1=>
  JO.run j1 wB
noncomputable def bGx:Sg tG:=⟨[.st 26],.one (.row 3),nG⟩
theorem bJl:Sok 107 bGx:=sgx [] trivial (.s .o (.s .o (.j ⟨[],[],[(.s 3,.ro 3)]⟩ (.s .o (.k (.l ⟨[1],[],[(.s 3,.ro 3),(.s 4,.i .i64)]⟩ (.s .o (.j ⟨[1,4],[],[(.s 3,.ro 3)]⟩ (.k (.s .o (.k (.l ⟨[1,4],[],[(.s 3,.ro 3),(.s 5,.i .i64)]⟩ (.s .o (.j ⟨[1,4,5],[],[(.s 3,.ro 3)]⟩ .o .o)))))) .o))))) .o))) kr kr kr
noncomputable def aBz  (s3:List Int):Option (List Int):=some s3
noncomputable def tU (s4:(List Int)×Int)(s5:List Int):Option (LO ((List Int)×Int) (JO (List Int) (List Int))):=some (.next (s5,w64 (s4.2+(1:Int))))
noncomputable def kK (v2:List Int)(s4:(List Int)×Int):Option (LO ((List Int)×Int) (JO (List Int) (List Int))):=
 cond (decide (s4.2<(20:Int)))
  (Option.bind (grd ((0:Int)<=s4.2/\s4.2<((List.length v2:Nat):Int)) (cond (decide ((List.getD v2 (Int.toNat s4.2) default)=(0:Int)))
   (grd ((List.length s4.1+List.length ([s4.2]:List Int))*8<=2^47/\List.length s4.1+List.length ([s4.2]:List Int)<=2^47) (some (.go (s4.1++([s4.2]:List Int)))))
   (some (.go s4.1)))) λj5=>
   JO.run j5 (tU s4))
  (some (.ret (.go s4.1)))
noncomputable def nZ (x_h:DHost):Option (List Int):=
 Option.bind (mU x_h) λv1=>
 cond (!v1)
  (some ([]:List Int))
  (Option.bind (nG x_h) λv2=>
  Option.bind (Option.bind (iter (kK v2) (([]:List Int),(0:Int))) LO.val) λj3=>
   JO.run j3 aBz)
noncomputable def g70:Sg tG:=⟨[.st 26],.one (.row 3),nZ⟩
theorem s70:Sok 70 g70:=sgx [(90,.r g90),(107,.r bGx)] ⟨s90,bJl,trivial⟩ (.s .o (.s .o (.s .o (.s .o (.j ⟨[],[],[(.s 3,.ro 3)]⟩ (.s .o (.k (.l ⟨[4],[],[(.s 3,.ro 3),(.s 5,.i .i64)]⟩ (.s .o (.j ⟨[4,5],[],[(.s 3,.ro 3)]⟩ .o .o))))) .o))))) kr kr kr
noncomputable def eV (x_pages:List DSlot):Option (List DSlot):=grd ((0:Int)<=((List.length x_pages:Nat):Int)/\((List.length x_pages:Nat):Int)*16<=2^47/\((List.length x_pages:Nat):Int)<=2^47) (some (over (List.replicate (Int.toNat ((List.length x_pages:Nat):Int)) (DSlot.mk (0:Int) false false)) 0 (List.length (List.replicate (Int.toNat ((List.length x_pages:Nat):Int)) (DSlot.mk (0:Int) false false))) x_pages))
noncomputable def g89:Sg tG:=⟨[.row 83],.one (.row 83),eV⟩
theorem s89:Sok 89 g89:=sgx [] trivial .o kr kr kr
noncomputable def eU (x_guest:DGuest):Option DGuest:=
 cond (!x_guest.Live)
  (some (DGuest.mk false (DCore.mk ([]:List Int) (0:Int) (0:Int) (0:Int) (0:Int) false (0:Int) (0:Int) (0:Int) false false false false) ([]:List DSlot) ([]:List Int) ([]:List Int)))
  (Option.bind (dK x_guest.C.Regs) λv1=>
  Option.bind (eV x_guest.Pages) λv2=>
  Option.bind (dK x_guest.In) λv3=>
  Option.bind (dK x_guest.Out) λv4=>
  some (DGuest.mk x_guest.Live (DCore.mk v1 x_guest.C.Pc x_guest.C.Root x_guest.C.Vector x_guest.C.Saved x_guest.C.SavedUser x_guest.C.Cause x_guest.C.Bad x_guest.C.Timer x_guest.C.Waits x_guest.C.User x_guest.C.On x_guest.C.Stopped) v2 v3 v4))
noncomputable def g46:Sg tG:=⟨[.st 80],.one (.st 80),eU⟩
theorem s46:Sok 46 g46:=sgx [(87,.r g87),(89,.r g89)] ⟨s87,s89,trivial⟩ .o kr kr kr
noncomputable def xV  (s1:List DGuest):Option (List DGuest):=some s1
noncomputable def fL (x_guests:List DGuest)(s2:(List DGuest)×Int):Option (LO ((List DGuest)×Int) (JO (List DGuest) (List DGuest))):=
 cond (decide (s2.2<((List.length x_guests:Nat):Int)))
  (grd ((0:Int)<=s2.2/\s2.2<((List.length x_guests:Nat):Int)) (Option.bind (eU (DGuest.mk (List.getD x_guests (Int.toNat s2.2) default).Live (DCore.mk ((List.getD x_guests (Int.toNat s2.2) default).C).Regs ((List.getD x_guests (Int.toNat s2.2) default).C).Pc ((List.getD x_guests (Int.toNat s2.2) default).C).Root ((List.getD x_guests (Int.toNat s2.2) default).C).Vector ((List.getD x_guests (Int.toNat s2.2) default).C).Saved ((List.getD x_guests (Int.toNat s2.2) default).C).SavedUser ((List.getD x_guests (Int.toNat s2.2) default).C).Cause ((List.getD x_guests (Int.toNat s2.2) default).C).Bad ((List.getD x_guests (Int.toNat s2.2) default).C).Timer ((List.getD x_guests (Int.toNat s2.2) default).C).Waits ((List.getD x_guests (Int.toNat s2.2) default).C).User ((List.getD x_guests (Int.toNat s2.2) default).C).On ((List.getD x_guests (Int.toNat s2.2) default).C).Stopped) (List.getD x_guests (Int.toNat s2.2) default).Pages (List.getD x_guests (Int.toNat s2.2) default).In (List.getD x_guests (Int.toNat s2.2) default).Out)) λv3=>
   grd ((0:Int)<=s2.2/\s2.2<((List.length s2.1:Nat):Int)) (some (.next ((List.set s2.1 (Int.toNat s2.2) v3),w64 (s2.2+(1:Int)))))))
  (some (.ret (.go s2.1)))
noncomputable def gK (x_guests:List DGuest):Option (List DGuest):=
 grd ((0:Int)<=((List.length x_guests:Nat):Int)/\((List.length x_guests:Nat):Int)*176<=2^47/\((List.length x_guests:Nat):Int)<=2^47) (Option.bind (Option.bind (iter (fL x_guests) ((List.replicate (Int.toNat ((List.length x_guests:Nat):Int)) (DGuest.mk false (DCore.mk ([]:List Int) (0:Int) (0:Int) (0:Int) (0:Int) false (0:Int) (0:Int) (0:Int) false false false false) ([]:List DSlot) ([]:List Int) ([]:List Int))),(0:Int))) LO.val) λj1=>
  JO.run j1 xV)
noncomputable def g88:Sg tG:=⟨[.row 80],.one (.row 1080),gK⟩
theorem s88:Sok 88 g88:=sgx [(46,.r g46)] ⟨s46,trivial⟩ (.s .o (.s (.g [] [] [.fo (.s 3) 0]) (.j ⟨[],[],[(.s 3,.ro 1080)]⟩ (.s .o (.k (.l ⟨[9,10],[],[(.s 3,.ro 1080),(.s 11,.i .i64)]⟩ (.s .o (.s .o (.s (.k (.s .o (.g [] [] [.fo (.s 3) 0]))) .o)))))) .o))) kr kr kr
noncomputable def fP (x_guests:List DGuest)(x_g:Int)(x_guest:DGuest):Option (List DGuest):=
 Option.bind (gK x_guests) λv1=>
 grd ((0:Int)<=x_g/\x_g<((List.length v1:Nat):Int)) (some (List.set v1 (Int.toNat x_g) x_guest))
noncomputable def g65:Sw tG:=⟨[.v (.row 80),.v (.i .i64),.os 80],.one (.row 1080),fP⟩
theorem s65:Sjk 65 g65:=sgy [(88,.r g88)] ⟨s88,trivial⟩ (.s .o (.s .o (.s (.g [] [] [.fo (.s 7) 0]) .o))) kr kr kr
theorem aEx{x_guests:List DGuest}{x_g:Int}{x_guest:DGuest}{R_:(List DGuest)}(hh:fP x_guests x_g x_guest=some R_):Inl Try.prog 65 [bo cH x_guests,.int .i64 x_g,.agg [.bool x_guest.Live,.sref 0 [] 0 (List.length x_guest.C.Regs) 1,.int .i64 x_guest.C.Pc,.int .i64 x_guest.C.Root,.int .i64 x_guest.C.Vector,.int .i64 x_guest.C.Saved,.bool x_guest.C.SavedUser,.int .i64 x_guest.C.Cause,.int .i64 x_guest.C.Bad,.int .i64 x_guest.C.Timer,.bool x_guest.C.Waits,.bool x_guest.C.User,.bool x_guest.C.On,.bool x_guest.C.Stopped,.sref 1 [] 0 (List.length x_guest.Pages) 3,.sref 2 [] 0 (List.length x_guest.In) 1,.sref 3 [] 0 (List.length x_guest.Out) 1]] [(3,some (rI_3 x_guest.Out)),(2,some (rI_3 x_guest.In)),(1,some (rC83 x_guest.Pages)),(0,some (rI_3 x_guest.C.Regs))] 4 (.sref 4 [] 0 (List.length R_) 17) [(4,some (rO80 R_))] 5:=kc (s65 x_guests x_g x_guest R_ hh)
noncomputable def gV (x_g:DGuest):Option DGuest:=
 cond (!x_g.Live)
  (some (DGuest.mk false (DCore.mk ([]:List Int) (0:Int) (0:Int) (0:Int) (0:Int) false (0:Int) (0:Int) (0:Int) false false false false) ([]:List DSlot) ([]:List Int) ([]:List Int)))
  (Option.bind (nE x_g.C) λv1=>
  grd (List.length x_g.Pages*16<=2^47/\List.length x_g.Pages<=2^47) (grd (List.length x_g.In*8<=2^47/\List.length x_g.In<=2^47) (grd (List.length x_g.Out*8<=2^47/\List.length x_g.Out<=2^47) (some (DGuest.mk true v1 x_g.Pages x_g.In x_g.Out)))))
noncomputable def g50:Sg tG:=⟨[.st 80],.one (.st 80),gV⟩
theorem s50:Sok 50 g50:=sgx [(71,.r g71)] ⟨s71,trivial⟩ .o kr kr kr
noncomputable def aHg (x_h:DHost)(s1:List DGuest):Option DHost:=some (DHost.mk (([]:List Int)++x_h.Words) s1)
noncomputable def mG (x_h:DHost)(s2:(List DGuest)×Int):Option (LO ((List DGuest)×Int) (JO (List DGuest) DHost)):=
 cond (decide (s2.2<((List.length x_h.Guests:Nat):Int)))
  (grd ((0:Int)<=s2.2/\s2.2<((List.length x_h.Guests:Nat):Int)) (Option.bind (gV (DGuest.mk (List.getD x_h.Guests (Int.toNat s2.2) default).Live (DCore.mk ((List.getD x_h.Guests (Int.toNat s2.2) default).C).Regs ((List.getD x_h.Guests (Int.toNat s2.2) default).C).Pc ((List.getD x_h.Guests (Int.toNat s2.2) default).C).Root ((List.getD x_h.Guests (Int.toNat s2.2) default).C).Vector ((List.getD x_h.Guests (Int.toNat s2.2) default).C).Saved ((List.getD x_h.Guests (Int.toNat s2.2) default).C).SavedUser ((List.getD x_h.Guests (Int.toNat s2.2) default).C).Cause ((List.getD x_h.Guests (Int.toNat s2.2) default).C).Bad ((List.getD x_h.Guests (Int.toNat s2.2) default).C).Timer ((List.getD x_h.Guests (Int.toNat s2.2) default).C).Waits ((List.getD x_h.Guests (Int.toNat s2.2) default).C).User ((List.getD x_h.Guests (Int.toNat s2.2) default).C).On ((List.getD x_h.Guests (Int.toNat s2.2) default).C).Stopped) (List.getD x_h.Guests (Int.toNat s2.2) default).Pages (List.getD x_h.Guests (Int.toNat s2.2) default).In (List.getD x_h.Guests (Int.toNat s2.2) default).Out)) λv3=>
   grd ((List.length s2.1+1)*176<=2^47/\List.length s2.1+1<=2^47) (some (.next ((s2.1++([v3]:List DGuest)),w64 (s2.2+(1:Int)))))))
  (some (.ret (.go s2.1)))
noncomputable def kH (x_h:DHost):Option DHost:=
 grd ((List.length ([]:List Int)+List.length x_h.Words)*8<=2^47/\List.length ([]:List Int)+List.length x_h.Words<=2^47) (Option.bind (Option.bind (iter (mG x_h) (([]:List DGuest),(0:Int))) LO.val) λj1=>
  JO.run j1 (aHg x_h))
noncomputable def g49:Sg tG:=⟨[.st 26],.one (.st 2026),kH⟩
theorem s49:Sok 49 g49:=sgx [(50,.r g50)] ⟨s50,trivial⟩ (.s .o (.s .o (.j ⟨[2,3],[],[(.c 3 1,.ro 1080)]⟩ (.s .o (.k (.l ⟨[1,2,3],[],[(.c 3 1,.ro 1080),(.s 4,.i .i64)]⟩ (.s .o (.s (.k (.g [] [] [.fo (.c 3 1) 0])) .o))))) .o))) kr kr kr
noncomputable def nX (x_h:DHost)(x_g:Int):Option (DHost×Bool):=
 Option.bind (iX x_h x_g) λv1=>
 cond (!v1)
  (some ((DHost.mk ([]:List Int) ([]:List DGuest)),false))
  (Option.bind (kH x_h) λv2=>
  grd ((0:Int)<=x_g/\x_g<((List.length v2.Guests:Nat):Int)) (some ((DHost.mk v2.Words (List.set v2.Guests (Int.toNat x_g) (DGuest.mk false (DCore.mk ([]:List Int) (0:Int) (0:Int) (0:Int) (0:Int) false (0:Int) (0:Int) (0:Int) false false false false) ([]:List DSlot) ([]:List Int) ([]:List Int)))),true)))
noncomputable def g69:Sg tG:=⟨[.st 26,.i .i64],.two (.st 2026) .b,nX⟩
theorem s69:Sok 69 g69:=sgx [(48,.r g48),(49,.r g49)] ⟨s48,s49,trivial⟩ (.s .o (.s .o (.s .o (.s (.g [] [] [.fo (.c 6 1) 0]) .o)))) kr kr kr
noncomputable def aCw  (s1:Unit):Option Bool:=some true
noncomputable def iA (x_words:List Int)(s2:Int):Option (LO Int (JO Unit Bool)):=
 cond (decide (s2<((List.length x_words:Nat):Int)))
  (grd ((0:Int)<=s2/\s2<((List.length x_words:Nat):Int)) (cond (!decide ((List.getD x_words (Int.toNat s2) default)=(0:Int)))
   (some (.ret (.out false)))
   (some (.next (w64 (s2+(1:Int)))))))
  (some (.ret (.go ())))
noncomputable def oA (x_words:List Int):Option Bool:=
 Option.bind (Option.bind (iter (iA x_words) (0:Int)) LO.val) λj1=>
  JO.run j1 aCw
noncomputable def bGb:Sg tG:=⟨[.row 3],.one .b,oA⟩
theorem bKc:Sok 125 bGb:=sgx [] trivial (.s .o (.j ⟨[],[],[]⟩ (.s .o (.k (.l ⟨[5,6],[],[(.s 7,.i .i64)]⟩ .o))) .o)) kr kr kr
noncomputable def aDc  (s1:List DSlot):Option ((List DSlot)×Bool):=some (s1,true)
noncomputable def oS (s2:(List DSlot)×Int×Int)(s3:(List DSlot)×Int):Option (LO ((List DSlot)×Int×Int) (JO (List DSlot) ((List DSlot)×Bool))):=some (.next (s3.1,s3.2,w64 (s2.2.2+(1:Int))))
noncomputable def kL (x_mem:List Int)(x_free:List Int)(s2:(List DSlot)×Int×Int):Option (LO ((List DSlot)×Int×Int) (JO (List DSlot) ((List DSlot)×Bool))):=
 cond (decide (s2.2.2<((List.length (List.replicate (Int.toNat (8:Int)) (DSlot.mk (0:Int) false false)):Nat):Int)))
  (Option.bind (Option.bind (iZ x_mem s2.2.2) λv4=>
   Option.bind (oA v4) λv5=>
   cond v5
    (grd ((0:Int)<=s2.2.2/\s2.2.2<((List.length s2.1:Nat):Int)) (some (.go ((List.set s2.1 (Int.toNat s2.2.2) (DSlot.mk (-1:Int) false false)),s2.2.1))))
    (cond (decide (s2.2.1=((List.length x_free:Nat):Int)))
     (some (.out (.ret (.out (([]:List DSlot),false)))))
     (grd ((0:Int)<=s2.2.1/\s2.2.1<((List.length x_free:Nat):Int)) (grd ((0:Int)<=s2.2.2/\s2.2.2<((List.length s2.1:Nat):Int)) (some (.go ((List.set s2.1 (Int.toNat s2.2.2) (DSlot.mk (List.getD x_free (Int.toNat s2.2.1) default) true false)),w64 (s2.2.1+(1:Int))))))))) λj3=>
   JO.run j3 (oS s2))
  (some (.ret (.go s2.1)))
noncomputable def nR (x_mem:List Int)(x_free:List Int):Option ((List DSlot)×Bool):=
 Option.bind (Option.bind (iter (kL x_mem x_free) ((List.replicate (Int.toNat (8:Int)) (DSlot.mk (0:Int) false false)),(0:Int),(0:Int))) LO.val) λj1=>
  JO.run j1 aDc
noncomputable def bId:Sg tG:=⟨[.row 3,.row 3],.two (.row 83) .b,nR⟩
theorem bJe:Sok 102 bId:=sgx [(117,.r bGl),(125,.r bGb)] ⟨bHc,bKc,trivial⟩ (.s .o (.s .o (.s .o (.j ⟨[],[],[(.s 6,.ro 83)]⟩ (.s .o (.k (.l ⟨[0,1,11],[],[(.s 6,.ro 83),(.s 7,.i .i64),(.s 12,.i .i64)]⟩ (.s .o (.s .o (.j ⟨[0,1,11,12],[],[(.s 6,.ro 83),(.s 7,.i .i64)]⟩ .o .o)))))) .o)))) kr kr kr
theorem aBv:LW 103 ⟨32,[.tmp 6],.seq (.reg false (rg 103 0)) (.seq (.reg false (rg 103 1)) (.seq (.seq (.reg false (rg 103 2)) (.block 0 (.loop (.seq (.reg false (rg 103 3)) (.seq (.cond (.t 15) .skip (.exit 0)) (.seq (.block 1 (.seq (.reg false (rg 103 4)) (.seq (.reg false (rg 103 5)) (.cond (.t 21) (.reg false (rg 103 6)) .skip)))) (.reg false (rg 103 7)))))))) (.seq (.reg false (rg 103 9)) .ret)))⟩:=kr
noncomputable def kE  (s2:List Int):Option (List Int):=some s2
noncomputable def gP (s3:(List Int)×Int)(s4:List Int):Option (LO ((List Int)×Int) (JO (List Int) (List Int))):=some (.next (s4,w64 (s3.2+(1:Int))))
noncomputable def gN (x_pages:List DSlot)(x_mem:List Int)(s3:(List Int)×Int):Option (LO ((List Int)×Int) (JO (List Int) (List Int))):=
 cond (decide (s3.2<((List.length x_pages:Nat):Int)))
  (Option.bind (grd ((0:Int)<=s3.2/\s3.2<((List.length x_pages:Nat):Int)) (cond (!decide ((List.getD x_pages (Int.toNat s3.2) default).Frame=(-1:Int)))
   (Option.bind (iS s3.1 (List.getD x_pages (Int.toNat s3.2) default).Frame) λv5=>
   grd (List.length v5.1=(List.length s3.1)) (grd (v5.2.1+v5.2.2<=List.length v5.1) (Option.bind (iZ x_mem s3.2) λv6=>
    some (.go (over v5.1 v5.2.1 v5.2.2 v6)))))
   (some (.go s3.1)))) λj4=>
   JO.run j4 (gP s3))
  (some (.ret (.go s3.1)))
noncomputable def gZ (x_words:List Int)(x_pages:List DSlot)(x_mem:List Int):Option (List Int):=
 Option.bind (dK x_words) λv1=>
 Option.bind (Option.bind (iter (gN x_pages x_mem) (v1,(0:Int))) LO.val) λj2=>
  JO.run j2 kE
theorem aEw{x_words:List Int}{x_pages:List DSlot}{x_mem:List Int}{R_:(List Int)}(hh:gZ x_words x_pages x_mem=some R_):Fn Try.prog 103 [bo (eI .i64) x_words,bo eR x_pages,bo (eI .i64) x_mem] (.own 3 1 (List.length R_) (fl (eI .i64) R_)):=by let z2:=(1,bo eR x_pages);let z3:=(12,bo eR x_pages);let z4:=(13,ii ((List.length x_pages:Nat):Int));let z5:=(2,bo (eI .i64) x_mem);unfold gZ at hh;refine Fn.start aBv [0,1,2] (E:=sp 32 [(0,bo (eI .i64) x_words),z2,z5]) kr (v:=sw 0 R_) (Hr:=[(0,some (rI_3 R_))]) (k:=1) kr (sy [0,1,2] [] (sp 32 [(0,bo (eI .i64) x_words),z2,z5]) [] 0 (Aw.sreg [1,2,7] [0] (yu 1 [(10,bo (eI .i64) x_words)] [] 0 ?_)));obtain⟨v1,hv1,hh⟩:=bind_some hh;let z6:EH:=(0,some (rI_3 v1));refine ys (.call 87 [.t 10]) (some 11) (aW (r:= .own 3 1 (List.length v1) (fl (eI .i64) v1)) (v:=sw 0 v1) (Hr:=[z6]) (n':=1) (aKu hv1) (bS (vs:=[bo (eI .i64) x_words]) kr (aR (aB (cL (aX aI))) bI)) nrr nrr kr ?_);refine yt (sp 32 [z2,z5,(7,sw 0 v1)]) [z6] 1 ?_;obtain⟨j2,hh,hk2⟩:=bind_some hh;refine Aw.join (S:=(List Int)) (λs2=>sp 32 [(7,sw 0 s2)]) (λs2=>[(0,some (rI_3 s2))]) 1 (λs2=>kE s2=some R_) ?_ ?_;{intro s2 hh;unfold kE at hh;refine sy [6] [0] (sp 32 [(6,sw 0 s2)]) [(0,some (rI_3 s2))] 1 (Aw.ret ?_);rw[bX hh];exact nW (r':=sw 0 s2) kr (Ent.list [some 0] rfl rfl (Nat.zero_le _) (kB tK) (hn aN aP))};intro Q2 hN2 hR2 hE2;refine sy [2,7,12,13,14] [0] (sp 32 [z5,(7,sw 0 v1),z3,z4,(14,ii 0)]) [z6] 1 (Aw.block ?_);obtain⟨o3,hi3,hk3⟩:=bind_some hh;refine Aw.iter (λ(s3:(List Int)×Int)=>sp 32 [(2,bo (eI .i64) x_mem),(7,sw 0 s3.1),(12,bo eR x_pages),(13,ii ((List.length x_pages:Nat):Int)),(14,ii s3.2)]) (λ(s3:(List Int)×Int)=>[(0,some (rI_3 s3.1))]) 1 hi3 (el [some 0] (eX kr (ro aN (rs (sw 0 v1) (ro eT (ri (ri mK)))))) (hn aN aP)) ?_;intro s3 u3 Q3 hh hN3 hX3 hR3;let z7:EH:=(0,some (rI_3 s3.1));let z8:=(14,ii s3.2);let z9:=(15,bb (decide (s3.2<((List.length x_pages:Nat):Int))));let z10:=(7,sw 0 s3.1);let z1:=List.getD x_pages (Int.toNat s3.2) default;let z11:=(21,bb (!decide (z1.Frame=(-1:Int))));unfold gN at hh;refine sy [2,7,12,13,14,15] [0] (sp 32 [z5,z10,z3,z4,z8,z9]) [z7] 1 (Aw.seq ?_);rcases sS hh with⟨hb,hh⟩|⟨hb,hh⟩;{refine cF hb (Aw.exit (aCn (hX3 _ _ _ _ _ (bX hh) ?_)));intro hout;rw[hout]at hk3;refine aEq ?_;obtain rfl:=bX hk3;exact hN2 s3.1 _ _ _ hk2 (el [some 0] (eX kr (rs (sw 0 s3.1) mK)) (hn aN aP))};refine cT hb (Aw.xskip (λ_ _ _ hq=>cG hq) ?_);obtain⟨j4,hh,hk4⟩:=bind_some hh;refine Aw.join (S:=(List Int)) (λs4=>sp 32 [(2,bo (eI .i64) x_mem),(7,sw 0 s4),(12,bo eR x_pages),(13,ii ((List.length x_pages:Nat):Int)),(14,ii s3.2)]) (λs4=>[(0,some (rI_3 s4))]) 1 (λs4=>gP s3 s4=some u3) ?_ ?_;{intro s4 hh;unfold gP at hh;exact Aw.oreg (ye (sp 32 [z5,(7,sw 0 s4),z3,z4,(14,ii (w64 (s3.2+(1:Int)))),(30,ii (w64 (s3.2+(1:Int))))]) [(0,some (rI_3 s4))] 1 (hN3 (s4,w64 (s3.2+(1:Int))) _ _ _ (bX hh) (el [some 0] (eX kr (ro aN (rs (sw 0 s4) (ro eT (ri (ri mK)))))) (hn aN aP))))};intro Q4 hN4 hR4 hE4;refine Aw.block (Aw.sreg [2,7,8,9,12,13,14] [0,1] (yj 1  (sp 32 [z5,z10,z3,z4,z8,z9,(16,ii s3.2)]) [z7] 1 ?_));obtain⟨hg104,hh⟩:=aE hh;refine ys (.iadr 3 (.t 12) (.t 14)) (some 17) (aSp (kd:= .i64) (c:=eR) (xs:=x_pages) lC dd kr kr hg104 ?_);refine ys (.load true 3 (.t 17)) (some 18) (aMp (c:=eR) (xs:=x_pages) (o:=Int.toNat s3.2*3) (i:=(Int.toNat s3.2)) (off:=0) (v:= .agg [ii z1.Frame,bb z1.Write,bb z1.Dirty]) lC kr ltn ltn dd kr ?_);let q1:Root:=⟨83,[ii z1.Frame,bb z1.Write,bb z1.Dirty]⟩;let z12:=(1,some q1);refine yt (sp 32 [z5,z10,(8,ii s3.2),(9,pp 1),z3,z4,z8]) [z7,z12] 2 (sy [2,7,8,9,12,13,14,21] [0,1] (sp 32 [z5,z10,(8,ii s3.2),(9,pp 1),z3,z4,z8,z11]) [z7,z12] 2 ?_);rcases sS hh with⟨hb,hh⟩|⟨hb,hh⟩;{refine cF hb (Aw.skip (xC ?_));obtain rfl:=bX hh;exact hN4 s3.1 _ _ _ hk4 (el [some 0] (eX kr (ro aN (rs (sw 0 s3.1) (ro eT (ri (ri mK)))))) (hn aN aP))};refine cT hb (Aw.oreg (yu 3 [(22,sw 0 s3.1),(23,pp 1),(24,ii z1.Frame)] [z7,z12] 2 ?_));obtain⟨v5,hv5,hh⟩:=bind_some hh;let z13:EH:=(0,some (rI_3 v5.1));let z14:EV:=(25,.sref 0 [] (0+v5.2.1*1) v5.2.2 1);obtain⟨hg107,hh⟩:=aE hh;obtain⟨hg108,hh⟩:=aE hh;refine ys (.call 117 [.t 22,.t 24]) (some 25) (cf (.sref 0 [] (0+v5.2.1*1) v5.2.2 1) [z13] 2 [0] (wN hv5) [sw 0 s3.1,ii z1.Frame] rz (hn aN aP) tK (hn aN aP) ?_);refine yu 2 [z14,(26,bo (eI .i64) x_mem),(27,ii s3.2)] [z13,(0,none),z7,z12] 2 ?_;obtain⟨v6,hv6,hh⟩:=bind_some hh;refine ys (.call 117 [.t 26,.t 27]) (some 28) (aGh (r:=bo (eI .i64) v6) (v:=bo (eI .i64) v6) (Hr:=[]) (n':=2) (yP hv6) (bS (vs:=[bo (eI .i64) x_mem,ii s3.2]) kr (aR (aB (cL (aX aI))) (cz1 bI))) nrr kr ?_);let q2:Root:=(rI_3 (over v5.1 v5.2.1 v5.2.2 v6));refine ys (.cpy 1 (.t 25) (.t 28)) (some 29) (aIx (c:=(eI .i64)) (xs:=v5.1) (ys:=v6) (e:=3) (r:=0) (π:=[]) (o:=0+v5.2.1*1) (k:=v5.2.2) (i:=v5.2.1) (H':=[(0,some q2),z13,(0,none),z7,z12]) aF (rpv kr (aNn (c:=(eI .i64)) (xs:=v6) aF)) kr kr ltn ltn kr ?_);refine ye (sp 32 [z5,z10,(8,ii s3.2),(9,pp 1),z3,z4,z8,z11,(22,sw 0 s3.1),(23,pp 1),(24,ii z1.Frame),z14,(26,bo (eI .i64) x_mem),(27,ii s3.2),(28,bo (eI .i64) v6),(29,ii ((min v5.2.2 (List.length v6):Nat):Int))]) [(0,some q2),z13,(0,none),z7,z12] 2 (xC ?_);obtain rfl:=bX hh;exact hN4 (over v5.1 v5.2.1 v5.2.2 v6) _ _ _ hk4 (el [some 0] (eX kr (ro aN (rs (sw 0 s3.1) (ro eT (ri (ri mK)))))) (hn aN aP))
noncomputable def bFz:Sg tG:=⟨[.row 3,.row 83,.row 3],.one (.row 3),gZ⟩
theorem bKf:Sok 103 bFz:=λx_words x_pages x_mem R_ hh=>kc (aEw (x_words:=x_words) (x_pages:=x_pages) (x_mem:=x_mem) hh)
noncomputable def aBd  (s1:Unit):Option Int:=some (-1:Int)
noncomputable def gJ (x_guests:List DGuest)(s2:Int):Option (LO Int (JO Unit Int)):=
 cond (decide (s2<((List.length x_guests:Nat):Int)))
  (grd ((0:Int)<=s2/\s2<((List.length x_guests:Nat):Int)) (cond (!(List.getD x_guests (Int.toNat s2) default).Live)
   (some (.ret (.out s2)))
   (some (.next (w64 (s2+(1:Int)))))))
  (some (.ret (.go ())))
noncomputable def mF (x_guests:List DGuest):Option Int:=
 Option.bind (Option.bind (iter (gJ x_guests) (0:Int)) LO.val) λj1=>
  JO.run j1 aBd
noncomputable def g43:Sg tG:=⟨[.row 80],.one (.i .i64),mF⟩
theorem s43:Sok 43 g43:=sgx [] trivial (.s .o (.j ⟨[],[],[]⟩ (.s .o (.k (.l ⟨[5,6],[],[(.s 7,.i .i64)]⟩ .o))) .o)) kr kr kr
noncomputable def fH (x_h:DHost)(x_g:Int)(x_b:DBare):Option (DHost×Bool):=
 Option.bind (lL x_h.Guests) λv1=>
 Option.bind (nR x_b.Mem v1) λv2=>
 cond (!v2.2)
  (some ((DHost.mk ([]:List Int) ([]:List DGuest)),false))
  (Option.bind (jE x_b) λv3=>
  Option.bind (gZ x_h.Words v2.1 x_b.Mem) λv4=>
  Option.bind (fP x_h.Guests x_g (DGuest.mk true v3.C v2.1 v3.In v3.Out)) λv5=>
  some ((DHost.mk v4 v5),true))
noncomputable def g66:Sg tG:=⟨[.st 26,.i .i64,.st 36],.two (.st 2026) .b,fH⟩
theorem s66:Sok 66 g66:=sgx [(59,.r g59),(102,.r bId),(53,.r g53),(103,.r bFz),(65,.w g65)] ⟨s59,bJe,s53,bKf,s65,trivial⟩ .o kr kr kr
theorem zQ{x_h:DHost}{x_g:Int}{x_b:DBare}{R_:DHost×Bool}(hh:fH x_h x_g x_b=some R_):Fn Try.prog 66 [.agg (mE x_h),.int .i64 x_g,.agg (dV x_b)] (.tup [.agg [.own 3 1 (List.length R_.1.Words) (fl (eI .i64) R_.1.Words),.own 80 17 (List.length R_.1.Guests) (fl bY R_.1.Guests)],.bool R_.2]):=kc (s66 x_h x_g x_b R_ hh)
noncomputable def jJ (x_h:DHost):Option DHost:=
 Option.bind (dK x_h.Words) λv1=>
 Option.bind (gK x_h.Guests) λv2=>
 some (DHost.mk v1 v2)
noncomputable def g44:Sg tG:=⟨[.st 26],.one (.st 2026),jJ⟩
theorem s44:Sok 44 g44:=sgx [(87,.r g87),(88,.r g88)] ⟨s87,s88,trivial⟩ .o kr kr kr
noncomputable def zE  (s2:List DSlot):Option (List DSlot):=some s2
noncomputable def gD (v1:List DSlot)(s3:(List DSlot)×Int):Option (LO ((List DSlot)×Int) (JO (List DSlot) (List DSlot))):=
 cond (decide (s3.2<((List.length v1:Nat):Int)))
  (grd ((0:Int)<=s3.2/\s3.2<((List.length s3.1:Nat):Int)) (some (.next ((List.set s3.1 (Int.toNat s3.2) (DSlot.mk (List.getD s3.1 (Int.toNat s3.2) default).Frame false (List.getD s3.1 (Int.toNat s3.2) default).Dirty)),w64 (s3.2+(1:Int))))))
  (some (.ret (.go s3.1)))
noncomputable def jH (x_pages:List DSlot):Option (List DSlot):=
 Option.bind (eV x_pages) λv1=>
 Option.bind (Option.bind (iter (gD v1) (v1,(0:Int))) LO.val) λj2=>
  JO.run j2 zE
noncomputable def g45:Sg tG:=⟨[.row 83],.one (.row 83),jH⟩
theorem s45:Sok 45 g45:=sgx [(89,.r g89)] ⟨s89,trivial⟩ (.s .o (.s .o (.j ⟨[],[],[(.s 3,.ro 83)]⟩ (.s .o (.k (.l ⟨[8],[],[(.s 3,.ro 83),(.s 9,.i .i64)]⟩ .o))) .o))) kr kr kr
noncomputable def aBw  (s2:List DSlot):Option (List DSlot):=some s2
noncomputable def iH (v1:List DSlot)(s3:(List DSlot)×Int):Option (LO ((List DSlot)×Int) (JO (List DSlot) (List DSlot))):=
 cond (decide (s3.2<((List.length v1:Nat):Int)))
  (grd ((0:Int)<=s3.2/\s3.2<((List.length s3.1:Nat):Int)) (some (.next ((List.set s3.1 (Int.toNat s3.2) (DSlot.mk (List.getD s3.1 (Int.toNat s3.2) default).Frame (List.getD s3.1 (Int.toNat s3.2) default).Write false)),w64 (s3.2+(1:Int))))))
  (some (.ret (.go s3.1)))
noncomputable def nP (x_pages:List DSlot):Option (List DSlot):=
 Option.bind (eV x_pages) λv1=>
 Option.bind (Option.bind (iter (iH v1) (v1,(0:Int))) LO.val) λj2=>
  JO.run j2 aBw
noncomputable def g47:Sg tG:=⟨[.row 83],.one (.row 83),nP⟩
theorem s47:Sok 47 g47:=sgx [(89,.r g89)] ⟨s89,trivial⟩ (.s .o (.s .o (.j ⟨[],[],[(.s 3,.ro 83)]⟩ (.s .o (.k (.l ⟨[8],[],[(.s 3,.ro 83),(.s 9,.i .i64)]⟩ .o))) .o))) kr kr kr
noncomputable def gW (x_h:DHost)(x_g:Int):Option (DHost×Int×Bool):=
 Option.bind (fF x_h x_g) λv1=>
 cond (!v1)
  (some ((DHost.mk ([]:List Int) ([]:List DGuest)),(-1:Int),false))
  (Option.bind (mF x_h.Guests) λv2=>
  cond (decide (v2=(-1:Int)))
   (some ((DHost.mk ([]:List Int) ([]:List DGuest)),(-1:Int),false))
   (Option.bind (jJ x_h) λv3=>
   grd ((0:Int)<=x_g/\x_g<((List.length x_h.Guests:Nat):Int)) (Option.bind (jH (List.getD x_h.Guests (Int.toNat x_g) default).Pages) λv4=>
    grd ((0:Int)<=x_g/\x_g<((List.length v3.Guests:Nat):Int)) (grd ((0:Int)<=x_g/\x_g<((List.length x_h.Guests:Nat):Int)) (Option.bind (eU (DGuest.mk (List.getD x_h.Guests (Int.toNat x_g) default).Live (DCore.mk ((List.getD x_h.Guests (Int.toNat x_g) default).C).Regs ((List.getD x_h.Guests (Int.toNat x_g) default).C).Pc ((List.getD x_h.Guests (Int.toNat x_g) default).C).Root ((List.getD x_h.Guests (Int.toNat x_g) default).C).Vector ((List.getD x_h.Guests (Int.toNat x_g) default).C).Saved ((List.getD x_h.Guests (Int.toNat x_g) default).C).SavedUser ((List.getD x_h.Guests (Int.toNat x_g) default).C).Cause ((List.getD x_h.Guests (Int.toNat x_g) default).C).Bad ((List.getD x_h.Guests (Int.toNat x_g) default).C).Timer ((List.getD x_h.Guests (Int.toNat x_g) default).C).Waits ((List.getD x_h.Guests (Int.toNat x_g) default).C).User ((List.getD x_h.Guests (Int.toNat x_g) default).C).On ((List.getD x_h.Guests (Int.toNat x_g) default).C).Stopped) (List.getD x_h.Guests (Int.toNat x_g) default).Pages (List.getD x_h.Guests (Int.toNat x_g) default).In (List.getD x_h.Guests (Int.toNat x_g) default).Out)) λv5=>
     grd ((0:Int)<=v2/\v2<((List.length v3.Guests:Nat):Int)) (grd ((0:Int)<=x_g/\x_g<((List.length x_h.Guests:Nat):Int)) (Option.bind (jH (List.getD x_h.Guests (Int.toNat x_g) default).Pages) λv6=>
      Option.bind (nP v6) λv7=>
      grd ((0:Int)<=v2/\v2<((List.length v3.Guests:Nat):Int)) (some ((DHost.mk v3.Words (let z0:=List.set v3.Guests (Int.toNat x_g) (DGuest.mk (List.getD v3.Guests (Int.toNat x_g) default).Live (DCore.mk ((List.getD v3.Guests (Int.toNat x_g) default).C).Regs ((List.getD v3.Guests (Int.toNat x_g) default).C).Pc ((List.getD v3.Guests (Int.toNat x_g) default).C).Root ((List.getD v3.Guests (Int.toNat x_g) default).C).Vector ((List.getD v3.Guests (Int.toNat x_g) default).C).Saved ((List.getD v3.Guests (Int.toNat x_g) default).C).SavedUser ((List.getD v3.Guests (Int.toNat x_g) default).C).Cause ((List.getD v3.Guests (Int.toNat x_g) default).C).Bad ((List.getD v3.Guests (Int.toNat x_g) default).C).Timer ((List.getD v3.Guests (Int.toNat x_g) default).C).Waits ((List.getD v3.Guests (Int.toNat x_g) default).C).User ((List.getD v3.Guests (Int.toNat x_g) default).C).On ((List.getD v3.Guests (Int.toNat x_g) default).C).Stopped) v4 (List.getD v3.Guests (Int.toNat x_g) default).In (List.getD v3.Guests (Int.toNat x_g) default).Out);List.set (List.set z0 (Int.toNat v2) v5) (Int.toNat v2) (DGuest.mk (List.getD (List.set z0 (Int.toNat v2) v5) (Int.toNat v2) default).Live (DCore.mk ((List.getD (List.set z0 (Int.toNat v2) v5) (Int.toNat v2) default).C).Regs ((List.getD (List.set z0 (Int.toNat v2) v5) (Int.toNat v2) default).C).Pc ((List.getD (List.set z0 (Int.toNat v2) v5) (Int.toNat v2) default).C).Root ((List.getD (List.set z0 (Int.toNat v2) v5) (Int.toNat v2) default).C).Vector ((List.getD (List.set z0 (Int.toNat v2) v5) (Int.toNat v2) default).C).Saved ((List.getD (List.set z0 (Int.toNat v2) v5) (Int.toNat v2) default).C).SavedUser ((List.getD (List.set z0 (Int.toNat v2) v5) (Int.toNat v2) default).C).Cause ((List.getD (List.set z0 (Int.toNat v2) v5) (Int.toNat v2) default).C).Bad ((List.getD (List.set z0 (Int.toNat v2) v5) (Int.toNat v2) default).C).Timer ((List.getD (List.set z0 (Int.toNat v2) v5) (Int.toNat v2) default).C).Waits ((List.getD (List.set z0 (Int.toNat v2) v5) (Int.toNat v2) default).C).User ((List.getD (List.set z0 (Int.toNat v2) v5) (Int.toNat v2) default).C).On ((List.getD (List.set z0 (Int.toNat v2) v5) (Int.toNat v2) default).C).Stopped) v7 (List.getD (List.set z0 (Int.toNat v2) v5) (Int.toNat v2) default).In (List.getD (List.set z0 (Int.toNat v2) v5) (Int.toNat v2) default).Out))),v2,true)))))))))
noncomputable def g10:Sg tG:=⟨[.st 26,.i .i64],.three (.st 2026) (.i .i64) .b,gW⟩
theorem s10:Sok 10 g10:=sgx [(42,.r g42),(43,.r g43),(44,.r g44),(45,.r g45),(46,.r g46),(47,.r g47)] ⟨s42,s43,s44,s45,s46,s47,trivial⟩ (.s .o (.s .o (.s .o (.s .o (.s .o (.s (.g [] [] [.fo (.c 8 1) 0]) (.s (.g [] [] [.fo (.c 8 1) 0]) (.s (.g [] [] [.fo (.c 8 1) 0]) .o)))))))) kr kr kr
theorem uL{x_h:DHost}{x_g:Int}{R_:DHost×Int×Bool}(hh:gW x_h x_g=some R_):Fn Try.prog 10 [.agg (mE x_h),.int .i64 x_g] (.tup [.agg [.own 3 1 (List.length R_.1.Words) (fl (eI .i64) R_.1.Words),.own 80 17 (List.length R_.1.Guests) (fl bY R_.1.Guests)],.int .i64 R_.2.1,.bool R_.2.2]):=kc (s10 x_h x_g R_ hh)
noncomputable def sJ (s2:Int)(v3:DHost)(s4:List DGuest)(v5:DGuest)(s6:List DSlot):Option (DHost×Int×Bool):=grd ((0:Int)<=s2/\s2<((List.length s4:Nat):Int)) (some ((DHost.mk v3.Words (List.set s4 (Int.toNat s2) (DGuest.mk v5.Live v5.C s6 v5.In v5.Out))),s2,true))
noncomputable def fK  (s7:(List DSlot)×Int):Option (LO ((List DSlot)×Int) (JO (List DSlot) (DHost×Int×Bool))):=
 cond (decide (s7.2<(8:Int)))
  (grd ((0:Int)<=s7.2/\s7.2<((List.length s7.1:Nat):Int)) (some (.next ((List.set s7.1 (Int.toNat s7.2) (DSlot.mk (List.getD s7.1 (Int.toNat s7.2) default).Frame (List.getD s7.1 (Int.toNat s7.2) default).Write false)),w64 (s7.2+(1:Int))))))
  (some (.ret (.go s7.1)))
noncomputable def sK (x_g:Int)(s2:Int)(v3:DHost)(s4:List DGuest):Option (DHost×Int×Bool):=
 grd ((0:Int)<=x_g/\x_g<((List.length s4:Nat):Int)) (Option.bind (gV (DGuest.mk (List.getD s4 (Int.toNat x_g) default).Live (DCore.mk ((List.getD s4 (Int.toNat x_g) default).C).Regs ((List.getD s4 (Int.toNat x_g) default).C).Pc ((List.getD s4 (Int.toNat x_g) default).C).Root ((List.getD s4 (Int.toNat x_g) default).C).Vector ((List.getD s4 (Int.toNat x_g) default).C).Saved ((List.getD s4 (Int.toNat x_g) default).C).SavedUser ((List.getD s4 (Int.toNat x_g) default).C).Cause ((List.getD s4 (Int.toNat x_g) default).C).Bad ((List.getD s4 (Int.toNat x_g) default).C).Timer ((List.getD s4 (Int.toNat x_g) default).C).Waits ((List.getD s4 (Int.toNat x_g) default).C).User ((List.getD s4 (Int.toNat x_g) default).C).On ((List.getD s4 (Int.toNat x_g) default).C).Stopped) (List.getD s4 (Int.toNat x_g) default).Pages (List.getD s4 (Int.toNat x_g) default).In (List.getD s4 (Int.toNat x_g) default).Out)) λv5=>
  Option.bind (Option.bind (iter fK (v5.Pages,(0:Int))) LO.val) λj6=>
   JO.run j6 (sJ s2 v3 s4 v5))
noncomputable def gO (x_g:Int)(s8:(List DGuest)×Int):Option (LO ((List DGuest)×Int) (JO (List DGuest) (DHost×Int×Bool))):=
 cond (decide (s8.2<(8:Int)))
  (grd ((0:Int)<=x_g/\x_g<((List.length s8.1:Nat):Int)) (grd ((0:Int)<=s8.2/\s8.2<((List.length (List.getD s8.1 (Int.toNat x_g) default).Pages:Nat):Int)) (some (.next ((List.set s8.1 (Int.toNat x_g) (DGuest.mk (List.getD s8.1 (Int.toNat x_g) default).Live (DCore.mk ((List.getD s8.1 (Int.toNat x_g) default).C).Regs ((List.getD s8.1 (Int.toNat x_g) default).C).Pc ((List.getD s8.1 (Int.toNat x_g) default).C).Root ((List.getD s8.1 (Int.toNat x_g) default).C).Vector ((List.getD s8.1 (Int.toNat x_g) default).C).Saved ((List.getD s8.1 (Int.toNat x_g) default).C).SavedUser ((List.getD s8.1 (Int.toNat x_g) default).C).Cause ((List.getD s8.1 (Int.toNat x_g) default).C).Bad ((List.getD s8.1 (Int.toNat x_g) default).C).Timer ((List.getD s8.1 (Int.toNat x_g) default).C).Waits ((List.getD s8.1 (Int.toNat x_g) default).C).User ((List.getD s8.1 (Int.toNat x_g) default).C).On ((List.getD s8.1 (Int.toNat x_g) default).C).Stopped) (List.set (List.getD s8.1 (Int.toNat x_g) default).Pages (Int.toNat s8.2) (DSlot.mk (List.getD (List.getD s8.1 (Int.toNat x_g) default).Pages (Int.toNat s8.2) default).Frame false (List.getD (List.getD s8.1 (Int.toNat x_g) default).Pages (Int.toNat s8.2) default).Dirty)) (List.getD s8.1 (Int.toNat x_g) default).In (List.getD s8.1 (Int.toNat x_g) default).Out)),w64 (s8.2+(1:Int)))))))
  (some (.ret (.go s8.1)))
noncomputable def sH (x_h:DHost)(x_g:Int)(s2:Int):Option (DHost×Int×Bool):=
 cond (decide (s2<(0:Int)))
  (some ((DHost.mk ([]:List Int) ([]:List DGuest)),(-1:Int),false))
  (Option.bind (kH x_h) λv3=>
  Option.bind (Option.bind (iter (gO x_g) (v3.Guests,(0:Int))) LO.val) λj4=>
   JO.run j4 (sK x_g s2 v3))
noncomputable def rZ (s9:Int×Int)(s10:Int):Option (LO (Int×Int) (JO Int (DHost×Int×Bool))):=some (.next (s10,w64 (s9.2-(1:Int))))
noncomputable def fI (x_h:DHost)(s9:Int×Int):Option (LO (Int×Int) (JO Int (DHost×Int×Bool))):=
 cond (decide ((0:Int)<=s9.2))
  (Option.bind (grd ((0:Int)<=s9.2/\s9.2<((List.length x_h.Guests:Nat):Int)) (cond (!(List.getD x_h.Guests (Int.toNat s9.2) default).Live)
   (some (.go s9.2))
   (some (.go s9.1)))) λj10=>
   JO.run j10 (rZ s9))
  (some (.ret (.go s9.1)))
noncomputable def kD (x_h:DHost)(x_g:Int):Option (DHost×Int×Bool):=
 Option.bind (iX x_h x_g) λv1=>
 cond (!v1)
  (some ((DHost.mk ([]:List Int) ([]:List DGuest)),(-1:Int),false))
  (Option.bind (Option.bind (iter (fI x_h) ((-1:Int),(2:Int))) LO.val) λj2=>
   JO.run j2 (sH x_h x_g))
noncomputable def g11:Sg tG:=⟨[.st 26,.i .i64],.three (.st 2026) (.i .i64) .b,kD⟩
theorem s11:Sok 11 g11:=sgx [(48,.r g48),(49,.r g49),(50,.r g50)] ⟨s48,s49,s50,trivial⟩ (.s .o (.s .o (.s .o (.j ⟨[1,2,4],[],[(.s 7,.i .i64)]⟩ (.s .o (.k (.l ⟨[1,2,4],[],[(.s 7,.i .i64),(.s 8,.i .i64)]⟩ (.s .o (.j ⟨[1,2,4,8],[],[(.s 7,.i .i64)]⟩ .o .o))))) (.s .o (.s .o (.j ⟨[1,4,7,9],[],[(.c 9 1,.ro 1080)]⟩ (.s .o (.k (.l ⟨[1,4,7,9],[],[(.c 9 1,.ro 1080),(.s 10,.i .i64)]⟩ .o))) (.s .o (.j ⟨[4,7,9,11],[],[(.c 11 14,.ro 83)]⟩ (.s .o (.k (.l ⟨[4,7,9,11],[],[(.c 11 14,.ro 83),(.s 12,.i .i64)]⟩ .o))) (.s (.g [] [] [.fo (.c 9 1) 0]) .o)))))))))) kr kr kr
theorem aFj{x_h:DHost}{x_g:Int}{R_:DHost×Int×Bool}(hh:kD x_h x_g=some R_):Fn Try.prog 11 [.agg (mE x_h),.int .i64 x_g] (.tup [.agg [.own 3 1 (List.length R_.1.Words) (fl (eI .i64) R_.1.Words),.own 80 17 (List.length R_.1.Guests) (fl bY R_.1.Guests)],.int .i64 R_.2.1,.bool R_.2.2]):=kc (s11 x_h x_g R_ hh)
theorem aCq:LW 112 ⟨38,[.tmp 4],.seq (.reg false (rg 112 0)) (.seq (.seq (.reg false (rg 112 1)) (.block 0 (.loop (.seq (.seq (.reg false (rg 112 2)) (.cond (.t 9) .skip (.exit 0))) (.seq (.block 1 (.seq (.reg false (rg 112 3)) (.seq (.reg false (rg 112 4)) (.seq (.reg false (rg 112 5)) (.seq (.reg false (rg 112 6)) (.seq (.reg false (rg 112 7)) (.reg false (rg 112 8)))))))) (.reg false (rg 112 9))))))) (.seq (.reg false (rg 112 11)) .ret))⟩:=kr
noncomputable def nN  (s1:Int×(List DSlot)):Option ((List DSlot)×Int):=some (s1.2,s1.1)
noncomputable def gM  (s2:(List DSlot)×Int×Int):Option (LO ((List DSlot)×Int×Int) (JO (Int×(List DSlot)) ((List DSlot)×Int))):=
 cond (decide (s2.2.2<((List.length s2.1:Nat):Int)))
  (grd ((0:Int)<=s2.2.2/\s2.2.2<((List.length s2.1:Nat):Int)) (grd ((0:Int)<=s2.2.2/\s2.2.2<((List.length s2.1:Nat):Int)) (grd ((0:Int)<=s2.2.2/\s2.2.2<((List.length s2.1:Nat):Int)) (some (.next ((List.set s2.1 (Int.toNat s2.2.2) (DSlot.mk s2.2.1 (decide ((Int.tmod (w64 (s2.2.1+(1:Int))) (3:Int))=(0:Int))) (decide ((Int.tmod (w64 ((w64 (s2.2.1+(1:Int)))+(1:Int))) (3:Int))=(0:Int))))),w64 ((w64 ((w64 (s2.2.1+(1:Int)))+(1:Int)))+(1:Int)),w64 (s2.2.2+(1:Int))))))))
  (some (.ret (.go (s2.2.1,s2.1))))
noncomputable def jU (x_a:List DSlot)(x_k:Int):Option ((List DSlot)×Int):=
 Option.bind (Option.bind (iter gM (x_a,x_k,(0:Int))) LO.val) λj1=>
  JO.run j1 nN
theorem aFc{x_a:List DSlot}{x_k:Int}{R_:(List DSlot)×Int}(hh:jU x_a x_k=some R_):Inl Try.prog 112 [.sref 0 [] 0 (List.length x_a) 3,.int .i64 x_k] [(0,some (rC83 x_a))] 1 (.int .i64 R_.2) [(0,some (rC83 R_.1))] 1:=by let z8:EV:=(0,.sref 0 [] 0 (List.length x_a) 3);let z9:EH:=(0,some (rC83 x_a));unfold jU at hh;refine Inl.start aCq [0,1] [0] (E:=sp 38 [z8,(1,ii x_k)]) (H1:=[z9]) kr kr (sy [0,1] [0] (sp 38 [z8,(1,ii x_k)]) [z9] 1 ?_);obtain⟨j1,hh,hk1⟩:=bind_some hh;refine Aw.join (S:=Int×(List DSlot)) (λs1=>sp 38 [(1,ii s1.1)]) (λs1=>[(0,some (rC83 s1.2))]) 1 (λs1=>nN s1=some R_) ?_ ?_;{intro s1 hh;unfold nN at hh;refine sy [4] [0] (sp 38 [(4,ii s1.1)]) [(0,some (rC83 s1.2))] 1 (Aw.ret ?_);rw[bX hh];exact nW (r':=ii s1.1) kr (el [some 0] (kB dU) (hn eT aP))};intro Q1 hN1 hR1 hE1;refine sy [0,1,5] [0] (sp 38 [z8,(1,ii x_k),(5,ii 0)]) [z9] 1 (Aw.block ?_);obtain⟨o2,hi2,hk2⟩:=bind_some hh;refine Aw.iter (λ(s2:(List DSlot)×Int×Int)=>sp 38 [(0,.sref 0 [] 0 (List.length s2.1) 3),(1,ii s2.2.1),(5,ii s2.2.2)]) (λ(s2:(List DSlot)×Int×Int)=>[(0,some (rC83 s2.1))]) 1 hi2 (el [some 0] (eX kr (rs (.sref 0 [] 0 (List.length x_a) 3) (ri (ri mK)))) (hn eT aP)) ?_;intro s2 u2 Q2 hh hN2 hX2 hR2;let z10:EV:=(0,.sref 0 [] 0 (List.length s2.1) 3);let z11:EH:=(0,some (rC83 s2.1));let z12:=(1,ii (w64 ((w64 ((w64 (s2.2.1+(1:Int)))+(1:Int)))+(1:Int))));let z13:=(1,ii (w64 ((w64 (s2.2.1+(1:Int)))+(1:Int))));let z14:=(1,ii (w64 (s2.2.1+(1:Int))));let z15:=(5,ii s2.2.2);let z16:=(9,bb (decide (s2.2.2<((List.length s2.1:Nat):Int))));let z1:=DSlot.mk s2.2.1 (decide ((Int.tmod (w64 (s2.2.1+(1:Int))) (3:Int))=(0:Int))) (decide ((Int.tmod (w64 ((w64 (s2.2.1+(1:Int)))+(1:Int))) (3:Int))=(0:Int)));let z3:=List.set s2.1 (Int.toNat s2.2.2) z1;let z2:=List.getD s2.1 (Int.toNat s2.2.2) default;let z4:=DSlot.mk s2.2.1 (decide ((Int.tmod (w64 (s2.2.1+(1:Int))) (3:Int))=(0:Int))) z2.Dirty;let z6:=List.set s2.1 (Int.toNat s2.2.2) z4;let z5:=DSlot.mk s2.2.1 z2.Write z2.Dirty;let z7:=List.set s2.1 (Int.toNat s2.2.2) z5;unfold gM at hh;refine Aw.seq (sy [0,1,5,9] [0] (sp 38 [z10,(1,ii s2.2.1),z15,z16]) [z11] 1 ?_);rcases sS hh with⟨hb,hh⟩|⟨hb,hh⟩;{refine cF hb (Aw.exit (aCn (hX2 _ _ _ _ _ (bX hh) ?_)));intro hout;rw[hout]at hk2;refine aEq ?_;obtain rfl:=bX hk2;exact hN1 (s2.2.1,s2.1) _ _ _ hk1 (el [some 0] (eX kr (ri mK)) (hn eT aP))};refine cT hb (Aw.xskip (λ_ _ _ hq=>cG hq) (Aw.seq (Aw.block (Aw.sreg [0,1,5] [0] ?_))));obtain⟨hg72,hh⟩:=aE hh;refine yjc 5 [(0:Int)<=s2.2.2/\s2.2.2<((List.length s2.1:Nat):Int)] (sp 38 [z10,(1,ii s2.2.1),z15,z16,(12,.sref 0 [] 0 (List.length s2.1) 3),(13,ii s2.2.2),(14,ii s2.2.1),(15,.ptr 0 [] (0+(Int.toNat s2.2.2)*3)),(16,.ptr 0 [] (0+(Int.toNat s2.2.2)*3+0))]) [z11] 1 (.cons hg72 .nil) ?_;let q1:Root:=(rC83 z7);let z17:=(0,some q1);refine ys (.store 1 (.t 16) (.t 14)) none (zR (c:=eR) (xs:=s2.1) (e:=83) (r:=0) (π:=[]) (o:=0+(Int.toNat s2.2.2)*3+0) (i:=(Int.toNat s2.2.2)) (off:=0) (vs:=[ii s2.2.1]) (y:=z5) (H':=[z17,z11]) lC kr kr kr kr ltn ltn dd kr kr ?_);refine yt (sp 38 [z10,(1,ii s2.2.1),z15]) [z17] 1 (sy [0,1,5] [0] (sp 38 [z10,z14,z15]) [z17] 1 (Aw.sreg [0,1,5] [0] ?_));obtain⟨hg71,hh⟩:=aE hh;refine yjc 7 [(3:Int)≠0,(0:Int)<=s2.2.2/\s2.2.2<((List.length s2.1:Nat):Int)] (sp 38 [z10,z14,z15,(19,.sref 0 [] 0 (List.length s2.1) 3),(20,ii s2.2.2),(21,ii (w64 (s2.2.1+(1:Int)))),(22,ii (Int.tmod (w64 (s2.2.1+(1:Int))) (3:Int))),(23,bb (decide ((Int.tmod (w64 (s2.2.1+(1:Int))) (3:Int))=(0:Int)))),(24,.ptr 0 [] (0+(Int.toNat s2.2.2)*3)),(25,.ptr 0 [] (0+(Int.toNat s2.2.2)*3+1))]) [z17] 1 (.cons dd (.cons hg71 .nil)) ?_;let q2:Root:=(rC83 z6);let z18:=(0,some q2);refine ys (.store 1 (.t 25) (.t 23)) none (fG (bW ltn) (List.set_set ..) (c:=eR) (xs:=z7) (e:=83) (r:=0) (π:=[]) (o:=0+(Int.toNat s2.2.2)*3+1) (i:=(Int.toNat s2.2.2)) (off:=1) (vs:=[bb (decide ((Int.tmod (w64 (s2.2.1+(1:Int))) (3:Int))=(0:Int)))]) (y:=z4) (H':=[z18,z17]) lC kr kr kr kr ltn ltn dd kr kr ?_);refine yt (sp 38 [z10,z14,z15]) [z18] 1 (sy [0,1,5] [0] (sp 38 [z10,z13,z15]) [z18] 1 (Aw.sreg [0,1,5] [0] ?_));obtain⟨hg70,hh⟩:=aE hh;refine yjc 7 [(3:Int)≠0,(0:Int)<=s2.2.2/\s2.2.2<((List.length s2.1:Nat):Int)] (sp 38 [z10,z13,z15,(28,.sref 0 [] 0 (List.length s2.1) 3),(29,ii s2.2.2),(30,ii (w64 ((w64 (s2.2.1+(1:Int)))+(1:Int)))),(31,ii (Int.tmod (w64 ((w64 (s2.2.1+(1:Int)))+(1:Int))) (3:Int))),(32,bb (decide ((Int.tmod (w64 ((w64 (s2.2.1+(1:Int)))+(1:Int))) (3:Int))=(0:Int)))),(33,.ptr 0 [] (0+(Int.toNat s2.2.2)*3)),(34,.ptr 0 [] (0+(Int.toNat s2.2.2)*3+2))]) [z18] 1 (.cons dd (.cons hg70 .nil)) ?_;let q3:Root:=(rC83 z3);refine ys (.store 1 (.t 34) (.t 32)) none (fG (bW ltn) (List.set_set ..) (c:=eR) (xs:=z6) (e:=83) (r:=0) (π:=[]) (o:=0+(Int.toNat s2.2.2)*3+2) (i:=(Int.toNat s2.2.2)) (off:=2) (vs:=[bb (decide ((Int.tmod (w64 ((w64 (s2.2.1+(1:Int)))+(1:Int))) (3:Int))=(0:Int)))]) (y:=z1) (H':=[(0,some q3),z18]) lC kr kr kr kr ltn ltn dd kr kr ?_);exact yt (sp 38 [z10,z13,z15]) [(0,some q3)] 1 (Aw.xreg [0,1,5] [0] (λ_ _ _ hq=>xC (cG hq)) (yt (sp 38 [z10,z12,z15]) [(0,some q3)] 1 (Aw.oreg (ye (sp 38 [z10,z12,(5,ii (w64 (s2.2.2+(1:Int)))),(10,ii s2.2.2),(11,ii (w64 (s2.2.2+(1:Int))))]) [(0,some q3)] 1 (hN2 (z3,w64 ((w64 ((w64 (s2.2.1+(1:Int)))+(1:Int)))+(1:Int)),w64 (s2.2.2+(1:Int))) _ _ _ (bX hh) (el [some 0] (eX kr (rs (.sref 0 [] 0 (List.length s2.1) 3) (ri (ri mK)))) (hn eT aP)))))))
theorem aBc:LW 78 ⟨157,[.tmp 4],.seq (.reg false (rg 78 0)) (.seq (.seq (.reg false (rg 78 1)) (.block 0 (.loop (.seq (.seq (.reg false (rg 78 2)) (.cond (.t 9) .skip (.exit 0))) (.seq (.block 1 (.seq (.reg false (rg 78 3)) (.seq (.reg false (rg 78 4)) (.seq (.reg false (rg 78 5)) (.seq (.reg false (rg 78 6)) (.seq (.reg false (rg 78 7)) (.seq (.reg false (rg 78 8)) (.seq (.reg false (rg 78 9)) (.seq (.reg false (rg 78 10)) (.seq (.reg false (rg 78 11)) (.seq (.reg false (rg 78 12)) (.seq (.reg false (rg 78 13)) (.seq (.reg false (rg 78 14)) (.seq (.reg false (rg 78 15)) (.seq (.reg false (rg 78 16)) (.seq (.reg false (rg 78 17)) (.seq (.reg false (rg 78 18)) (.seq (.reg false (rg 78 19)) (.seq (.reg false (rg 78 20)) (.seq (.reg false (rg 78 21)) (.seq (.reg false (rg 78 22)) (.seq (.reg false (rg 78 23)) (.seq (.reg false (rg 78 24)) (.seq (.reg false (rg 78 25)) (.seq (.reg false (rg 78 26)) (.seq (.reg false (rg 78 27)) (.seq (.reg false (rg 78 28)) (.seq (.reg false (rg 78 29)) (.seq (.reg false (rg 78 30)) (.seq (.reg false (rg 78 31)) (.reg false (rg 78 32)))))))))))))))))))))))))))))))) (.reg false (rg 78 33))))))) (.seq (.reg false (rg 78 35)) .ret))⟩:=kr
noncomputable def mD  (s1:Int×(List DGuest)):Option ((List DGuest)×Int):=some (s1.2,s1.1)
noncomputable def fW  (s2:(List DGuest)×Int×Int):Option (LO ((List DGuest)×Int×Int) (JO (Int×(List DGuest)) ((List DGuest)×Int))):=
 cond (decide (s2.2.2<((List.length s2.1:Nat):Int)))
  (grd ((0:Int)<=s2.2.2/\s2.2.2<((List.length s2.1:Nat):Int)) (grd ((0:Int)<=s2.2.2/\s2.2.2<((List.length s2.1:Nat):Int)) (Option.bind (cW ((List.getD s2.1 (Int.toNat s2.2.2) default).C).Regs (w64 (s2.2.1+(1:Int)))) λv3=>
   grd (List.length v3.1=(List.length ((List.getD s2.1 (Int.toNat s2.2.2) default).C).Regs)) (grd ((0:Int)<=s2.2.2/\s2.2.2<((List.length s2.1:Nat):Int)) (grd ((0:Int)<=s2.2.2/\s2.2.2<((List.length s2.1:Nat):Int)) (grd ((0:Int)<=s2.2.2/\s2.2.2<((List.length s2.1:Nat):Int)) (grd ((0:Int)<=s2.2.2/\s2.2.2<((List.length s2.1:Nat):Int)) (grd ((0:Int)<=s2.2.2/\s2.2.2<((List.length s2.1:Nat):Int)) (grd ((0:Int)<=s2.2.2/\s2.2.2<((List.length s2.1:Nat):Int)) (grd ((0:Int)<=s2.2.2/\s2.2.2<((List.length s2.1:Nat):Int)) (grd ((0:Int)<=s2.2.2/\s2.2.2<((List.length s2.1:Nat):Int)) (grd ((0:Int)<=s2.2.2/\s2.2.2<((List.length s2.1:Nat):Int)) (grd ((0:Int)<=s2.2.2/\s2.2.2<((List.length s2.1:Nat):Int)) (grd ((0:Int)<=s2.2.2/\s2.2.2<((List.length s2.1:Nat):Int)) (grd ((0:Int)<=s2.2.2/\s2.2.2<((List.length s2.1:Nat):Int)) (grd ((0:Int)<=s2.2.2/\s2.2.2<((List.length s2.1:Nat):Int)) (Option.bind (jU (List.getD s2.1 (Int.toNat s2.2.2) default).Pages (w64 ((w64 ((w64 ((w64 ((w64 ((w64 ((w64 ((w64 ((w64 ((w64 ((w64 ((w64 (v3.2+(1:Int)))+(1:Int)))+(1:Int)))+(1:Int)))+(1:Int)))+(1:Int)))+(1:Int)))+(1:Int)))+(1:Int)))+(1:Int)))+(1:Int)))+(1:Int)))) λv4=>
    grd (List.length v4.1=(List.length (List.getD s2.1 (Int.toNat s2.2.2) default).Pages)) (grd ((0:Int)<=s2.2.2/\s2.2.2<((List.length s2.1:Nat):Int)) (Option.bind (cW (List.getD s2.1 (Int.toNat s2.2.2) default).In v4.2) λv5=>
     grd (List.length v5.1=(List.length (List.getD s2.1 (Int.toNat s2.2.2) default).In)) (grd ((0:Int)<=s2.2.2/\s2.2.2<((List.length s2.1:Nat):Int)) (Option.bind (cW (List.getD s2.1 (Int.toNat s2.2.2) default).Out v5.2) λv6=>
      grd (List.length v6.1=(List.length (List.getD s2.1 (Int.toNat s2.2.2) default).Out)) (some (.next ((List.set s2.1 (Int.toNat s2.2.2) (DGuest.mk (decide ((Int.tmod s2.2.1 (3:Int))=(0:Int))) (DCore.mk v3.1 v3.2 (w64 (v3.2+(1:Int))) (w64 ((w64 (v3.2+(1:Int)))+(1:Int))) (w64 ((w64 ((w64 (v3.2+(1:Int)))+(1:Int)))+(1:Int))) (decide ((Int.tmod (w64 ((w64 ((w64 ((w64 (v3.2+(1:Int)))+(1:Int)))+(1:Int)))+(1:Int))) (3:Int))=(0:Int))) (w64 ((w64 ((w64 ((w64 ((w64 (v3.2+(1:Int)))+(1:Int)))+(1:Int)))+(1:Int)))+(1:Int))) (w64 ((w64 ((w64 ((w64 ((w64 ((w64 (v3.2+(1:Int)))+(1:Int)))+(1:Int)))+(1:Int)))+(1:Int)))+(1:Int))) (w64 ((w64 ((w64 ((w64 ((w64 ((w64 ((w64 (v3.2+(1:Int)))+(1:Int)))+(1:Int)))+(1:Int)))+(1:Int)))+(1:Int)))+(1:Int))) (decide ((Int.tmod (w64 ((w64 ((w64 ((w64 ((w64 ((w64 ((w64 ((w64 (v3.2+(1:Int)))+(1:Int)))+(1:Int)))+(1:Int)))+(1:Int)))+(1:Int)))+(1:Int)))+(1:Int))) (3:Int))=(0:Int))) (decide ((Int.tmod (w64 ((w64 ((w64 ((w64 ((w64 ((w64 ((w64 ((w64 ((w64 (v3.2+(1:Int)))+(1:Int)))+(1:Int)))+(1:Int)))+(1:Int)))+(1:Int)))+(1:Int)))+(1:Int)))+(1:Int))) (3:Int))=(0:Int))) (decide ((Int.tmod (w64 ((w64 ((w64 ((w64 ((w64 ((w64 ((w64 ((w64 ((w64 ((w64 (v3.2+(1:Int)))+(1:Int)))+(1:Int)))+(1:Int)))+(1:Int)))+(1:Int)))+(1:Int)))+(1:Int)))+(1:Int)))+(1:Int))) (3:Int))=(0:Int))) (decide ((Int.tmod (w64 ((w64 ((w64 ((w64 ((w64 ((w64 ((w64 ((w64 ((w64 ((w64 ((w64 (v3.2+(1:Int)))+(1:Int)))+(1:Int)))+(1:Int)))+(1:Int)))+(1:Int)))+(1:Int)))+(1:Int)))+(1:Int)))+(1:Int)))+(1:Int))) (3:Int))=(0:Int)))) v4.1 v5.1 v6.1)),v6.2,w64 (s2.2.2+(1:Int))))))))))))))))))))))))))
  (some (.ret (.go (s2.2.1,s2.1))))
noncomputable def jA (x_a:List DGuest)(x_k:Int):Option ((List DGuest)×Int):=
 Option.bind (Option.bind (iter fW (x_a,x_k,(0:Int))) LO.val) λj1=>
  JO.run j1 mD
theorem aCd{x_a:List DGuest}{x_k:Int}{R_:(List DGuest)×Int}(hh:jA x_a x_k=some R_):Inl Try.prog 78 [.sref 0 [] 0 (List.length x_a) 17,.int .i64 x_k] [(0,some (rO80 x_a))] 1 (.int .i64 R_.2) [(0,some (rO80 R_.1))] 1:=by let z49:EV:=(0,.sref 0 [] 0 (List.length x_a) 17);let z50:EH:=(0,some (rO80 x_a));unfold jA at hh;refine Inl.start aBc [0,1] [0] (E:=sp 157 [z49,(1,ii x_k)]) (H1:=[z50]) kr kr (sy [0,1] [0] (sp 157 [z49,(1,ii x_k)]) [z50] 1 ?_);obtain⟨j1,hh,hk1⟩:=bind_some hh;refine Aw.join (S:=Int×(List DGuest)) (λs1=>sp 157 [(1,ii s1.1)]) (λs1=>[(0,some (rO80 s1.2))]) 1 (λs1=>mD s1=some R_) ?_ ?_;{intro s1 hh;unfold mD at hh;refine sy [4] [0] (sp 157 [(4,ii s1.1)]) [(0,some (rO80 s1.2))] 1 (Aw.ret ?_);rw[bX hh];exact nW (r':=ii s1.1) kr (el [some 0] (kB dU) (hn dE aP))};intro Q1 hN1 hR1 hE1;refine sy [0,1,5] [0] (sp 157 [z49,(1,ii x_k),(5,ii 0)]) [z50] 1 (Aw.block ?_);obtain⟨o2,hi2,hk2⟩:=bind_some hh;refine Aw.iter (λ(s2:(List DGuest)×Int×Int)=>sp 157 [(0,.sref 0 [] 0 (List.length s2.1) 17),(1,ii s2.2.1),(5,ii s2.2.2)]) (λ(s2:(List DGuest)×Int×Int)=>[(0,some (rO80 s2.1))]) 1 hi2 (el [some 0] (eX kr (rs (.sref 0 [] 0 (List.length x_a) 17) (ri (ri mK)))) (hn dE aP)) ?_;intro s2 u2 Q2 hh hN2 hX2 hR2;let z51:EV:=(0,.sref 0 [] 0 (List.length s2.1) 17);let z52:EH:=(0,some (rO80 s2.1));let z53:=(1,ii (w64 (s2.2.1+(1:Int))));let z54:=(5,ii s2.2.2);let z55:=(9,bb (decide (s2.2.2<((List.length s2.1:Nat):Int))));let z1:=List.getD s2.1 (Int.toNat s2.2.2) default;let z3:=DGuest.mk (decide ((Int.tmod s2.2.1 (3:Int))=(0:Int))) z1.C z1.Pages z1.In z1.Out;let z20:=List.set s2.1 (Int.toNat s2.2.2) z3;unfold fW at hh;refine Aw.seq (sy [0,1,5,9] [0] (sp 157 [z51,(1,ii s2.2.1),z54,z55]) [z52] 1 ?_);rcases sS hh with⟨hb,hh⟩|⟨hb,hh⟩;{refine cF hb (Aw.exit (aCn (hX2 _ _ _ _ _ (bX hh) ?_)));intro hout;rw[hout]at hk2;refine aEq ?_;obtain rfl:=bX hk2;exact hN1 (s2.2.1,s2.1) _ _ _ hk1 (el [some 0] (eX kr (ri mK)) (hn dE aP))};refine cT hb (Aw.xskip (λ_ _ _ hq=>cG hq) (Aw.seq (Aw.block (Aw.sreg [0,1,5] [0] ?_))));obtain⟨hg504,hh⟩:=aE hh;refine yjc 7 [(3:Int)≠0,(0:Int)<=s2.2.2/\s2.2.2<((List.length s2.1:Nat):Int)] (sp 157 [z51,(1,ii s2.2.1),z54,z55,(12,.sref 0 [] 0 (List.length s2.1) 17),(13,ii s2.2.2),(14,ii s2.2.1),(15,ii (Int.tmod s2.2.1 (3:Int))),(16,bb (decide ((Int.tmod s2.2.1 (3:Int))=(0:Int)))),(17,.ptr 0 [] (0+(Int.toNat s2.2.2)*17)),(18,.ptr 0 [] (0+(Int.toNat s2.2.2)*17+0))]) [z52] 1 (.cons dd (.cons hg504 .nil)) ?_;let q1:Root:=(rO80 z20);let z56:=(0,some q1);refine ys (.store 1 (.t 18) (.t 16)) none (zR (c:=bY) (xs:=s2.1) (e:=80) (r:=0) (π:=[]) (o:=0+(Int.toNat s2.2.2)*17+0) (i:=(Int.toNat s2.2.2)) (off:=0) (vs:=[bb (decide ((Int.tmod s2.2.1 (3:Int))=(0:Int)))]) (y:=z3) (H':=[z56,z52]) aK kr kr kr kr ltn ltn dd kr kr ?_);refine yt (sp 157 [z51,(1,ii s2.2.1),z54]) [z56] 1 (sy [0,1,5] [0] (sp 157 [z51,z53,z54]) [z56] 1 (Aw.sreg [0,1,5] [0] ?_));obtain⟨hg503,hh⟩:=aE hh;refine yjc 5 [(0:Int)<=s2.2.2/\s2.2.2<((List.length s2.1:Nat):Int)] (sp 157 [z51,z53,z54,(21,.sref 0 [] 0 (List.length s2.1) 17),(22,ii s2.2.2),(23,.ptr 0 [] (0+(Int.toNat s2.2.2)*17)),(24,.ptr 0 [] (0+(Int.toNat s2.2.2)*17+1)),(25,.ptr 0 [] (0+(Int.toNat s2.2.2)*17+1+0))]) [z56] 1 (.cons hg503 .nil) (ys (.load false 1 (.t 25)) (some 26) (aAv (bW ltn) (c:=bY) (xs:=z20) (e:=80) (r:=0) (π:=[]) (o:=0+(Int.toNat s2.2.2)*17+1+0) (i:=(Int.toNat s2.2.2)) (off:=1) (v:= .sref 0 [0+(Int.toNat s2.2.2)*17+1+0+0] 0 (List.length (z1.C).Regs) 1) aK kr kr ltn ltn dd kr ?_));refine yu 1 [(26,.sref 0 [0+(Int.toNat s2.2.2)*17+1+0+0] 0 (List.length (z1.C).Regs) 1),(27,ii (w64 (s2.2.1+(1:Int))))] [z56] 1 ?_;obtain⟨v3,hv3,hh⟩:=bind_some hh;let z57:=(1,ii (w64 ((w64 ((w64 ((w64 ((w64 ((w64 ((w64 ((w64 ((w64 ((w64 ((w64 ((w64 (v3.2+(1:Int)))+(1:Int)))+(1:Int)))+(1:Int)))+(1:Int)))+(1:Int)))+(1:Int)))+(1:Int)))+(1:Int)))+(1:Int)))+(1:Int)))+(1:Int))));let z58:=(1,ii (w64 ((w64 ((w64 ((w64 ((w64 ((w64 ((w64 ((w64 ((w64 ((w64 ((w64 (v3.2+(1:Int)))+(1:Int)))+(1:Int)))+(1:Int)))+(1:Int)))+(1:Int)))+(1:Int)))+(1:Int)))+(1:Int)))+(1:Int)))+(1:Int))));let z59:=(1,ii (w64 ((w64 ((w64 ((w64 ((w64 ((w64 ((w64 ((w64 ((w64 ((w64 (v3.2+(1:Int)))+(1:Int)))+(1:Int)))+(1:Int)))+(1:Int)))+(1:Int)))+(1:Int)))+(1:Int)))+(1:Int)))+(1:Int))));let z60:=(1,ii (w64 ((w64 ((w64 ((w64 ((w64 ((w64 ((w64 ((w64 ((w64 (v3.2+(1:Int)))+(1:Int)))+(1:Int)))+(1:Int)))+(1:Int)))+(1:Int)))+(1:Int)))+(1:Int)))+(1:Int))));let z61:=(1,ii (w64 ((w64 ((w64 ((w64 ((w64 ((w64 ((w64 ((w64 (v3.2+(1:Int)))+(1:Int)))+(1:Int)))+(1:Int)))+(1:Int)))+(1:Int)))+(1:Int)))+(1:Int))));let z62:=(1,ii (w64 ((w64 ((w64 ((w64 ((w64 ((w64 ((w64 (v3.2+(1:Int)))+(1:Int)))+(1:Int)))+(1:Int)))+(1:Int)))+(1:Int)))+(1:Int))));let z63:=(1,ii (w64 ((w64 ((w64 ((w64 ((w64 ((w64 (v3.2+(1:Int)))+(1:Int)))+(1:Int)))+(1:Int)))+(1:Int)))+(1:Int))));let z64:=(1,ii (w64 ((w64 ((w64 ((w64 ((w64 (v3.2+(1:Int)))+(1:Int)))+(1:Int)))+(1:Int)))+(1:Int))));let z65:=(1,ii (w64 ((w64 ((w64 ((w64 (v3.2+(1:Int)))+(1:Int)))+(1:Int)))+(1:Int))));let z66:=(1,ii (w64 ((w64 ((w64 (v3.2+(1:Int)))+(1:Int)))+(1:Int))));let z67:=(1,ii (w64 ((w64 (v3.2+(1:Int)))+(1:Int))));let z68:=(1,ii (w64 (v3.2+(1:Int))));let z4:=DCore.mk v3.1 (z1.C).Pc (z1.C).Root (z1.C).Vector (z1.C).Saved (z1.C).SavedUser (z1.C).Cause (z1.C).Bad (z1.C).Timer (z1.C).Waits (z1.C).User (z1.C).On (z1.C).Stopped;let z21:=DGuest.mk (decide ((Int.tmod s2.2.1 (3:Int))=(0:Int))) z4 z1.Pages z1.In z1.Out;let z37:=List.set s2.1 (Int.toNat s2.2.2) z21;let z5:=DCore.mk v3.1 v3.2 (z1.C).Root (z1.C).Vector (z1.C).Saved (z1.C).SavedUser (z1.C).Cause (z1.C).Bad (z1.C).Timer (z1.C).Waits (z1.C).User (z1.C).On (z1.C).Stopped;let z22:=DGuest.mk (decide ((Int.tmod s2.2.1 (3:Int))=(0:Int))) z5 z1.Pages z1.In z1.Out;let z38:=List.set s2.1 (Int.toNat s2.2.2) z22;let z6:=DCore.mk v3.1 v3.2 (w64 (v3.2+(1:Int))) (z1.C).Vector (z1.C).Saved (z1.C).SavedUser (z1.C).Cause (z1.C).Bad (z1.C).Timer (z1.C).Waits (z1.C).User (z1.C).On (z1.C).Stopped;let z23:=DGuest.mk (decide ((Int.tmod s2.2.1 (3:Int))=(0:Int))) z6 z1.Pages z1.In z1.Out;let z39:=List.set s2.1 (Int.toNat s2.2.2) z23;let z7:=DCore.mk v3.1 v3.2 (w64 (v3.2+(1:Int))) (w64 ((w64 (v3.2+(1:Int)))+(1:Int))) (z1.C).Saved (z1.C).SavedUser (z1.C).Cause (z1.C).Bad (z1.C).Timer (z1.C).Waits (z1.C).User (z1.C).On (z1.C).Stopped;let z24:=DGuest.mk (decide ((Int.tmod s2.2.1 (3:Int))=(0:Int))) z7 z1.Pages z1.In z1.Out;let z40:=List.set s2.1 (Int.toNat s2.2.2) z24;let z8:=DCore.mk v3.1 v3.2 (w64 (v3.2+(1:Int))) (w64 ((w64 (v3.2+(1:Int)))+(1:Int))) (w64 ((w64 ((w64 (v3.2+(1:Int)))+(1:Int)))+(1:Int))) (z1.C).SavedUser (z1.C).Cause (z1.C).Bad (z1.C).Timer (z1.C).Waits (z1.C).User (z1.C).On (z1.C).Stopped;let z25:=DGuest.mk (decide ((Int.tmod s2.2.1 (3:Int))=(0:Int))) z8 z1.Pages z1.In z1.Out;let z41:=List.set s2.1 (Int.toNat s2.2.2) z25;let z9:=DCore.mk v3.1 v3.2 (w64 (v3.2+(1:Int))) (w64 ((w64 (v3.2+(1:Int)))+(1:Int))) (w64 ((w64 ((w64 (v3.2+(1:Int)))+(1:Int)))+(1:Int))) (decide ((Int.tmod (w64 ((w64 ((w64 ((w64 (v3.2+(1:Int)))+(1:Int)))+(1:Int)))+(1:Int))) (3:Int))=(0:Int))) (z1.C).Cause (z1.C).Bad (z1.C).Timer (z1.C).Waits (z1.C).User (z1.C).On (z1.C).Stopped;let z26:=DGuest.mk (decide ((Int.tmod s2.2.1 (3:Int))=(0:Int))) z9 z1.Pages z1.In z1.Out;let z42:=List.set s2.1 (Int.toNat s2.2.2) z26;let z10:=DCore.mk v3.1 v3.2 (w64 (v3.2+(1:Int))) (w64 ((w64 (v3.2+(1:Int)))+(1:Int))) (w64 ((w64 ((w64 (v3.2+(1:Int)))+(1:Int)))+(1:Int))) (decide ((Int.tmod (w64 ((w64 ((w64 ((w64 (v3.2+(1:Int)))+(1:Int)))+(1:Int)))+(1:Int))) (3:Int))=(0:Int))) (w64 ((w64 ((w64 ((w64 ((w64 (v3.2+(1:Int)))+(1:Int)))+(1:Int)))+(1:Int)))+(1:Int))) (z1.C).Bad (z1.C).Timer (z1.C).Waits (z1.C).User (z1.C).On (z1.C).Stopped;let z27:=DGuest.mk (decide ((Int.tmod s2.2.1 (3:Int))=(0:Int))) z10 z1.Pages z1.In z1.Out;let z43:=List.set s2.1 (Int.toNat s2.2.2) z27;let z11:=DCore.mk v3.1 v3.2 (w64 (v3.2+(1:Int))) (w64 ((w64 (v3.2+(1:Int)))+(1:Int))) (w64 ((w64 ((w64 (v3.2+(1:Int)))+(1:Int)))+(1:Int))) (decide ((Int.tmod (w64 ((w64 ((w64 ((w64 (v3.2+(1:Int)))+(1:Int)))+(1:Int)))+(1:Int))) (3:Int))=(0:Int))) (w64 ((w64 ((w64 ((w64 ((w64 (v3.2+(1:Int)))+(1:Int)))+(1:Int)))+(1:Int)))+(1:Int))) (w64 ((w64 ((w64 ((w64 ((w64 ((w64 (v3.2+(1:Int)))+(1:Int)))+(1:Int)))+(1:Int)))+(1:Int)))+(1:Int))) (z1.C).Timer (z1.C).Waits (z1.C).User (z1.C).On (z1.C).Stopped;let z28:=DGuest.mk (decide ((Int.tmod s2.2.1 (3:Int))=(0:Int))) z11 z1.Pages z1.In z1.Out;let z44:=List.set s2.1 (Int.toNat s2.2.2) z28;let z12:=DCore.mk v3.1 v3.2 (w64 (v3.2+(1:Int))) (w64 ((w64 (v3.2+(1:Int)))+(1:Int))) (w64 ((w64 ((w64 (v3.2+(1:Int)))+(1:Int)))+(1:Int))) (decide ((Int.tmod (w64 ((w64 ((w64 ((w64 (v3.2+(1:Int)))+(1:Int)))+(1:Int)))+(1:Int))) (3:Int))=(0:Int))) (w64 ((w64 ((w64 ((w64 ((w64 (v3.2+(1:Int)))+(1:Int)))+(1:Int)))+(1:Int)))+(1:Int))) (w64 ((w64 ((w64 ((w64 ((w64 ((w64 (v3.2+(1:Int)))+(1:Int)))+(1:Int)))+(1:Int)))+(1:Int)))+(1:Int))) (w64 ((w64 ((w64 ((w64 ((w64 ((w64 ((w64 (v3.2+(1:Int)))+(1:Int)))+(1:Int)))+(1:Int)))+(1:Int)))+(1:Int)))+(1:Int))) (z1.C).Waits (z1.C).User (z1.C).On (z1.C).Stopped;let z29:=DGuest.mk (decide ((Int.tmod s2.2.1 (3:Int))=(0:Int))) z12 z1.Pages z1.In z1.Out;let z45:=List.set s2.1 (Int.toNat s2.2.2) z29;let z13:=DCore.mk v3.1 v3.2 (w64 (v3.2+(1:Int))) (w64 ((w64 (v3.2+(1:Int)))+(1:Int))) (w64 ((w64 ((w64 (v3.2+(1:Int)))+(1:Int)))+(1:Int))) (decide ((Int.tmod (w64 ((w64 ((w64 ((w64 (v3.2+(1:Int)))+(1:Int)))+(1:Int)))+(1:Int))) (3:Int))=(0:Int))) (w64 ((w64 ((w64 ((w64 ((w64 (v3.2+(1:Int)))+(1:Int)))+(1:Int)))+(1:Int)))+(1:Int))) (w64 ((w64 ((w64 ((w64 ((w64 ((w64 (v3.2+(1:Int)))+(1:Int)))+(1:Int)))+(1:Int)))+(1:Int)))+(1:Int))) (w64 ((w64 ((w64 ((w64 ((w64 ((w64 ((w64 (v3.2+(1:Int)))+(1:Int)))+(1:Int)))+(1:Int)))+(1:Int)))+(1:Int)))+(1:Int))) (decide ((Int.tmod (w64 ((w64 ((w64 ((w64 ((w64 ((w64 ((w64 ((w64 (v3.2+(1:Int)))+(1:Int)))+(1:Int)))+(1:Int)))+(1:Int)))+(1:Int)))+(1:Int)))+(1:Int))) (3:Int))=(0:Int))) (z1.C).User (z1.C).On (z1.C).Stopped;let z30:=DGuest.mk (decide ((Int.tmod s2.2.1 (3:Int))=(0:Int))) z13 z1.Pages z1.In z1.Out;let z46:=List.set s2.1 (Int.toNat s2.2.2) z30;let z14:=DCore.mk v3.1 v3.2 (w64 (v3.2+(1:Int))) (w64 ((w64 (v3.2+(1:Int)))+(1:Int))) (w64 ((w64 ((w64 (v3.2+(1:Int)))+(1:Int)))+(1:Int))) (decide ((Int.tmod (w64 ((w64 ((w64 ((w64 (v3.2+(1:Int)))+(1:Int)))+(1:Int)))+(1:Int))) (3:Int))=(0:Int))) (w64 ((w64 ((w64 ((w64 ((w64 (v3.2+(1:Int)))+(1:Int)))+(1:Int)))+(1:Int)))+(1:Int))) (w64 ((w64 ((w64 ((w64 ((w64 ((w64 (v3.2+(1:Int)))+(1:Int)))+(1:Int)))+(1:Int)))+(1:Int)))+(1:Int))) (w64 ((w64 ((w64 ((w64 ((w64 ((w64 ((w64 (v3.2+(1:Int)))+(1:Int)))+(1:Int)))+(1:Int)))+(1:Int)))+(1:Int)))+(1:Int))) (decide ((Int.tmod (w64 ((w64 ((w64 ((w64 ((w64 ((w64 ((w64 ((w64 (v3.2+(1:Int)))+(1:Int)))+(1:Int)))+(1:Int)))+(1:Int)))+(1:Int)))+(1:Int)))+(1:Int))) (3:Int))=(0:Int))) (decide ((Int.tmod (w64 ((w64 ((w64 ((w64 ((w64 ((w64 ((w64 ((w64 ((w64 (v3.2+(1:Int)))+(1:Int)))+(1:Int)))+(1:Int)))+(1:Int)))+(1:Int)))+(1:Int)))+(1:Int)))+(1:Int))) (3:Int))=(0:Int))) (z1.C).On (z1.C).Stopped;let z31:=DGuest.mk (decide ((Int.tmod s2.2.1 (3:Int))=(0:Int))) z14 z1.Pages z1.In z1.Out;let z47:=List.set s2.1 (Int.toNat s2.2.2) z31;let z15:=DCore.mk v3.1 v3.2 (w64 (v3.2+(1:Int))) (w64 ((w64 (v3.2+(1:Int)))+(1:Int))) (w64 ((w64 ((w64 (v3.2+(1:Int)))+(1:Int)))+(1:Int))) (decide ((Int.tmod (w64 ((w64 ((w64 ((w64 (v3.2+(1:Int)))+(1:Int)))+(1:Int)))+(1:Int))) (3:Int))=(0:Int))) (w64 ((w64 ((w64 ((w64 ((w64 (v3.2+(1:Int)))+(1:Int)))+(1:Int)))+(1:Int)))+(1:Int))) (w64 ((w64 ((w64 ((w64 ((w64 ((w64 (v3.2+(1:Int)))+(1:Int)))+(1:Int)))+(1:Int)))+(1:Int)))+(1:Int))) (w64 ((w64 ((w64 ((w64 ((w64 ((w64 ((w64 (v3.2+(1:Int)))+(1:Int)))+(1:Int)))+(1:Int)))+(1:Int)))+(1:Int)))+(1:Int))) (decide ((Int.tmod (w64 ((w64 ((w64 ((w64 ((w64 ((w64 ((w64 ((w64 (v3.2+(1:Int)))+(1:Int)))+(1:Int)))+(1:Int)))+(1:Int)))+(1:Int)))+(1:Int)))+(1:Int))) (3:Int))=(0:Int))) (decide ((Int.tmod (w64 ((w64 ((w64 ((w64 ((w64 ((w64 ((w64 ((w64 ((w64 (v3.2+(1:Int)))+(1:Int)))+(1:Int)))+(1:Int)))+(1:Int)))+(1:Int)))+(1:Int)))+(1:Int)))+(1:Int))) (3:Int))=(0:Int))) (decide ((Int.tmod (w64 ((w64 ((w64 ((w64 ((w64 ((w64 ((w64 ((w64 ((w64 ((w64 (v3.2+(1:Int)))+(1:Int)))+(1:Int)))+(1:Int)))+(1:Int)))+(1:Int)))+(1:Int)))+(1:Int)))+(1:Int)))+(1:Int))) (3:Int))=(0:Int))) (z1.C).Stopped;let z32:=DGuest.mk (decide ((Int.tmod s2.2.1 (3:Int))=(0:Int))) z15 z1.Pages z1.In z1.Out;let z48:=List.set s2.1 (Int.toNat s2.2.2) z32;let z2:=DCore.mk v3.1 v3.2 (w64 (v3.2+(1:Int))) (w64 ((w64 (v3.2+(1:Int)))+(1:Int))) (w64 ((w64 ((w64 (v3.2+(1:Int)))+(1:Int)))+(1:Int))) (decide ((Int.tmod (w64 ((w64 ((w64 ((w64 (v3.2+(1:Int)))+(1:Int)))+(1:Int)))+(1:Int))) (3:Int))=(0:Int))) (w64 ((w64 ((w64 ((w64 ((w64 (v3.2+(1:Int)))+(1:Int)))+(1:Int)))+(1:Int)))+(1:Int))) (w64 ((w64 ((w64 ((w64 ((w64 ((w64 (v3.2+(1:Int)))+(1:Int)))+(1:Int)))+(1:Int)))+(1:Int)))+(1:Int))) (w64 ((w64 ((w64 ((w64 ((w64 ((w64 ((w64 (v3.2+(1:Int)))+(1:Int)))+(1:Int)))+(1:Int)))+(1:Int)))+(1:Int)))+(1:Int))) (decide ((Int.tmod (w64 ((w64 ((w64 ((w64 ((w64 ((w64 ((w64 ((w64 (v3.2+(1:Int)))+(1:Int)))+(1:Int)))+(1:Int)))+(1:Int)))+(1:Int)))+(1:Int)))+(1:Int))) (3:Int))=(0:Int))) (decide ((Int.tmod (w64 ((w64 ((w64 ((w64 ((w64 ((w64 ((w64 ((w64 ((w64 (v3.2+(1:Int)))+(1:Int)))+(1:Int)))+(1:Int)))+(1:Int)))+(1:Int)))+(1:Int)))+(1:Int)))+(1:Int))) (3:Int))=(0:Int))) (decide ((Int.tmod (w64 ((w64 ((w64 ((w64 ((w64 ((w64 ((w64 ((w64 ((w64 ((w64 (v3.2+(1:Int)))+(1:Int)))+(1:Int)))+(1:Int)))+(1:Int)))+(1:Int)))+(1:Int)))+(1:Int)))+(1:Int)))+(1:Int))) (3:Int))=(0:Int))) (decide ((Int.tmod (w64 ((w64 ((w64 ((w64 ((w64 ((w64 ((w64 ((w64 ((w64 ((w64 ((w64 (v3.2+(1:Int)))+(1:Int)))+(1:Int)))+(1:Int)))+(1:Int)))+(1:Int)))+(1:Int)))+(1:Int)))+(1:Int)))+(1:Int)))+(1:Int))) (3:Int))=(0:Int)));let z16:=DGuest.mk (decide ((Int.tmod s2.2.1 (3:Int))=(0:Int))) z2 z1.Pages z1.In z1.Out;let z33:=List.set s2.1 (Int.toNat s2.2.2) z16;obtain⟨hg466,hh⟩:=aE hh;have hgqv3:=Eq.symm hg466;refine ys (.call 38 [.t 26,.t 27]) (some 28) (aAj (e':=3) (sz':=1) (m':=(List.length (z1.C).Regs)) (cs':=(fl (eI .i64) (z1.C).Regs)) (ds:=(fl (eI .i64) v3.1)) (c:=bY) (xs:=z20) (R:=0) (e:=80) (o:=0+(Int.toNat s2.2.2)*17+1+0+0) (i:=(Int.toNat s2.2.2)) (off:=1) (y:=z21) (m2:=(List.length v3.1)) (args:=[.sref 0 [0+(Int.toNat s2.2.2)*17+1+0+0] 0 (List.length (z1.C).Regs) 1,ii (w64 (s2.2.1+(1:Int)))]) (args2:=[.sref 1 [] 0 (List.length (z1.C).Regs) 1,ii (w64 (s2.2.1+(1:Int)))]) kr aK kr ltn ltn dd (bW ltn) kr (xH (.sref _ _ _) (xH (.same _) aNh)) (Inl.frameB (v':=ii v3.2) (Hp':=[(1,some (rI_3 v3.1))]) (n':=2) [1] (dY hv3) rfl rfl rfl rz rfl (hn aN aP) dU rfl (hn aN aP) rfl) kr kr hgqv3 kr (List.set_set ..) ?_);let q2:Root:=(rO80 z37);refine yt (sp 157 [z51,(1,ii v3.2),z54]) [(0,some q2)] 2 (Aw.sreg [0,1,5] [0] ?_);obtain⟨hg502,hh⟩:=aE hh;refine yjc 6 [(0:Int)<=s2.2.2/\s2.2.2<((List.length s2.1:Nat):Int)] (sp 157 [z51,(1,ii v3.2),z54,(29,.sref 0 [] 0 (List.length s2.1) 17),(30,ii s2.2.2),(31,ii v3.2),(32,.ptr 0 [] (0+(Int.toNat s2.2.2)*17)),(33,.ptr 0 [] (0+(Int.toNat s2.2.2)*17+1)),(34,.ptr 0 [] (0+(Int.toNat s2.2.2)*17+1+1))]) [(0,some q2)] 2 (.cons hg502 .nil) ?_;let q3:Root:=(rO80 z38);let z69:=(0,some q3);refine ys (.store 1 (.t 34) (.t 31)) none (fG (bW ltn) (List.set_set ..) (c:=bY) (xs:=z37) (e:=80) (r:=0) (π:=[]) (o:=0+(Int.toNat s2.2.2)*17+1+1) (i:=(Int.toNat s2.2.2)) (off:=2) (vs:=[ii v3.2]) (y:=z22) (H':=[z69,(0,some q2)]) aK kr kr kr kr ltn ltn dd kr kr ?_);refine yt (sp 157 [z51,(1,ii v3.2),z54]) [z69] 2 (sy [0,1,5] [0] (sp 157 [z51,z68,z54]) [z69] 2 (Aw.sreg [0,1,5] [0] ?_));obtain⟨hg501,hh⟩:=aE hh;refine yjc 6 [(0:Int)<=s2.2.2/\s2.2.2<((List.length s2.1:Nat):Int)] (sp 157 [z51,z68,z54,(37,.sref 0 [] 0 (List.length s2.1) 17),(38,ii s2.2.2),(39,ii (w64 (v3.2+(1:Int)))),(40,.ptr 0 [] (0+(Int.toNat s2.2.2)*17)),(41,.ptr 0 [] (0+(Int.toNat s2.2.2)*17+1)),(42,.ptr 0 [] (0+(Int.toNat s2.2.2)*17+1+2))]) [z69] 2 (.cons hg501 .nil) ?_;let q4:Root:=(rO80 z39);let z70:=(0,some q4);refine ys (.store 1 (.t 42) (.t 39)) none (fG (bW ltn) (List.set_set ..) (c:=bY) (xs:=z38) (e:=80) (r:=0) (π:=[]) (o:=0+(Int.toNat s2.2.2)*17+1+2) (i:=(Int.toNat s2.2.2)) (off:=3) (vs:=[ii (w64 (v3.2+(1:Int)))]) (y:=z23) (H':=[z70,z69]) aK kr kr kr kr ltn ltn dd kr kr ?_);refine yt (sp 157 [z51,z68,z54]) [z70] 2 (sy [0,1,5] [0] (sp 157 [z51,z67,z54]) [z70] 2 (Aw.sreg [0,1,5] [0] ?_));obtain⟨hg500,hh⟩:=aE hh;refine yjc 6 [(0:Int)<=s2.2.2/\s2.2.2<((List.length s2.1:Nat):Int)] (sp 157 [z51,z67,z54,(45,.sref 0 [] 0 (List.length s2.1) 17),(46,ii s2.2.2),(47,ii (w64 ((w64 (v3.2+(1:Int)))+(1:Int)))),(48,.ptr 0 [] (0+(Int.toNat s2.2.2)*17)),(49,.ptr 0 [] (0+(Int.toNat s2.2.2)*17+1)),(50,.ptr 0 [] (0+(Int.toNat s2.2.2)*17+1+3))]) [z70] 2 (.cons hg500 .nil) ?_;let q5:Root:=(rO80 z40);let z71:=(0,some q5);refine ys (.store 1 (.t 50) (.t 47)) none (fG (bW ltn) (List.set_set ..) (c:=bY) (xs:=z39) (e:=80) (r:=0) (π:=[]) (o:=0+(Int.toNat s2.2.2)*17+1+3) (i:=(Int.toNat s2.2.2)) (off:=4) (vs:=[ii (w64 ((w64 (v3.2+(1:Int)))+(1:Int)))]) (y:=z24) (H':=[z71,z70]) aK kr kr kr kr ltn ltn dd kr kr ?_);refine yt (sp 157 [z51,z67,z54]) [z71] 2 (sy [0,1,5] [0] (sp 157 [z51,z66,z54]) [z71] 2 (Aw.sreg [0,1,5] [0] ?_));obtain⟨hg499,hh⟩:=aE hh;refine yjc 6 [(0:Int)<=s2.2.2/\s2.2.2<((List.length s2.1:Nat):Int)] (sp 157 [z51,z66,z54,(53,.sref 0 [] 0 (List.length s2.1) 17),(54,ii s2.2.2),(55,ii (w64 ((w64 ((w64 (v3.2+(1:Int)))+(1:Int)))+(1:Int)))),(56,.ptr 0 [] (0+(Int.toNat s2.2.2)*17)),(57,.ptr 0 [] (0+(Int.toNat s2.2.2)*17+1)),(58,.ptr 0 [] (0+(Int.toNat s2.2.2)*17+1+4))]) [z71] 2 (.cons hg499 .nil) ?_;let q6:Root:=(rO80 z41);let z72:=(0,some q6);refine ys (.store 1 (.t 58) (.t 55)) none (fG (bW ltn) (List.set_set ..) (c:=bY) (xs:=z40) (e:=80) (r:=0) (π:=[]) (o:=0+(Int.toNat s2.2.2)*17+1+4) (i:=(Int.toNat s2.2.2)) (off:=5) (vs:=[ii (w64 ((w64 ((w64 (v3.2+(1:Int)))+(1:Int)))+(1:Int)))]) (y:=z25) (H':=[z72,z71]) aK kr kr kr kr ltn ltn dd kr kr ?_);refine yt (sp 157 [z51,z66,z54]) [z72] 2 (sy [0,1,5] [0] (sp 157 [z51,z65,z54]) [z72] 2 (Aw.sreg [0,1,5] [0] ?_));obtain⟨hg498,hh⟩:=aE hh;refine yjc 8 [(3:Int)≠0,(0:Int)<=s2.2.2/\s2.2.2<((List.length s2.1:Nat):Int)] (sp 157 [z51,z65,z54,(61,.sref 0 [] 0 (List.length s2.1) 17),(62,ii s2.2.2),(63,ii (w64 ((w64 ((w64 ((w64 (v3.2+(1:Int)))+(1:Int)))+(1:Int)))+(1:Int)))),(64,ii (Int.tmod (w64 ((w64 ((w64 ((w64 (v3.2+(1:Int)))+(1:Int)))+(1:Int)))+(1:Int))) (3:Int))),(65,bb (decide ((Int.tmod (w64 ((w64 ((w64 ((w64 (v3.2+(1:Int)))+(1:Int)))+(1:Int)))+(1:Int))) (3:Int))=(0:Int)))),(66,.ptr 0 [] (0+(Int.toNat s2.2.2)*17)),(67,.ptr 0 [] (0+(Int.toNat s2.2.2)*17+1)),(68,.ptr 0 [] (0+(Int.toNat s2.2.2)*17+1+5))]) [z72] 2 (.cons dd (.cons hg498 .nil)) ?_;let q7:Root:=(rO80 z42);let z73:=(0,some q7);refine ys (.store 1 (.t 68) (.t 65)) none (fG (bW ltn) (List.set_set ..) (c:=bY) (xs:=z41) (e:=80) (r:=0) (π:=[]) (o:=0+(Int.toNat s2.2.2)*17+1+5) (i:=(Int.toNat s2.2.2)) (off:=6) (vs:=[bb (decide ((Int.tmod (w64 ((w64 ((w64 ((w64 (v3.2+(1:Int)))+(1:Int)))+(1:Int)))+(1:Int))) (3:Int))=(0:Int)))]) (y:=z26) (H':=[z73,z72]) aK kr kr kr kr ltn ltn dd kr kr ?_);refine yt (sp 157 [z51,z65,z54]) [z73] 2 (sy [0,1,5] [0] (sp 157 [z51,z64,z54]) [z73] 2 (Aw.sreg [0,1,5] [0] ?_));obtain⟨hg497,hh⟩:=aE hh;refine yjc 6 [(0:Int)<=s2.2.2/\s2.2.2<((List.length s2.1:Nat):Int)] (sp 157 [z51,z64,z54,(71,.sref 0 [] 0 (List.length s2.1) 17),(72,ii s2.2.2),(73,ii (w64 ((w64 ((w64 ((w64 ((w64 (v3.2+(1:Int)))+(1:Int)))+(1:Int)))+(1:Int)))+(1:Int)))),(74,.ptr 0 [] (0+(Int.toNat s2.2.2)*17)),(75,.ptr 0 [] (0+(Int.toNat s2.2.2)*17+1)),(76,.ptr 0 [] (0+(Int.toNat s2.2.2)*17+1+6))]) [z73] 2 (.cons hg497 .nil) ?_;let q8:Root:=(rO80 z43);let z74:=(0,some q8);refine ys (.store 1 (.t 76) (.t 73)) none (fG (bW ltn) (List.set_set ..) (c:=bY) (xs:=z42) (e:=80) (r:=0) (π:=[]) (o:=0+(Int.toNat s2.2.2)*17+1+6) (i:=(Int.toNat s2.2.2)) (off:=7) (vs:=[ii (w64 ((w64 ((w64 ((w64 ((w64 (v3.2+(1:Int)))+(1:Int)))+(1:Int)))+(1:Int)))+(1:Int)))]) (y:=z27) (H':=[z74,z73]) aK kr kr kr kr ltn ltn dd kr kr ?_);refine yt (sp 157 [z51,z64,z54]) [z74] 2 (sy [0,1,5] [0] (sp 157 [z51,z63,z54]) [z74] 2 (Aw.sreg [0,1,5] [0] ?_));obtain⟨hg496,hh⟩:=aE hh;refine yjc 6 [(0:Int)<=s2.2.2/\s2.2.2<((List.length s2.1:Nat):Int)] (sp 157 [z51,z63,z54,(79,.sref 0 [] 0 (List.length s2.1) 17),(80,ii s2.2.2),(81,ii (w64 ((w64 ((w64 ((w64 ((w64 ((w64 (v3.2+(1:Int)))+(1:Int)))+(1:Int)))+(1:Int)))+(1:Int)))+(1:Int)))),(82,.ptr 0 [] (0+(Int.toNat s2.2.2)*17)),(83,.ptr 0 [] (0+(Int.toNat s2.2.2)*17+1)),(84,.ptr 0 [] (0+(Int.toNat s2.2.2)*17+1+7))]) [z74] 2 (.cons hg496 .nil) ?_;let q9:Root:=(rO80 z44);let z75:=(0,some q9);refine ys (.store 1 (.t 84) (.t 81)) none (fG (bW ltn) (List.set_set ..) (c:=bY) (xs:=z43) (e:=80) (r:=0) (π:=[]) (o:=0+(Int.toNat s2.2.2)*17+1+7) (i:=(Int.toNat s2.2.2)) (off:=8) (vs:=[ii (w64 ((w64 ((w64 ((w64 ((w64 ((w64 (v3.2+(1:Int)))+(1:Int)))+(1:Int)))+(1:Int)))+(1:Int)))+(1:Int)))]) (y:=z28) (H':=[z75,z74]) aK kr kr kr kr ltn ltn dd kr kr ?_);refine yt (sp 157 [z51,z63,z54]) [z75] 2 (sy [0,1,5] [0] (sp 157 [z51,z62,z54]) [z75] 2 (Aw.sreg [0,1,5] [0] ?_));obtain⟨hg495,hh⟩:=aE hh;refine yjc 6 [(0:Int)<=s2.2.2/\s2.2.2<((List.length s2.1:Nat):Int)] (sp 157 [z51,z62,z54,(87,.sref 0 [] 0 (List.length s2.1) 17),(88,ii s2.2.2),(89,ii (w64 ((w64 ((w64 ((w64 ((w64 ((w64 ((w64 (v3.2+(1:Int)))+(1:Int)))+(1:Int)))+(1:Int)))+(1:Int)))+(1:Int)))+(1:Int)))),(90,.ptr 0 [] (0+(Int.toNat s2.2.2)*17)),(91,.ptr 0 [] (0+(Int.toNat s2.2.2)*17+1)),(92,.ptr 0 [] (0+(Int.toNat s2.2.2)*17+1+8))]) [z75] 2 (.cons hg495 .nil) ?_;let q10:Root:=(rO80 z45);let z76:=(0,some q10);refine ys (.store 1 (.t 92) (.t 89)) none (fG (bW ltn) (List.set_set ..) (c:=bY) (xs:=z44) (e:=80) (r:=0) (π:=[]) (o:=0+(Int.toNat s2.2.2)*17+1+8) (i:=(Int.toNat s2.2.2)) (off:=9) (vs:=[ii (w64 ((w64 ((w64 ((w64 ((w64 ((w64 ((w64 (v3.2+(1:Int)))+(1:Int)))+(1:Int)))+(1:Int)))+(1:Int)))+(1:Int)))+(1:Int)))]) (y:=z29) (H':=[z76,z75]) aK kr kr kr kr ltn ltn dd kr kr ?_);refine yt (sp 157 [z51,z62,z54]) [z76] 2 (sy [0,1,5] [0] (sp 157 [z51,z61,z54]) [z76] 2 (Aw.sreg [0,1,5] [0] ?_));obtain⟨hg494,hh⟩:=aE hh;refine yjc 8 [(3:Int)≠0,(0:Int)<=s2.2.2/\s2.2.2<((List.length s2.1:Nat):Int)] (sp 157 [z51,z61,z54,(95,.sref 0 [] 0 (List.length s2.1) 17),(96,ii s2.2.2),(97,ii (w64 ((w64 ((w64 ((w64 ((w64 ((w64 ((w64 ((w64 (v3.2+(1:Int)))+(1:Int)))+(1:Int)))+(1:Int)))+(1:Int)))+(1:Int)))+(1:Int)))+(1:Int)))),(98,ii (Int.tmod (w64 ((w64 ((w64 ((w64 ((w64 ((w64 ((w64 ((w64 (v3.2+(1:Int)))+(1:Int)))+(1:Int)))+(1:Int)))+(1:Int)))+(1:Int)))+(1:Int)))+(1:Int))) (3:Int))),(99,bb (decide ((Int.tmod (w64 ((w64 ((w64 ((w64 ((w64 ((w64 ((w64 ((w64 (v3.2+(1:Int)))+(1:Int)))+(1:Int)))+(1:Int)))+(1:Int)))+(1:Int)))+(1:Int)))+(1:Int))) (3:Int))=(0:Int)))),(100,.ptr 0 [] (0+(Int.toNat s2.2.2)*17)),(101,.ptr 0 [] (0+(Int.toNat s2.2.2)*17+1)),(102,.ptr 0 [] (0+(Int.toNat s2.2.2)*17+1+9))]) [z76] 2 (.cons dd (.cons hg494 .nil)) ?_;let q11:Root:=(rO80 z46);let z77:=(0,some q11);refine ys (.store 1 (.t 102) (.t 99)) none (fG (bW ltn) (List.set_set ..) (c:=bY) (xs:=z45) (e:=80) (r:=0) (π:=[]) (o:=0+(Int.toNat s2.2.2)*17+1+9) (i:=(Int.toNat s2.2.2)) (off:=10) (vs:=[bb (decide ((Int.tmod (w64 ((w64 ((w64 ((w64 ((w64 ((w64 ((w64 ((w64 (v3.2+(1:Int)))+(1:Int)))+(1:Int)))+(1:Int)))+(1:Int)))+(1:Int)))+(1:Int)))+(1:Int))) (3:Int))=(0:Int)))]) (y:=z30) (H':=[z77,z76]) aK kr kr kr kr ltn ltn dd kr kr ?_);refine yt (sp 157 [z51,z61,z54]) [z77] 2 (sy [0,1,5] [0] (sp 157 [z51,z60,z54]) [z77] 2 (Aw.sreg [0,1,5] [0] ?_));obtain⟨hg493,hh⟩:=aE hh;refine yjc 8 [(3:Int)≠0,(0:Int)<=s2.2.2/\s2.2.2<((List.length s2.1:Nat):Int)] (sp 157 [z51,z60,z54,(105,.sref 0 [] 0 (List.length s2.1) 17),(106,ii s2.2.2),(107,ii (w64 ((w64 ((w64 ((w64 ((w64 ((w64 ((w64 ((w64 ((w64 (v3.2+(1:Int)))+(1:Int)))+(1:Int)))+(1:Int)))+(1:Int)))+(1:Int)))+(1:Int)))+(1:Int)))+(1:Int)))),(108,ii (Int.tmod (w64 ((w64 ((w64 ((w64 ((w64 ((w64 ((w64 ((w64 ((w64 (v3.2+(1:Int)))+(1:Int)))+(1:Int)))+(1:Int)))+(1:Int)))+(1:Int)))+(1:Int)))+(1:Int)))+(1:Int))) (3:Int))),(109,bb (decide ((Int.tmod (w64 ((w64 ((w64 ((w64 ((w64 ((w64 ((w64 ((w64 ((w64 (v3.2+(1:Int)))+(1:Int)))+(1:Int)))+(1:Int)))+(1:Int)))+(1:Int)))+(1:Int)))+(1:Int)))+(1:Int))) (3:Int))=(0:Int)))),(110,.ptr 0 [] (0+(Int.toNat s2.2.2)*17)),(111,.ptr 0 [] (0+(Int.toNat s2.2.2)*17+1)),(112,.ptr 0 [] (0+(Int.toNat s2.2.2)*17+1+10))]) [z77] 2 (.cons dd (.cons hg493 .nil)) ?_;let q12:Root:=(rO80 z47);let z78:=(0,some q12);refine ys (.store 1 (.t 112) (.t 109)) none (fG (bW ltn) (List.set_set ..) (c:=bY) (xs:=z46) (e:=80) (r:=0) (π:=[]) (o:=0+(Int.toNat s2.2.2)*17+1+10) (i:=(Int.toNat s2.2.2)) (off:=11) (vs:=[bb (decide ((Int.tmod (w64 ((w64 ((w64 ((w64 ((w64 ((w64 ((w64 ((w64 ((w64 (v3.2+(1:Int)))+(1:Int)))+(1:Int)))+(1:Int)))+(1:Int)))+(1:Int)))+(1:Int)))+(1:Int)))+(1:Int))) (3:Int))=(0:Int)))]) (y:=z31) (H':=[z78,z77]) aK kr kr kr kr ltn ltn dd kr kr ?_);refine yt (sp 157 [z51,z60,z54]) [z78] 2 (sy [0,1,5] [0] (sp 157 [z51,z59,z54]) [z78] 2 (Aw.sreg [0,1,5] [0] ?_));obtain⟨hg492,hh⟩:=aE hh;refine yjc 8 [(3:Int)≠0,(0:Int)<=s2.2.2/\s2.2.2<((List.length s2.1:Nat):Int)] (sp 157 [z51,z59,z54,(115,.sref 0 [] 0 (List.length s2.1) 17),(116,ii s2.2.2),(117,ii (w64 ((w64 ((w64 ((w64 ((w64 ((w64 ((w64 ((w64 ((w64 ((w64 (v3.2+(1:Int)))+(1:Int)))+(1:Int)))+(1:Int)))+(1:Int)))+(1:Int)))+(1:Int)))+(1:Int)))+(1:Int)))+(1:Int)))),(118,ii (Int.tmod (w64 ((w64 ((w64 ((w64 ((w64 ((w64 ((w64 ((w64 ((w64 ((w64 (v3.2+(1:Int)))+(1:Int)))+(1:Int)))+(1:Int)))+(1:Int)))+(1:Int)))+(1:Int)))+(1:Int)))+(1:Int)))+(1:Int))) (3:Int))),(119,bb (decide ((Int.tmod (w64 ((w64 ((w64 ((w64 ((w64 ((w64 ((w64 ((w64 ((w64 ((w64 (v3.2+(1:Int)))+(1:Int)))+(1:Int)))+(1:Int)))+(1:Int)))+(1:Int)))+(1:Int)))+(1:Int)))+(1:Int)))+(1:Int))) (3:Int))=(0:Int)))),(120,.ptr 0 [] (0+(Int.toNat s2.2.2)*17)),(121,.ptr 0 [] (0+(Int.toNat s2.2.2)*17+1)),(122,.ptr 0 [] (0+(Int.toNat s2.2.2)*17+1+11))]) [z78] 2 (.cons dd (.cons hg492 .nil)) ?_;let q13:Root:=(rO80 z48);let z79:=(0,some q13);refine ys (.store 1 (.t 122) (.t 119)) none (fG (bW ltn) (List.set_set ..) (c:=bY) (xs:=z47) (e:=80) (r:=0) (π:=[]) (o:=0+(Int.toNat s2.2.2)*17+1+11) (i:=(Int.toNat s2.2.2)) (off:=12) (vs:=[bb (decide ((Int.tmod (w64 ((w64 ((w64 ((w64 ((w64 ((w64 ((w64 ((w64 ((w64 ((w64 (v3.2+(1:Int)))+(1:Int)))+(1:Int)))+(1:Int)))+(1:Int)))+(1:Int)))+(1:Int)))+(1:Int)))+(1:Int)))+(1:Int))) (3:Int))=(0:Int)))]) (y:=z32) (H':=[z79,z78]) aK kr kr kr kr ltn ltn dd kr kr ?_);refine yt (sp 157 [z51,z59,z54]) [z79] 2 (sy [0,1,5] [0] (sp 157 [z51,z58,z54]) [z79] 2 (Aw.sreg [0,1,5] [0] ?_));obtain⟨hg491,hh⟩:=aE hh;refine yjc 8 [(3:Int)≠0,(0:Int)<=s2.2.2/\s2.2.2<((List.length s2.1:Nat):Int)] (sp 157 [z51,z58,z54,(125,.sref 0 [] 0 (List.length s2.1) 17),(126,ii s2.2.2),(127,ii (w64 ((w64 ((w64 ((w64 ((w64 ((w64 ((w64 ((w64 ((w64 ((w64 ((w64 (v3.2+(1:Int)))+(1:Int)))+(1:Int)))+(1:Int)))+(1:Int)))+(1:Int)))+(1:Int)))+(1:Int)))+(1:Int)))+(1:Int)))+(1:Int)))),(128,ii (Int.tmod (w64 ((w64 ((w64 ((w64 ((w64 ((w64 ((w64 ((w64 ((w64 ((w64 ((w64 (v3.2+(1:Int)))+(1:Int)))+(1:Int)))+(1:Int)))+(1:Int)))+(1:Int)))+(1:Int)))+(1:Int)))+(1:Int)))+(1:Int)))+(1:Int))) (3:Int))),(129,bb (decide ((Int.tmod (w64 ((w64 ((w64 ((w64 ((w64 ((w64 ((w64 ((w64 ((w64 ((w64 ((w64 (v3.2+(1:Int)))+(1:Int)))+(1:Int)))+(1:Int)))+(1:Int)))+(1:Int)))+(1:Int)))+(1:Int)))+(1:Int)))+(1:Int)))+(1:Int))) (3:Int))=(0:Int)))),(130,.ptr 0 [] (0+(Int.toNat s2.2.2)*17)),(131,.ptr 0 [] (0+(Int.toNat s2.2.2)*17+1)),(132,.ptr 0 [] (0+(Int.toNat s2.2.2)*17+1+12))]) [z79] 2 (.cons dd (.cons hg491 .nil)) ?_;let q14:Root:=(rO80 z33);let z80:=(0,some q14);refine ys (.store 1 (.t 132) (.t 129)) none (fG (bW ltn) (List.set_set ..) (c:=bY) (xs:=z48) (e:=80) (r:=0) (π:=[]) (o:=0+(Int.toNat s2.2.2)*17+1+12) (i:=(Int.toNat s2.2.2)) (off:=13) (vs:=[bb (decide ((Int.tmod (w64 ((w64 ((w64 ((w64 ((w64 ((w64 ((w64 ((w64 ((w64 ((w64 ((w64 (v3.2+(1:Int)))+(1:Int)))+(1:Int)))+(1:Int)))+(1:Int)))+(1:Int)))+(1:Int)))+(1:Int)))+(1:Int)))+(1:Int)))+(1:Int))) (3:Int))=(0:Int)))]) (y:=z16) (H':=[z80,z79]) aK kr kr kr kr ltn ltn dd kr kr ?_);refine yt (sp 157 [z51,z58,z54]) [z80] 2 (sy [0,1,5] [0] (sp 157 [z51,z57,z54]) [z80] 2 (Aw.sreg [0,1,5] [0] ?_));obtain⟨hg490,hh⟩:=aE hh;refine yjc 4 [(0:Int)<=s2.2.2/\s2.2.2<((List.length s2.1:Nat):Int)] (sp 157 [z51,z57,z54,(135,.sref 0 [] 0 (List.length s2.1) 17),(136,ii s2.2.2),(137,.ptr 0 [] (0+(Int.toNat s2.2.2)*17)),(138,.ptr 0 [] (0+(Int.toNat s2.2.2)*17+14))]) [z80] 2 (.cons hg490 .nil) (ys (.load false 1 (.t 138)) (some 139) (aAv (bW ltn) (c:=bY) (xs:=z33) (e:=80) (r:=0) (π:=[]) (o:=0+(Int.toNat s2.2.2)*17+14) (i:=(Int.toNat s2.2.2)) (off:=14) (v:= .sref 0 [0+(Int.toNat s2.2.2)*17+14+0] 0 (List.length z1.Pages) 3) aK kr kr ltn ltn dd kr ?_));refine yu 1 [(139,.sref 0 [0+(Int.toNat s2.2.2)*17+14+0] 0 (List.length z1.Pages) 3),(140,ii (w64 ((w64 ((w64 ((w64 ((w64 ((w64 ((w64 ((w64 ((w64 ((w64 ((w64 ((w64 (v3.2+(1:Int)))+(1:Int)))+(1:Int)))+(1:Int)))+(1:Int)))+(1:Int)))+(1:Int)))+(1:Int)))+(1:Int)))+(1:Int)))+(1:Int)))+(1:Int))))] [z80] 2 ?_;obtain⟨v4,hv4,hh⟩:=bind_some hh;let z17:=DGuest.mk (decide ((Int.tmod s2.2.1 (3:Int))=(0:Int))) z2 v4.1 z1.In z1.Out;let z34:=List.set s2.1 (Int.toNat s2.2.2) z17;obtain⟨hg481,hh⟩:=aE hh;have hgqv4:=Eq.symm hg481;refine ys (.call 112 [.t 139,.t 140]) (some 141) (aAj (e':=83) (sz':=3) (m':=(List.length z1.Pages)) (cs':=(fl eR z1.Pages)) (ds:=(fl eR v4.1)) (c:=bY) (xs:=z33) (R:=0) (e:=80) (o:=0+(Int.toNat s2.2.2)*17+14+0) (i:=(Int.toNat s2.2.2)) (off:=14) (y:=z17) (m2:=(List.length v4.1)) (args:=[.sref 0 [0+(Int.toNat s2.2.2)*17+14+0] 0 (List.length z1.Pages) 3,ii (w64 ((w64 ((w64 ((w64 ((w64 ((w64 ((w64 ((w64 ((w64 ((w64 ((w64 ((w64 (v3.2+(1:Int)))+(1:Int)))+(1:Int)))+(1:Int)))+(1:Int)))+(1:Int)))+(1:Int)))+(1:Int)))+(1:Int)))+(1:Int)))+(1:Int)))+(1:Int)))]) (args2:=[.sref 2 [] 0 (List.length z1.Pages) 3,ii (w64 ((w64 ((w64 ((w64 ((w64 ((w64 ((w64 ((w64 ((w64 ((w64 ((w64 ((w64 (v3.2+(1:Int)))+(1:Int)))+(1:Int)))+(1:Int)))+(1:Int)))+(1:Int)))+(1:Int)))+(1:Int)))+(1:Int)))+(1:Int)))+(1:Int)))+(1:Int)))]) kr aK kr ltn ltn dd (bW ltn) kr (xH (.sref _ _ _) (xH (.same _) aNh)) (Inl.frameB (v':=ii v4.2) (Hp':=[(2,some (rC83 v4.1))]) (n':=3) [2] (aFc hv4) rfl rfl rfl rz rfl (hn eT aP) dU rfl (hn eT aP) rfl) kr kr hgqv4 kr (List.set_set ..) ?_);let q15:Root:=(rO80 z34);refine yt (sp 157 [z51,(1,ii v4.2),z54]) [(0,some q15)] 3 (Aw.sreg [0,1,5] [0] ?_);obtain⟨hg489,hh⟩:=aE hh;refine yjc 4 [(0:Int)<=s2.2.2/\s2.2.2<((List.length s2.1:Nat):Int)] (sp 157 [z51,(1,ii v4.2),z54,(142,.sref 0 [] 0 (List.length s2.1) 17),(143,ii s2.2.2),(144,.ptr 0 [] (0+(Int.toNat s2.2.2)*17)),(145,.ptr 0 [] (0+(Int.toNat s2.2.2)*17+15))]) [(0,some q15)] 3 (.cons hg489 .nil) (ys (.load false 1 (.t 145)) (some 146) (aAv (bW ltn) (c:=bY) (xs:=z34) (e:=80) (r:=0) (π:=[]) (o:=0+(Int.toNat s2.2.2)*17+15) (i:=(Int.toNat s2.2.2)) (off:=15) (v:= .sref 0 [0+(Int.toNat s2.2.2)*17+15+0] 0 (List.length z1.In) 1) aK kr kr ltn ltn dd kr ?_));refine yu 1 [(146,.sref 0 [0+(Int.toNat s2.2.2)*17+15+0] 0 (List.length z1.In) 1),(147,ii v4.2)] [(0,some q15)] 3 ?_;obtain⟨v5,hv5,hh⟩:=bind_some hh;let z18:=DGuest.mk (decide ((Int.tmod s2.2.1 (3:Int))=(0:Int))) z2 v4.1 v5.1 z1.Out;let z35:=List.set s2.1 (Int.toNat s2.2.2) z18;obtain⟨hg484,hh⟩:=aE hh;have hgqv5:=Eq.symm hg484;refine ys (.call 38 [.t 146,.t 147]) (some 148) (aAj (e':=3) (sz':=1) (m':=(List.length z1.In)) (cs':=(fl (eI .i64) z1.In)) (ds:=(fl (eI .i64) v5.1)) (c:=bY) (xs:=z34) (R:=0) (e:=80) (o:=0+(Int.toNat s2.2.2)*17+15+0) (i:=(Int.toNat s2.2.2)) (off:=15) (y:=z18) (m2:=(List.length v5.1)) (args:=[.sref 0 [0+(Int.toNat s2.2.2)*17+15+0] 0 (List.length z1.In) 1,ii v4.2]) (args2:=[.sref 3 [] 0 (List.length z1.In) 1,ii v4.2]) kr aK kr ltn ltn dd (bW ltn) kr (xH (.sref _ _ _) (xH (.same _) aNh)) (Inl.frameB (v':=ii v5.2) (Hp':=[(3,some (rI_3 v5.1))]) (n':=4) [3] (dY hv5) rfl rfl rfl rz rfl (hn aN aP) dU rfl (hn aN aP) rfl) kr kr hgqv5 kr (List.set_set ..) ?_);let q16:Root:=(rO80 z35);refine yt (sp 157 [z51,(1,ii v5.2),z54]) [(0,some q16)] 4 (Aw.xreg [0,1,5] [0] (λ_ _ _ hq=>xC (cG hq)) ?_);obtain⟨hg488,hh⟩:=aE hh;refine yjc 4 [(0:Int)<=s2.2.2/\s2.2.2<((List.length s2.1:Nat):Int)] (sp 157 [z51,(1,ii v5.2),z54,(149,.sref 0 [] 0 (List.length s2.1) 17),(150,ii s2.2.2),(151,.ptr 0 [] (0+(Int.toNat s2.2.2)*17)),(152,.ptr 0 [] (0+(Int.toNat s2.2.2)*17+16))]) [(0,some q16)] 4 (.cons hg488 .nil) (ys (.load false 1 (.t 152)) (some 153) (aAv (bW ltn) (c:=bY) (xs:=z35) (e:=80) (r:=0) (π:=[]) (o:=0+(Int.toNat s2.2.2)*17+16) (i:=(Int.toNat s2.2.2)) (off:=16) (v:= .sref 0 [0+(Int.toNat s2.2.2)*17+16+0] 0 (List.length z1.Out) 1) aK kr kr ltn ltn dd kr ?_));refine yu 1 [(153,.sref 0 [0+(Int.toNat s2.2.2)*17+16+0] 0 (List.length z1.Out) 1),(154,ii v5.2)] [(0,some q16)] 4 ?_;obtain⟨v6,hv6,hh⟩:=bind_some hh;let z19:=DGuest.mk (decide ((Int.tmod s2.2.1 (3:Int))=(0:Int))) z2 v4.1 v5.1 v6.1;let z36:=List.set s2.1 (Int.toNat s2.2.2) z19;obtain⟨hg487,hh⟩:=aE hh;have hgqv6:=Eq.symm hg487;refine ys (.call 38 [.t 153,.t 154]) (some 155) (aAj (e':=3) (sz':=1) (m':=(List.length z1.Out)) (cs':=(fl (eI .i64) z1.Out)) (ds:=(fl (eI .i64) v6.1)) (c:=bY) (xs:=z35) (R:=0) (e:=80) (o:=0+(Int.toNat s2.2.2)*17+16+0) (i:=(Int.toNat s2.2.2)) (off:=16) (y:=z19) (m2:=(List.length v6.1)) (args:=[.sref 0 [0+(Int.toNat s2.2.2)*17+16+0] 0 (List.length z1.Out) 1,ii v5.2]) (args2:=[.sref 4 [] 0 (List.length z1.Out) 1,ii v5.2]) kr aK kr ltn ltn dd (bW ltn) kr (xH (.sref _ _ _) (xH (.same _) aNh)) (Inl.frameB (v':=ii v6.2) (Hp':=[(4,some (rI_3 v6.1))]) (n':=5) [4] (dY hv6) rfl rfl rfl rz rfl (hn aN aP) dU rfl (hn aN aP) rfl) kr kr hgqv6 kr (List.set_set ..) ?_);let q17:Root:=(rO80 z36);exact yt (sp 157 [z51,(1,ii v6.2),z54]) [(0,some q17)] 5 (Aw.oreg (ye (sp 157 [z51,(1,ii v6.2),(5,ii (w64 (s2.2.2+(1:Int)))),(10,ii s2.2.2),(11,ii (w64 (s2.2.2+(1:Int))))]) [(0,some q17)] 5 (hN2 (z36,v6.2,w64 (s2.2.2+(1:Int))) _ _ _ (bX hh) (el [some 0] (eX kr (rs (.sref 0 [] 0 (List.length s2.1) 17) (ri (ri mK)))) (hn dE aP)))))
theorem aEz:LW 30 ⟨14,[.tmp 4],.seq (.reg false (rg 30 0)) (.seq (.reg false (rg 30 1)) (.seq (.reg false (rg 30 2)) (.seq (.reg false (rg 30 3)) .ret)))⟩:=kr
noncomputable def dS (x_a:DHost)(x_k:Int):Option ((List Int)×(List DGuest)×Int):=
 Option.bind (cW x_a.Words x_k) λv1=>
 grd (List.length v1.1=(List.length x_a.Words)) (Option.bind (jA x_a.Guests v1.2) λv2=>
  grd (List.length v2.1=(List.length x_a.Guests)) (some (v1.1,v2.1,v2.2)))
theorem gQ{x_a:DHost}{x_k:Int}{R_:(List Int)×(List DGuest)×Int}(hh:dS x_a x_k=some R_):Inl Try.prog 30 [.agg [.sref 0 [] 0 (List.length x_a.Words) 1,.sref 1 [] 0 (List.length x_a.Guests) 17],.int .i64 x_k] [(1,some (rO80 x_a.Guests)),(0,some (rI_3 x_a.Words))] 2 (.int .i64 R_.2.2) [(0,some (rI_3 R_.1)),(1,some (rO80 R_.2.1))] 2:=by unfold dS at hh;let q1:Root:=(rI_3 x_a.Words);let q2:Root:=(rO80 x_a.Guests);let z1:=(1,some q2);refine Inl.start aEz [0,1] [0,1] (E:=sp 14 [(0,.agg [sw 0 x_a.Words,.sref 1 [] 0 (List.length x_a.Guests) 17]),(1,ii x_k)]) (H1:=[(0,some q1),z1]) kr kr (Aw.sreg [1,2] [0,1,2] ?_);let q3:Root:=⟨26,[sw 0 x_a.Words,.sref 1 [] 0 (List.length x_a.Guests) 17]⟩;refine yt (sp 14 [(1,ii x_k),(2,pp 2)]) [(0,some q1),z1,(2,some q3)] 3 (Aw.sreg [1,2] [0,1,2] (yu 3 [(5,pp 2),(6,sw 0 x_a.Words),(7,ii x_k)] [(0,some q1),z1,(2,some q3)] 3 ?_));obtain⟨v1,hv1,hh⟩:=bind_some hh;let z2:EH:=(0,some (rI_3 v1.1));obtain⟨hg2,hh⟩:=aE hh;refine ys (.call 38 [.t 6,.t 7]) (some 8) (cf (ii v1.2) [z2] 3 [0] (dY hv1) [sw 0 x_a.Words,ii x_k] rz (hn aN aP) dU (hn aN aP) ?_);refine yt (sp 14 [(1,ii v1.2),(2,pp 2)]) [z2,z1,(2,some q3)] 3 (Aw.sreg [1] [0,1] (yu 3 [(9,.ptr 2 [] 1),(10,.sref 1 [] 0 (List.length x_a.Guests) 17),(11,ii v1.2)] [z2,z1,(2,some q3)] 3 ?_));obtain⟨v2,hv2,hh⟩:=bind_some hh;let z3:EH:=(1,some (rO80 v2.1));obtain⟨hg4,hh⟩:=aE hh;refine ys (.call 78 [.t 10,.t 11]) (some 12) (cf (ii v2.2) [z3] 3 [1] (aCd hv2) [.sref 1 [] 0 (List.length x_a.Guests) 17,ii v1.2] rz (hn dE aP) dU (hn dE aP) ?_);refine yt (sp 14 [(1,ii v2.2)]) [z2,z3] 3 (sy [4] [0,1] (sp 14 [(4,ii v2.2)]) [z2,z3] 3 (Aw.ret ?_));rw[bX hh];exact nW (r':=ii v2.2) kr (el [some 0,some 1] (kB dU) (hn aN (hn dE aP)))
noncomputable def aBg  (s1:Int):Option Int:=some s1
noncomputable def kF (x_a:List DSlot)(s2:Int×Int):Option (LO (Int×Int) (JO Int Int)):=
 cond (decide (s2.2<((List.length x_a:Nat):Int)))
  (grd ((0:Int)<=s2.2/\s2.2<((List.length x_a:Nat):Int)) (cond (!decide ((List.getD x_a (Int.toNat s2.2) default).Frame=s2.1))
   (some (.ret (.out (-1:Int))))
   (grd ((0:Int)<=s2.2/\s2.2<((List.length x_a:Nat):Int)) (cond (!((List.getD x_a (Int.toNat s2.2) default).Write==(decide ((Int.tmod (w64 (s2.1+(1:Int))) (3:Int))=(0:Int)))))
    (some (.ret (.out (-1:Int))))
    (grd ((0:Int)<=s2.2/\s2.2<((List.length x_a:Nat):Int)) (cond (!((List.getD x_a (Int.toNat s2.2) default).Dirty==(decide ((Int.tmod (w64 ((w64 (s2.1+(1:Int)))+(1:Int))) (3:Int))=(0:Int)))))
     (some (.ret (.out (-1:Int))))
     (some (.next ((w64 ((w64 ((w64 (s2.1+(1:Int)))+(1:Int)))+(1:Int))),w64 (s2.2+(1:Int)))))))))))
  (some (.ret (.go s2.1)))
noncomputable def mN (x_a:List DSlot)(x_k:Int):Option Int:=
 Option.bind (Option.bind (iter (kF x_a) (x_k,(0:Int))) LO.val) λj1=>
  JO.run j1 aBg
noncomputable def bGn:Sg tG:=⟨[.row 83,.i .i64],.one (.i .i64),mN⟩
theorem bKb:Sok 113 bGn:=sgx [] trivial (.s .o (.j ⟨[],[],[(.s 1,.i .i64)]⟩ (.s .o (.k (.l ⟨[0],[],[(.s 1,.i .i64),(.s 5,.i .i64)]⟩ .o))) .o)) kr kr kr
noncomputable def aAq  (s1:Int):Option Int:=some s1
noncomputable def jM (x_a:List DGuest)(s2:Int×Int):Option (LO (Int×Int) (JO Int Int)):=
 cond (decide (s2.2<((List.length x_a:Nat):Int)))
  (grd ((0:Int)<=s2.2/\s2.2<((List.length x_a:Nat):Int)) (cond (!((List.getD x_a (Int.toNat s2.2) default).Live==(decide ((Int.tmod s2.1 (3:Int))=(0:Int)))))
   (some (.ret (.out (-1:Int))))
   (grd ((0:Int)<=s2.2/\s2.2<((List.length x_a:Nat):Int)) (Option.bind (gB ((List.getD x_a (Int.toNat s2.2) default).C).Regs (w64 (s2.1+(1:Int)))) λv3=>
    cond (decide (v3<(0:Int)))
     (some (.ret (.out (-1:Int))))
     (grd ((0:Int)<=s2.2/\s2.2<((List.length x_a:Nat):Int)) (cond (!decide (((List.getD x_a (Int.toNat s2.2) default).C).Pc=v3))
      (some (.ret (.out (-1:Int))))
      (grd ((0:Int)<=s2.2/\s2.2<((List.length x_a:Nat):Int)) (cond (!decide (((List.getD x_a (Int.toNat s2.2) default).C).Root=(w64 (v3+(1:Int)))))
       (some (.ret (.out (-1:Int))))
       (grd ((0:Int)<=s2.2/\s2.2<((List.length x_a:Nat):Int)) (cond (!decide (((List.getD x_a (Int.toNat s2.2) default).C).Vector=(w64 ((w64 (v3+(1:Int)))+(1:Int)))))
        (some (.ret (.out (-1:Int))))
        (grd ((0:Int)<=s2.2/\s2.2<((List.length x_a:Nat):Int)) (cond (!decide (((List.getD x_a (Int.toNat s2.2) default).C).Saved=(w64 ((w64 ((w64 (v3+(1:Int)))+(1:Int)))+(1:Int)))))
         (some (.ret (.out (-1:Int))))
         (grd ((0:Int)<=s2.2/\s2.2<((List.length x_a:Nat):Int)) (cond (!(((List.getD x_a (Int.toNat s2.2) default).C).SavedUser==(decide ((Int.tmod (w64 ((w64 ((w64 ((w64 (v3+(1:Int)))+(1:Int)))+(1:Int)))+(1:Int))) (3:Int))=(0:Int)))))
          (some (.ret (.out (-1:Int))))
          (grd ((0:Int)<=s2.2/\s2.2<((List.length x_a:Nat):Int)) (cond (!decide (((List.getD x_a (Int.toNat s2.2) default).C).Cause=(w64 ((w64 ((w64 ((w64 ((w64 (v3+(1:Int)))+(1:Int)))+(1:Int)))+(1:Int)))+(1:Int)))))
           (some (.ret (.out (-1:Int))))
           (grd ((0:Int)<=s2.2/\s2.2<((List.length x_a:Nat):Int)) (cond (!decide (((List.getD x_a (Int.toNat s2.2) default).C).Bad=(w64 ((w64 ((w64 ((w64 ((w64 ((w64 (v3+(1:Int)))+(1:Int)))+(1:Int)))+(1:Int)))+(1:Int)))+(1:Int)))))
            (some (.ret (.out (-1:Int))))
            (grd ((0:Int)<=s2.2/\s2.2<((List.length x_a:Nat):Int)) (cond (!decide (((List.getD x_a (Int.toNat s2.2) default).C).Timer=(w64 ((w64 ((w64 ((w64 ((w64 ((w64 ((w64 (v3+(1:Int)))+(1:Int)))+(1:Int)))+(1:Int)))+(1:Int)))+(1:Int)))+(1:Int)))))
             (some (.ret (.out (-1:Int))))
             (grd ((0:Int)<=s2.2/\s2.2<((List.length x_a:Nat):Int)) (cond (!(((List.getD x_a (Int.toNat s2.2) default).C).Waits==(decide ((Int.tmod (w64 ((w64 ((w64 ((w64 ((w64 ((w64 ((w64 ((w64 (v3+(1:Int)))+(1:Int)))+(1:Int)))+(1:Int)))+(1:Int)))+(1:Int)))+(1:Int)))+(1:Int))) (3:Int))=(0:Int)))))
              (some (.ret (.out (-1:Int))))
              (grd ((0:Int)<=s2.2/\s2.2<((List.length x_a:Nat):Int)) (cond (!(((List.getD x_a (Int.toNat s2.2) default).C).User==(decide ((Int.tmod (w64 ((w64 ((w64 ((w64 ((w64 ((w64 ((w64 ((w64 ((w64 (v3+(1:Int)))+(1:Int)))+(1:Int)))+(1:Int)))+(1:Int)))+(1:Int)))+(1:Int)))+(1:Int)))+(1:Int))) (3:Int))=(0:Int)))))
               (some (.ret (.out (-1:Int))))
               (grd ((0:Int)<=s2.2/\s2.2<((List.length x_a:Nat):Int)) (cond (!(((List.getD x_a (Int.toNat s2.2) default).C).On==(decide ((Int.tmod (w64 ((w64 ((w64 ((w64 ((w64 ((w64 ((w64 ((w64 ((w64 ((w64 (v3+(1:Int)))+(1:Int)))+(1:Int)))+(1:Int)))+(1:Int)))+(1:Int)))+(1:Int)))+(1:Int)))+(1:Int)))+(1:Int))) (3:Int))=(0:Int)))))
                (some (.ret (.out (-1:Int))))
                (grd ((0:Int)<=s2.2/\s2.2<((List.length x_a:Nat):Int)) (cond (!(((List.getD x_a (Int.toNat s2.2) default).C).Stopped==(decide ((Int.tmod (w64 ((w64 ((w64 ((w64 ((w64 ((w64 ((w64 ((w64 ((w64 ((w64 ((w64 (v3+(1:Int)))+(1:Int)))+(1:Int)))+(1:Int)))+(1:Int)))+(1:Int)))+(1:Int)))+(1:Int)))+(1:Int)))+(1:Int)))+(1:Int))) (3:Int))=(0:Int)))))
                 (some (.ret (.out (-1:Int))))
                 (grd ((0:Int)<=s2.2/\s2.2<((List.length x_a:Nat):Int)) (Option.bind (mN (List.getD x_a (Int.toNat s2.2) default).Pages (w64 ((w64 ((w64 ((w64 ((w64 ((w64 ((w64 ((w64 ((w64 ((w64 ((w64 ((w64 (v3+(1:Int)))+(1:Int)))+(1:Int)))+(1:Int)))+(1:Int)))+(1:Int)))+(1:Int)))+(1:Int)))+(1:Int)))+(1:Int)))+(1:Int)))+(1:Int)))) λv4=>
                  cond (decide (v4<(0:Int)))
                   (some (.ret (.out (-1:Int))))
                   (grd ((0:Int)<=s2.2/\s2.2<((List.length x_a:Nat):Int)) (Option.bind (gB (List.getD x_a (Int.toNat s2.2) default).In v4) λv5=>
                    cond (decide (v5<(0:Int)))
                     (some (.ret (.out (-1:Int))))
                     (grd ((0:Int)<=s2.2/\s2.2<((List.length x_a:Nat):Int)) (Option.bind (gB (List.getD x_a (Int.toNat s2.2) default).Out v5) λv6=>
                      cond (decide (v6<(0:Int)))
                       (some (.ret (.out (-1:Int))))
                       (some (.next (v6,w64 (s2.2+(1:Int)))))))))))))))))))))))))))))))))))))))
  (some (.ret (.go s2.1)))
noncomputable def lI (x_a:List DGuest)(x_k:Int):Option Int:=
 Option.bind (Option.bind (iter (jM x_a) (x_k,(0:Int))) LO.val) λj1=>
  JO.run j1 aAq
noncomputable def g80:Sg tG:=⟨[.row 80,.i .i64],.one (.i .i64),lI⟩
theorem s80:Sok 80 g80:=sgx [(79,.r g79),(113,.r bGn)] ⟨s79,bKb,trivial⟩ (.s .o (.j ⟨[],[],[(.s 1,.i .i64)]⟩ (.s .o (.k (.l ⟨[0],[],[(.s 1,.i .i64),(.s 5,.i .i64)]⟩ .o))) .o)) kr kr kr
noncomputable def dO (x_a:DHost)(x_k:Int):Option Int:=
 Option.bind (gB x_a.Words x_k) λv1=>
 cond (decide (v1<(0:Int)))
  (some (-1:Int))
  (Option.bind (lI x_a.Guests v1) λv2=>
  cond (decide (v2<(0:Int)))
   (some (-1:Int))
   (some v2))
noncomputable def g31:Sg tG:=⟨[.st 26,.i .i64],.one (.i .i64),dO⟩
theorem s31:Sok 31 g31:=sgx [(79,.r g79),(80,.r g80)] ⟨s79,s80,trivial⟩ .o kr kr kr
theorem gY{x_a:DHost}{x_k:Int}{R_:Int}(hh:dO x_a x_k=some R_):Fn Try.prog 31 [.agg [bo (eI .i64) x_a.Words,bo cH x_a.Guests],.int .i64 x_k] (.int .i64 R_):=kc (s31 x_a x_k R_ hh)
theorem uO:LW 6 ⟨122,[.tmp 4],.seq (.reg false (rg 6 0)) (.seq (.reg false (rg 6 1)) (.seq (.reg false (rg 6 2)) (.seq (.seq (.reg false (rg 6 3)) (.cond (.t 23) (.seq (.reg false (rg 6 4)) .ret) .skip)) (.seq (.reg false (rg 6 5)) (.seq (.reg false (rg 6 6)) (.seq (.reg false (rg 6 7)) (.seq (.seq (.reg false (rg 6 8)) (.cond (.t 54) (.seq (.reg false (rg 6 9)) .ret) .skip)) (.seq (.seq (.regd (rg 6 10) (rg 6 11)) (.cond (.t 59) (.seq (.reg false (rg 6 12)) .ret) .skip)) (.seq (.reg false (rg 6 13)) (.seq (.reg false (rg 6 14)) (.seq (.seq (.reg false (rg 6 15)) (.cond (.t 80) (.seq (.reg false (rg 6 16)) .ret) .skip)) (.seq (.reg false (rg 6 17)) (.seq (.reg false (rg 6 18)) (.seq (.reg false (rg 6 19)) (.seq (.reg false (rg 6 20)) (.seq (.seq (.reg false (rg 6 21)) (.cond (.t 88) (.seq (.reg false (rg 6 22)) .ret) .skip)) (.seq (.seq (.reg false (rg 6 23)) (.cond (.t 91) (.seq (.reg false (rg 6 24)) .ret) .skip)) (.seq (.reg false (rg 6 25)) (.seq (.seq (.reg false (rg 6 26)) (.cond (.t 113) (.seq (.reg false (rg 6 27)) .ret) .skip)) (.seq (.reg false (rg 6 28)) (.seq (.reg false (rg 6 29)) (.seq (.seq (.reg false (rg 6 30)) (.cond (.t 118) (.seq (.reg false (rg 6 31)) .ret) .skip)) (.seq (.seq (.reg false (rg 6 32)) (.cond (.t 121) (.seq (.reg false (rg 6 33)) .ret) .skip)) (.seq (.reg false (rg 6 34)) .ret))))))))))))))))))))))))⟩:=kr
noncomputable def gG (x_aH:DHost)(x_aG:Int):Option Bool:=
 Option.bind (iY x_aH (1048576:Int)) λv1=>
 cond (decide (v1<(0:Int)))
  (some true)
  (Option.bind (cQ x_aH) λv2=>
  Option.bind (kD v2 x_aG) λv3=>
  Option.bind (cQ x_aH) λv4=>
  Option.bind (gW v4 x_aG) λv5=>
  Option.bind (cS v5.1 v3.1) λv6=>
  cond (!v6)
   (some false)
   (cond (!decide (v5.2.1=v3.2.1))
    (some false)
    (cond (!(v5.2.2==v3.2.2))
     (some false)
     (Option.bind (cQ x_aH) λv7=>
     Option.bind (cS v4 v7) λv8=>
     cond (!v8)
      (some false)
      (Option.bind (dS v4 (1:Int)) λv9=>
      grd (List.length v9.1=(List.length v4.Words)) (grd (List.length v9.2.1=(List.length v4.Guests)) (cond (decide (v9.2.2<(0:Int)))
       (some false)
       (Option.bind (cS v5.1 v3.1) λv10=>
       cond (!v10)
        (some false)
        (cond (!decide (v5.2.1=v3.2.1))
         (some false)
         (cond (!(v5.2.2==v3.2.2))
          (some false)
          (Option.bind (dS v5.1 (1:Int)) λv11=>
          grd (List.length v11.1=(List.length v5.1.Words)) (grd (List.length v11.2.1=(List.length v5.1.Guests)) (Option.bind (dO (DHost.mk v11.1 v11.2.1) (1:Int)) λv12=>
           cond (decide (v12<(0:Int)))
            (some false)
            (cond (!decide (v12=v11.2.2))
             (some false)
             (Option.bind (cQ x_aH) λv13=>
             Option.bind (gW v13 x_aG) λv14=>
             Option.bind (cS v14.1 v3.1) λv15=>
             cond (!v15)
              (some false)
              (cond (!decide (v14.2.1=v3.2.1))
               (some false)
               (cond (!(v14.2.2==v3.2.2))
                (some false)
                (Option.bind (dO (DHost.mk v11.1 v11.2.1) (1:Int)) λv16=>
                cond (decide (v16<(0:Int)))
                 (some false)
                 (cond (!decide (v16=v11.2.2))
                  (some false)
                  (some true))))))))))))))))))))
theorem vK{x_aH:DHost}{x_aG:Int}{R_:Bool}(hh:gG x_aH x_aG=some R_):Fn Try.prog 6 [.agg [bo (eI .i64) x_aH.Words,bo cB x_aH.Guests],.int .i64 x_aG] (.bool R_):=by let z1:=(1,ii x_aG);let z2:=(10,pp 11);let z3:=(2,pp 0);let z4:=(4,bb false);let z5:EV:=(56,.agg [bo (eI .i64) x_aH.Words,bo cB x_aH.Guests]);let z6:=(6,pp 5);let z7:=(9,pp 8);unfold gG at hh;refine Fn.start uO [0,1] (E:=sp 122 [(0,.agg [bo (eI .i64) x_aH.Words,bo cB x_aH.Guests]),z1]) kr (v:=bb R_) (Hr:=[]) (k:=0) kr (Aw.sreg [1,2] [0] ?_);let q1:Root:=⟨55,[bo (eI .i64) x_aH.Words,bo cB x_aH.Guests]⟩;let z8:=(0,some q1);refine yt (sp 122 [z1,z3]) [z8] 1 (sy [1,2,5] [0] (sp 122 [z1,z3,(5,ii 1048576)]) [z8] 1 (Aw.sreg [1,2,5] [0] (yu 2 [(19,.agg [bo (eI .i64) x_aH.Words,bo cB x_aH.Guests]),(20,ii 1048576)] [z8] 1 ?_)));obtain⟨v1,hv1,hh⟩:=bind_some hh;let z9:=(23,bb (decide (v1<(0:Int))));refine ys (.call 27 [.t 19,.t 20]) (some 21) (aW (r:=ii v1) (v:=ii v1) (Hr:=[]) (n':=1) (sN hv1) (bS (vs:=[.agg [bo (eI .i64) x_aH.Words,bo cB x_aH.Guests],ii 1048576]) kr (aR (aV cz) (cz1 bI))) rfl rfl kr ?_);refine yt (sp 122 [z1,z3,(5,ii v1)]) [z8] 1 (Aw.seq (sy [1,2,23] [0] (sp 122 [z1,z3,z9]) [z8] 1 ?_));rcases aQ hh with⟨hb,hh⟩|⟨hb,hh⟩;{exact cT hb (sy [4] [] (sp 122 [(4,bb true)]) [] 1 (Aw.ret (bU (dA hh))))};refine cF hb (Aw.xskip (λ_ _ _ hq=>cG hq) (Aw.sreg [1,2,6,7,8] [0,3,4,5] (yj 1  (sp 122 [z1,z3,z9,(25,.agg [bo (eI .i64) x_aH.Words,bo cB x_aH.Guests])]) [z8] 1 ?_)));obtain⟨v2,hv2,hh⟩:=bind_some hh;let q2:Root:=(rO80 v2.Guests);let q3:Root:=(rI_3 v2.Words);refine ys (.call 28 [.t 25]) (some 26) (aW (r:= .agg [.own 3 1 (List.length v2.Words) (fl (eI .i64) v2.Words),.own 80 17 (List.length v2.Guests) (fl bY v2.Guests)]) (v:= .agg [sw 1 v2.Words,.sref 2 [] 0 (List.length v2.Guests) 17]) (Hr:=[(2,some q2),(1,some q3)]) (n':=3) (dM hv2) (bS (vs:=[.agg [bo (eI .i64) x_aH.Words,bo cB x_aH.Guests]]) kr (aR (aV cz) bI)) nrr nrr kr ?_);refine yu 1 [(26,.agg [sw 1 v2.Words,.sref 2 [] 0 (List.length v2.Guests) 17]),(27,ii x_aG)] [(2,some q2),(1,some q3),z8] 3 ?_;obtain⟨v3,hv3,hh⟩:=bind_some hh;let z10:=(7,ii v3.2.1);let z11:=(8,bb v3.2.2);let q4:Root:=(rO80 v3.1.Guests);let z12:=(4,some q4);let q5:Root:=(rI_3 v3.1.Words);let z13:=(3,some q5);refine ys (.call 11 [.t 26,.t 27]) (some 28) (aW (r:= .tup [.agg [.own 3 1 (List.length v3.1.Words) (fl (eI .i64) v3.1.Words),.own 80 17 (List.length v3.1.Guests) (fl bY v3.1.Guests)],ii v3.2.1,bb v3.2.2]) (v:= .tup [.agg [sw 3 v3.1.Words,.sref 4 [] 0 (List.length v3.1.Guests) 17],ii v3.2.1,bb v3.2.2]) (Hr:=[z12,z13]) (n':=5) (aFj hv3) (bS (vs:=[.agg [sw 1 v2.Words,.sref 2 [] 0 (List.length v2.Guests) 17],ii x_aG]) kr (aR (aV (aA (aG (c:=(eI .i64)) (xs:=v2.Words) (e:=3) eqn aF aM aI kr) (aA (bZ (B:=cH) (xs:=v2.Guests) (e:=80) cA aK eqn kr) bJ))) (cz1 bI))) nrr nrr kr ?_);let q6:Root:=⟨26,[sw 3 v3.1.Words,.sref 4 [] 0 (List.length v3.1.Guests) 17]⟩;let z14:=(5,some q6);refine yt (sp 122 [z1,z3,z6,z10,z11]) [z8,z13,z12,z14] 6 (Aw.sreg [1,2,6,7,8,9] [0,3,4,5,6,7,8] (yu 1 [(32,.agg [bo (eI .i64) x_aH.Words,bo cB x_aH.Guests])] [z8,z13,z12,z14] 6 ?_));obtain⟨v4,hv4,hh⟩:=bind_some hh;let z15:EV:=(55,.agg [sw 6 v4.Words,.sref 7 [] 0 (List.length v4.Guests) 17]);let q7:Root:=(rO80 v4.Guests);let z16:=(7,some q7);let q8:Root:=(rI_3 v4.Words);let z17:=(6,some q8);refine ys (.call 28 [.t 32]) (some 33) (aW (r:= .agg [.own 3 1 (List.length v4.Words) (fl (eI .i64) v4.Words),.own 80 17 (List.length v4.Guests) (fl bY v4.Guests)]) (v:= .agg [sw 6 v4.Words,.sref 7 [] 0 (List.length v4.Guests) 17]) (Hr:=[z16,z17]) (n':=8) (dM hv4) (bS (vs:=[.agg [bo (eI .i64) x_aH.Words,bo cB x_aH.Guests]]) kr (aR (aV cz) bI)) nrr nrr kr ?_);let q9:Root:=⟨26,[sw 6 v4.Words,.sref 7 [] 0 (List.length v4.Guests) 17]⟩;let z18:=(8,some q9);refine yt (sp 122 [z1,z3,z6,z10,z11,z7]) [z8,z13,z12,z14,z17,z16,z18] 9 (Aw.sreg [1,2,6,7,8,9,10,11,12] [0,3,4,5,6,7,8,9,10,11] (yu 2 [(35,.agg [sw 6 v4.Words,.sref 7 [] 0 (List.length v4.Guests) 17]),(36,ii x_aG)] [z8,z13,z12,z14,z17,z16,z18] 9 ?_));obtain⟨v5,hv5,hh⟩:=bind_some hh;let z19:=(11,ii v5.2.1);let z20:=(12,bb v5.2.2);let z21:=(54,bb (!(v5.2.2==v3.2.2)));let q10:Root:=(rO80 v5.1.Guests);let z22:=(10,some q10);let q11:Root:=(rI_3 v5.1.Words);let z23:=(9,some q11);refine ys (.call 10 [.t 35,.t 36]) (some 37) (aW (r:= .tup [.agg [.own 3 1 (List.length v5.1.Words) (fl (eI .i64) v5.1.Words),.own 80 17 (List.length v5.1.Guests) (fl bY v5.1.Guests)],ii v5.2.1,bb v5.2.2]) (v:= .tup [.agg [sw 9 v5.1.Words,.sref 10 [] 0 (List.length v5.1.Guests) 17],ii v5.2.1,bb v5.2.2]) (Hr:=[z22,z23]) (n':=11) (uL hv5) (bS (vs:=[.agg [sw 6 v4.Words,.sref 7 [] 0 (List.length v4.Guests) 17],ii x_aG]) kr (aR (aV (aA (aG (c:=(eI .i64)) (xs:=v4.Words) (e:=3) eqn aF aM aI kr) (aA (bZ (B:=cH) (xs:=v4.Guests) (e:=80) cA aK eqn kr) bJ))) (cz1 bI))) nrr nrr kr ?_);let q12:Root:=⟨26,[sw 9 v5.1.Words,.sref 10 [] 0 (List.length v5.1.Guests) 17]⟩;let z24:=(11,some q12);refine yt (sp 122 [z1,z3,z6,z10,z11,z7,z2,z19,z20]) [z8,z13,z12,z14,z17,z16,z18,z23,z22,z24] 12 (Aw.seq (Aw.sreg [1,2,6,7,8,9,10,11,12,54] [0,3,4,5,6,7,8,9,10,11] (yj 2  (sp 122 [z1,z3,z6,z10,z11,z7,z2,z19,z20,(41,.agg [sw 9 v5.1.Words,.sref 10 [] 0 (List.length v5.1.Guests) 17]),(42,.agg [sw 3 v3.1.Words,.sref 4 [] 0 (List.length v3.1.Guests) 17])]) [z8,z13,z12,z14,z17,z16,z18,z23,z22,z24] 12 ?_)));obtain⟨v6,hv6,hh⟩:=bind_some hh;refine ys (.call 29 [.t 41,.t 42]) (some 43) (aW (r:=bb v6) (v:=bb v6) (Hr:=[]) (n':=12) (dN hv6) (bS (vs:=[.agg [sw 9 v5.1.Words,.sref 10 [] 0 (List.length v5.1.Guests) 17],.agg [sw 3 v3.1.Words,.sref 4 [] 0 (List.length v3.1.Guests) 17]]) kr (aR (aV (aA (aG (c:=(eI .i64)) (xs:=v5.1.Words) (e:=3) eqn aF aM aI kr) (aA (bZ (B:=cH) (xs:=v5.1.Guests) (e:=80) cA aK eqn kr) bJ))) (aR (aV (aA (aG (c:=(eI .i64)) (xs:=v3.1.Words) (e:=3) eqn aF aM aI kr) (aA (bZ (B:=cH) (xs:=v3.1.Guests) (e:=80) cA aK eqn kr) bJ))) bI))) rfl rfl kr ?_);refine yu 2 [(43,bb v6),(44,bb (!v6)),(45,bb (!v6))] [z8,z13,z12,z14,z17,z16,z18,z23,z22,z24] 12 ?_;rcases aQ hh with⟨hb,hh⟩|⟨hb,hh⟩;{exact yb 44 hb (yb 45 hb (yt (sp 122 [z1,z3,z6,z10,z11,z7,z2,z19,z20,(54,bb true)]) [z8,z13,z12,z14,z17,z16,z18,z23,z22,z24] 12 (cT rfl (sy [4] [] (sp 122 [z4]) [] 12 (Aw.ret (bU (dA hh)))))))};refine yb 44 hb (yb 45 hb (yu 5 [(44,bb false),(45,bb false),(46,ii v5.2.1),(47,ii v3.2.1),(48,bb (!decide (v5.2.1=v3.2.1))),(49,bb (!decide (v5.2.1=v3.2.1))),(50,bb (!decide (v5.2.1=v3.2.1)))] [z8,z13,z12,z14,z17,z16,z18,z23,z22,z24] 12 ?_));rcases aQ hh with⟨hb,hh⟩|⟨hb,hh⟩;{exact yb 48 hb (yb 49 hb (yb 50 hb (yt (sp 122 [z1,z3,z6,z10,z11,z7,z2,z19,z20,(54,bb true)]) [z8,z13,z12,z14,z17,z16,z18,z23,z22,z24] 12 (cT rfl (sy [4] [] (sp 122 [z4]) [] 12 (Aw.ret (bU (dA hh))))))))};refine yb 48 hb (yb 49 hb (yb 50 hb (yt (sp 122 [z1,z3,z6,z10,z11,z7,z2,z19,z20,z21]) [z8,z13,z12,z14,z17,z16,z18,z23,z22,z24] 12 ?_)));rcases aQ hh with⟨hb,hh⟩|⟨hb,hh⟩;{exact cT hb (sy [4] [] (sp 122 [z4]) [] 12 (Aw.ret (bU (dA hh))))};refine cF hb (Aw.xskip (λ_ _ _ hq=>cG hq) (Aw.seq (Aw.sregd [1,2,6,7,8,9,10,11,12,59] [0,3,4,5,6,7,8,9,10,11] [] kr (dj 2 (sp 122 [z1,z3,z6,z10,z11,z7,z2,z19,z20,z21,z15,z5]) [z8,z13,z12,z14,z17,z16,z18,z23,z22,z24] 12 ?_))));obtain⟨v7,hv7,hh⟩:=bind_some hh;let q13:Root:=(rO80 v7.Guests);let q14:Root:=(rI_3 v7.Words);refine ds (.call 28 [.t 56]) (some 57) (oU rfl (aW (r:= .agg [.own 3 1 (List.length v7.Words) (fl (eI .i64) v7.Words),.own 80 17 (List.length v7.Guests) (fl bY v7.Guests)]) (v:= .agg [sw 12 v7.Words,.sref 13 [] 0 (List.length v7.Guests) 17]) (Hr:=[(13,some q13),(12,some q14)]) (n':=14) (dM hv7) (bS (vs:=[.agg [bo (eI .i64) x_aH.Words,bo cB x_aH.Guests]]) kr (aR (aV cz) bI)) nrr nrr kr ⟨⟨⟨by decide,iU (n:=12) (n0:=12) (r:= .agg [.own 3 1 (List.length v7.Words) (fl (eI .i64) v7.Words),.own 80 17 (List.length v7.Guests) (fl bY v7.Guests)]) (v:= .agg [sw 12 v7.Words,.sref 13 [] 0 (List.length v7.Guests) 17]) (Hr:=[(13,some q13),(12,some q14)]) (n':=14) kr dd⟩,Hld.un ?_⟩⟩));refine dt (sp 122 [z1,z3,z6,z10,z11,z7,z2,z19,z20,z21,z15,z5,(57,.agg [sw 12 v7.Words,.sref 13 [] 0 (List.length v7.Guests) 17])]) [(13,some q13),(12,some q14),z8,z13,z12,z14,z17,z16,z18,z23,z22,z24] 14 ?_;obtain⟨v8,hv8,hh⟩:=bind_some hh;refine ys (.call 29 [.t 55,.t 57]) (some 58) (aW (r:=bb v8) (v:=bb v8) (Hr:=[]) (n':=14) (dN hv8) (bS (vs:=[.agg [sw 6 v4.Words,.sref 7 [] 0 (List.length v4.Guests) 17],.agg [sw 12 v7.Words,.sref 13 [] 0 (List.length v7.Guests) 17]]) kr (aR (aV (aA (aG (c:=(eI .i64)) (xs:=v4.Words) (e:=3) eqn aF aM aI kr) (aA (bZ (B:=cH) (xs:=v4.Guests) (e:=80) cA aK eqn kr) bJ))) (aR (aV (aA (aG (c:=(eI .i64)) (xs:=v7.Words) (e:=3) eqn aF aM aI kr) (aA (bZ (B:=cH) (xs:=v7.Guests) (e:=80) cA aK eqn kr) bJ))) bI))) rfl rfl kr ?_);refine yt (sp 122 [z1,z3,z6,z10,z11,z7,z2,z19,z20,(59,bb (!v8))]) [z8,z13,z12,z14,z17,z16,z18,z23,z22,z24] 14 ?_;rcases aQ hh with⟨hb,hh⟩|⟨hb,hh⟩;{exact cT hb (sy [4] [] (sp 122 [z4]) [] 14 (Aw.ret (bU (dA hh))))};refine cF hb (Aw.xskip (λ_ _ _ hq=>cG hq) (sy [1,2,6,7,8,9,10,11,12,13] [0,3,4,5,6,7,8,9,10,11] (sp 122 [z1,z3,z6,z10,z11,z7,z2,z19,z20,(13,ii 1)]) [z8,z13,z12,z14,z17,z16,z18,z23,z22,z24] 14 (Aw.sreg [1,2,6,7,8,10,11,12,13] [0,3,4,5,9,10,11] (yu 2 [(60,.agg [sw 6 v4.Words,.sref 7 [] 0 (List.length v4.Guests) 17]),(61,ii 1)] [z8,z13,z12,z14,z17,z16,z18,z23,z22,z24] 14 ?_))));obtain⟨v9,hv9,hh⟩:=bind_some hh;obtain⟨hg3,hh⟩:=aE hh;obtain⟨hg4,hh⟩:=aE hh;refine ys (.call 30 [.t 60,.t 61]) (some 62) (cf (ii v9.2.2) [(6,some (rI_3 v9.1)),(7,some (rO80 v9.2.1))] 14 [6,7] (gQ hv9) [.agg [sw 6 v4.Words,.sref 7 [] 0 (List.length v4.Guests) 17],ii 1] rz (hn dE (hn aN aP)) dU (hn aN (hn dE aP)) ?_);refine yt (sp 122 [z1,z3,z6,z10,z11,z2,z19,z20,(13,ii v9.2.2)]) [z8,z13,z12,z14,z23,z22,z24] 14 (Aw.seq (Aw.sreg [1,2,6,7,8,10,80] [0,3,4,5,9,10,11] (yj 3  (sp 122 [z1,z3,z6,z10,z11,z2,z19,z20,(13,ii v9.2.2),(63,ii v9.2.2),(64,bb (decide (v9.2.2<(0:Int)))),(65,bb (decide (v9.2.2<(0:Int))))]) [z8,z13,z12,z14,z23,z22,z24] 14 ?_)));rcases aQ hh with⟨hb,hh⟩|⟨hb,hh⟩;{exact yb 64 hb (yb 65 hb (yt (sp 122 [z1,z3,z6,z10,z11,z2,(80,bb true)]) [z8,z13,z12,z14,z23,z22,z24] 14 (cT rfl (sy [4] [] (sp 122 [z4]) [] 14 (Aw.ret (bU (dA hh)))))))};refine yb 64 hb (yb 65 hb (yu 2 [(64,bb false),(65,bb false),(66,.agg [sw 9 v5.1.Words,.sref 10 [] 0 (List.length v5.1.Guests) 17]),(67,.agg [sw 3 v3.1.Words,.sref 4 [] 0 (List.length v3.1.Guests) 17])] [z8,z13,z12,z14,z23,z22,z24] 14 ?_));obtain⟨v10,hv10,hh⟩:=bind_some hh;refine yg (.call 29 [.t 66,.t 67]) (some 68) 65 false (aW (r:=bb v10) (v:=bb v10) (Hr:=[]) (n':=14) (dN hv10) (bS (vs:=[.agg [sw 9 v5.1.Words,.sref 10 [] 0 (List.length v5.1.Guests) 17],.agg [sw 3 v3.1.Words,.sref 4 [] 0 (List.length v3.1.Guests) 17]]) kr (aR (aV (aA (aG (c:=(eI .i64)) (xs:=v5.1.Words) (e:=3) eqn aF aM aI kr) (aA (bZ (B:=cH) (xs:=v5.1.Guests) (e:=80) cA aK eqn kr) bJ))) (aR (aV (aA (aG (c:=(eI .i64)) (xs:=v3.1.Words) (e:=3) eqn aF aM aI kr) (aA (bZ (B:=cH) (xs:=v3.1.Guests) (e:=80) cA aK eqn kr) bJ))) bI))) rfl rfl kr ?_);refine yu 3 [(68,bb v10),(69,bb (!v10)),(70,bb (!v10)),(71,bb (!v10))] [z8,z13,z12,z14,z23,z22,z24] 14 ?_;rcases aQ hh with⟨hb,hh⟩|⟨hb,hh⟩;{exact yb 69 hb (yb 70 hb (yb 71 hb (yt (sp 122 [z1,z3,z6,z10,z11,z2,(80,bb true)]) [z8,z13,z12,z14,z23,z22,z24] 14 (cT rfl (sy [4] [] (sp 122 [z4]) [] 14 (Aw.ret (bU (dA hh))))))))};refine yb 69 hb (yb 70 hb (yb 71 hb (yu 5 [(69,bb false),(70,bb false),(71,bb false),(72,ii v5.2.1),(73,ii v3.2.1),(74,bb (!decide (v5.2.1=v3.2.1))),(75,bb (!decide (v5.2.1=v3.2.1))),(76,bb (!decide (v5.2.1=v3.2.1)))] [z8,z13,z12,z14,z23,z22,z24] 14 ?_)));rcases aQ hh with⟨hb,hh⟩|⟨hb,hh⟩;{exact yb 74 hb (yb 75 hb (yb 76 hb (yt (sp 122 [z1,z3,z6,z10,z11,z2,(80,bb true)]) [z8,z13,z12,z14,z23,z22,z24] 14 (cT rfl (sy [4] [] (sp 122 [z4]) [] 14 (Aw.ret (bU (dA hh))))))))};refine yb 74 hb (yb 75 hb (yb 76 hb (yt (sp 122 [z1,z3,z6,z10,z11,z2,(80,bb (!(v5.2.2==v3.2.2)))]) [z8,z13,z12,z14,z23,z22,z24] 14 ?_)));rcases aQ hh with⟨hb,hh⟩|⟨hb,hh⟩;{exact cT hb (sy [4] [] (sp 122 [z4]) [] 14 (Aw.ret (bU (dA hh))))};refine cF hb (Aw.xskip (λ_ _ _ hq=>cG hq) (sy [1,2,6,7,8,10,14] [0,3,4,5,9,10,11] (sp 122 [z1,z3,z6,z10,z11,z2,(14,ii 1)]) [z8,z13,z12,z14,z23,z22,z24] 14 (Aw.sreg [1,2,6,7,8,10,14] [0,3,4,5,9,10,11] (yu 2 [(81,.agg [sw 9 v5.1.Words,.sref 10 [] 0 (List.length v5.1.Guests) 17]),(82,ii 1)] [z8,z13,z12,z14,z23,z22,z24] 14 ?_))));obtain⟨v11,hv11,hh⟩:=bind_some hh;let z25:EH:=(10,some (rO80 v11.2.1));let z26:=(14,ii v11.2.2);obtain⟨hg7,hh⟩:=aE hh;obtain⟨hg8,hh⟩:=aE hh;let q15:Root:=(rI_3 v11.1);let z27:=(9,some q15);refine ys (.call 30 [.t 81,.t 82]) (some 83) (cf (ii v11.2.2) [z27,z25] 14 [9,10] (gQ hv11) [.agg [sw 9 v5.1.Words,.sref 10 [] 0 (List.length v5.1.Guests) 17],ii 1] rz (hn dE (hn aN aP)) dU (hn aN (hn dE aP)) ?_);refine yt (sp 122 [z1,z3,z6,z10,z11,z2,z26]) [z8,z13,z12,z14,z27,z25,z24] 14 (sy [1,2,6,7,8,10,14,15] [0,3,4,5,9,10,11] (sp 122 [z1,z3,z6,z10,z11,z2,z26,(15,ii 1)]) [z8,z13,z12,z14,z27,z25,z24] 14 (Aw.sreg [1,2,6,7,8,10,14,15] [0,3,4,5,9,10,11] (yu 2 [(84,.agg [sw 9 v5.1.Words,.sref 10 [] 0 (List.length v5.1.Guests) 17]),(85,ii 1)] [z8,z13,z12,z14,z27,z25,z24] 14 ?_)));obtain⟨v12,hv12,hh⟩:=bind_some hh;let z28:=(91,bb (!decide (v12=v11.2.2)));refine ys (.call 31 [.t 84,.t 85]) (some 86) (aW (r:=ii v12) (v:=ii v12) (Hr:=[]) (n':=14) (gY hv12) (bS (vs:=[.agg [sw 9 v5.1.Words,.sref 10 [] 0 (List.length v5.1.Guests) 17],ii 1]) kr (aR (aV (aA (aG (c:=(eI .i64)) (xs:=v11.1) (e:=3) eqn aF aM aI kr) (aA (bZ (B:=cH) (xs:=v11.2.1) (e:=80) cA aK eqn kr) bJ))) (cz1 bI))) rfl rfl kr ?_);refine yt (sp 122 [z1,z3,z6,z10,z11,z2,z26,(15,ii v12)]) [z8,z13,z12,z14,z27,z25,z24] 14 (Aw.seq (sy [1,2,6,7,8,10,14,15,88] [0,3,4,5,9,10,11] (sp 122 [z1,z3,z6,z10,z11,z2,z26,(15,ii v12),(88,bb (decide (v12<(0:Int))))]) [z8,z13,z12,z14,z27,z25,z24] 14 ?_));rcases aQ hh with⟨hb,hh⟩|⟨hb,hh⟩;{exact cT hb (sy [4] [] (sp 122 [z4]) [] 14 (Aw.ret (bU (dA hh))))};refine cF hb (Aw.xskip (λ_ _ _ hq=>cG hq) (Aw.seq (sy [1,2,6,7,8,10,14,91] [0,3,4,5,9,10,11] (sp 122 [z1,z3,z6,z10,z11,z2,z26,z28]) [z8,z13,z12,z14,z27,z25,z24] 14 ?_)));rcases aQ hh with⟨hb,hh⟩|⟨hb,hh⟩;{exact cT hb (sy [4] [] (sp 122 [z4]) [] 14 (Aw.ret (bU (dA hh))))};refine cF hb (Aw.xskip (λ_ _ _ hq=>cG hq) (Aw.sreg [6,7,8,10,14,16,17,18] [3,4,5,9,10,11,16,17,18] (yj 1  (sp 122 [z1,z3,z6,z10,z11,z2,z26,z28,(93,.agg [bo (eI .i64) x_aH.Words,bo cB x_aH.Guests])]) [z8,z13,z12,z14,z27,z25,z24] 14 ?_)));obtain⟨v13,hv13,hh⟩:=bind_some hh;let q16:Root:=(rO80 v13.Guests);let q17:Root:=(rI_3 v13.Words);refine ys (.call 28 [.t 93]) (some 94) (aW (r:= .agg [.own 3 1 (List.length v13.Words) (fl (eI .i64) v13.Words),.own 80 17 (List.length v13.Guests) (fl bY v13.Guests)]) (v:= .agg [sw 14 v13.Words,.sref 15 [] 0 (List.length v13.Guests) 17]) (Hr:=[(15,some q16),(14,some q17)]) (n':=16) (dM hv13) (bS (vs:=[.agg [bo (eI .i64) x_aH.Words,bo cB x_aH.Guests]]) kr (aR (aV cz) bI)) nrr nrr kr ?_);refine yu 1 [(94,.agg [sw 14 v13.Words,.sref 15 [] 0 (List.length v13.Guests) 17]),(95,ii x_aG)] [(15,some q16),(14,some q17),z8,z13,z12,z14,z27,z25,z24] 16 ?_;obtain⟨v14,hv14,hh⟩:=bind_some hh;let q18:Root:=(rO80 v14.1.Guests);let z29:=(17,some q18);let q19:Root:=(rI_3 v14.1.Words);let z30:=(16,some q19);refine ys (.call 10 [.t 94,.t 95]) (some 96) (aW (r:= .tup [.agg [.own 3 1 (List.length v14.1.Words) (fl (eI .i64) v14.1.Words),.own 80 17 (List.length v14.1.Guests) (fl bY v14.1.Guests)],ii v14.2.1,bb v14.2.2]) (v:= .tup [.agg [sw 16 v14.1.Words,.sref 17 [] 0 (List.length v14.1.Guests) 17],ii v14.2.1,bb v14.2.2]) (Hr:=[z29,z30]) (n':=18) (uL hv14) (bS (vs:=[.agg [sw 14 v13.Words,.sref 15 [] 0 (List.length v13.Guests) 17],ii x_aG]) kr (aR (aV (aA (aG (c:=(eI .i64)) (xs:=v13.Words) (e:=3) eqn aF aM aI kr) (aA (bZ (B:=cH) (xs:=v13.Guests) (e:=80) cA aK eqn kr) bJ))) (cz1 bI))) nrr nrr kr ?_);let q20:Root:=⟨26,[sw 16 v14.1.Words,.sref 17 [] 0 (List.length v14.1.Guests) 17]⟩;let z31:=(18,some q20);refine yt (sp 122 [z6,z10,z11,z2,z26,(16,pp 18),(17,ii v14.2.1),(18,bb v14.2.2)]) [z13,z12,z14,z27,z25,z24,z30,z29,z31] 19 (Aw.seq (Aw.sreg [10,14,113] [9,10,11] (yj 2  (sp 122 [z6,z10,z11,z2,z26,(16,pp 18),(17,ii v14.2.1),(18,bb v14.2.2),(100,.agg [sw 16 v14.1.Words,.sref 17 [] 0 (List.length v14.1.Guests) 17]),(101,.agg [sw 3 v3.1.Words,.sref 4 [] 0 (List.length v3.1.Guests) 17])]) [z13,z12,z14,z27,z25,z24,z30,z29,z31] 19 ?_)));obtain⟨v15,hv15,hh⟩:=bind_some hh;refine ys (.call 29 [.t 100,.t 101]) (some 102) (aW (r:=bb v15) (v:=bb v15) (Hr:=[]) (n':=19) (dN hv15) (bS (vs:=[.agg [sw 16 v14.1.Words,.sref 17 [] 0 (List.length v14.1.Guests) 17],.agg [sw 3 v3.1.Words,.sref 4 [] 0 (List.length v3.1.Guests) 17]]) kr (aR (aV (aA (aG (c:=(eI .i64)) (xs:=v14.1.Words) (e:=3) eqn aF aM aI kr) (aA (bZ (B:=cH) (xs:=v14.1.Guests) (e:=80) cA aK eqn kr) bJ))) (aR (aV (aA (aG (c:=(eI .i64)) (xs:=v3.1.Words) (e:=3) eqn aF aM aI kr) (aA (bZ (B:=cH) (xs:=v3.1.Guests) (e:=80) cA aK eqn kr) bJ))) bI))) rfl rfl kr ?_);refine yu 2 [(102,bb v15),(103,bb (!v15)),(104,bb (!v15))] [z13,z12,z14,z27,z25,z24,z30,z29,z31] 19 ?_;rcases aQ hh with⟨hb,hh⟩|⟨hb,hh⟩;{exact yb 103 hb (yb 104 hb (yt (sp 122 [z2,z26,(113,bb true)]) [z27,z25,z24] 19 (cT rfl (sy [4] [] (sp 122 [z4]) [] 19 (Aw.ret (bU (dA hh)))))))};refine yb 103 hb (yb 104 hb (yu 5 [(103,bb false),(104,bb false),(105,ii v14.2.1),(106,ii v3.2.1),(107,bb (!decide (v14.2.1=v3.2.1))),(108,bb (!decide (v14.2.1=v3.2.1))),(109,bb (!decide (v14.2.1=v3.2.1)))] [z13,z12,z14,z27,z25,z24,z30,z29,z31] 19 ?_));rcases aQ hh with⟨hb,hh⟩|⟨hb,hh⟩;{exact yb 107 hb (yb 108 hb (yb 109 hb (yt (sp 122 [z2,z26,(113,bb true)]) [z27,z25,z24] 19 (cT rfl (sy [4] [] (sp 122 [z4]) [] 19 (Aw.ret (bU (dA hh))))))))};refine yb 107 hb (yb 108 hb (yb 109 hb (yt (sp 122 [z2,z26,(113,bb (!(v14.2.2==v3.2.2)))]) [z27,z25,z24] 19 ?_)));rcases aQ hh with⟨hb,hh⟩|⟨hb,hh⟩;{exact cT hb (sy [4] [] (sp 122 [z4]) [] 19 (Aw.ret (bU (dA hh))))};refine cF hb (Aw.xskip (λ_ _ _ hq=>cG hq) (sy [10,14,15] [9,10,11] (sp 122 [z2,z26,(15,ii 1)]) [z27,z25,z24] 19 (Aw.sreg [14,15] [] (yu 2 [(114,.agg [sw 9 v5.1.Words,.sref 10 [] 0 (List.length v5.1.Guests) 17]),(115,ii 1)] [z27,z25,z24] 19 ?_))));obtain⟨v16,hv16,hh⟩:=bind_some hh;refine ys (.call 31 [.t 114,.t 115]) (some 116) (aW (r:=ii v16) (v:=ii v16) (Hr:=[]) (n':=19) (gY hv16) (bS (vs:=[.agg [sw 9 v5.1.Words,.sref 10 [] 0 (List.length v5.1.Guests) 17],ii 1]) kr (aR (aV (aA (aG (c:=(eI .i64)) (xs:=v11.1) (e:=3) eqn aF aM aI kr) (aA (bZ (B:=cH) (xs:=v11.2.1) (e:=80) cA aK eqn kr) bJ))) (cz1 bI))) rfl rfl kr ?_);refine yt (sp 122 [z26,(15,ii v16)]) [] 19 (Aw.seq (sy [14,15,118] [] (sp 122 [z26,(15,ii v16),(118,bb (decide (v16<(0:Int))))]) [] 19 ?_));rcases aQ hh with⟨hb,hh⟩|⟨hb,hh⟩;{exact cT hb (sy [4] [] (sp 122 [z4]) [] 19 (Aw.ret (bU (dA hh))))};refine cF hb (Aw.xskip (λ_ _ _ hq=>cG hq) (Aw.seq (sy [121] [] (sp 122 [(121,bb (!decide (v16=v11.2.2)))]) [] 19 ?_)));rcases aQ hh with⟨hb,hh⟩|⟨hb,hh⟩;{exact cT hb (sy [4] [] (sp 122 [z4]) [] 19 (Aw.ret (bU (dA hh))))};exact cF hb (Aw.xskip (λ_ _ _ hq=>cG hq) (sy [4] [] (sp 122 [(4,bb true)]) [] 19 (Aw.ret (dA hh))))
noncomputable def aDk  (s1:Unit):Option Bool:=some true
noncomputable def aDg (x_a:List Int)(x_b:List Int)(s2:Int):Option (LO Int (JO Unit Bool)):=
 cond (decide (s2<((List.length x_a:Nat):Int)))
  (grd ((0:Int)<=s2/\s2<((List.length x_a:Nat):Int)) (grd ((0:Int)<=s2/\s2<((List.length x_b:Nat):Int)) (cond (!decide ((List.getD x_a (Int.toNat s2) default)=(List.getD x_b (Int.toNat s2) default)))
   (some (.ret (.out false)))
   (some (.next (w64 (s2+(1:Int))))))))
  (some (.ret (.go ())))
noncomputable def kX (x_a:List Int)(x_b:List Int):Option Bool:=
 cond (!decide (((List.length x_a:Nat):Int)=((List.length x_b:Nat):Int)))
  (some false)
  (Option.bind (Option.bind (iter (aDg x_a x_b) (0:Int)) LO.val) λj1=>
   JO.run j1 aDk)
noncomputable def g18:Sg tG:=⟨[.row 3,.row 3],.one .b,kX⟩
theorem s18:Sok 18 g18:=sgx [] trivial (.s .o (.s .o (.j ⟨[],[],[]⟩ (.s .o (.k (.l ⟨[0,1],[],[(.s 5,.i .i64)]⟩ .o))) .o))) kr kr kr
noncomputable def xP (x_a:DCore)(x_b:DCore):Option Bool:=
 Option.bind (kX x_a.Regs x_b.Regs) λv1=>
 cond (!v1)
  (some false)
  (cond (!decide (x_a.Pc=x_b.Pc))
   (some false)
   (cond (!decide (x_a.Root=x_b.Root))
    (some false)
    (cond (!decide (x_a.Vector=x_b.Vector))
     (some false)
     (cond (!decide (x_a.Saved=x_b.Saved))
      (some false)
      (cond (!(x_a.SavedUser==x_b.SavedUser))
       (some false)
       (cond (decide (x_a.Cause=x_b.Cause))
        (cond (decide (x_a.Bad=x_b.Bad))
         (cond (decide (x_a.Timer=x_b.Timer))
          (cond (x_a.Waits==x_b.Waits)
           (cond (x_a.User==x_b.User)
            (cond (x_a.On==x_b.On)
             (some (x_a.Stopped==x_b.Stopped))
             (some false))
            (some false))
           (some false))
          (some false))
         (some false))
        (some false)))))))
noncomputable def g58:Sg tG:=⟨[.st 34,.st 34],.one .b,xP⟩
theorem s58:Sok 58 g58:=sgx [(18,.r g18)] ⟨s18,trivial⟩ .o kr kr kr
noncomputable def aBb  (s4:Unit):Option Bool:=some true
noncomputable def aBe (x_a:DGuest)(x_b:DGuest)(s5:Int):Option (LO Int (JO Unit Bool)):=
 cond (decide (s5<((List.length x_a.Pages:Nat):Int)))
  (grd ((0:Int)<=s5/\s5<((List.length x_a.Pages:Nat):Int)) (grd ((0:Int)<=s5/\s5<((List.length x_b.Pages:Nat):Int)) (cond (!(decide ((List.getD x_a.Pages (Int.toNat s5) default).Frame=(List.getD x_b.Pages (Int.toNat s5) default).Frame)&&(((List.getD x_a.Pages (Int.toNat s5) default).Write==(List.getD x_b.Pages (Int.toNat s5) default).Write)&&(((List.getD x_a.Pages (Int.toNat s5) default).Dirty==(List.getD x_b.Pages (Int.toNat s5) default).Dirty)&&true))))
   (some (.ret (.out false)))
   (some (.next (w64 (s5+(1:Int))))))))
  (some (.ret (.go ())))
noncomputable def vR (x_a:DGuest)(x_b:DGuest):Option Bool:=
 cond (!(x_a.Live==x_b.Live))
  (some false)
  (Option.bind (xP x_a.C x_b.C) λv1=>
  cond (!v1)
   (some false)
   (Option.bind (kX x_a.In x_b.In) λv2=>
   cond (!v2)
    (some false)
    (Option.bind (kX x_a.Out x_b.Out) λv3=>
    cond (!v3)
     (some false)
     (cond (!decide (((List.length x_a.Pages:Nat):Int)=((List.length x_b.Pages:Nat):Int)))
      (some false)
      (Option.bind (Option.bind (iter (aBe x_a x_b) (0:Int)) LO.val) λj4=>
       JO.run j4 aBb)))))
noncomputable def g51:Sg tG:=⟨[.st 80,.st 80],.one .b,vR⟩
theorem s51:Sok 51 g51:=sgx [(58,.r g58),(18,.r g18)] ⟨s58,s18,trivial⟩ (.s .o (.s .o (.j ⟨[],[],[]⟩ (.s .o (.k (.l ⟨[2,3],[],[(.s 5,.i .i64)]⟩ .o))) .o))) kr kr kr
noncomputable def aCm  (s2:Unit):Option Bool:=some true
noncomputable def aBj (x_a:DHost)(x_b:DHost)(s3:Int):Option (LO Int (JO Unit Bool)):=
 cond (decide (s3<((List.length x_a.Guests:Nat):Int)))
  (grd ((0:Int)<=s3/\s3<((List.length x_a.Guests:Nat):Int)) (grd ((0:Int)<=s3/\s3<((List.length x_b.Guests:Nat):Int)) (Option.bind (vR (DGuest.mk (List.getD x_a.Guests (Int.toNat s3) default).Live (DCore.mk ((List.getD x_a.Guests (Int.toNat s3) default).C).Regs ((List.getD x_a.Guests (Int.toNat s3) default).C).Pc ((List.getD x_a.Guests (Int.toNat s3) default).C).Root ((List.getD x_a.Guests (Int.toNat s3) default).C).Vector ((List.getD x_a.Guests (Int.toNat s3) default).C).Saved ((List.getD x_a.Guests (Int.toNat s3) default).C).SavedUser ((List.getD x_a.Guests (Int.toNat s3) default).C).Cause ((List.getD x_a.Guests (Int.toNat s3) default).C).Bad ((List.getD x_a.Guests (Int.toNat s3) default).C).Timer ((List.getD x_a.Guests (Int.toNat s3) default).C).Waits ((List.getD x_a.Guests (Int.toNat s3) default).C).User ((List.getD x_a.Guests (Int.toNat s3) default).C).On ((List.getD x_a.Guests (Int.toNat s3) default).C).Stopped) (List.getD x_a.Guests (Int.toNat s3) default).Pages (List.getD x_a.Guests (Int.toNat s3) default).In (List.getD x_a.Guests (Int.toNat s3) default).Out) (DGuest.mk (List.getD x_b.Guests (Int.toNat s3) default).Live (DCore.mk ((List.getD x_b.Guests (Int.toNat s3) default).C).Regs ((List.getD x_b.Guests (Int.toNat s3) default).C).Pc ((List.getD x_b.Guests (Int.toNat s3) default).C).Root ((List.getD x_b.Guests (Int.toNat s3) default).C).Vector ((List.getD x_b.Guests (Int.toNat s3) default).C).Saved ((List.getD x_b.Guests (Int.toNat s3) default).C).SavedUser ((List.getD x_b.Guests (Int.toNat s3) default).C).Cause ((List.getD x_b.Guests (Int.toNat s3) default).C).Bad ((List.getD x_b.Guests (Int.toNat s3) default).C).Timer ((List.getD x_b.Guests (Int.toNat s3) default).C).Waits ((List.getD x_b.Guests (Int.toNat s3) default).C).User ((List.getD x_b.Guests (Int.toNat s3) default).C).On ((List.getD x_b.Guests (Int.toNat s3) default).C).Stopped) (List.getD x_b.Guests (Int.toNat s3) default).Pages (List.getD x_b.Guests (Int.toNat s3) default).In (List.getD x_b.Guests (Int.toNat s3) default).Out)) λv4=>
   cond (!v4)
    (some (.ret (.out false)))
    (some (.next (w64 (s3+(1:Int))))))))
  (some (.ret (.go ())))
noncomputable def aIo (x_a:DHost)(x_b:DHost):Option Bool:=
 Option.bind (kX x_a.Words x_b.Words) λv1=>
 cond (!v1)
  (some false)
  (cond (!decide (((List.length x_a.Guests:Nat):Int)=((List.length x_b.Guests:Nat):Int)))
   (some false)
   (Option.bind (Option.bind (iter (aBj x_a x_b) (0:Int)) LO.val) λj2=>
    JO.run j2 aCm))
noncomputable def g12:Sg tG:=⟨[.st 26,.st 26],.one .b,aIo⟩
theorem s12:Sok 12 g12:=sgx [(18,.r g18),(51,.r g51)] ⟨s18,s51,trivial⟩ (.s .o (.s .o (.j ⟨[],[],[]⟩ (.s .o (.k (.l ⟨[2,3],[],[(.s 5,.i .i64)]⟩ .o))) .o))) kr kr kr
noncomputable def aCp  (s2:List DSlot):Option (List DSlot):=some s2
noncomputable def iJ (x_pages:List DSlot)(s3:(List DSlot)×Int):Option (LO ((List DSlot)×Int) (JO (List DSlot) (List DSlot))):=
 cond (decide (s3.2<((List.length x_pages:Nat):Int)))
  (grd ((0:Int)<=s3.2/\s3.2<((List.length x_pages:Nat):Int)) (grd ((0:Int)<=s3.2/\s3.2<((List.length s3.1:Nat):Int)) (some (.next ((List.set s3.1 (Int.toNat s3.2) (DSlot.mk (List.getD s3.1 (Int.toNat s3.2) default).Frame (List.getD s3.1 (Int.toNat s3.2) default).Write (!decide ((List.getD x_pages (Int.toNat s3.2) default).Frame=(-1:Int))))),w64 (s3.2+(1:Int)))))))
  (some (.ret (.go s3.1)))
noncomputable def kM (x_pages:List DSlot):Option (List DSlot):=
 Option.bind (eV x_pages) λv1=>
 Option.bind (Option.bind (iter (iJ x_pages) (v1,(0:Int))) LO.val) λj2=>
  JO.run j2 aCp
noncomputable def g67:Sg tG:=⟨[.row 83],.one (.row 83),kM⟩
theorem s67:Sok 67 g67:=sgx [(89,.r g89)] ⟨s89,trivial⟩ (.s .o (.s .o (.j ⟨[],[],[(.s 3,.ro 83)]⟩ (.s .o (.k (.l ⟨[8,9],[],[(.s 3,.ro 83),(.s 10,.i .i64)]⟩ .o))) .o))) kr kr kr
theorem aGr{x_pages:List DSlot}{R_:(List DSlot)}(hh:kM x_pages=some R_):Fn Try.prog 67 [bo eR x_pages] (.own 83 3 (List.length R_) (fl eR R_)):=kc (s67 x_pages R_ hh)
theorem aEy:LW 21 ⟨52,[.cell 6 true 2,.tmp 7],.seq (.reg false (rg 21 0)) (.seq (.seq (.reg false (rg 21 1)) (.cond (.t 19) (.seq (.reg false (rg 21 2)) .ret) .skip)) (.seq (.regd (rg 21 3) (rg 21 4)) (.seq (.reg false (rg 21 5)) (.seq (.seq (.reg false (rg 21 6)) (.cond (.t 37) (.seq (.reg false (rg 21 7)) .ret) .skip)) (.seq (.regd (rg 21 8) (rg 21 9)) (.seq (.reg false (rg 21 10)) .ret))))))⟩:=kr
noncomputable def iQ (x_h:DHost)(x_g:Int)(x_b:DBare):Option (DHost×Bool):=
 Option.bind (fF x_h x_g) λv1=>
 cond (!v1)
  (some ((DHost.mk ([]:List Int) ([]:List DGuest)),false))
  (Option.bind (nC x_b) λv2=>
  cond (!v2)
   (some ((DHost.mk ([]:List Int) ([]:List DGuest)),false))
   (Option.bind (fP x_h.Guests x_g (DGuest.mk false (DCore.mk ([]:List Int) (0:Int) (0:Int) (0:Int) (0:Int) false (0:Int) (0:Int) (0:Int) false false false false) ([]:List DSlot) ([]:List Int) ([]:List Int))) λv3=>
   Option.bind (fH (DHost.mk x_h.Words v3) x_g x_b) λv4=>
   cond (!v4.2)
    (some ((DHost.mk ([]:List Int) ([]:List DGuest)),false))
    (grd ((0:Int)<=x_g/\x_g<((List.length v4.1.Guests:Nat):Int)) (Option.bind (kM (List.getD v4.1.Guests (Int.toNat x_g) default).Pages) λv5=>
     grd ((0:Int)<=x_g/\x_g<((List.length v4.1.Guests:Nat):Int)) (some ((DHost.mk v4.1.Words (List.set v4.1.Guests (Int.toNat x_g) (DGuest.mk (List.getD v4.1.Guests (Int.toNat x_g) default).Live (DCore.mk ((List.getD v4.1.Guests (Int.toNat x_g) default).C).Regs ((List.getD v4.1.Guests (Int.toNat x_g) default).C).Pc ((List.getD v4.1.Guests (Int.toNat x_g) default).C).Root ((List.getD v4.1.Guests (Int.toNat x_g) default).C).Vector ((List.getD v4.1.Guests (Int.toNat x_g) default).C).Saved ((List.getD v4.1.Guests (Int.toNat x_g) default).C).SavedUser ((List.getD v4.1.Guests (Int.toNat x_g) default).C).Cause ((List.getD v4.1.Guests (Int.toNat x_g) default).C).Bad ((List.getD v4.1.Guests (Int.toNat x_g) default).C).Timer ((List.getD v4.1.Guests (Int.toNat x_g) default).C).Waits ((List.getD v4.1.Guests (Int.toNat x_g) default).C).User ((List.getD v4.1.Guests (Int.toNat x_g) default).C).On ((List.getD v4.1.Guests (Int.toNat x_g) default).C).Stopped) v5 (List.getD v4.1.Guests (Int.toNat x_g) default).In (List.getD v4.1.Guests (Int.toNat x_g) default).Out))),true))))))
theorem wG{x_h:DHost}{x_g:Int}{x_b:DBare}{R_:DHost×Bool}(hh:iQ x_h x_g x_b=some R_):Fn Try.prog 21 [.agg (mE x_h),.int .i64 x_g,.agg (dV x_b)] (.tup [.agg [.own 3 1 (List.length R_.1.Words) (fl (eI .i64) R_.1.Words),.own 80 17 (List.length R_.1.Guests) (fl bY R_.1.Guests)],.bool R_.2]):=by let z3:EH:=(0,some (rB26 x_h));let z4:=(1,ii x_g);let z5:EH:=(1,some (rB36 x_b));let z6:EH:=(2,some ⟨26,[.nil,.nil]⟩);let z7:=(22,bo (eI .i64) x_h.Words);let z8:EV:=(26,.agg (bb false:: .nil::wV [.nil,.nil,.nil]));let z9:=(3,pp 0);let z10:EV:=(45,.ptr 10 [] (0+(Int.toNat x_g)*17));let z11:EV:=(46,.ptr 10 [] (0+(Int.toNat x_g)*17+14));let z12:=(5,pp 1);let z13:=(6,pp 2);let z14:=(9,pp 11);unfold iQ at hh;refine Fn.start aEy [0,1,2] (E:=sp 52 [(0,.agg (mE x_h)),z4,(2,.agg (dV x_b))]) kr (v:= .tup [.agg [sw 0 R_.1.Words,.sref 1 [] 0 (List.length R_.1.Guests) 17],bb R_.2]) (Hr:=[(1,some (rO80 R_.1.Guests)),(0,some (rI_3 R_.1.Words))]) (k:=2) kr (sy [1,3,5,6] [0,1,2] (sp 52 [z4,z9,z12,z13]) [z3,z5,z6] 3 (Aw.seq (Aw.sreg [1,3,5,6,19] [0,1,2] (yj 2  (sp 52 [z4,z9,z12,z13,(11,.agg (mE x_h)),(12,ii x_g)]) [z3,z5,z6] 3 ?_))));obtain⟨v1,hv1,hh⟩:=bind_some hh;refine ys (.call 42 [.t 11,.t 12]) (some 13) (aW (r:=bb v1) (v:=bb v1) (Hr:=[]) (n':=3) (aGs hv1) (bS (vs:=[.agg (mE x_h),ii x_g]) kr (aR (aB (mC (aEt _))) (cz1 bI))) rfl rfl kr ?_);refine yu 2 [(13,bb v1),(14,bb (!v1)),(15,bb (!v1))] [z3,z5,z6] 3 ?_;rcases aQ hh with⟨hb,hh⟩|⟨hb,hh⟩;{refine yb 14 hb (yb 15 hb (yt (sp 52 [z4,z9,z12,z13,(19,bb true)]) [z3,z5,z6] 3 (cT rfl (sy [6,7] [2] (sp 52 [z13,(7,bb false)]) [z6] 3 (Aw.ret (bU ?_))))));rw[bX hh];exact nW (r':= .tup [.agg [.nil,.nil],bb false]) kr (Ent.list [none,none] rfl rfl (Nat.zero_le _) (kB (lQ rz)) (aEk dd rfl rfl (aEk dd rfl rfl aP)))};refine yb 14 hb (yb 15 hb (yu 1 [(14,bb false),(15,bb false),(16,.agg (dV x_b))] [z3,z5,z6] 3 ?_));obtain⟨v2,hv2,hh⟩:=bind_some hh;refine yg (.call 64 [.t 16]) (some 17) 15 false (aW (r:=bb v2) (v:=bb v2) (Hr:=[]) (n':=3) (aJw hv2) (bS (vs:=[.agg (dV x_b)]) kr (aR (aB (mC (lP _))) bI)) rfl rfl kr ?_);refine yt (sp 52 [z4,z9,z12,z13,(19,bb (!v2))]) [z3,z5,z6] 3 ?_;rcases aQ hh with⟨hb,hh⟩|⟨hb,hh⟩;{refine cT hb (sy [6,7] [2] (sp 52 [z13,(7,bb false)]) [z6] 3 (Aw.ret (bU ?_)));rw[bX hh];exact nW (r':= .tup [.agg [.nil,.nil],bb false]) kr (Ent.list [none,none] rfl rfl (Nat.zero_le _) (kB (lQ rz)) (aEk dd rfl rfl (aEk dd rfl rfl aP)))};refine cF hb (Aw.xskip (λ_ _ _ hq=>cG hq) (Aw.sregd [1,5,6,8] [1,2,7,8] [3,4,5,6] kr (dj 6 (sp 52 [z4,z9,z12,z13,(19,bb (!v2)),(21,pp 0),z7,(23,.ptr 0 [] 1),(24,bo cH x_h.Guests),(25,ii x_g),z8]) [z3,z5,z6] 3 ?_)));obtain⟨v3,hv3,hh⟩:=bind_some hh;let z15:EH:=(7,some (rO80 v3));refine ds (.call 65 [.t 24,.t 25,.t 26]) (some 27) (oU rfl (bAy (args:=[bo cH x_h.Guests,ii x_g,.agg (bb false:: .nil::wV [.nil,.nil,.nil])]) (args2:=[bo cH x_h.Guests,ii x_g,.agg (bb false:: .sref 3 [] 0 0 1::wV [.sref 4 [] 0 0 3,.sref 5 [] 0 0 1,.sref 6 [] 0 0 1])]) kr (Ent.trans (Ent.nils (n:=6) (e:=3) (xs2:=[bo cH x_h.Guests,ii x_g,.agg (bb false:: .sref 3 [] 0 0 1::wV [.sref 4 [] 0 0 3,.sref 5 [] 0 0 1,.sref 6 [] 0 0 1])]) (bK (.same _) (bK (.same _) (bK (.agg _ _ (bK (.same _) (bK (.same _) (bK (.same _) (bK (.same _) (bK (.same _) (bK (.same _) (bK (.same _) (bK (.same _) (bK (.same _) (bK (.same _) (bK (.same _) (bK (.same _) (bK (.same _) (bK (.same _) (bK (.same _) (bK (.same _) (bK (.nil _) aDh)))))))))))))))))) aDh)))) (Ent.trans (Ent.nils (n:=5) (e:=3) (xs2:=[bo cH x_h.Guests,ii x_g,.agg (bb false:: .sref 3 [] 0 0 1::wV [.sref 4 [] 0 0 3,.sref 5 [] 0 0 1,.nil])]) (bK (.same _) (bK (.same _) (bK (.agg _ _ (bK (.same _) (bK (.same _) (bK (.same _) (bK (.same _) (bK (.same _) (bK (.same _) (bK (.same _) (bK (.same _) (bK (.same _) (bK (.same _) (bK (.same _) (bK (.same _) (bK (.same _) (bK (.same _) (bK (.same _) (bK (.nil _) (bK (.same _) aDh)))))))))))))))))) aDh)))) (Ent.trans (Ent.nils (n:=4) (e:=83) (xs2:=[bo cH x_h.Guests,ii x_g,.agg (bb false:: .sref 3 [] 0 0 1::wV [.sref 4 [] 0 0 3,.nil,.nil])]) (bK (.same _) (bK (.same _) (bK (.agg _ _ (bK (.same _) (bK (.same _) (bK (.same _) (bK (.same _) (bK (.same _) (bK (.same _) (bK (.same _) (bK (.same _) (bK (.same _) (bK (.same _) (bK (.same _) (bK (.same _) (bK (.same _) (bK (.same _) (bK (.nil _) (bK (.same _) (bK (.same _) aDh)))))))))))))))))) aDh)))) (Ent.nils (n:=3) (e:=3) (xs2:=[bo cH x_h.Guests,ii x_g,.agg (bb false:: .sref 3 [] 0 0 1::wV [.nil,.nil,.nil])]) (bK (.same _) (bK (.same _) (bK (.agg _ _ (bK (.same _) (bK (.nil _) (bK (.same _) (bK (.same _) (bK (.same _) (bK (.same _) (bK (.same _) (bK (.same _) (bK (.same _) (bK (.same _) (bK (.same _) (bK (.same _) (bK (.same _) (bK (.same _) (bK (.same _) (bK (.same _) (bK (.same _) aDh)))))))))))))))))) aDh))))))) (Inl.frameB (v':= .sref 7 [] 0 (List.length v3) 17) (Hp':=[z15]) (n':=8) [3,4,5,6] (aEx hv3) rfl rfl rfl rz rfl (hq ⟨3,[]⟩ (aZ rfl) (hq ⟨3,[]⟩ (aZ rfl) (hq ⟨83,[]⟩ (aZ rfl) (hq ⟨3,[]⟩ (aZ rfl) aP)))) tK rfl (hn dE aP) rfl) ⟨⟨⟨by decide,bEw (A:=[z15,(3,none),(4,none),(5,none),(6,none),(6,some ⟨3,[]⟩),(5,some ⟨3,[]⟩),(4,some ⟨83,[]⟩),(3,some ⟨3,[]⟩)]) kr kr⟩,Hld.un ?_⟩⟩));refine dt (sp 52 [z4,z9,z12,z13,(8,pp 8),(19,bb (!v2)),(21,pp 0),z7,(23,.ptr 0 [] 1),(24,bo cH x_h.Guests),(25,ii x_g),z8,(27,.sref 7 [] 0 (List.length v3) 17),(28,.agg [bo (eI .i64) x_h.Words,.sref 7 [] 0 (List.length v3) 17])]) [(8,some ⟨26,[.nil,.nil]⟩),z15,(3,none),(4,none),(5,none),(6,none),(6,some ⟨3,[]⟩),(5,some ⟨3,[]⟩),(4,some ⟨83,[]⟩),(3,some ⟨3,[]⟩),z3,z5,z6] 9 ?_;let q1:Root:=⟨26,[bo (eI .i64) x_h.Words,.sref 7 [] 0 (List.length v3) 17]⟩;refine yt (sp 52 [z4,z12,z13,(8,pp 8)]) [z5,z6,z15,(8,some q1)] 9 (Aw.sreg [1,6,9,10] [2,9,10,11] (yu 3 [(30,.agg [bo (eI .i64) x_h.Words,.sref 7 [] 0 (List.length v3) 17]),(31,ii x_g),(32,.agg (dV x_b))] [z5,z6,z15,(8,some q1)] 9 ?_));obtain⟨v4,hv4,hh⟩:=bind_some hh;let z16:=(37,bb (!v4.2));let z17:EV:=(40,.sref 10 [] 0 (List.length v4.1.Guests) 17);let z18:EV:=(43,.sref 10 [] 0 (List.length v4.1.Guests) 17);let z1:=List.getD v4.1.Guests (Int.toNat x_g) default;let z19:EV:=(47,.sref 10 [0+(Int.toNat x_g)*17+14+0] 0 (List.length z1.Pages) 3);let q2:Root:=(rO80 v4.1.Guests);let z20:=(10,some q2);let q3:Root:=(rI_3 v4.1.Words);let z21:=(9,some q3);refine ys (.call 66 [.t 30,.t 31,.t 32]) (some 33) (aW (r:= .tup [.agg [.own 3 1 (List.length v4.1.Words) (fl (eI .i64) v4.1.Words),.own 80 17 (List.length v4.1.Guests) (fl bY v4.1.Guests)],bb v4.2]) (v:= .tup [.agg [sw 9 v4.1.Words,.sref 10 [] 0 (List.length v4.1.Guests) 17],bb v4.2]) (Hr:=[z20,z21]) (n':=11) (zQ hv4) (bS (vs:=[.agg [bo (eI .i64) x_h.Words,.sref 7 [] 0 (List.length v3) 17],ii x_g,.agg (dV x_b)]) kr (aR (aV (aA (aB (cL (aX aI))) (aA (bZ (B:=cH) (xs:=v3) (e:=80) cA aK eqn kr) bJ))) (cz1 (aR (aB (mC (lP _))) bI)))) nrr nrr kr ?_);let q4:Root:=⟨26,[sw 9 v4.1.Words,.sref 10 [] 0 (List.length v4.1.Guests) 17]⟩;let z22:=(11,some q4);refine yt (sp 52 [z4,z13,z14,(10,bb v4.2)]) [z6,z21,z20,z22] 12 (Aw.seq (sy [1,6,9,37] [2,9,10,11] (sp 52 [z4,z13,z14,z16]) [z6,z21,z20,z22] 12 ?_));rcases aQ hh with⟨hb,hh⟩|⟨hb,hh⟩;{refine cT hb (sy [6,7] [2] (sp 52 [z13,(7,bb false)]) [z6] 12 (Aw.ret (bU ?_)));rw[bX hh];exact nW (r':= .tup [.agg [.nil,.nil],bb false]) kr (Ent.list [none,none] rfl rfl (Nat.zero_le _) (kB (lQ rz)) (aEk dd rfl rfl (aEk dd rfl rfl aP)))};refine cF hb (Aw.xskip (λ_ _ _ hq=>cG hq) (Aw.sregd [6,9] [2,9,10,11,12] [] kr ?_));obtain⟨hg4,hh⟩:=aE hh;refine dc (cs:=[(0:Int)<=x_g/\x_g<((List.length v4.1.Guests:Nat):Int)]) (E':=(sp 52 [z4,z13,z14,z16,(39,.ptr 11 [] 1),z17,(41,ii x_g),(42,.ptr 11 [] 1),z18,(44,ii x_g),z10,z11])) (H':=[z6,z21,z20,z22]) (n':=12) (fs':=none) (pre:=(List.take 8 (rg 21 8))) (L':=(List.drop 8 (rg 21 8))) kr (λK=>by kernel_rfl) (.cons hg4 .nil) (ds (.load false 1 (.t 46)) (some 47) (bIz rfl kr (aTh (c:=bY) (xs:=v4.1.Guests) (e:=80) (r:=10) (π:=[]) (o:=0+(Int.toNat x_g)*17+14) (i:=(Int.toNat x_g)) (off:=14) (v:= .sref 10 [0+(Int.toNat x_g)*17+14+0] 0 (List.length z1.Pages) 3) aK kr kr ltn ltn dd kr ?_)));obtain⟨v5,hv5,hh⟩:=bind_some hh;let z23:EH:=(12,some (rC83 v5));let z24:EV:=(48,.sref 12 [] 0 (List.length v5) 3);let z2:=DGuest.mk z1.Live z1.C v5 z1.In z1.Out;refine ds (.call 67 [.t 47]) (some 48) (oU rfl (aW (r:= .own 83 3 (List.length v5) (fl eR v5)) (v:= .sref 12 [] 0 (List.length v5) 3) (Hr:=[z23]) (n':=13) (aGr hv5) (bS (vs:=[.sref 10 [0+(Int.toNat x_g)*17+14+0] 0 (List.length z1.Pages) 3]) kr (aR (aG (c:=eR) (xs:=z1.Pages) (e:=83) eqn lC yL vJ (aBp (e:=80) (e':=83) (sz':=3) (m':=(List.length z1.Pages)) (cs':=(fl eR z1.Pages)) (c:=bY) (xs:=v4.1.Guests) (i:=(Int.toNat x_g)) (off:=14) aK kr ltn ltn dd rfl kr)) bI)) nrr nrr kr ⟨⟨⟨by decide,iU (n:=12) (n0:=12) (r:= .own 83 3 (List.length v5) (fl eR v5)) (v:= .sref 12 [] 0 (List.length v5) 3) (Hr:=[z23]) (n':=13) kr dd⟩,Hld.un ?_⟩⟩));refine dt (sp 52 [z4,z13,z14,z16,(39,.ptr 11 [] 1),z17,(41,ii x_g),(42,.ptr 11 [] 1),z18,(44,ii x_g),z10,z11,z19,z24]) [z23,z6,z21,z20,z22] 13 ?_;obtain⟨hg3,hh⟩:=aE hh;refine yjc 2 [(0:Int)<=x_g/\x_g<((List.length v4.1.Guests:Nat):Int)] (sp 52 [z4,z13,z14,z16,(39,.ptr 11 [] 1),z17,(41,ii x_g),(42,.ptr 11 [] 1),z18,(44,ii x_g),z10,z11,z19,z24,(49,.ptr 10 [] (0+(Int.toNat x_g)*17)),(50,.ptr 10 [] (0+(Int.toNat x_g)*17+14))]) [z23,z6,z21,z20,z22] 13 (.cons hg3 .nil) (ys (.store 1 (.t 50) (.t 48)) none (bAi (c:=bY) (xs:=v4.1.Guests) (e:=80) (r:=10) (o:=0+(Int.toNat x_g)*17+14) (i:=(Int.toNat x_g)) (off:=14) (vs:=[.sref 12 [] 0 (List.length v5) 3]) aK kr kr kr kr ltn ltn dd ?_));refine yt (sp 52 [z13,z14]) [z6,z21,(10,some ⟨80,bC (fl bY v4.1.Guests) (0+(Int.toNat x_g)*17+14) [.sref 12 [] 0 (List.length v5) 3]⟩),z22,z23] 13 ?_;let q5:Root:=⟨26,[sw 9 v4.1.Words,.sref 13 [] 0 (List.length v4.1.Guests) 17]⟩;refine Aw.ent (Ent.foldP (c:=bY) (xs:=v4.1.Guests) (i:=(Int.toNat x_g)) (off:=14) (o:=0+(Int.toNat x_g)*17+14) (y:=z2) (R:=10) (e:=80) (us2:=sp 52 [z13,z14]) (H2:=[z6,z21,(11,some q5)]) (L:=[some (some 12)]) (ws:=[.own 83 3 (List.length v5) (fl eR v5)]) aK kr ltn ltn (Nat.le_of_ble_eq_true rfl) kr (bIs kr eqn bIp) (by rfl) (by rfl) (bFu kr (bDo (u:=pp 2) kr (.same _) (bDo (u:=pp 11) kr (.same _) bIv))) (bBa (t:=⟨26,[.nil,.nil]⟩) rfl kr rfl aNx (bBa (t:=q3) rfl kr rfl aNx (bBa (t:=q4) rfl kr rfl (bDg (.same _) (bDg (.sref _ _ _ _ eqn) bIk)) bKe)))) (Aw.sreg [6,7] [2,9,13] ?_);let q6:Root:=(rO80 (List.set v4.1.Guests (Int.toNat x_g) z2));refine yt (sp 52 [z13,(7,bb true)]) [(2,some q5),z21,(13,some q6)] 14 (Aw.ret ?_);rw[bX hh];exact nW (r':= .tup [.agg [sw 9 v4.1.Words,.sref 13 [] 0 (List.length v4.1.Guests) 17],bb true]) kr (Ent.list [some 9,some 13] rfl rfl (Nat.zero_le _) (kB (lQ rz)) (hn dE (hn aN aP)))
noncomputable def tI (x_g:Int)(x_b:DBare)(v3:DHost×Bool)(v5:DCore)(s6:(List Int)×(List DSlot)):Option (DHost×Bool):=grd ((0:Int)<=x_g/\x_g<((List.length v3.1.Guests:Nat):Int)) (some ((DHost.mk s6.1 (List.set v3.1.Guests (Int.toNat x_g) (DGuest.mk true v5 s6.2 x_b.In x_b.Out))),true))
noncomputable def oH (s7:(List Int)×(List Int)×(List DSlot)×Int)(s8:(List Int)×(List Int)×(List DSlot)):Option (LO ((List Int)×(List Int)×(List DSlot)×Int) (JO ((List Int)×(List DSlot)) (DHost×Bool))):=some (.next (s8.1,s8.2.1,s8.2.2,w64 (s7.2.2.2+(1:Int))))
noncomputable def tQ (x_b:DBare)(s7:(List Int)×(List Int)×(List DSlot)×Int)(s9:Bool):Option (JO ((List Int)×(List Int)×(List DSlot)) (LO ((List Int)×(List Int)×(List DSlot)×Int) (JO ((List Int)×(List DSlot)) (DHost×Bool)))):=
 cond s9
  (grd ((List.length s7.2.2.1+List.length ([DSlot.mk (-1:Int) false false]:List DSlot))*16<=2^47/\List.length s7.2.2.1+List.length ([DSlot.mk (-1:Int) false false]:List DSlot)<=2^47) (some (.go (s7.1,s7.2.1,s7.2.2.1++([DSlot.mk (-1:Int) false false]:List DSlot)))))
  (cond (decide (((List.length s7.2.1:Nat):Int)=(0:Int)))
   (some (.out (.ret (.out ((DHost.mk ([]:List Int) ([]:List DGuest)),false)))))
   (grd ((0:Int)<=(0:Int)/\(0:Int)<((List.length s7.2.1:Nat):Int)) (grd ((0:Int)<=(w64 ((List.getD s7.2.1 (Int.toNat (0:Int)) default)*(8:Int)))/\(w64 ((List.getD s7.2.1 (Int.toNat (0:Int)) default)*(8:Int)))<=((List.length s7.1:Nat):Int)/\((List.length s7.1:Nat):Int)<=((List.length s7.1:Nat):Int)) (grd ((0:Int)<=(0:Int)/\(0:Int)<((List.length s7.2.1:Nat):Int)) (grd ((List.length s7.2.2.1+List.length ([DSlot.mk (List.getD s7.2.1 (Int.toNat (0:Int)) default) true true]:List DSlot))*16<=2^47/\List.length s7.2.2.1+List.length ([DSlot.mk (List.getD s7.2.1 (Int.toNat (0:Int)) default) true true]:List DSlot)<=2^47) (grd ((0:Int)<=(1:Int)/\(1:Int)<=((List.length s7.2.1:Nat):Int)/\((List.length s7.2.1:Nat):Int)<=((List.length s7.2.1:Nat):Int)) (some (.go ((over s7.1 (Int.toNat (w64 ((List.getD s7.2.1 (Int.toNat (0:Int)) default)*(8:Int)))) (Int.toNat ((List.length s7.1:Nat):Int)-Int.toNat (w64 ((List.getD s7.2.1 (Int.toNat (0:Int)) default)*(8:Int)))) (List.take (Int.toNat (w64 ((w64 (s7.2.2.2+(1:Int)))*(8:Int)))-Int.toNat (w64 (s7.2.2.2*(8:Int)))) (List.drop (Int.toNat (w64 (s7.2.2.2*(8:Int)))) x_b.Mem))),List.take (Int.toNat ((List.length s7.2.1:Nat):Int)-Int.toNat (1:Int)) (List.drop (Int.toNat (1:Int)) s7.2.1),s7.2.2.1++([DSlot.mk (List.getD s7.2.1 (Int.toNat (0:Int)) default) true true]:List DSlot))))))))))
noncomputable def nO (s10:Bool×Int)(s11:Bool):Option (LO (Bool×Int) (JO Bool (JO ((List Int)×(List Int)×(List DSlot)) (LO ((List Int)×(List Int)×(List DSlot)×Int) (JO ((List Int)×(List DSlot)) (DHost×Bool)))))):=some (.next (s11,w64 (s10.2+(1:Int))))
noncomputable def gH (x_b:DBare)(s7:(List Int)×(List Int)×(List DSlot)×Int)(s10:Bool×Int):Option (LO (Bool×Int) (JO Bool (JO ((List Int)×(List Int)×(List DSlot)) (LO ((List Int)×(List Int)×(List DSlot)×Int) (JO ((List Int)×(List DSlot)) (DHost×Bool)))))):=
 cond (decide (s10.2<(8:Int)))
  (Option.bind (cond s10.1
   (grd ((0:Int)<=s10.2/\s10.2<((List.length (List.take (Int.toNat (w64 ((w64 (s7.2.2.2+(1:Int)))*(8:Int)))-Int.toNat (w64 (s7.2.2.2*(8:Int)))) (List.drop (Int.toNat (w64 (s7.2.2.2*(8:Int)))) x_b.Mem)):Nat):Int)) (some (.go (decide ((List.getD (List.take (Int.toNat (w64 ((w64 (s7.2.2.2+(1:Int)))*(8:Int)))-Int.toNat (w64 (s7.2.2.2*(8:Int)))) (List.drop (Int.toNat (w64 (s7.2.2.2*(8:Int)))) x_b.Mem)) (Int.toNat s10.2) default)=(0:Int))))))
   (some (.go false))) λj11=>
   JO.run j11 (nO s10))
  (some (.ret (.go s10.1)))
noncomputable def iL (x_b:DBare)(s7:(List Int)×(List Int)×(List DSlot)×Int):Option (LO ((List Int)×(List Int)×(List DSlot)×Int) (JO ((List Int)×(List DSlot)) (DHost×Bool))):=
 cond (decide (s7.2.2.2<(8:Int)))
  (Option.bind (grd ((0:Int)<=(w64 (s7.2.2.2*(8:Int)))/\(w64 (s7.2.2.2*(8:Int)))<=(w64 ((w64 (s7.2.2.2+(1:Int)))*(8:Int)))/\(w64 ((w64 (s7.2.2.2+(1:Int)))*(8:Int)))<=((List.length x_b.Mem:Nat):Int)) (Option.bind (Option.bind (iter (gH x_b s7) (true,(0:Int))) LO.val) λj9=>
   JO.run j9 (tQ x_b s7))) λj8=>
   JO.run j8 (oH s7))
  (some (.ret (.go (s7.1,s7.2.2.1))))
noncomputable def lB (x_h:DHost)(x_g:Int)(x_b:DBare):Option (DHost×Bool):=
 Option.bind (iX x_h x_g) λv1=>
 cond (!v1)
  (some ((DHost.mk ([]:List Int) ([]:List DGuest)),false))
  (Option.bind (qE x_b) λv2=>
  cond (!v2)
   (some ((DHost.mk ([]:List Int) ([]:List DGuest)),false))
   (Option.bind (nX x_h x_g) λv3=>
   cond (!v3.2)
    (some ((DHost.mk ([]:List Int) ([]:List DGuest)),false))
    (Option.bind (nZ v3.1) λv4=>
    Option.bind (nE x_b.C) λv5=>
    grd (List.length x_b.In*8<=2^47/\List.length x_b.In<=2^47) (grd (List.length x_b.Out*8<=2^47/\List.length x_b.Out<=2^47) (Option.bind (Option.bind (iter (iL x_b) (v3.1.Words,v4,([]:List DSlot),(0:Int))) LO.val) λj6=>
     JO.run j6 (tI x_g x_b v3 v5))))))
noncomputable def g22:Sg tG:=⟨[.st 26,.i .i64,.st 36],.two (.st 2026) .b,lB⟩
theorem s22:Sok 22 g22:=sgx [(48,.r g48),(68,.r g68),(69,.r g69),(70,.r g70),(71,.r g71)] ⟨s48,s68,s69,s70,s71,trivial⟩ (.s .o (.s .o (.s .o (.s .o (.s .o (.s (.g [.fr (.s 10) 0] [] []) (.j ⟨[1,6,8,11],[],[(.c 8 0,.ro 3),(.c 11 14,.ro 83)]⟩ (.s .o (.k (.l ⟨[1,5,6,8,11],[],[(.c 8 0,.ro 3),(.s 10,.rb 3),(.c 11 14,.ro 83),(.s 12,.i .i64)]⟩ (.s .o (.j ⟨[1,5,6,8,11,12],[],[(.c 8 0,.ro 3),(.s 10,.rb 3),(.c 11 14,.ro 83)]⟩ (.k (.s .o (.s .o (.j ⟨[1,5,6,8,10,11,12,13],[],[(.s 14,.b)]⟩ (.s .o (.k (.l ⟨[1,5,6,8,10,11,12,13],[],[(.s 14,.b),(.s 15,.i .i64)]⟩ (.s .o (.j ⟨[1,5,6,8,10,11,12,13,15],[],[(.s 14,.b)]⟩ .o .o))))) .o)))) .o))))) (.s (.g [] [] [.fo (.c 8 1) 0]) .o)))))))) kr kr kr
theorem aGf{x_h:DHost}{x_g:Int}{x_b:DBare}{R_:DHost×Bool}(hh:lB x_h x_g x_b=some R_):Fn Try.prog 22 [.agg (mE x_h),.int .i64 x_g,.agg (dV x_b)] (.tup [.agg [.own 3 1 (List.length R_.1.Words) (fl (eI .i64) R_.1.Words),.own 80 17 (List.length R_.1.Guests) (fl bY R_.1.Guests)],.bool R_.2]):=kc (s22 x_h x_g x_b R_ hh)
end Go.Proofs.Ytobbmlnagjhofaa
