/- Plain functions of the program, and that it hands back what they say. Made by program. -/
import Derived.Test.YtogfcdondojfeaaWTD
import Derived.Test.YtogfcdondojfeaaProg
namespace Go.Proofs.Ytogfcdondojfeaa
open Go.RowKit
set_option maxRecDepth 100000
set_option linter.all false
set_option maxHeartbeats 0
noncomputable def F_laws_toIntS_j1  (s1:(List Int)):Option (List Int) :=
 some s1
noncomputable def F_laws_toIntS_l2 (x_a:List Int) (s2:(List Int) × Int):Option (LO ((List Int) × Int) (JO (List Int) (List Int))) :=
 cond (decide (s2.2<(((List.length x_a):Nat):Int)))
  (grd ((0:Int)≤s2.2∧s2.2<((List.length x_a:Nat):Int)) (grd ((0:Int)≤s2.2∧s2.2<(((List.length s2.1):Nat):Int)) (some (.next ((List.set s2.1 (Int.toNat s2.2) (List.getD x_a (Int.toNat s2.2) default)),(w64 (s2.2+(1:Int))))))))
  (some (.ret (.go s2.1)))
noncomputable def F_laws_toIntS (x_a:List Int):Option (List Int) :=
 grd ((0:Int)≤(((List.length x_a):Nat):Int)∧(((List.length x_a):Nat):Int)*8≤2 ^ 47∧(((List.length x_a):Nat):Int)≤2 ^ 47) (Option.bind (Option.bind (iter (F_laws_toIntS_l2 x_a) ((List.replicate (Int.toNat (((List.length x_a):Nat):Int)) (0:Int)),(0:Int))) LO.val) fun j1 =>
  JO.run j1 (F_laws_toIntS_j1))
noncomputable def g30:Sg tG:=⟨[.row 3],.one (.row 3),F_laws_toIntS⟩
theorem s30:Sok 30 g30:=sgx [] trivial (.s .o (.s .o (.j ⟨[],[],[(.s 3,.ro 3)]⟩ (.s .o (.k (.l ⟨[0],[],[(.s 3,.ro 3),(.s 4,.i .i64)]⟩ .o))) .o))) kr kr kr
theorem laws_toIntS_fn {x_a:List Int} {R_:(List Int)} (hh:F_laws_toIntS x_a=some R_):Fn Try.prog 30 [bo (eI .i64) x_a] (.own 3 1 (List.length R_) (fl (eI .i64) R_)):=kc (s30 x_a R_ hh)
noncomputable def F_laws_eqIntS_j1  (s1:Unit):Option Bool :=
 some true
noncomputable def F_laws_eqIntS_l2 (x_a:List Int) (x_b:List Int) (s2:Int):Option (LO Int (JO Unit Bool)) :=
 cond (decide (s2<(((List.length x_a):Nat):Int)))
  (grd ((0:Int)≤s2∧s2<((List.length x_a:Nat):Int)) (grd ((0:Int)≤s2∧s2<((List.length x_b:Nat):Int)) (cond (!decide ((List.getD x_a (Int.toNat s2) default)=(List.getD x_b (Int.toNat s2) default)))
   (some (.ret (.out false)))
   (some (.next (w64 (s2+(1:Int))))))))
  (some (.ret (.go ())))
noncomputable def F_laws_eqIntS (x_a:List Int) (x_b:List Int):Option Bool :=
 cond (!decide ((((List.length x_a):Nat):Int)=(((List.length x_b):Nat):Int)))
  (some false)
  (Option.bind (Option.bind (iter (F_laws_eqIntS_l2 x_a x_b) (0:Int)) LO.val) fun j1 =>
   JO.run j1 (F_laws_eqIntS_j1))
noncomputable def g31:Sg tG:=⟨[.row 3,.row 3],.one .b,F_laws_eqIntS⟩
theorem s31:Sok 31 g31:=sgx [] trivial (.s .o (.s .o (.j ⟨[],[],[]⟩ (.s .o (.k (.l ⟨[0,1],[],[(.s 5,.i .i64)]⟩ .o))) .o))) kr kr kr
theorem laws_eqIntS_fn {x_a:List Int} {x_b:List Int} {R_:Bool} (hh:F_laws_eqIntS x_a x_b=some R_):Fn Try.prog 31 [bo (eI .i64) x_a,bo (eI .i64) x_b] (.bool R_):=kc (s31 x_a x_b R_ hh)
theorem low_laws_markIntS:LW 32 ⟨19,[(.tmp 4)],(.seq (.reg false (rg 32 0)) (.seq (.seq (.reg false (rg 32 1)) (.block 0 (.loop (.seq (.seq (.reg false (rg 32 2)) (.cond (.t 9) .skip (.exit 0))) (.seq (.block 1 (.seq (.reg false (rg 32 3)) (.reg false (rg 32 4)))) (.reg false (rg 32 5))))))) (.seq (.reg false (rg 32 7)) .ret)))⟩:=kr
noncomputable def F_laws_markIntS_j1  (s1:Int × (List Int)):Option ((List Int) × Int) :=
 some (s1.2,s1.1)
noncomputable def F_laws_markIntS_l2  (s2:(List Int) × Int × Int):Option (LO ((List Int) × Int × Int) (JO (Int × (List Int)) ((List Int) × Int))) :=
 cond (decide (s2.2.2<(((List.length s2.1):Nat):Int)))
  (grd ((0:Int)≤s2.2.2∧s2.2.2<(((List.length s2.1):Nat):Int)) (some (.next ((List.set s2.1 (Int.toNat s2.2.2) s2.2.1),(w64 (s2.2.1+(1:Int))),(w64 (s2.2.2+(1:Int)))))))
  (some (.ret (.go (s2.2.1,s2.1))))
noncomputable def F_laws_markIntS (x_a:List Int) (x_k:Int):Option ((List Int) × Int) :=
 Option.bind (Option.bind (iter (F_laws_markIntS_l2) (x_a,x_k,(0:Int))) LO.val) fun j1 =>
  JO.run j1 (F_laws_markIntS_j1)
theorem laws_markIntS_fn {x_a:List Int} {x_k:Int} {R_:(List Int) × Int} (hh:F_laws_markIntS x_a x_k=some R_):Inl Try.prog 32 [.sref 0 [] 0 (List.length x_a) 1,.int .i64 x_k] [(0,some (rI_3 x_a))] 1 (.int .i64 R_.2) [(0,some (rI_3 R_.1))] 1:=by
 let z2:EH:=(0,some (rI_3 x_a))
 unfold F_laws_markIntS at hh
 refine Inl.start low_laws_markIntS [0,1] [0] (E:=sp 19 [(0,sw 0 x_a),(1,ii x_k)]) (H1:=[z2]) kr kr (sy [0,1] [0] (sp 19 [(0,sw 0 x_a),(1,ii x_k)]) [z2] 1 ?_)
 obtain ⟨j1,hh,hk1⟩:=bind_some hh
 refine Aw.join (S:=Int × (List Int)) (fun s1=>sp 19 [(1,ii s1.1)]) (fun s1=>[(0,some (rI_3 s1.2))]) 1 (fun s1=>F_laws_markIntS_j1 s1=some R_) ?_ ?_
 · intro s1 hh
   unfold F_laws_markIntS_j1 at hh
   refine sy [4] [0] (sp 19 [(4,ii s1.1)]) [(0,some (rI_3 s1.2))] 1 (Aw.ret ?_)
   rw [some_some hh]
   exact gives (r':=ii s1.1) kr (el [some 0] (rens_1 ren_i) (hn nr_eI hs_nil))
 intro Q1 hN1 hR1 hE1
 refine sy [0,1,5] [0] (sp 19 [(0,sw 0 x_a),(1,ii x_k),(5,ii 0)]) [z2] 1 (Aw.block ?_)
 obtain ⟨o2,hi2,hk2⟩:=bind_some hh
 refine Aw.iter (fun (s2:(List Int) × Int × Int)=>sp 19 [(0,sw 0 s2.1),(1,ii s2.2.1),(5,ii s2.2.2)]) (fun (s2:(List Int) × Int × Int)=>[(0,some (rI_3 s2.1))]) 1 hi2 (el [some 0] (rens_sp kr (rs (sw 0 x_a) (ri (ri rl_n)))) (hn nr_eI hs_nil)) ?_
 intro s2 u2 Q2 hh hN2 hX2 hR2
 let z3:EH:=(0,some (rI_3 s2.1)); let z4:=(0,sw 0 s2.1); let z5:=(1,ii (w64 (s2.2.1+(1:Int)))); let z6:=(5,ii s2.2.2); let z7:=(9,bb (decide (s2.2.2<(((List.length s2.1):Nat):Int)))); let z1:=List.set s2.1 (Int.toNat s2.2.2) s2.2.1
 unfold F_laws_markIntS_l2 at hh
 refine Aw.seq (sy [0,1,5,9] [0] (sp 19 [z4,(1,ii s2.2.1),z6,z7]) [z3] 1 ?_)
 rcases cond_sf hh with ⟨hb,hh⟩ | ⟨hb,hh⟩
 · refine cF hb (Aw.exit (then_x (hX2 _ _ _ _ _ (some_some hh) ?_)))
   intro hout
   rw [hout] at hk2
   refine blk_x ?_
   obtain rfl:=some_some hk2
   exact hN1 (s2.2.1,s2.1) _ _ _ hk1 (el [some 0] (rens_sp kr (ri rl_n)) (hn nr_eI hs_nil))
 refine cT hb (Aw.xskip (fun _ _ _ hq=>then_m hq) (Aw.seq (Aw.block (Aw.sreg [0,1,5] [0] ?_))))
 obtain ⟨hg24,hh⟩:=grd_some hh
 refine yjc 4 [(0:Int)≤s2.2.2∧s2.2.2<(((List.length s2.1):Nat):Int)] (sp 19 [z4,(1,ii s2.2.1),z6,z7,(12,sw 0 s2.1),(13,ii s2.2.2),(14,ii s2.2.1),(15,.ptr 0 [] (0+(Int.toNat s2.2.2)*1))]) [z3] 1 (.cons hg24 .nil) ?_
 let q1:Root:=(rI_3 z1)
 refine ys (.store 1 (.t 15) (.t 14)) none (op_store (c:=(eI .i64)) (xs:=s2.1) (e:=3) (r:=0) (π:=[]) (o:=0+(Int.toNat s2.2.2)*1) (i:=(Int.toNat s2.2.2)) (off:=0) (vs:=[ii s2.2.1]) (y:=s2.2.1) (H':=[(0,some q1),z3]) len_eI kr kr kr kr ltn ltn dd kr kr ?_)
 exact yt (sp 19 [z4,(1,ii s2.2.1),z6]) [(0,some q1)] 1 (Aw.xreg [0,1,5] [0] (fun _ _ _ hq=>blk_m (then_m hq)) (yt (sp 19 [z4,z5,z6]) [(0,some q1)] 1 (Aw.oreg (ye (sp 19 [z4,z5,(5,ii (w64 (s2.2.2+(1:Int)))),(10,ii s2.2.2),(11,ii (w64 (s2.2.2+(1:Int))))]) [(0,some q1)] 1 (hN2 (z1,(w64 (s2.2.1+(1:Int))),(w64 (s2.2.2+(1:Int)))) _ _ _ (some_some hh) (el [some 0] (rens_sp kr (rs (sw 0 s2.1) (ri (ri rl_n)))) (hn nr_eI hs_nil)))))))
noncomputable def F_laws_heldIntS_j1  (s1:Int):Option Int :=
 some s1
noncomputable def F_laws_heldIntS_l2 (x_a:List Int) (s2:Int × Int):Option (LO (Int × Int) (JO Int Int)) :=
 cond (decide (s2.2<(((List.length x_a):Nat):Int)))
  (grd ((0:Int)≤s2.2∧s2.2<((List.length x_a:Nat):Int)) (cond (!decide ((List.getD x_a (Int.toNat s2.2) default)=s2.1))
   (some (.ret (.out (-1:Int))))
   (some (.next ((w64 (s2.1+(1:Int))),(w64 (s2.2+(1:Int))))))))
  (some (.ret (.go s2.1)))
noncomputable def F_laws_heldIntS (x_a:List Int) (x_k:Int):Option Int :=
 Option.bind (Option.bind (iter (F_laws_heldIntS_l2 x_a) (x_k,(0:Int))) LO.val) fun j1 =>
  JO.run j1 (F_laws_heldIntS_j1)
noncomputable def g33:Sg tG:=⟨[.row 3,.i .i64],.one (.i .i64),F_laws_heldIntS⟩
theorem s33:Sok 33 g33:=sgx [] trivial (.s .o (.j ⟨[],[],[(.s 1,.i .i64)]⟩ (.s .o (.k (.l ⟨[0],[],[(.s 1,.i .i64),(.s 5,.i .i64)]⟩ .o))) .o)) kr kr kr
theorem laws_heldIntS_fn {x_a:List Int} {x_k:Int} {R_:Int} (hh:F_laws_heldIntS x_a x_k=some R_):Fn Try.prog 33 [bo (eI .i64) x_a,.int .i64 x_k] (.int .i64 R_):=kc (s33 x_a x_k R_ hh)
end Go.Proofs.Ytogfcdondojfeaa
