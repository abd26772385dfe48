/- Plain functions of the program, and that it hands back what they say. Made by program. -/
import Derived.Test.YtbanbjdcgdmkaaaWT
import Derived.Test.YtbanbjdcgdmkaaaProg
import Derived.Test.YtbanbjdcgdmkaaaWI1
namespace Go.Proofs.Ytbanbjdcgdmkaaa
open Go.RowKit
set_option maxRecDepth 100000
set_option linter.all false
set_option maxHeartbeats 0
theorem low_laws_sameGuest:LW 93 ⟨62,[(.tmp 4)],(.seq (.reg false (rg 93 0)) (.seq (.seq (.reg false (rg 93 1)) (.cond (.t 43) (.seq (.reg false (rg 93 2)) .ret) .skip)) (.seq (.seq (.reg false (rg 93 3)) (.block 0 (.loop (.seq (.seq (.reg false (rg 93 4)) (.cond (.t 48) .skip (.exit 0))) (.seq (.block 1 (.seq (.reg true (rg 93 5)) (.cond (.t 61) (.seq (.reg false (rg 93 6)) .ret) .skip))) (.reg false (rg 93 7))))))) (.seq (.reg false (rg 93 9)) .ret))))⟩:=kr
noncomputable def F_laws_sameGuest_j4  (s4:Unit):Option Bool :=
 some true
noncomputable def F_laws_sameGuest_l5 (x_a:DGuest) (x_b:DGuest) (s5:Int):Option (LO Int (JO Unit Bool)) :=
 cond (decide (s5<(((List.length x_a.Pages):Nat):Int)))
  (grd ((0:Int)≤s5∧s5<((List.length x_a.Pages:Nat):Int)) (grd ((0:Int)≤s5∧s5<((List.length x_b.Pages:Nat):Int)) (cond (!(decide (((List.getD x_a.Pages (Int.toNat s5) default).Frame)=((List.getD x_b.Pages (Int.toNat s5) default).Frame)) && ((((List.getD x_a.Pages (Int.toNat s5) default).Write) == ((List.getD x_b.Pages (Int.toNat s5) default).Write)) && ((((List.getD x_a.Pages (Int.toNat s5) default).Dirty) == ((List.getD x_b.Pages (Int.toNat s5) default).Dirty)) && true))))
   (some (.ret (.out false)))
   (some (.next (w64 (s5+(1:Int))))))))
  (some (.ret (.go ())))
noncomputable def F_laws_sameGuest (x_a:DGuest) (x_b:DGuest):Option Bool :=
 cond (!(x_a.Live == x_b.Live))
  (some false)
  (Option.bind (F_laws_sameCore x_a.C x_b.C) fun v1 =>
  cond (!v1)
   (some false)
   (Option.bind (F_laws_sameInts x_a.In x_b.In) fun v2 =>
   cond (!v2)
    (some false)
    (Option.bind (F_laws_sameInts x_a.Out x_b.Out) fun v3 =>
    cond (!v3)
     (some false)
     (cond (!decide ((((List.length x_a.Pages):Nat):Int)=(((List.length x_b.Pages):Nat):Int)))
      (some false)
      (Option.bind (Option.bind (iter (F_laws_sameGuest_l5 x_a x_b) (0:Int)) LO.val) fun j4 =>
       JO.run j4 (F_laws_sameGuest_j4))))))
theorem laws_sameGuest_fn {x_a:DGuest} {x_b:DGuest} {R_:Bool} (hh:F_laws_sameGuest x_a x_b=some R_):Fn Try.prog 93 [.agg (B_55 x_a),.agg (B_55 x_b)] (.bool R_):=by
 let z3:EH:=(0,some (rB55 x_a)); let z4:EH:=(1,some (rB55 x_b)); let z5:=(2,pp 0); let z6:=(3,pp 1); let z7:=(4,bb false); let z8:=(43,bb true)
 unfold F_laws_sameGuest at hh
 refine Fn.start low_laws_sameGuest [0,1] (E:=sp 62 [(0,.agg (B_55 x_a)),(1,.agg (B_55 x_b))]) kr (v:=bb R_) (Hr:=[]) (k:=0) kr (sy [2,3] [0,1] (sp 62 [z5,z6]) [z3,z4] 2 (Aw.seq (Aw.sreg [2,3,43] [0,1] (yj 6  (sp 62 [z5,z6,(6,pp 0),(7,bb x_a.Live),(8,pp 1),(9,bb x_b.Live),(10,bb (!(x_a.Live == x_b.Live))),(11,bb (!(x_a.Live == x_b.Live)))]) [z3,z4] 2 ?_))))
 rcases cond_some hh with ⟨hb,hh⟩ | ⟨hb,hh⟩
 · exact yb 10 hb (yb 11 hb (yt (sp 62 [z5,z6,z8]) [z3,z4] 2 (cT rfl (sy [4] [] (sp 62 [z7]) [] 2 (Aw.ret (then_r (gvbs hh)))))))
 refine yb 10 hb (yb 11 hb (yu 4 [(10,bb false),(11,bb false),(12,.ptr 0 [] 1),(13,.agg (B_25 x_a.C)),(14,.ptr 1 [] 1),(15,.agg (B_25 x_b.C))] [z3,z4] 2 ?_))
 obtain ⟨v1,hv1,hh⟩:=bind_some hh
 refine yg (.call 56 [(.t 13),(.t 15)]) (some 16) 11 false (op_call (r:=bb v1) (v:=bb v1) (Hr:=[]) (n':=2) (laws_sameCore_fn hv1) (clz_v (vs:=[.agg (B_25 x_a.C),.agg (B_25 x_b.C)]) kr (clz_c (clo_same (clean_agg (cl_B_25 _))) (clz_c (clo_same (clean_agg (cl_B_25 _))) clz_n))) rfl rfl kr ?_)
 refine yu 3 [(16,bb v1),(17,bb (!v1)),(18,bb (!v1)),(19,bb (!v1))] [z3,z4] 2 ?_
 rcases cond_some hh with ⟨hb,hh⟩ | ⟨hb,hh⟩
 · exact yb 17 hb (yb 18 hb (yb 19 hb (yt (sp 62 [z5,z6,z8]) [z3,z4] 2 (cT rfl (sy [4] [] (sp 62 [z7]) [] 2 (Aw.ret (then_r (gvbs hh))))))))
 refine yb 17 hb (yb 18 hb (yb 19 hb (yu 4 [(17,bb false),(18,bb false),(19,bb false),(20,.ptr 0 [] 15),(21,bo (eI .i64) x_a.In),(22,.ptr 1 [] 15),(23,bo (eI .i64) x_b.In)] [z3,z4] 2 ?_)))
 obtain ⟨v2,hv2,hh⟩:=bind_some hh
 refine yg (.call 17 [(.t 21),(.t 23)]) (some 24) 19 false (oc (laws_sameInts_fn hv2) ?_)
 refine yu 3 [(24,bb v2),(25,bb (!v2)),(26,bb (!v2)),(27,bb (!v2))] [z3,z4] 2 ?_
 rcases cond_some hh with ⟨hb,hh⟩ | ⟨hb,hh⟩
 · exact yb 25 hb (yb 26 hb (yb 27 hb (yt (sp 62 [z5,z6,z8]) [z3,z4] 2 (cT rfl (sy [4] [] (sp 62 [z7]) [] 2 (Aw.ret (then_r (gvbs hh))))))))
 refine yb 25 hb (yb 26 hb (yb 27 hb (yu 4 [(25,bb false),(26,bb false),(27,bb false),(28,.ptr 0 [] 16),(29,bo (eI .i64) x_a.Out),(30,.ptr 1 [] 16),(31,bo (eI .i64) x_b.Out)] [z3,z4] 2 ?_)))
 obtain ⟨v3,hv3,hh⟩:=bind_some hh
 refine yg (.call 17 [(.t 29),(.t 31)]) (some 32) 27 false (oc (laws_sameInts_fn hv3) ?_)
 refine yu 3 [(32,bb v3),(33,bb (!v3)),(34,bb (!v3)),(35,bb (!v3))] [z3,z4] 2 ?_
 rcases cond_some hh with ⟨hb,hh⟩ | ⟨hb,hh⟩
 · exact yb 33 hb (yb 34 hb (yb 35 hb (yt (sp 62 [z5,z6,z8]) [z3,z4] 2 (cT rfl (sy [4] [] (sp 62 [z7]) [] 2 (Aw.ret (then_r (gvbs hh))))))))
 refine yb 33 hb (yb 34 hb (yb 35 hb (yt (sp 62 [z5,z6,(43,bb (!decide ((((List.length x_a.Pages):Nat):Int)=(((List.length x_b.Pages):Nat):Int))))]) [z3,z4] 2 ?_)))
 rcases cond_some hh with ⟨hb,hh⟩ | ⟨hb,hh⟩
 · exact cT hb (sy [4] [] (sp 62 [z7]) [] 2 (Aw.ret (then_r (gvbs hh))))
 refine cF hb (Aw.xskip (fun _ _ _ hq=>then_m hq) ?_)
 obtain ⟨j4,hh,hk4⟩:=bind_some hh
 refine Aw.join (S:=Unit) (fun s4=>sp 62 []) (fun s4=>[]) 0 (fun s4=>F_laws_sameGuest_j4 s4=some R_) ?_ ?_
 · intro s4 hh
   unfold F_laws_sameGuest_j4 at hh
   exact sy [4] [] (sp 62 [(4,bb true)]) [] 0 (Aw.ret (gvbs hh))
 intro Q4 hN4 hR4 hE4
 refine sy [2,3,5] [0,1] (sp 62 [z5,z6,(5,ii 0)]) [z3,z4] 2 (Aw.block ?_)
 obtain ⟨o5,hi5,hk5⟩:=bind_some hh
 refine Aw.iter (fun (s5:Int)=>sp 62 [(2,pp 0),(3,pp 1),(5,ii s5)]) (fun (s5:Int)=>[(0,some (rB55 x_a)),(1,some (rB55 x_b))]) 2 hi5 (el [some 0,some 1] (rens_sp kr (rp 0 (rp 1 (ri rl_n)))) (hq (rB55 x_a) (rens_same (nr_B_55 _)) (hq (rB55 x_b) (rens_same (nr_B_55 _)) hs_nil))) ?_
 intro s5 u5 Q5 hh hN5 hX5 hR5
 let z9:=(48,bb (decide (s5<(((List.length x_a.Pages):Nat):Int)))); let z1:=List.getD x_a.Pages (Int.toNat s5) default; let z2:=List.getD x_b.Pages (Int.toNat s5) default; let z10:=(61,bb (!(decide ((z1.Frame)=(z2.Frame)) && (((z1.Write) == (z2.Write)) && (((z1.Dirty) == (z2.Dirty)) && true)))))
 unfold F_laws_sameGuest_l5 at hh
 refine Aw.seq (sy [2,3,5,48] [0,1] (sp 62 [z5,z6,(5,ii s5),z9]) [z3,z4] 2 ?_)
 rcases cond_sf hh with ⟨hb,hh⟩ | ⟨hb,hh⟩
 · refine cF hb (Aw.exit (then_x (hX5 _ _ _ _ _ (some_some hh) ?_)))
   intro hout
   rw [hout] at hk5
   refine blk_x ?_
   obtain rfl:=some_some hk5
   exact hN4 () _ _ _ hk4 (el [] (rens_sp kr rl_n) hs_nil)
 refine cT hb (Aw.xskip (fun _ _ _ hq=>then_m hq) (Aw.seq (Aw.block (Aw.sregq [2,3,5,61] (qc (cs:=[]) (E':=(sp 62 [z5,z6,(5,ii s5),z9,(51,.ptr 0 [] 14),(52,bo C_52 x_a.Pages),(53,ii s5)])) (pre:=(List.take 3 (rg 93 5))) (L':=(List.drop 3 (rg 93 5))) kr (fun K=>by kernel_rfl) .nil ?_)))))
 obtain ⟨hg47,hh⟩:=grd_some hh
 refine qs (.iadr 3 (.t 52) (.t 53)) (some 54) (yq_q rfl (op_iadr (kd:=.i64) (c:=C_52) (xs:=x_a.Pages) len_C_52 dd kr kr hg47 ?_))
 refine qs (.load true 3 (.t 54)) (some 55) (yq_q rfl (op_loadbA (c:=C_52) (xs:=x_a.Pages) (o:=Int.toNat s5*3) (i:=(Int.toNat s5)) (off:=0) (v:=.agg [ii (z1.Frame),bb (z1.Write),bb (z1.Dirty)]) len_C_52 kr ltn ltn dd kr ?_))
 refine qc (cs:=[]) (E':=(sp 62 [z5,z6,(5,ii s5),z9,(51,.ptr 0 [] 14),(52,bo C_52 x_a.Pages),(53,ii s5),(54,.bptr (fl C_52 x_a.Pages) (Int.toNat s5*3)),(55,.agg [ii (z1.Frame),bb (z1.Write),bb (z1.Dirty)]),(56,.ptr 1 [] 14),(57,bo C_52 x_b.Pages),(58,ii s5)])) (pre:=(List.take 3 (List.drop 5 (rg 93 5)))) (L':=(List.drop 8 (rg 93 5))) kr (fun K=>by kernel_rfl) .nil ?_
 obtain ⟨hg48,hh⟩:=grd_some hh
 refine qs (.iadr 3 (.t 57) (.t 58)) (some 59) (yq_q rfl (op_iadr (kd:=.i64) (c:=C_52) (xs:=x_b.Pages) len_C_52 dd kr kr hg48 ?_))
 refine qs (.load true 3 (.t 59)) (some 60) (yq_q rfl (op_loadbA (c:=C_52) (xs:=x_b.Pages) (o:=Int.toNat s5*3) (i:=(Int.toNat s5)) (off:=0) (v:=.agg [ii (z2.Frame),bb (z2.Write),bb (z2.Dirty)]) len_C_52 kr ltn ltn dd kr ?_))
 refine qct (cs:=[]) (E':=(sp 62 [z5,z6,(5,ii s5),z10])) (fun K=>by kernel_rfl) .nil ?_
 rcases cond_some hh with ⟨hb,hh⟩ | ⟨hb,hh⟩
 · refine cT hb (sy [4] [] (sp 62 [z7]) [] 2 (Aw.ret (blk_r (then_r ?_))))
   refine hR5 _ _ _ _ (some_some hh) ?_
   intro hout
   rw [hout] at hk5
   refine blk_r ?_
   obtain rfl:=some_some hk5
   refine hR4 _ _ _ ?_
   rw [some_some hk4]
   exact gvb
 exact cF hb (Aw.xskip (fun _ _ _ hq=>blk_m (then_m hq)) (Aw.oreg (ye (sp 62 [z5,z6,(5,ii (w64 (s5+(1:Int)))),(49,ii s5),(50,ii (w64 (s5+(1:Int)))),z10]) [z3,z4] 2 (hN5 (w64 (s5+(1:Int))) _ _ _ (some_some hh) (el [some 0,some 1] (rens_sp kr (rp 0 (rp 1 (ri rl_n)))) (hq (rB55 x_a) (rens_same (nr_B_55 _)) (hq (rB55 x_b) (rens_same (nr_B_55 _)) hs_nil)))))))
theorem low_laws_sameHost:LW 31 ⟨40,[(.tmp 4)],(.seq (.reg false (rg 31 0)) (.seq (.seq (.reg false (rg 31 1)) (.cond (.t 20) (.seq (.reg false (rg 31 2)) .ret) .skip)) (.seq (.seq (.reg false (rg 31 3)) (.block 0 (.loop (.seq (.seq (.reg false (rg 31 4)) (.cond (.t 25) .skip (.exit 0))) (.seq (.block 1 (.seq (.regd (rg 31 5) (rg 31 6)) (.cond (.t 39) (.seq (.reg false (rg 31 7)) .ret) .skip))) (.reg false (rg 31 8))))))) (.seq (.reg false (rg 31 10)) .ret))))⟩:=kr
noncomputable def F_laws_sameHost_j2  (s2:Unit):Option Bool :=
 some true
noncomputable def F_laws_sameHost_l3 (x_a:DHost) (x_b:DHost) (s3:Int):Option (LO Int (JO Unit Bool)) :=
 cond (decide (s3<(((List.length x_a.Guests):Nat):Int)))
  (grd ((0:Int)≤s3∧s3<((List.length x_a.Guests:Nat):Int)) (grd ((0:Int)≤s3∧s3<((List.length x_b.Guests:Nat):Int)) (Option.bind (F_laws_sameGuest (DGuest.mk ((List.getD x_a.Guests (Int.toNat s3) default).Live) (DCore.mk (((List.getD x_a.Guests (Int.toNat s3) default).C).Regs) (((List.getD x_a.Guests (Int.toNat s3) default).C).Pc) (((List.getD x_a.Guests (Int.toNat s3) default).C).Root) (((List.getD x_a.Guests (Int.toNat s3) default).C).Vector) (((List.getD x_a.Guests (Int.toNat s3) default).C).Saved) (((List.getD x_a.Guests (Int.toNat s3) default).C).SavedUser) (((List.getD x_a.Guests (Int.toNat s3) default).C).Cause) (((List.getD x_a.Guests (Int.toNat s3) default).C).Bad) (((List.getD x_a.Guests (Int.toNat s3) default).C).Timer) (((List.getD x_a.Guests (Int.toNat s3) default).C).Waits) (((List.getD x_a.Guests (Int.toNat s3) default).C).User) (((List.getD x_a.Guests (Int.toNat s3) default).C).On) (((List.getD x_a.Guests (Int.toNat s3) default).C).Stopped)) ((List.getD x_a.Guests (Int.toNat s3) default).Pages) ((List.getD x_a.Guests (Int.toNat s3) default).In) ((List.getD x_a.Guests (Int.toNat s3) default).Out)) (DGuest.mk ((List.getD x_b.Guests (Int.toNat s3) default).Live) (DCore.mk (((List.getD x_b.Guests (Int.toNat s3) default).C).Regs) (((List.getD x_b.Guests (Int.toNat s3) default).C).Pc) (((List.getD x_b.Guests (Int.toNat s3) default).C).Root) (((List.getD x_b.Guests (Int.toNat s3) default).C).Vector) (((List.getD x_b.Guests (Int.toNat s3) default).C).Saved) (((List.getD x_b.Guests (Int.toNat s3) default).C).SavedUser) (((List.getD x_b.Guests (Int.toNat s3) default).C).Cause) (((List.getD x_b.Guests (Int.toNat s3) default).C).Bad) (((List.getD x_b.Guests (Int.toNat s3) default).C).Timer) (((List.getD x_b.Guests (Int.toNat s3) default).C).Waits) (((List.getD x_b.Guests (Int.toNat s3) default).C).User) (((List.getD x_b.Guests (Int.toNat s3) default).C).On) (((List.getD x_b.Guests (Int.toNat s3) default).C).Stopped)) ((List.getD x_b.Guests (Int.toNat s3) default).Pages) ((List.getD x_b.Guests (Int.toNat s3) default).In) ((List.getD x_b.Guests (Int.toNat s3) default).Out))) fun v4 =>
   cond (!v4)
    (some (.ret (.out false)))
    (some (.next (w64 (s3+(1:Int))))))))
  (some (.ret (.go ())))
noncomputable def F_laws_sameHost (x_a:DHost) (x_b:DHost):Option Bool :=
 Option.bind (F_laws_sameInts x_a.Words x_b.Words) fun v1 =>
 cond (!v1)
  (some false)
  (cond (!decide ((((List.length x_a.Guests):Nat):Int)=(((List.length x_b.Guests):Nat):Int)))
   (some false)
   (Option.bind (Option.bind (iter (F_laws_sameHost_l3 x_a x_b) (0:Int)) LO.val) fun j2 =>
    JO.run j2 (F_laws_sameHost_j2)))
theorem laws_sameHost_fn {x_a:DHost} {x_b:DHost} {R_:Bool} (hh:F_laws_sameHost x_a x_b=some R_):Fn Try.prog 31 [.agg [bo (eI .i64) x_a.Words,bo B_55 x_a.Guests],.agg [bo (eI .i64) x_b.Words,bo B_55 x_b.Guests]] (.bool R_):=by
 let z3:=(2,pp 0); let z4:=(29,bo B_55 x_a.Guests); let z5:=(3,pp 1)
 unfold F_laws_sameHost at hh
 refine Fn.start low_laws_sameHost [0,1] (E:=sp 40 [(0,.agg (B_41 x_a)),(1,.agg (B_41 x_b))]) kr (v:=bb R_) (Hr:=[]) (k:=0) kr (Aw.sreg [2,3] [0,1] ?_)
 let q1:Root:=⟨41,[bo (eI .i64) x_a.Words,bo B_55 x_a.Guests]⟩; let z6:=(0,some q1); let q2:Root:=⟨41,[bo (eI .i64) x_b.Words,bo B_55 x_b.Guests]⟩; let z7:=(1,some q2)
 refine yt (sp 40 [z3,z5]) [z6,z7] 2 (Aw.seq (Aw.sreg [2,3,20] [0,1] (yj 4  (sp 40 [z3,z5,(6,pp 0),(7,bo (eI .i64) x_a.Words),(8,pp 1),(9,bo (eI .i64) x_b.Words)]) [z6,z7] 2 ?_)))
 obtain ⟨v1,hv1,hh⟩:=bind_some hh
 refine ys (.call 17 [(.t 7),(.t 9)]) (some 10) (oc (laws_sameInts_fn hv1) ?_)
 refine yu 2 [(10,bb v1),(11,bb (!v1)),(12,bb (!v1))] [z6,z7] 2 ?_
 rcases cond_some hh with ⟨hb,hh⟩ | ⟨hb,hh⟩
 · exact yb 11 hb (yb 12 hb (yt (sp 40 [z3,z5,(20,bb true)]) [(0,some (rB41 x_a)),(1,some (rB41 x_b))] 2 (cT rfl (sy [4] [] (sp 40 [(4,bb false)]) [] 2 (Aw.ret (then_r (gvbs hh)))))))
 refine yb 11 hb (yb 12 hb (yt (sp 40 [z3,z5,(20,bb (!decide ((((List.length x_a.Guests):Nat):Int)=(((List.length x_b.Guests):Nat):Int))))]) [z6,z7] 2 ?_))
 rcases cond_some hh with ⟨hb,hh⟩ | ⟨hb,hh⟩
 · exact cT hb (sy [4] [] (sp 40 [(4,bb false)]) [] 2 (Aw.ret (then_r (gvbs hh))))
 refine cF hb (Aw.xskip (fun _ _ _ hq=>then_m hq) ?_)
 obtain ⟨j2,hh,hk2⟩:=bind_some hh
 refine Aw.join (S:=Unit) (fun s2=>sp 40 []) (fun s2=>[]) 0 (fun s2=>F_laws_sameHost_j2 s2=some R_) ?_ ?_
 · intro s2 hh
   unfold F_laws_sameHost_j2 at hh
   exact sy [4] [] (sp 40 [(4,bb true)]) [] 0 (Aw.ret (gvbs hh))
 intro Q2 hN2 hR2 hE2
 refine sy [2,3,5] [0,1] (sp 40 [z3,z5,(5,ii 0)]) [z6,z7] 2 (Aw.block ?_)
 obtain ⟨o3,hi3,hk3⟩:=bind_some hh
 refine Aw.iter (fun (s3:Int)=>sp 40 [(2,pp 0),(3,pp 1),(5,ii s3)]) (fun (s3:Int)=>[(0,some ⟨41,[bo (eI .i64) x_a.Words,bo B_55 x_a.Guests]⟩),(1,some ⟨41,[bo (eI .i64) x_b.Words,bo B_55 x_b.Guests]⟩)]) 2 hi3 (el [some 0,some 1] (rens_sp kr (rp 0 (rp 1 (ri rl_n)))) (hq q1 rz (hq q2 rz hs_nil))) ?_
 intro s3 u3 Q3 hh hN3 hX3 hR3
 let z8:=(25,bb (decide (s3<(((List.length x_a.Guests):Nat):Int)))); let z9:EV:=(31,.bptr (fl B_55 x_a.Guests) (Int.toNat s3*17)); let z1:=List.getD x_a.Guests (Int.toNat s3) default; let z2:=List.getD x_b.Guests (Int.toNat s3) default
 unfold F_laws_sameHost_l3 at hh
 refine Aw.seq (sy [2,3,5,25] [0,1] (sp 40 [z3,z5,(5,ii s3),z8]) [z6,z7] 2 ?_)
 rcases cond_sf hh with ⟨hb,hh⟩ | ⟨hb,hh⟩
 · refine cF hb (Aw.exit (then_x (hX3 _ _ _ _ _ (some_some hh) ?_)))
   intro hout
   rw [hout] at hk3
   refine blk_x ?_
   obtain rfl:=some_some hk3
   exact hN2 () _ _ _ hk2 (el [] (rens_sp kr rl_n) hs_nil)
 refine cT hb (Aw.xskip (fun _ _ _ hq=>then_m hq) (Aw.seq (Aw.block (Aw.sregd [2,3,5,39] [0,1] [] kr (dj 3 (sp 40 [z3,z5,(5,ii s3),z8,(28,.ptr 0 [] 1),z4,(30,ii s3)]) [z6,z7] 2 ?_)))))
 obtain ⟨hg47,hh⟩:=grd_some hh
 refine ds (.iadr 17 (.t 29) (.t 30)) (some 31) (ydo_q rfl kr (op_iadr (kd:=.i64) (c:=B_55) (xs:=x_a.Guests) len_B_55 dd kr kr hg47 ?_))
 refine ds (.load true 17 (.t 31)) (some 32) (ydo_q rfl kr (op_loadbA (c:=B_55) (xs:=x_a.Guests) (o:=Int.toNat s3*17) (i:=(Int.toNat s3)) (off:=0) (v:=.agg (B_55 z1)) len_B_55 kr ltn ltn dd kr ?_))
 refine dj 3 (sp 40 [z3,z5,(5,ii s3),z8,(28,.ptr 0 [] 1),z4,(30,ii s3),z9,(32,.agg (B_55 z1)),(33,.ptr 1 [] 1),(34,bo B_55 x_b.Guests),(35,ii s3)]) [z6,z7] 2 ?_
 obtain ⟨hg48,hh⟩:=grd_some hh
 refine ds (.iadr 17 (.t 34) (.t 35)) (some 36) (ydo_q rfl kr (op_iadr (kd:=.i64) (c:=B_55) (xs:=x_b.Guests) len_B_55 dd kr kr hg48 ?_))
 refine ds (.load true 17 (.t 36)) (some 37) (ydo_q rfl kr (op_loadbA (c:=B_55) (xs:=x_b.Guests) (o:=Int.toNat s3*17) (i:=(Int.toNat s3)) (off:=0) (v:=.agg (B_55 z2)) len_B_55 kr ltn ltn dd kr ?_))
 refine dt (sp 40 [z3,z5,(5,ii s3),z8,(28,.ptr 0 [] 1),z4,(30,ii s3),z9,(32,.agg (B_55 z1)),(33,.ptr 1 [] 1),(34,bo B_55 x_b.Guests),(35,ii s3),(36,.bptr (fl B_55 x_b.Guests) (Int.toNat s3*17)),(37,.agg (B_55 z2))]) [z6,z7] 2 ?_
 obtain ⟨v4,hv4,hh⟩:=bind_some hh
 refine ys (.call 93 [(.t 32),(.t 37)]) (some 38) (op_call (r:=bb v4) (v:=bb v4) (Hr:=[]) (n':=2) (laws_sameGuest_fn hv4) (clz_v (vs:=[.agg (B_55 z1),.agg (B_55 z2)]) kr (clz_c (clo_agg cz) (clz_c (clo_agg cz) clz_n))) rfl rfl kr ?_)
 refine yt (sp 40 [z3,z5,(5,ii s3),(39,bb (!v4))]) [z6,z7] 2 ?_
 rcases cond_some hh with ⟨hb,hh⟩ | ⟨hb,hh⟩
 · refine cT hb (sy [4] [] (sp 40 [(4,bb false)]) [] 2 (Aw.ret (blk_r (then_r ?_))))
   refine hR3 _ _ _ _ (some_some hh) ?_
   intro hout
   rw [hout] at hk3
   refine blk_r ?_
   obtain rfl:=some_some hk3
   refine hR2 _ _ _ ?_
   rw [some_some hk2]
   exact gvb
 exact cF hb (Aw.xskip (fun _ _ _ hq=>blk_m (then_m hq)) (Aw.oreg (ye (sp 40 [z3,z5,(5,ii (w64 (s3+(1:Int)))),(26,ii s3),(27,ii (w64 (s3+(1:Int)))),(39,bb (!v4))]) [z6,z7] 2 (hN3 (w64 (s3+(1:Int))) _ _ _ (some_some hh) (el [some 0,some 1] (rens_sp kr (rp 0 (rp 1 (ri rl_n)))) (hq q1 rz (hq q2 rz hs_nil)))))))
end Go.Proofs.Ytbanbjdcgdmkaaa
