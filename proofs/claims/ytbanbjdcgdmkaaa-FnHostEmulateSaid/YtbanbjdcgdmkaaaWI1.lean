/- Plain functions of the program, and that it hands back what they say. Made by program. -/
import Derived.Test.YtbanbjdcgdmkaaaWT
import Derived.Test.YtbanbjdcgdmkaaaProg
namespace Go.Proofs.Ytbanbjdcgdmkaaa
open Go.RowKit
set_option maxRecDepth 100000
set_option linter.all false
set_option maxHeartbeats 0
theorem low_laws_sameInts:LW 17 ⟨26,[(.tmp 4)],(.seq (.reg false (rg 17 0)) (.seq (.seq (.reg false (rg 17 1)) (.cond (.t 10) (.seq (.reg false (rg 17 2)) .ret) .skip)) (.seq (.seq (.reg false (rg 17 3)) (.block 0 (.loop (.seq (.seq (.reg false (rg 17 4)) (.cond (.t 14) .skip (.exit 0))) (.seq (.block 1 (.seq (.reg true (rg 17 5)) (.cond (.t 25) (.seq (.reg false (rg 17 6)) .ret) .skip))) (.reg false (rg 17 7))))))) (.seq (.reg false (rg 17 9)) .ret))))⟩:=kr
noncomputable def F_laws_sameInts_j1  (s1:Unit):Option Bool :=
 some true
noncomputable def F_laws_sameInts_l2 (x_a:List Int) (x_b:List Int) (s2:Int):Option (LO Int (JO Unit Bool)) :=
 cond (decide (s2<(((List.length x_a):Nat):Int)))
  (grd ((0:Int)≤s2∧s2<((List.length x_a:Nat):Int)) (grd ((0:Int)≤s2∧s2<((List.length x_b:Nat):Int)) (cond (!decide ((List.getD x_a (Int.toNat s2) default)=(List.getD x_b (Int.toNat s2) default)))
   (some (.ret (.out false)))
   (some (.next (w64 (s2+(1:Int))))))))
  (some (.ret (.go ())))
noncomputable def F_laws_sameInts (x_a:List Int) (x_b:List Int):Option Bool :=
 cond (!decide ((((List.length x_a):Nat):Int)=(((List.length x_b):Nat):Int)))
  (some false)
  (Option.bind (Option.bind (iter (F_laws_sameInts_l2 x_a x_b) (0:Int)) LO.val) fun j1 =>
   JO.run j1 (F_laws_sameInts_j1))
theorem laws_sameInts_fn {x_a:List Int} {x_b:List Int} {R_:Bool} (hh:F_laws_sameInts x_a x_b=some R_):Fn Try.prog 17 [bo (eI .i64) x_a,bo (eI .i64) x_b] (.bool R_):=by
 let z3:=(0,bo (eI .i64) x_a); let z4:=(1,bo (eI .i64) x_b)
 unfold F_laws_sameInts at hh
 refine Fn.start low_laws_sameInts [0,1] (E:=sp 26 [z3,z4]) kr (v:=bb R_) (Hr:=[]) (k:=0) kr (sy [0,1] [] (sp 26 [z3,z4]) [] 0 (Aw.seq (sy [0,1,10] [] (sp 26 [z3,z4,(10,bb (!decide ((((List.length x_a):Nat):Int)=(((List.length x_b):Nat):Int))))]) [] 0 ?_)))
 rcases cond_some hh with ⟨hb,hh⟩ | ⟨hb,hh⟩
 · exact cT hb (sy [4] [] (sp 26 [(4,bb false)]) [] 0 (Aw.ret (then_r (gvbs hh))))
 refine cF hb (Aw.xskip (fun _ _ _ hq=>then_m hq) ?_)
 obtain ⟨j1,hh,hk1⟩:=bind_some hh
 refine Aw.join (S:=Unit) (fun s1=>sp 26 []) (fun s1=>[]) 0 (fun s1=>F_laws_sameInts_j1 s1=some R_) ?_ ?_
 · intro s1 hh
   unfold F_laws_sameInts_j1 at hh
   exact sy [4] [] (sp 26 [(4,bb true)]) [] 0 (Aw.ret (gvbs hh))
 intro Q1 hN1 hR1 hE1
 refine sy [0,1,5] [] (sp 26 [z3,z4,(5,ii 0)]) [] 0 (Aw.block ?_)
 obtain ⟨o2,hi2,hk2⟩:=bind_some hh
 refine Aw.iter (fun (s2:Int)=>sp 26 [(0,bo (eI .i64) x_a),(1,bo (eI .i64) x_b),(5,ii s2)]) (fun (s2:Int)=>[]) 0 hi2 (el [] (rens_sp kr (ro nr_eI (ro nr_eI (ri rl_n)))) hs_nil) ?_
 intro s2 u2 Q2 hh hN2 hX2 hR2
 let z5:=(14,bb (decide (s2<(((List.length x_a):Nat):Int)))); let z1:=List.getD x_a (Int.toNat s2) default; let z2:=List.getD x_b (Int.toNat s2) default
 unfold F_laws_sameInts_l2 at hh
 refine Aw.seq (sy [0,1,5,14] [] (sp 26 [z3,z4,(5,ii s2),z5]) [] 0 ?_)
 rcases cond_sf hh with ⟨hb,hh⟩ | ⟨hb,hh⟩
 · refine cF hb (Aw.exit (then_x (hX2 _ _ _ _ _ (some_some hh) ?_)))
   intro hout
   rw [hout] at hk2
   refine blk_x ?_
   obtain rfl:=some_some hk2
   exact hN1 () _ _ _ hk1 (el [] (rens_sp kr rl_n) hs_nil)
 refine cT hb (Aw.xskip (fun _ _ _ hq=>then_m hq) (Aw.seq (Aw.block (Aw.sregq [0,1,5,25] (qc (cs:=[]) (E':=(sp 26 [z3,z4,(5,ii s2),z5,(17,bo (eI .i64) x_a),(18,ii s2)])) (pre:=(List.take 2 (rg 17 5))) (L':=(List.drop 2 (rg 17 5))) kr (fun K=>by kernel_rfl) .nil ?_)))))
 obtain ⟨hg47,hh⟩:=grd_some hh
 refine qs (.iadr 1 (.t 17) (.t 18)) (some 19) (yq_q rfl (op_iadr (kd:=.i64) (c:=(eI .i64)) (xs:=x_a) len_eI dd kr kr hg47 ?_))
 refine qs (.load false 1 (.t 19)) (some 20) (yq_q rfl (op_loadb (c:=(eI .i64)) (xs:=x_a) (o:=Int.toNat s2*1) (i:=(Int.toNat s2)) (off:=0) (v:=ii z1) len_eI kr ltn ltn dd kr ?_))
 refine qc (cs:=[]) (E':=(sp 26 [z3,z4,(5,ii s2),z5,(17,bo (eI .i64) x_a),(18,ii s2),(19,.bptr (fl (eI .i64) x_a) (Int.toNat s2*1)),(20,ii z1),(21,bo (eI .i64) x_b),(22,ii s2)])) (pre:=(List.take 2 (List.drop 4 (rg 17 5)))) (L':=(List.drop 6 (rg 17 5))) kr (fun K=>by kernel_rfl) .nil ?_
 obtain ⟨hg48,hh⟩:=grd_some hh
 refine qs (.iadr 1 (.t 21) (.t 22)) (some 23) (yq_q rfl (op_iadr (kd:=.i64) (c:=(eI .i64)) (xs:=x_b) len_eI dd kr kr hg48 ?_))
 refine qs (.load false 1 (.t 23)) (some 24) (yq_q rfl (op_loadb (c:=(eI .i64)) (xs:=x_b) (o:=Int.toNat s2*1) (i:=(Int.toNat s2)) (off:=0) (v:=ii z2) len_eI kr ltn ltn dd kr ?_))
 refine qct (cs:=[]) (E':=(sp 26 [z3,z4,(5,ii s2),(25,bb (!decide (z1=z2)))])) (fun K=>by kernel_rfl) .nil ?_
 rcases cond_some hh with ⟨hb,hh⟩ | ⟨hb,hh⟩
 · refine cT hb (sy [4] [] (sp 26 [(4,bb false)]) [] 0 (Aw.ret (blk_r (then_r ?_))))
   refine hR2 _ _ _ _ (some_some hh) ?_
   intro hout
   rw [hout] at hk2
   refine blk_r ?_
   obtain rfl:=some_some hk2
   refine hR1 _ _ _ ?_
   rw [some_some hk1]
   exact gvb
 exact cF hb (Aw.xskip (fun _ _ _ hq=>blk_m (then_m hq)) (Aw.oreg (ye (sp 26 [z3,z4,(5,ii (w64 (s2+(1:Int)))),(15,ii s2),(16,ii (w64 (s2+(1:Int)))),(25,bb (!decide (z1=z2)))]) [] 0 (hN2 (w64 (s2+(1:Int))) _ _ _ (some_some hh) (el [] (rens_sp kr (ro nr_eI (ro nr_eI (ri rl_n)))) hs_nil)))))
theorem low_laws_sameCore:LW 56 ⟨93,[(.tmp 4)],(.seq (.reg false (rg 56 0)) (.seq (.seq (.reg false (rg 56 1)) (.cond (.t 45) (.seq (.reg false (rg 56 2)) .ret) .skip)) (.seq (.reg false (rg 56 3)) .ret)))⟩:=kr
noncomputable def F_laws_sameCore (x_a:DCore) (x_b:DCore):Option Bool :=
 Option.bind (F_laws_sameInts x_a.Regs x_b.Regs) fun v1 =>
 cond (!v1)
  (some false)
  (cond (!decide (x_a.Pc=x_b.Pc))
   (some false)
   (cond (!decide (x_a.Root=x_b.Root))
    (some false)
    (cond (!decide (x_a.Vector=x_b.Vector))
     (some false)
     (cond (!decide (x_a.Saved=x_b.Saved))
      (some false)
      (cond (!(x_a.SavedUser == x_b.SavedUser))
       (some false)
       (cond (decide (x_a.Cause=x_b.Cause))
        (cond (decide (x_a.Bad=x_b.Bad))
         (cond (decide (x_a.Timer=x_b.Timer))
          (cond (x_a.Waits == x_b.Waits)
           (cond (x_a.User == x_b.User)
            (cond (x_a.On == x_b.On)
             (some (x_a.Stopped == x_b.Stopped))
             (some false))
            (some false))
           (some false))
          (some false))
         (some false))
        (some false)))))))
theorem laws_sameCore_fn {x_a:DCore} {x_b:DCore} {R_:Bool} (hh:F_laws_sameCore x_a x_b=some R_):Fn Try.prog 56 [.agg (B_25 x_a),.agg (B_25 x_b)] (.bool R_):=by
 let z1:EH:=(0,some (rB25 x_a)); let z2:EH:=(1,some (rB25 x_b)); let z3:=(2,pp 0); let z4:=(3,pp 1); let z5:=(4,bb false); let z6:=(45,bb (!(x_a.SavedUser == x_b.SavedUser))); let z7:=(45,bb true)
 unfold F_laws_sameCore at hh
 refine Fn.start low_laws_sameCore [0,1] (E:=sp 93 [(0,.agg (B_25 x_a)),(1,.agg (B_25 x_b))]) kr (v:=bb R_) (Hr:=[]) (k:=0) kr (sy [2,3] [0,1] (sp 93 [z3,z4]) [z1,z2] 2 (Aw.seq (Aw.sreg [2,3,45] [0,1] (yj 4  (sp 93 [z3,z4,(5,pp 0),(6,bo (eI .i64) x_a.Regs),(7,pp 1),(8,bo (eI .i64) x_b.Regs)]) [z1,z2] 2 ?_))))
 obtain ⟨v1,hv1,hh⟩:=bind_some hh
 refine ys (.call 17 [(.t 6),(.t 8)]) (some 9) (oc (laws_sameInts_fn hv1) ?_)
 refine yu 2 [(9,bb v1),(10,bb (!v1)),(11,bb (!v1))] [z1,z2] 2 ?_
 rcases cond_some hh with ⟨hb,hh⟩ | ⟨hb,hh⟩
 · exact yb 10 hb (yb 11 hb (yt (sp 93 [z3,z4,z7]) [z1,z2] 2 (cT rfl (sy [4] [] (sp 93 [z5]) [] 2 (Aw.ret (then_r (gvbs hh)))))))
 refine yb 10 hb (yb 11 hb (yu 7 [(10,bb false),(11,bb false),(12,.ptr 0 [] 1),(13,ii x_a.Pc),(14,.ptr 1 [] 1),(15,ii x_b.Pc),(16,bb (!decide (x_a.Pc=x_b.Pc))),(17,bb (!decide (x_a.Pc=x_b.Pc))),(18,bb (!decide (x_a.Pc=x_b.Pc)))] [z1,z2] 2 ?_))
 rcases cond_some hh with ⟨hb,hh⟩ | ⟨hb,hh⟩
 · exact yb 16 hb (yb 17 hb (yb 18 hb (yt (sp 93 [z3,z4,z7]) [z1,z2] 2 (cT rfl (sy [4] [] (sp 93 [z5]) [] 2 (Aw.ret (then_r (gvbs hh))))))))
 refine yb 16 hb (yb 17 hb (yb 18 hb (yu 7 [(16,bb false),(17,bb false),(18,bb false),(19,.ptr 0 [] 2),(20,ii x_a.Root),(21,.ptr 1 [] 2),(22,ii x_b.Root),(23,bb (!decide (x_a.Root=x_b.Root))),(24,bb (!decide (x_a.Root=x_b.Root))),(25,bb (!decide (x_a.Root=x_b.Root)))] [z1,z2] 2 ?_)))
 rcases cond_some hh with ⟨hb,hh⟩ | ⟨hb,hh⟩
 · exact yb 23 hb (yb 24 hb (yb 25 hb (yt (sp 93 [z3,z4,z7]) [z1,z2] 2 (cT rfl (sy [4] [] (sp 93 [z5]) [] 2 (Aw.ret (then_r (gvbs hh))))))))
 refine yb 23 hb (yb 24 hb (yb 25 hb (yu 7 [(23,bb false),(24,bb false),(25,bb false),(26,.ptr 0 [] 3),(27,ii x_a.Vector),(28,.ptr 1 [] 3),(29,ii x_b.Vector),(30,bb (!decide (x_a.Vector=x_b.Vector))),(31,bb (!decide (x_a.Vector=x_b.Vector))),(32,bb (!decide (x_a.Vector=x_b.Vector)))] [z1,z2] 2 ?_)))
 rcases cond_some hh with ⟨hb,hh⟩ | ⟨hb,hh⟩
 · exact yb 30 hb (yb 31 hb (yb 32 hb (yt (sp 93 [z3,z4,z7]) [z1,z2] 2 (cT rfl (sy [4] [] (sp 93 [z5]) [] 2 (Aw.ret (then_r (gvbs hh))))))))
 refine yb 30 hb (yb 31 hb (yb 32 hb (yu 7 [(30,bb false),(31,bb false),(32,bb false),(33,.ptr 0 [] 4),(34,ii x_a.Saved),(35,.ptr 1 [] 4),(36,ii x_b.Saved),(37,bb (!decide (x_a.Saved=x_b.Saved))),(38,bb (!decide (x_a.Saved=x_b.Saved))),(39,bb (!decide (x_a.Saved=x_b.Saved)))] [z1,z2] 2 ?_)))
 rcases cond_some hh with ⟨hb,hh⟩ | ⟨hb,hh⟩
 · exact yb 37 hb (yb 38 hb (yb 39 hb (yt (sp 93 [z3,z4,z7]) [z1,z2] 2 (cT rfl (sy [4] [] (sp 93 [z5]) [] 2 (Aw.ret (then_r (gvbs hh))))))))
 refine yb 37 hb (yb 38 hb (yb 39 hb (yt (sp 93 [z3,z4,z6]) [z1,z2] 2 ?_)))
 rcases cond_some hh with ⟨hb,hh⟩ | ⟨hb,hh⟩
 · exact cT hb (sy [4] [] (sp 93 [z5]) [] 2 (Aw.ret (then_r (gvbs hh))))
 refine cF hb (Aw.xskip (fun _ _ _ hq=>then_m hq) (Aw.sreg [4] [] (yj 6  (sp 93 [z3,z4,z6,(46,.ptr 0 [] 6),(47,ii x_a.Cause),(48,.ptr 1 [] 6),(49,ii x_b.Cause),(50,bb (decide (x_a.Cause=x_b.Cause))),(51,bb (decide (x_a.Cause=x_b.Cause)))]) [z1,z2] 2 ?_)))
 rcases cond_sf hh with ⟨hb,hh⟩ | ⟨hb,hh⟩
 · exact yb 50 hb (yb 51 hb (yt (sp 93 [z5]) [] 2 (Aw.ret (gvbs hh))))
 refine yb 50 hb (yb 51 hb (yu 7 [(50,bb true),(51,bb true),(52,.ptr 0 [] 7),(53,ii x_a.Bad),(54,.ptr 1 [] 7),(55,ii x_b.Bad),(56,bb (decide (x_a.Bad=x_b.Bad))),(57,bb (decide (x_a.Bad=x_b.Bad))),(58,bb (decide (x_a.Bad=x_b.Bad)))] [z1,z2] 2 ?_))
 rcases cond_sf hh with ⟨hb,hh⟩ | ⟨hb,hh⟩
 · exact yb 56 hb (yb 57 hb (yb 58 hb (yt (sp 93 [z5]) [] 2 (Aw.ret (gvbs hh)))))
 refine yb 56 hb (yb 57 hb (yb 58 hb (yu 7 [(56,bb true),(57,bb true),(58,bb true),(59,.ptr 0 [] 8),(60,ii x_a.Timer),(61,.ptr 1 [] 8),(62,ii x_b.Timer),(63,bb (decide (x_a.Timer=x_b.Timer))),(64,bb (decide (x_a.Timer=x_b.Timer))),(65,bb (decide (x_a.Timer=x_b.Timer)))] [z1,z2] 2 ?_)))
 rcases cond_sf hh with ⟨hb,hh⟩ | ⟨hb,hh⟩
 · exact yb 63 hb (yb 64 hb (yb 65 hb (yt (sp 93 [z5]) [] 2 (Aw.ret (gvbs hh)))))
 refine yb 63 hb (yb 64 hb (yb 65 hb (yu 7 [(63,bb true),(64,bb true),(65,bb true),(66,.ptr 0 [] 9),(67,bb x_a.Waits),(68,.ptr 1 [] 9),(69,bb x_b.Waits),(70,bb (x_a.Waits == x_b.Waits)),(71,bb (x_a.Waits == x_b.Waits)),(72,bb (x_a.Waits == x_b.Waits))] [z1,z2] 2 ?_)))
 rcases cond_sf hh with ⟨hb,hh⟩ | ⟨hb,hh⟩
 · exact yb 70 hb (yb 71 hb (yb 72 hb (yt (sp 93 [z5]) [] 2 (Aw.ret (gvbs hh)))))
 refine yb 70 hb (yb 71 hb (yb 72 hb (yu 7 [(70,bb true),(71,bb true),(72,bb true),(73,.ptr 0 [] 10),(74,bb x_a.User),(75,.ptr 1 [] 10),(76,bb x_b.User),(77,bb (x_a.User == x_b.User)),(78,bb (x_a.User == x_b.User)),(79,bb (x_a.User == x_b.User))] [z1,z2] 2 ?_)))
 rcases cond_sf hh with ⟨hb,hh⟩ | ⟨hb,hh⟩
 · exact yb 77 hb (yb 78 hb (yb 79 hb (yt (sp 93 [z5]) [] 2 (Aw.ret (gvbs hh)))))
 refine yb 77 hb (yb 78 hb (yb 79 hb (yu 7 [(77,bb true),(78,bb true),(79,bb true),(80,.ptr 0 [] 11),(81,bb x_a.On),(82,.ptr 1 [] 11),(83,bb x_b.On),(84,bb (x_a.On == x_b.On)),(85,bb (x_a.On == x_b.On)),(86,bb (x_a.On == x_b.On))] [z1,z2] 2 ?_)))
 rcases cond_sf hh with ⟨hb,hh⟩ | ⟨hb,hh⟩
 · exact yb 84 hb (yb 85 hb (yb 86 hb (yt (sp 93 [z5]) [] 2 (Aw.ret (gvbs hh)))))
 exact yb 84 hb (yb 85 hb (yb 86 hb (yt (sp 93 [(4,bb (x_a.Stopped == x_b.Stopped))]) [] 2 (Aw.ret (gvbs hh)))))
theorem low_laws_sameBare:LW 13 ⟨31,[(.tmp 4)],(.seq (.reg false (rg 13 0)) (.seq (.reg false (rg 13 1)) .ret))⟩:=kr
noncomputable def F_laws_sameBare (x_a:DBare) (x_b:DBare):Option Bool :=
 Option.bind (F_laws_sameCore x_a.C x_b.C) fun v1 =>
 cond v1
  (Option.bind (F_laws_sameInts x_a.Mem x_b.Mem) fun v2 =>
  cond v2
   (Option.bind (F_laws_sameInts x_a.In x_b.In) fun v3 =>
   cond v3
    (Option.bind (F_laws_sameInts x_a.Out x_b.Out) fun v4 =>
    some v4)
    (some false))
   (some false))
  (some false)
theorem laws_sameBare_fn {x_a:DBare} {x_b:DBare} {R_:Bool} (hh:F_laws_sameBare x_a x_b=some R_):Fn Try.prog 13 [.agg (B_27 x_a),.agg (B_27 x_b)] (.bool R_):=by
 let z1:EH:=(0,some (rB27 x_a)); let z2:EH:=(1,some (rB27 x_b))
 unfold F_laws_sameBare at hh
 refine Fn.start low_laws_sameBare [0,1] (E:=sp 31 [(0,.agg (B_27 x_a)),(1,.agg (B_27 x_b))]) kr (v:=bb R_) (Hr:=[]) (k:=0) kr (sy [2,3] [0,1] (sp 31 [(2,pp 0),(3,pp 1)]) [z1,z2] 2 (Aw.sreg [4] [] (yu 4 [(5,pp 0),(6,.agg (B_25 x_a.C)),(7,pp 1),(8,.agg (B_25 x_b.C))] [z1,z2] 2 ?_)))
 obtain ⟨v1,hv1,hh⟩:=bind_some hh
 refine ys (.call 56 [(.t 6),(.t 8)]) (some 9) (op_call (r:=bb v1) (v:=bb v1) (Hr:=[]) (n':=2) (laws_sameCore_fn hv1) (clz_v (vs:=[.agg (B_25 x_a.C),.agg (B_25 x_b.C)]) kr (clz_c (clo_same (clean_agg (cl_B_25 _))) (clz_c (clo_same (clean_agg (cl_B_25 _))) clz_n))) rfl rfl kr ?_)
 refine yu 1 [(9,bb v1),(10,bb v1)] [z1,z2] 2 ?_
 rcases cond_sf hh with ⟨hb,hh⟩ | ⟨hb,hh⟩
 · exact yb 9 hb (yb 10 hb (yt (sp 31 [(4,bb false)]) [] 2 (Aw.ret (gvbs hh))))
 refine yb 9 hb (yb 10 hb (yu 4 [(9,bb true),(10,bb true),(11,.ptr 0 [] 13),(12,bo (eI .i64) x_a.Mem),(13,.ptr 1 [] 13),(14,bo (eI .i64) x_b.Mem)] [z1,z2] 2 ?_))
 obtain ⟨v2,hv2,hh⟩:=bind_some hh
 refine yg (.call 17 [(.t 12),(.t 14)]) (some 15) 10 true (oc (laws_sameInts_fn hv2) ?_)
 refine yu 2 [(15,bb v2),(16,bb v2),(17,bb v2)] [z1,z2] 2 ?_
 rcases cond_sf hh with ⟨hb,hh⟩ | ⟨hb,hh⟩
 · exact yb 15 hb (yb 16 hb (yb 17 hb (yt (sp 31 [(4,bb false)]) [] 2 (Aw.ret (gvbs hh)))))
 refine yb 15 hb (yb 16 hb (yb 17 hb (yu 4 [(15,bb true),(16,bb true),(17,bb true),(18,.ptr 0 [] 14),(19,bo (eI .i64) x_a.In),(20,.ptr 1 [] 14),(21,bo (eI .i64) x_b.In)] [z1,z2] 2 ?_)))
 obtain ⟨v3,hv3,hh⟩:=bind_some hh
 refine yg (.call 17 [(.t 19),(.t 21)]) (some 22) 17 true (oc (laws_sameInts_fn hv3) ?_)
 refine yu 2 [(22,bb v3),(23,bb v3),(24,bb v3)] [z1,z2] 2 ?_
 rcases cond_sf hh with ⟨hb,hh⟩ | ⟨hb,hh⟩
 · exact yb 22 hb (yb 23 hb (yb 24 hb (yt (sp 31 [(4,bb false)]) [] 2 (Aw.ret (gvbs hh)))))
 refine yb 22 hb (yb 23 hb (yb 24 hb (yu 4 [(22,bb true),(23,bb true),(24,bb true),(25,.ptr 0 [] 15),(26,bo (eI .i64) x_a.Out),(27,.ptr 1 [] 15),(28,bo (eI .i64) x_b.Out)] [z1,z2] 2 ?_)))
 obtain ⟨v4,hv4,hh⟩:=bind_some hh
 refine yg (.call 17 [(.t 26),(.t 28)]) (some 29) 24 true (oc (laws_sameInts_fn hv4) ?_)
 exact yt (sp 31 [(4,bb v4)]) [] 2 (Aw.ret (gvbs hh))
end Go.Proofs.Ytbanbjdcgdmkaaa
