/- Plain functions of the program, and that it hands back what they say. Made by program. -/
import Derived.Test.YtbanbjdcgdmkaaaWT
import Derived.Test.YtbanbjdcgdmkaaaProg
import Derived.Test.YtbanbjdcgdmkaaaWHV1
import Derived.Test.YtbanbjdcgdmkaaaWI1
namespace Go.Proofs.Ytbanbjdcgdmkaaa
open Go.RowKit
set_option maxRecDepth 100000
set_option linter.all false
set_option maxHeartbeats 0
theorem low_laws_sameViews:LW 34 ⟨42,[(.tmp 6)],(.seq (.reg false (rg 34 0)) (.seq (.seq (.reg false (rg 34 1)) (.block 0 (.loop (.seq (.seq (.reg false (rg 34 2)) (.cond (.t 13) .skip (.exit 0))) (.seq (.block 1 (.seq (.reg false (rg 34 3)) (.seq (.reg false (rg 34 4)) (.seq (.reg false (rg 34 5)) (.cond (.t 41) (.seq (.reg false (rg 34 6)) .ret) .skip))))) (.reg false (rg 34 7))))))) (.seq (.reg false (rg 34 9)) .ret)))⟩:=kr
noncomputable def F_laws_sameViews_j1  (s1:Unit):Option Bool :=
 some true
noncomputable def F_laws_sameViews_j3 (s2:Int) (s3:Unit):Option (LO Int (JO Unit Bool)) :=
 some (.next (w64 (s2+(1:Int))))
noncomputable def F_laws_sameViews_l2 (x_a:DHost) (x_b:DHost) (x_but:Int) (s2:Int):Option (LO Int (JO Unit Bool)) :=
 cond (decide (s2<(3:Int)))
  (Option.bind (Option.bind (F_impl_HostView x_a s2) fun v4 =>
   Option.bind (F_impl_HostView x_b s2) fun v5 =>
   cond (!decide (s2=x_but))
    (cond (!(v4.2 == v5.2))
     (some (.out (.ret (.out false))))
     (Option.bind (F_laws_sameBare v4.1 v5.1) fun v6 =>
     cond (!v6)
      (some (.out (.ret (.out false))))
      (some (.go ()))))
    (some (.go ()))) fun j3 =>
   JO.run j3 (F_laws_sameViews_j3 s2))
  (some (.ret (.go ())))
noncomputable def F_laws_sameViews (x_a:DHost) (x_b:DHost) (x_but:Int):Option Bool :=
 Option.bind (Option.bind (iter (F_laws_sameViews_l2 x_a x_b x_but) (0:Int)) LO.val) fun j1 =>
  JO.run j1 (F_laws_sameViews_j1)
theorem laws_sameViews_fn {x_a:DHost} {x_b:DHost} {x_but:Int} {R_:Bool} (hh:F_laws_sameViews x_a x_b x_but=some R_):Fn Try.prog 34 [.agg (B_41 x_a),.agg (B_41 x_b),.int .i64 x_but] (.bool R_):=by
 let z1:EH:=(0,some (rB41 x_a)); let z2:EH:=(1,some (rB41 x_b)); let z3:=(2,ii x_but); let z4:=(3,pp 0); let z5:=(4,pp 1)
 unfold F_laws_sameViews at hh
 refine Fn.start low_laws_sameViews [0,1,2] (E:=sp 42 [(0,.agg (B_41 x_a)),(1,.agg (B_41 x_b)),z3]) kr (v:=bb R_) (Hr:=[]) (k:=0) kr (sy [2,3,4] [0,1] (sp 42 [z3,z4,z5]) [z1,z2] 2 ?_)
 obtain ⟨j1,hh,hk1⟩:=bind_some hh
 refine Aw.join (S:=Unit) (fun s1=>sp 42 []) (fun s1=>[]) 0 (fun s1=>F_laws_sameViews_j1 s1=some R_) ?_ ?_
 · intro s1 hh
   unfold F_laws_sameViews_j1 at hh
   exact sy [6] [] (sp 42 [(6,bb true)]) [] 0 (Aw.ret (gvbs hh))
 intro Q1 hN1 hR1 hE1
 refine sy [2,3,4,7] [0,1] (sp 42 [z3,z4,z5,(7,ii 0)]) [z1,z2] 2 (Aw.block ?_)
 obtain ⟨o2,hi2,hk2⟩:=bind_some hh
 refine Aw.iter (fun (s2:Int)=>sp 42 [(2,ii x_but),(3,pp 0),(4,pp 1),(7,ii s2)]) (fun (s2:Int)=>[(0,some (rB41 x_a)),(1,some (rB41 x_b))]) 2 hi2 (el [some 0,some 1] (rens_sp kr (ri (rp 0 (rp 1 (ri rl_n))))) (hq (rB41 x_a) (rens_same (nr_B_41 _)) (hq (rB41 x_b) (rens_same (nr_B_41 _)) hs_nil))) ?_
 intro s2 u2 Q2 hh hN2 hX2 hR2
 let z6:=(13,bb (decide (s2<(3:Int)))); let z7:=(7,ii s2)
 unfold F_laws_sameViews_l2 at hh
 refine Aw.seq (sy [2,3,4,7,13] [0,1] (sp 42 [z3,z4,z5,z7,z6]) [z1,z2] 2 ?_)
 rcases cond_sf hh with ⟨hb,hh⟩ | ⟨hb,hh⟩
 · refine cF hb (Aw.exit (then_x (hX2 _ _ _ _ _ (some_some hh) ?_)))
   intro hout
   rw [hout] at hk2
   refine blk_x ?_
   obtain rfl:=some_some hk2
   exact hN1 () _ _ _ hk1 (el [] (rens_sp kr rl_n) hs_nil)
 refine cT hb (Aw.xskip (fun _ _ _ hq=>then_m hq) ?_)
 obtain ⟨j3,hh,hk3⟩:=bind_some hh
 refine Aw.join (S:=Unit) (fun s3=>sp 42 [(2,ii x_but),(3,pp 0),(4,pp 1),(7,ii s2)]) (fun s3=>[(0,some (rB41 x_a)),(1,some (rB41 x_b))]) 2 (fun s3=>F_laws_sameViews_j3 s2 s3=some u2) ?_ ?_
 · intro s3 hh
   unfold F_laws_sameViews_j3 at hh
   exact Aw.oreg (ye (sp 42 [z3,z4,z5,(7,ii (w64 (s2+(1:Int)))),(14,ii s2),(15,ii (w64 (s2+(1:Int))))]) [z1,z2] 2 (hN2 (w64 (s2+(1:Int))) _ _ _ (some_some hh) (el [some 0,some 1] (rens_sp kr (ri (rp 0 (rp 1 (ri rl_n))))) (hq (rB41 x_a) (rens_same (nr_B_41 _)) (hq (rB41 x_b) (rens_same (nr_B_41 _)) hs_nil)))))
 intro Q3 hN3 hR3 hE3
 refine Aw.block (Aw.sreg [2,3,4,7,8,9] [0,1,2,3,4,5,6] (yj 2  (sp 42 [z3,z4,z5,z7,z6,(17,.agg (B_41 x_a)),(18,ii s2)]) [z1,z2] 2 ?_))
 obtain ⟨v4,hv4,hh⟩:=bind_some hh
 let q1:Root:=(rI_3 v4.1.Out); let z8:=(5,some q1); let q2:Root:=(rI_3 v4.1.In); let z9:=(4,some q2); let q3:Root:=(rI_3 v4.1.Mem); let z10:=(3,some q3); let q4:Root:=(rI_3 v4.1.C.Regs); let z11:=(2,some q4)
 refine ys (.call 32 [(.t 17),(.t 18)]) (some 19) (op_call (r:=.tup [.agg (.own 3 1 (List.length v4.1.C.Regs) (fl (eI .i64) v4.1.C.Regs)::ru25 v4.1.C [.own 3 1 (List.length v4.1.Mem) (fl (eI .i64) v4.1.Mem),.own 3 1 (List.length v4.1.In) (fl (eI .i64) v4.1.In),.own 3 1 (List.length v4.1.Out) (fl (eI .i64) v4.1.Out)]),bb v4.2]) (v:=.tup [.agg (sw 2 v4.1.C.Regs::ru25 v4.1.C [sw 3 v4.1.Mem,sw 4 v4.1.In,sw 5 v4.1.Out]),bb v4.2]) (Hr:=[z8,z9,z10,z11]) (n':=6) (impl_HostView_fn hv4) (clz_v (vs:=[.agg (B_41 x_a),ii s2]) kr (clz_c (clo_same (clean_agg (cl_B_41 _))) (cz1 clz_n))) nrr nrr kr ?_)
 let q5:Root:=⟨27,(sw 2 v4.1.C.Regs::ru25 v4.1.C [sw 3 v4.1.Mem,sw 4 v4.1.In,sw 5 v4.1.Out])⟩; let z12:=(6,some q5)
 refine yt (sp 42 [z3,z4,z5,z7,(8,pp 6),(9,bb v4.2)]) [z1,z2,z11,z10,z9,z8,z12] 7 (Aw.sreg [2,3,4,7,8,9,10,11] [0,1,2,3,4,5,6,7,8,9,10,11] (yu 2 [(23,.agg (B_41 x_b)),(24,ii s2)] [z1,z2,z11,z10,z9,z8,z12] 7 ?_))
 obtain ⟨v5,hv5,hh⟩:=bind_some hh
 let q6:Root:=(rI_3 v5.1.Out); let z13:=(10,some q6); let q7:Root:=(rI_3 v5.1.In); let z14:=(9,some q7); let q8:Root:=(rI_3 v5.1.Mem); let z15:=(8,some q8); let q9:Root:=(rI_3 v5.1.C.Regs); let z16:=(7,some q9)
 refine ys (.call 32 [(.t 23),(.t 24)]) (some 25) (op_call (r:=.tup [.agg (.own 3 1 (List.length v5.1.C.Regs) (fl (eI .i64) v5.1.C.Regs)::ru25 v5.1.C [.own 3 1 (List.length v5.1.Mem) (fl (eI .i64) v5.1.Mem),.own 3 1 (List.length v5.1.In) (fl (eI .i64) v5.1.In),.own 3 1 (List.length v5.1.Out) (fl (eI .i64) v5.1.Out)]),bb v5.2]) (v:=.tup [.agg (sw 7 v5.1.C.Regs::ru25 v5.1.C [sw 8 v5.1.Mem,sw 9 v5.1.In,sw 10 v5.1.Out]),bb v5.2]) (Hr:=[z13,z14,z15,z16]) (n':=11) (impl_HostView_fn hv5) (clz_v (vs:=[.agg (B_41 x_b),ii s2]) kr (clz_c (clo_same (clean_agg (cl_B_41 _))) (cz1 clz_n))) nrr nrr kr ?_)
 let q10:Root:=⟨27,(sw 7 v5.1.C.Regs::ru25 v5.1.C [sw 8 v5.1.Mem,sw 9 v5.1.In,sw 10 v5.1.Out])⟩; let z17:=(11,some q10)
 refine yt (sp 42 [z3,z4,z5,z7,(8,pp 6),(9,bb v4.2),(10,pp 11),(11,bb v5.2)]) [z1,z2,z11,z10,z9,z8,z12,z16,z15,z14,z13,z17] 12 (Aw.sreg [2,3,4,7,41] [0,1] (yu 4 [(28,ii s2),(29,ii x_but),(30,bb (!decide (s2=x_but))),(31,bb (!decide (s2=x_but)))] [z1,z2,z11,z10,z9,z8,z12,z16,z15,z14,z13,z17] 12 ?_))
 rcases cond_sf hh with ⟨hb,hh⟩ | ⟨hb,hh⟩
 · refine yb 30 hb (yb 31 hb (yt (sp 42 [z3,z4,z5,z7,(41,bb false)]) [z1,z2] 12 (cF rfl (Aw.skip (blk_m ?_)))))
   obtain rfl:=some_some hh
   exact hN3 () _ _ _ hk3 (el [some 0,some 1] (rens_sp kr (ri (rp 0 (rp 1 (ri rl_n))))) (hq (rB41 x_a) (rens_same (nr_B_41 _)) (hq (rB41 x_b) (rens_same (nr_B_41 _)) hs_nil)))
 refine yb 30 hb (yb 31 hb (yu 4 [(30,bb true),(31,bb true),(32,bb v4.2),(33,bb v5.2),(34,bb (!(v4.2 == v5.2))),(35,bb (!(v4.2 == v5.2)))] [z1,z2,z11,z10,z9,z8,z12,z16,z15,z14,z13,z17] 12 ?_))
 rcases cond_some hh with ⟨hb,hh⟩ | ⟨hb,hh⟩
 · refine yb 34 hb (yb 35 hb (yt (sp 42 [z3,z4,z5,z7,(41,bb true)]) [z1,z2] 12 (cT rfl (sy [6] [] (sp 42 [(6,bb false)]) [] 12 (Aw.ret (blk_r ?_))))))
   obtain rfl:=some_some hh
   refine hR3 _ _ _ ((hR2 _ _ _ _ (some_some hk3) ?_))
   intro hout
   rw [hout] at hk2
   refine blk_r ?_
   obtain rfl:=some_some hk2
   refine hR1 _ _ _ ?_
   rw [some_some hk1]
   exact gvb
 refine yb 34 hb (yb 35 hb (yu 2 [(34,bb false),(35,bb false),(36,.agg (sw 2 v4.1.C.Regs::ru25 v4.1.C [sw 3 v4.1.Mem,sw 4 v4.1.In,sw 5 v4.1.Out])),(37,.agg (sw 7 v5.1.C.Regs::ru25 v5.1.C [sw 8 v5.1.Mem,sw 9 v5.1.In,sw 10 v5.1.Out]))] [z1,z2,z11,z10,z9,z8,z12,z16,z15,z14,z13,z17] 12 ?_))
 obtain ⟨v6,hv6,hh⟩:=bind_some hh
 refine yg (.call 13 [(.t 36),(.t 37)]) (some 38) 35 false (op_call (r:=bb v6) (v:=bb v6) (Hr:=[]) (n':=12) (laws_sameBare_fn hv6) (clz_v (vs:=[.agg (sw 2 v4.1.C.Regs::ru25 v4.1.C [sw 3 v4.1.Mem,sw 4 v4.1.In,sw 5 v4.1.Out]),.agg (sw 7 v5.1.C.Regs::ru25 v5.1.C [sw 8 v5.1.Mem,sw 9 v5.1.In,sw 10 v5.1.Out])]) kr (clz_c (clo_agg (clos_c (clo_own (c:=(eI .i64)) (xs:=v4.1.C.Regs) (e:=3) eqn len_eI no_eI cl_eI kr) (cs1 (cs1 (cs1 (cs1 (cs1 (cs1 (cs1 (cs1 (cs1 (cs1 (cs1 (cs1 (clos_c (clo_own (c:=(eI .i64)) (xs:=v4.1.Mem) (e:=3) eqn len_eI no_eI cl_eI kr) (clos_c (clo_own (c:=(eI .i64)) (xs:=v4.1.In) (e:=3) eqn len_eI no_eI cl_eI kr) (clos_c (clo_own (c:=(eI .i64)) (xs:=v4.1.Out) (e:=3) eqn len_eI no_eI cl_eI kr) clos_n))))))))))))))))) (clz_c (clo_agg (clos_c (clo_own (c:=(eI .i64)) (xs:=v5.1.C.Regs) (e:=3) eqn len_eI no_eI cl_eI kr) (cs1 (cs1 (cs1 (cs1 (cs1 (cs1 (cs1 (cs1 (cs1 (cs1 (cs1 (cs1 (clos_c (clo_own (c:=(eI .i64)) (xs:=v5.1.Mem) (e:=3) eqn len_eI no_eI cl_eI kr) (clos_c (clo_own (c:=(eI .i64)) (xs:=v5.1.In) (e:=3) eqn len_eI no_eI cl_eI kr) (clos_c (clo_own (c:=(eI .i64)) (xs:=v5.1.Out) (e:=3) eqn len_eI no_eI cl_eI kr) clos_n))))))))))))))))) clz_n))) rfl rfl kr ?_)
 refine yt (sp 42 [z3,z4,z5,z7,(41,bb (!v6))]) [z1,z2] 12 ?_
 rcases cond_sf hh with ⟨hb,hh⟩ | ⟨hb,hh⟩
 · refine cF hb (Aw.skip (blk_m ?_))
   obtain rfl:=some_some hh
   exact hN3 () _ _ _ hk3 (el [some 0,some 1] (rens_sp kr (ri (rp 0 (rp 1 (ri rl_n))))) (hq (rB41 x_a) (rens_same (nr_B_41 _)) (hq (rB41 x_b) (rens_same (nr_B_41 _)) hs_nil)))
 refine cT hb (sy [6] [] (sp 42 [(6,bb false)]) [] 12 (Aw.ret (blk_r ?_)))
 obtain rfl:=some_some hh
 refine hR3 _ _ _ ((hR2 _ _ _ _ (some_some hk3) ?_))
 intro hout
 rw [hout] at hk2
 refine blk_r ?_
 obtain rfl:=some_some hk2
 refine hR1 _ _ _ ?_
 rw [some_some hk1]
 exact gvb
end Go.Proofs.Ytbanbjdcgdmkaaa
