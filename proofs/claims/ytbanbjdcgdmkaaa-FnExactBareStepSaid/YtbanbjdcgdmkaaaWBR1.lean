/- Plain functions of the program, and that it hands back what they say. Made by program. -/
import Derived.Test.YtbanbjdcgdmkaaaWT
import Derived.Test.YtbanbjdcgdmkaaaProg
import Derived.Test.YtbanbjdcgdmkaaaWBS1
import Derived.Test.YtbanbjdcgdmkaaaWBT1
import Derived.Test.YtbanbjdcgdmkaaaWHV1
import Derived.Test.YtbanbjdcgdmkaaaWO1
namespace Go.Proofs.Ytbanbjdcgdmkaaa
open Go.RowKit
set_option maxRecDepth 100000
set_option linter.all false
set_option maxHeartbeats 0
theorem low_impl_BareRun:LW 20 ⟨27,[(.cell 4 true 16)],(.seq (.reg false (rg 20 0)) (.seq (.seq (.reg false (rg 20 1)) (.cond (.t 16) (.seq (.reg false (rg 20 2)) .ret) .skip)) (.seq (.seq (.reg false (rg 20 3)) (.block 0 (.loop (.seq (.seq (.reg false (rg 20 4)) (.cond (.t 20) .skip (.exit 0))) (.seq (.block 1 (.reg false (rg 20 5))) (.reg false (rg 20 6))))))) (.seq (.reg false (rg 20 8)) .ret))))⟩:=kr
noncomputable def F_impl_BareRun_j2  (s2:(List Int) × Int × Int × Int × Int × Bool × Int × Int × Int × Bool × Bool × Bool × Bool × (List Int) × (List Int) × (List Int)):Option DBare :=
 Option.bind (F_impl_copiedBare (DBare.mk (DCore.mk s2.1 s2.2.1 s2.2.2.1 s2.2.2.2.1 s2.2.2.2.2.1 s2.2.2.2.2.2.1 s2.2.2.2.2.2.2.1 s2.2.2.2.2.2.2.2.1 s2.2.2.2.2.2.2.2.2.1 s2.2.2.2.2.2.2.2.2.2.1 s2.2.2.2.2.2.2.2.2.2.2.1 s2.2.2.2.2.2.2.2.2.2.2.2.1 s2.2.2.2.2.2.2.2.2.2.2.2.2.1) s2.2.2.2.2.2.2.2.2.2.2.2.2.2.1 s2.2.2.2.2.2.2.2.2.2.2.2.2.2.2.1 s2.2.2.2.2.2.2.2.2.2.2.2.2.2.2.2)) fun v3 =>
 some v3
noncomputable def F_impl_BareRun_l4 (x_steps:Int) (s4:(List Int) × Int × Int × Int × Int × Bool × Int × Int × Int × Bool × Bool × Bool × Bool × (List Int) × (List Int) × (List Int) × Int):Option (LO ((List Int) × Int × Int × Int × Int × Bool × Int × Int × Int × Bool × Bool × Bool × Bool × (List Int) × (List Int) × (List Int) × Int) (JO ((List Int) × Int × Int × Int × Int × Bool × Int × Int × Int × Bool × Bool × Bool × Bool × (List Int) × (List Int) × (List Int)) DBare)) :=
 cond (decide (s4.2.2.2.2.2.2.2.2.2.2.2.2.2.2.2.2<x_steps))
  (Option.bind (F_impl_stepped (DBare.mk (DCore.mk s4.1 s4.2.1 s4.2.2.1 s4.2.2.2.1 s4.2.2.2.2.1 s4.2.2.2.2.2.1 s4.2.2.2.2.2.2.1 s4.2.2.2.2.2.2.2.1 s4.2.2.2.2.2.2.2.2.1 s4.2.2.2.2.2.2.2.2.2.1 s4.2.2.2.2.2.2.2.2.2.2.1 s4.2.2.2.2.2.2.2.2.2.2.2.1 s4.2.2.2.2.2.2.2.2.2.2.2.2.1) s4.2.2.2.2.2.2.2.2.2.2.2.2.2.1 s4.2.2.2.2.2.2.2.2.2.2.2.2.2.2.1 s4.2.2.2.2.2.2.2.2.2.2.2.2.2.2.2.1)) fun v5 =>
  some (.next (v5.C.Regs,v5.C.Pc,v5.C.Root,v5.C.Vector,v5.C.Saved,v5.C.SavedUser,v5.C.Cause,v5.C.Bad,v5.C.Timer,v5.C.Waits,v5.C.User,v5.C.On,v5.C.Stopped,v5.Mem,v5.In,v5.Out,(w64 (s4.2.2.2.2.2.2.2.2.2.2.2.2.2.2.2.2+(1:Int))))))
  (some (.ret (.go (s4.1,s4.2.1,s4.2.2.1,s4.2.2.2.1,s4.2.2.2.2.1,s4.2.2.2.2.2.1,s4.2.2.2.2.2.2.1,s4.2.2.2.2.2.2.2.1,s4.2.2.2.2.2.2.2.2.1,s4.2.2.2.2.2.2.2.2.2.1,s4.2.2.2.2.2.2.2.2.2.2.1,s4.2.2.2.2.2.2.2.2.2.2.2.1,s4.2.2.2.2.2.2.2.2.2.2.2.2.1,s4.2.2.2.2.2.2.2.2.2.2.2.2.2.1,s4.2.2.2.2.2.2.2.2.2.2.2.2.2.2.1,s4.2.2.2.2.2.2.2.2.2.2.2.2.2.2.2.1))))
noncomputable def F_impl_BareRun (x_b:DBare) (x_steps:Int):Option DBare :=
 Option.bind (F_impl_BareOk x_b) fun v1 =>
 cond (!v1)
  (some (DBare.mk (DCore.mk ([]:List Int) (0:Int) (0:Int) (0:Int) (0:Int) false (0:Int) (0:Int) (0:Int) false false false false) ([]:List Int) ([]:List Int) ([]:List Int)))
  (cond (decide (x_steps<(0:Int)))
   (some (DBare.mk (DCore.mk ([]:List Int) (0:Int) (0:Int) (0:Int) (0:Int) false (0:Int) (0:Int) (0:Int) false false false false) ([]:List Int) ([]:List Int) ([]:List Int)))
   (cond (decide ((300:Int)<x_steps))
    (some (DBare.mk (DCore.mk ([]:List Int) (0:Int) (0:Int) (0:Int) (0:Int) false (0:Int) (0:Int) (0:Int) false false false false) ([]:List Int) ([]:List Int) ([]:List Int)))
    (Option.bind (Option.bind (iter (F_impl_BareRun_l4 x_steps) (x_b.C.Regs,x_b.C.Pc,x_b.C.Root,x_b.C.Vector,x_b.C.Saved,x_b.C.SavedUser,x_b.C.Cause,x_b.C.Bad,x_b.C.Timer,x_b.C.Waits,x_b.C.User,x_b.C.On,x_b.C.Stopped,x_b.Mem,x_b.In,x_b.Out,(0:Int))) LO.val) fun j2 =>
     JO.run j2 (F_impl_BareRun_j2))))
theorem impl_BareRun_fn {x_b:DBare} {x_steps:Int} {R_:DBare} (hh:F_impl_BareRun x_b x_steps=some R_):Fn Try.prog 20 [.agg (B_27 x_b),.int .i64 x_steps] (.agg (.own 3 1 (List.length R_.C.Regs) (fl (eI .i64) R_.C.Regs)::ru25 R_.C [.own 3 1 (List.length R_.Mem) (fl (eI .i64) R_.Mem),.own 3 1 (List.length R_.In) (fl (eI .i64) R_.In),.own 3 1 (List.length R_.Out) (fl (eI .i64) R_.Out)])):=by
 let z1:EH:=(0,some (rB27 x_b)); let z2:=(1,ii x_steps); let z3:=(2,pp 0); let z4:=(4,pp 1)
 unfold F_impl_BareRun at hh
 refine Fn.start low_impl_BareRun [0,1] (E:=sp 27 [(0,.agg (B_27 x_b)),z2]) kr (v:=.agg (sw 0 R_.C.Regs::ru25 R_.C [sw 1 R_.Mem,sw 2 R_.In,sw 3 R_.Out])) (Hr:=[(3,some (rI_3 R_.Out)),(2,some (rI_3 R_.In)),(1,some (rI_3 R_.Mem)),(0,some (rI_3 R_.C.Regs))]) (k:=4) kr (Aw.sreg [1,2,4] [0,1] ?_)
 let q1:Root:=⟨27,(.nil::zru25 [.nil,.nil,.nil])⟩; let z5:=(1,some q1)
 refine yt (sp 27 [z2,z3,z4]) [z1,z5] 2 (Aw.seq (Aw.sreg [1,2,4,16] [0,1] (yj 1  (sp 27 [z2,z3,z4,(6,.agg (B_27 x_b))]) [z1,z5] 2 ?_)))
 obtain ⟨v1,hv1,hh⟩:=bind_some hh
 refine ys (.call 15 [(.t 6)]) (some 7) (op_call (r:=bb v1) (v:=bb v1) (Hr:=[]) (n':=2) (impl_BareOk_fn hv1) (clz_v (vs:=[.agg (B_27 x_b)]) kr (clz_c (clo_same (clean_agg (cl_B_27 _))) clz_n)) rfl rfl kr ?_)
 refine yu 2 [(7,bb v1),(8,bb (!v1)),(9,bb (!v1))] [z1,z5] 2 ?_
 rcases cond_some hh with ⟨hb,hh⟩ | ⟨hb,hh⟩
 · refine yb 8 hb (yb 9 hb (yt (sp 27 [z2,z3,z4,(16,bb true)]) [z1,z5] 2 (cT rfl (sy [4] [1] (sp 27 [z4]) [z5] 2 (Aw.ret (then_r ?_))))))
   rw [some_some hh]
   exact gives (r':=.agg (.nil::zru25 [.nil,.nil,.nil])) kr (Ent.list [none,none,none,none] rfl rfl (Nat.zero_le _) (rens_1 (ren_agg rz)) (hs_no dd rfl rfl (hs_no dd rfl rfl (hs_no dd rfl rfl (hs_no dd rfl rfl hs_nil)))))
 refine yb 8 hb (yb 9 hb (yu 4 [(8,bb false),(9,bb false),(10,ii x_steps),(11,bb (decide (x_steps<(0:Int)))),(12,bb (decide (x_steps<(0:Int)))),(13,bb (decide (x_steps<(0:Int))))] [z1,z5] 2 ?_))
 rcases cond_some hh with ⟨hb,hh⟩ | ⟨hb,hh⟩
 · refine yb 11 hb (yb 12 hb (yb 13 hb (yt (sp 27 [z2,z3,z4,(16,bb true)]) [z1,z5] 2 (cT rfl (sy [4] [1] (sp 27 [z4]) [z5] 2 (Aw.ret (then_r ?_)))))))
   rw [some_some hh]
   exact gives (r':=.agg (.nil::zru25 [.nil,.nil,.nil])) kr (Ent.list [none,none,none,none] rfl rfl (Nat.zero_le _) (rens_1 (ren_agg rz)) (hs_no dd rfl rfl (hs_no dd rfl rfl (hs_no dd rfl rfl (hs_no dd rfl rfl hs_nil)))))
 refine yb 11 hb (yb 12 hb (yb 13 hb (yt (sp 27 [z2,z3,z4,(16,bb (decide ((300:Int)<x_steps)))]) [z1,z5] 2 ?_)))
 rcases cond_some hh with ⟨hb,hh⟩ | ⟨hb,hh⟩
 · refine cT hb (sy [4] [1] (sp 27 [z4]) [z5] 2 (Aw.ret (then_r ?_)))
   rw [some_some hh]
   exact gives (r':=.agg (.nil::zru25 [.nil,.nil,.nil])) kr (Ent.list [none,none,none,none] rfl rfl (Nat.zero_le _) (rens_1 (ren_agg rz)) (hs_no dd rfl rfl (hs_no dd rfl rfl (hs_no dd rfl rfl (hs_no dd rfl rfl hs_nil)))))
 refine cF hb (Aw.xskip (fun _ _ _ hq=>then_m hq) ?_)
 obtain ⟨j2,hh,hk2⟩:=bind_some hh
 refine Aw.join (S:=(List Int) × Int × Int × Int × Int × Bool × Int × Int × Int × Bool × Bool × Bool × Bool × (List Int) × (List Int) × (List Int)) (fun s2=>sp 27 [(2,pp 0),(4,pp 1)]) (fun s2=>[(0,some ⟨27,[bo (eI .i64) s2.1,ii s2.2.1,ii s2.2.2.1,ii s2.2.2.2.1,ii s2.2.2.2.2.1,bb s2.2.2.2.2.2.1,ii s2.2.2.2.2.2.2.1,ii s2.2.2.2.2.2.2.2.1,ii s2.2.2.2.2.2.2.2.2.1,bb s2.2.2.2.2.2.2.2.2.2.1,bb s2.2.2.2.2.2.2.2.2.2.2.1,bb s2.2.2.2.2.2.2.2.2.2.2.2.1,bb s2.2.2.2.2.2.2.2.2.2.2.2.2.1,bo (eI .i64) s2.2.2.2.2.2.2.2.2.2.2.2.2.2.1,bo (eI .i64) s2.2.2.2.2.2.2.2.2.2.2.2.2.2.2.1,bo (eI .i64) s2.2.2.2.2.2.2.2.2.2.2.2.2.2.2.2]⟩),(1,some ⟨27,(.nil::zru25 [.nil,.nil,.nil])⟩)]) 2 (fun s2=>F_impl_BareRun_j2 s2=some R_) ?_ ?_
 · intro s2 hh
   unfold F_impl_BareRun_j2 at hh
   refine Aw.sreg [4] [1,2,3,4,5] (yj 1  (sp 27 [z3,z4,(25,.agg [bo (eI .i64) s2.1,ii s2.2.1,ii s2.2.2.1,ii s2.2.2.2.1,ii s2.2.2.2.2.1,bb s2.2.2.2.2.2.1,ii s2.2.2.2.2.2.2.1,ii s2.2.2.2.2.2.2.2.1,ii s2.2.2.2.2.2.2.2.2.1,bb s2.2.2.2.2.2.2.2.2.2.1,bb s2.2.2.2.2.2.2.2.2.2.2.1,bb s2.2.2.2.2.2.2.2.2.2.2.2.1,bb s2.2.2.2.2.2.2.2.2.2.2.2.2.1,bo (eI .i64) s2.2.2.2.2.2.2.2.2.2.2.2.2.2.1,bo (eI .i64) s2.2.2.2.2.2.2.2.2.2.2.2.2.2.2.1,bo (eI .i64) s2.2.2.2.2.2.2.2.2.2.2.2.2.2.2.2])]) [(0,some ⟨27,[bo (eI .i64) s2.1,ii s2.2.1,ii s2.2.2.1,ii s2.2.2.2.1,ii s2.2.2.2.2.1,bb s2.2.2.2.2.2.1,ii s2.2.2.2.2.2.2.1,ii s2.2.2.2.2.2.2.2.1,ii s2.2.2.2.2.2.2.2.2.1,bb s2.2.2.2.2.2.2.2.2.2.1,bb s2.2.2.2.2.2.2.2.2.2.2.1,bb s2.2.2.2.2.2.2.2.2.2.2.2.1,bb s2.2.2.2.2.2.2.2.2.2.2.2.2.1,bo (eI .i64) s2.2.2.2.2.2.2.2.2.2.2.2.2.2.1,bo (eI .i64) s2.2.2.2.2.2.2.2.2.2.2.2.2.2.2.1,bo (eI .i64) s2.2.2.2.2.2.2.2.2.2.2.2.2.2.2.2]⟩),z5] 2 ?_)
   obtain ⟨v3,hv3,hh⟩:=bind_some hh
   let q2:Root:=(rI_3 v3.Out); let q3:Root:=(rI_3 v3.In); let q4:Root:=(rI_3 v3.Mem); let q5:Root:=(rI_3 v3.C.Regs)
   refine ys (.call 54 [(.t 25)]) (some 26) (op_call (r:=.agg (.own 3 1 (List.length v3.C.Regs) (fl (eI .i64) v3.C.Regs)::ru25 v3.C [.own 3 1 (List.length v3.Mem) (fl (eI .i64) v3.Mem),.own 3 1 (List.length v3.In) (fl (eI .i64) v3.In),.own 3 1 (List.length v3.Out) (fl (eI .i64) v3.Out)])) (v:=.agg (sw 2 v3.C.Regs::ru25 v3.C [sw 3 v3.Mem,sw 4 v3.In,sw 5 v3.Out])) (Hr:=[(5,some q2),(4,some q3),(3,some q4),(2,some q5)]) (n':=6) (impl_copiedBare_fn hv3) (clz_v (vs:=[.agg [bo (eI .i64) s2.1,ii s2.2.1,ii s2.2.2.1,ii s2.2.2.2.1,ii s2.2.2.2.2.1,bb s2.2.2.2.2.2.1,ii s2.2.2.2.2.2.2.1,ii s2.2.2.2.2.2.2.2.1,ii s2.2.2.2.2.2.2.2.2.1,bb s2.2.2.2.2.2.2.2.2.2.1,bb s2.2.2.2.2.2.2.2.2.2.2.1,bb s2.2.2.2.2.2.2.2.2.2.2.2.1,bb s2.2.2.2.2.2.2.2.2.2.2.2.2.1,bo (eI .i64) s2.2.2.2.2.2.2.2.2.2.2.2.2.2.1,bo (eI .i64) s2.2.2.2.2.2.2.2.2.2.2.2.2.2.2.1,bo (eI .i64) s2.2.2.2.2.2.2.2.2.2.2.2.2.2.2.2]]) kr (clz_c (clo_agg cz) clz_n)) nrr nrr kr ?_)
   refine yt (sp 27 [z4]) [(1,some ⟨27,(sw 2 v3.C.Regs::ru25 v3.C [sw 3 v3.Mem,sw 4 v3.In,sw 5 v3.Out])⟩),(2,some q5),(3,some q4),(4,some q3),(5,some q2)] 6 (Aw.ret ?_)
   rw [some_some hh]
   exact gives (r':=.agg (sw 2 v3.C.Regs::ru25 v3.C [sw 3 v3.Mem,sw 4 v3.In,sw 5 v3.Out])) kr (Ent.list [some 2,some 3,some 4,some 5] rfl rfl (Nat.zero_le _) (rens_1 (ren_agg rz)) (hn nr_eI (hn nr_eI (hn nr_eI (hn nr_eI hs_nil)))))
 intro Q2 hN2 hR2 hE2
 refine sy [1,2,4,5] [0,1] (sp 27 [z2,z3,z4,(5,ii 0)]) [z1,z5] 2 (Aw.block ?_)
 obtain ⟨o4,hi4,hk4⟩:=bind_some hh
 refine Aw.iter (fun (s4:(List Int) × Int × Int × Int × Int × Bool × Int × Int × Int × Bool × Bool × Bool × Bool × (List Int) × (List Int) × (List Int) × Int)=>sp 27 [(1,ii x_steps),(2,pp 0),(4,pp 1),(5,ii s4.2.2.2.2.2.2.2.2.2.2.2.2.2.2.2.2)]) (fun (s4:(List Int) × Int × Int × Int × Int × Bool × Int × Int × Int × Bool × Bool × Bool × Bool × (List Int) × (List Int) × (List Int) × Int)=>[(0,some ⟨27,[bo (eI .i64) s4.1,ii s4.2.1,ii s4.2.2.1,ii s4.2.2.2.1,ii s4.2.2.2.2.1,bb s4.2.2.2.2.2.1,ii s4.2.2.2.2.2.2.1,ii s4.2.2.2.2.2.2.2.1,ii s4.2.2.2.2.2.2.2.2.1,bb s4.2.2.2.2.2.2.2.2.2.1,bb s4.2.2.2.2.2.2.2.2.2.2.1,bb s4.2.2.2.2.2.2.2.2.2.2.2.1,bb s4.2.2.2.2.2.2.2.2.2.2.2.2.1,bo (eI .i64) s4.2.2.2.2.2.2.2.2.2.2.2.2.2.1,bo (eI .i64) s4.2.2.2.2.2.2.2.2.2.2.2.2.2.2.1,bo (eI .i64) s4.2.2.2.2.2.2.2.2.2.2.2.2.2.2.2.1]⟩),(1,some ⟨27,(.nil::zru25 [.nil,.nil,.nil])⟩)]) 2 hi4 (el [some 0,some 1] (rens_sp kr (ri (rp 0 (rp 1 (ri rl_n))))) (hq (rB27 x_b) rz (hq q1 rz hs_nil))) ?_
 intro s4 u4 Q4 hh hN4 hX4 hR4
 let z6:=(20,bb (decide (s4.2.2.2.2.2.2.2.2.2.2.2.2.2.2.2.2<x_steps))); let z7:=(5,ii s4.2.2.2.2.2.2.2.2.2.2.2.2.2.2.2.2)
 unfold F_impl_BareRun_l4 at hh
 refine Aw.seq (Aw.sreg [1,2,4,5,20] [0,1] ?_)
 let q6:Root:=⟨27,[bo (eI .i64) s4.1,ii s4.2.1,ii s4.2.2.1,ii s4.2.2.2.1,ii s4.2.2.2.2.1,bb s4.2.2.2.2.2.1,ii s4.2.2.2.2.2.2.1,ii s4.2.2.2.2.2.2.2.1,ii s4.2.2.2.2.2.2.2.2.1,bb s4.2.2.2.2.2.2.2.2.2.1,bb s4.2.2.2.2.2.2.2.2.2.2.1,bb s4.2.2.2.2.2.2.2.2.2.2.2.1,bb s4.2.2.2.2.2.2.2.2.2.2.2.2.1,bo (eI .i64) s4.2.2.2.2.2.2.2.2.2.2.2.2.2.1,bo (eI .i64) s4.2.2.2.2.2.2.2.2.2.2.2.2.2.2.1,bo (eI .i64) s4.2.2.2.2.2.2.2.2.2.2.2.2.2.2.2.1]⟩
 refine yt (sp 27 [z2,z3,z4,z7,z6]) [(0,some q6),z5] 2 ?_
 rcases cond_sf hh with ⟨hb,hh⟩ | ⟨hb,hh⟩
 · refine cF hb (Aw.exit (then_x (hX4 _ _ _ _ _ (some_some hh) ?_)))
   intro hout
   rw [hout] at hk4
   refine blk_x ?_
   obtain rfl:=some_some hk4
   exact hN2 (s4.1,s4.2.1,s4.2.2.1,s4.2.2.2.1,s4.2.2.2.2.1,s4.2.2.2.2.2.1,s4.2.2.2.2.2.2.1,s4.2.2.2.2.2.2.2.1,s4.2.2.2.2.2.2.2.2.1,s4.2.2.2.2.2.2.2.2.2.1,s4.2.2.2.2.2.2.2.2.2.2.1,s4.2.2.2.2.2.2.2.2.2.2.2.1,s4.2.2.2.2.2.2.2.2.2.2.2.2.1,s4.2.2.2.2.2.2.2.2.2.2.2.2.2.1,s4.2.2.2.2.2.2.2.2.2.2.2.2.2.2.1,s4.2.2.2.2.2.2.2.2.2.2.2.2.2.2.2.1) _ _ _ hk2 (el [some 0,some 1] (rens_sp kr (rp 0 (rp 1 rl_n))) (hq q6 rz (hq q1 rz hs_nil)))
 refine cT hb (Aw.xskip (fun _ _ _ hq=>then_m hq) (Aw.seq (Aw.block (Aw.xreg [1,2,4,5] [0,1] (fun _ _ _ hq=>blk_m (then_m hq)) (yj 1  (sp 27 [z2,z3,z4,z7,z6,(23,.agg [bo (eI .i64) s4.1,ii s4.2.1,ii s4.2.2.1,ii s4.2.2.2.1,ii s4.2.2.2.2.1,bb s4.2.2.2.2.2.1,ii s4.2.2.2.2.2.2.1,ii s4.2.2.2.2.2.2.2.1,ii s4.2.2.2.2.2.2.2.2.1,bb s4.2.2.2.2.2.2.2.2.2.1,bb s4.2.2.2.2.2.2.2.2.2.2.1,bb s4.2.2.2.2.2.2.2.2.2.2.2.1,bb s4.2.2.2.2.2.2.2.2.2.2.2.2.1,bo (eI .i64) s4.2.2.2.2.2.2.2.2.2.2.2.2.2.1,bo (eI .i64) s4.2.2.2.2.2.2.2.2.2.2.2.2.2.2.1,bo (eI .i64) s4.2.2.2.2.2.2.2.2.2.2.2.2.2.2.2.1])]) [(0,some q6),z5] 2 ?_)))))
 obtain ⟨v5,hv5,hh⟩:=bind_some hh
 refine ys (.call 55 [(.t 23)]) (some 24) (op_callp (r:=.agg (B_27 v5)) (v:=.agg (B_27 v5)) (Hr:=[]) (n':=2) (impl_stepped_fn hv5) (clz_v (vs:=[.agg [bo (eI .i64) s4.1,ii s4.2.1,ii s4.2.2.1,ii s4.2.2.2.1,ii s4.2.2.2.2.1,bb s4.2.2.2.2.2.1,ii s4.2.2.2.2.2.2.1,ii s4.2.2.2.2.2.2.2.1,ii s4.2.2.2.2.2.2.2.2.1,bb s4.2.2.2.2.2.2.2.2.2.1,bb s4.2.2.2.2.2.2.2.2.2.2.1,bb s4.2.2.2.2.2.2.2.2.2.2.2.1,bb s4.2.2.2.2.2.2.2.2.2.2.2.2.1,bo (eI .i64) s4.2.2.2.2.2.2.2.2.2.2.2.2.2.1,bo (eI .i64) s4.2.2.2.2.2.2.2.2.2.2.2.2.2.2.1,bo (eI .i64) s4.2.2.2.2.2.2.2.2.2.2.2.2.2.2.2.1]]) kr (clz_c (clo_agg cz) clz_n)) nrr kr ?_)
 exact yt (sp 27 [z2,z3,z4,z7]) [(0,some (rB27 v5)),z5] 2 (Aw.oreg (ye (sp 27 [z2,z3,z4,(5,ii (w64 (s4.2.2.2.2.2.2.2.2.2.2.2.2.2.2.2.2+(1:Int)))),(21,ii s4.2.2.2.2.2.2.2.2.2.2.2.2.2.2.2.2),(22,ii (w64 (s4.2.2.2.2.2.2.2.2.2.2.2.2.2.2.2.2+(1:Int))))]) [(0,some (rB27 v5)),z5] 2 (hN4 (v5.C.Regs,v5.C.Pc,v5.C.Root,v5.C.Vector,v5.C.Saved,v5.C.SavedUser,v5.C.Cause,v5.C.Bad,v5.C.Timer,v5.C.Waits,v5.C.User,v5.C.On,v5.C.Stopped,v5.Mem,v5.In,v5.Out,(w64 (s4.2.2.2.2.2.2.2.2.2.2.2.2.2.2.2.2+(1:Int)))) _ _ _ (some_some hh) (el [some 0,some 1] (rens_sp kr (ri (rp 0 (rp 1 (ri rl_n))))) (hq (rB27 v5) rz (hq q1 rz hs_nil))))))
theorem low_spec_BareRun:LW 21 ⟨26,[(.cell 4 true 16)],(.seq (.reg false (rg 21 0)) (.seq (.seq (.reg false (rg 21 1)) (.cond (.t 14) (.seq (.reg false (rg 21 2)) .ret) .skip)) (.seq (.reg false (rg 21 3)) (.seq (.seq (.reg false (rg 21 4)) (.block 0 (.loop (.seq (.seq (.reg false (rg 21 5)) (.cond (.t 20) .skip (.exit 0))) (.seq (.block 1 (.reg false (rg 21 6))) (.reg false (rg 21 7))))))) (.seq (.reg false (rg 21 9)) .ret)))))⟩:=kr
noncomputable def F_spec_BareRun_j4  (s4:(List Int) × Int × Int × Int × Int × Bool × Int × Int × Int × Bool × Bool × Bool × Bool × (List Int) × (List Int) × (List Int)):Option DBare :=
 some (DBare.mk (DCore.mk s4.1 s4.2.1 s4.2.2.1 s4.2.2.2.1 s4.2.2.2.2.1 s4.2.2.2.2.2.1 s4.2.2.2.2.2.2.1 s4.2.2.2.2.2.2.2.1 s4.2.2.2.2.2.2.2.2.1 s4.2.2.2.2.2.2.2.2.2.1 s4.2.2.2.2.2.2.2.2.2.2.1 s4.2.2.2.2.2.2.2.2.2.2.2.1 s4.2.2.2.2.2.2.2.2.2.2.2.2.1) s4.2.2.2.2.2.2.2.2.2.2.2.2.2.1 s4.2.2.2.2.2.2.2.2.2.2.2.2.2.2.1 s4.2.2.2.2.2.2.2.2.2.2.2.2.2.2.2)
noncomputable def F_spec_BareRun_l5 (x_steps:Int) (s5:(List Int) × Int × Int × Int × Int × Bool × Int × Int × Int × Bool × Bool × Bool × Bool × (List Int) × (List Int) × (List Int) × Int):Option (LO ((List Int) × Int × Int × Int × Int × Bool × Int × Int × Int × Bool × Bool × Bool × Bool × (List Int) × (List Int) × (List Int) × Int) (JO ((List Int) × Int × Int × Int × Int × Bool × Int × Int × Int × Bool × Bool × Bool × Bool × (List Int) × (List Int) × (List Int)) DBare)) :=
 cond (decide (s5.2.2.2.2.2.2.2.2.2.2.2.2.2.2.2.2<x_steps))
  (Option.bind (F_spec_BareStep (DBare.mk (DCore.mk s5.1 s5.2.1 s5.2.2.1 s5.2.2.2.1 s5.2.2.2.2.1 s5.2.2.2.2.2.1 s5.2.2.2.2.2.2.1 s5.2.2.2.2.2.2.2.1 s5.2.2.2.2.2.2.2.2.1 s5.2.2.2.2.2.2.2.2.2.1 s5.2.2.2.2.2.2.2.2.2.2.1 s5.2.2.2.2.2.2.2.2.2.2.2.1 s5.2.2.2.2.2.2.2.2.2.2.2.2.1) s5.2.2.2.2.2.2.2.2.2.2.2.2.2.1 s5.2.2.2.2.2.2.2.2.2.2.2.2.2.2.1 s5.2.2.2.2.2.2.2.2.2.2.2.2.2.2.2.1)) fun v6 =>
  some (.next (v6.C.Regs,v6.C.Pc,v6.C.Root,v6.C.Vector,v6.C.Saved,v6.C.SavedUser,v6.C.Cause,v6.C.Bad,v6.C.Timer,v6.C.Waits,v6.C.User,v6.C.On,v6.C.Stopped,v6.Mem,v6.In,v6.Out,(w64 (s5.2.2.2.2.2.2.2.2.2.2.2.2.2.2.2.2+(1:Int))))))
  (some (.ret (.go (s5.1,s5.2.1,s5.2.2.1,s5.2.2.2.1,s5.2.2.2.2.1,s5.2.2.2.2.2.1,s5.2.2.2.2.2.2.1,s5.2.2.2.2.2.2.2.1,s5.2.2.2.2.2.2.2.2.1,s5.2.2.2.2.2.2.2.2.2.1,s5.2.2.2.2.2.2.2.2.2.2.1,s5.2.2.2.2.2.2.2.2.2.2.2.1,s5.2.2.2.2.2.2.2.2.2.2.2.2.1,s5.2.2.2.2.2.2.2.2.2.2.2.2.2.1,s5.2.2.2.2.2.2.2.2.2.2.2.2.2.2.1,s5.2.2.2.2.2.2.2.2.2.2.2.2.2.2.2.1))))
noncomputable def F_spec_BareRun (x_b:DBare) (x_steps:Int):Option DBare :=
 Option.bind (F_spec_BareOk x_b) fun v1 =>
 cond (!v1)
  (some (DBare.mk (DCore.mk ([]:List Int) (0:Int) (0:Int) (0:Int) (0:Int) false (0:Int) (0:Int) (0:Int) false false false false) ([]:List Int) ([]:List Int) ([]:List Int)))
  (Option.bind (F_spec_l1In x_steps (0:Int) (300:Int)) fun v2 =>
  cond (!v2)
   (some (DBare.mk (DCore.mk ([]:List Int) (0:Int) (0:Int) (0:Int) (0:Int) false (0:Int) (0:Int) (0:Int) false false false false) ([]:List Int) ([]:List Int) ([]:List Int)))
   (Option.bind (F_spec_l3Copy x_b) fun v3 =>
   Option.bind (Option.bind (iter (F_spec_BareRun_l5 x_steps) (v3.C.Regs,v3.C.Pc,v3.C.Root,v3.C.Vector,v3.C.Saved,v3.C.SavedUser,v3.C.Cause,v3.C.Bad,v3.C.Timer,v3.C.Waits,v3.C.User,v3.C.On,v3.C.Stopped,v3.Mem,v3.In,v3.Out,(0:Int))) LO.val) fun j4 =>
    JO.run j4 (F_spec_BareRun_j4)))
theorem spec_BareRun_fn {x_b:DBare} {x_steps:Int} {R_:DBare} (hh:F_spec_BareRun x_b x_steps=some R_):Fn Try.prog 21 [.agg (B_27 x_b),.int .i64 x_steps] (.agg (B_27 R_)):=by
 let z1:EH:=(0,some (rB27 x_b)); let z2:=(1,ii x_steps); let z3:=(4,pp 1); let z4:=(5,pp 6)
 unfold F_spec_BareRun at hh
 refine Fn.start low_spec_BareRun [0,1] (E:=sp 26 [(0,.agg (B_27 x_b)),z2]) kr (v:=.agg (B_27 R_)) (Hr:=[]) (k:=0) kr (Aw.sreg [1,2,4] [0,1] ?_)
 let q1:Root:=⟨27,(.nil::zru25 [.nil,.nil,.nil])⟩; let z5:=(1,some q1)
 refine yt (sp 26 [z2,(2,pp 0),z3]) [z1,z5] 2 (Aw.seq (Aw.sreg [1,2,4,14] [0,1] (yj 1  (sp 26 [z2,(2,pp 0),z3,(7,.agg (B_27 x_b))]) [z1,z5] 2 ?_)))
 obtain ⟨v1,hv1,hh⟩:=bind_some hh
 refine ys (.call 57 [(.t 7)]) (some 8) (op_call (r:=bb v1) (v:=bb v1) (Hr:=[]) (n':=2) (spec_BareOk_fn hv1) (clz_v (vs:=[.agg (B_27 x_b)]) kr (clz_c (clo_same (clean_agg (cl_B_27 _))) clz_n)) rfl rfl kr ?_)
 refine yu 2 [(8,bb v1),(9,bb (!v1)),(10,bb (!v1))] [z1,z5] 2 ?_
 rcases cond_some hh with ⟨hb,hh⟩ | ⟨hb,hh⟩
 · refine yb 9 hb (yb 10 hb (yt (sp 26 [z2,(2,pp 0),z3,(14,bb true)]) [z1,z5] 2 (cT rfl (sy [4] [1] (sp 26 [z3]) [z5] 2 (Aw.ret (then_r ?_))))))
   rw [some_some hh]
   exact gives (r':=.agg (.nil::zru25 [.nil,.nil,.nil])) kr (Ent.clov (.one _ _ (clo_agg (clos_c (clo_nil (T:=Int) (c:=(eI .i64))) (cs1 (cs1 (cs1 (cs1 (cs1 (cs1 (cs1 (cs1 (cs1 (cs1 (cs1 (cs1 (clos_c (clo_nil (T:=Int) (c:=(eI .i64))) (clos_c (clo_nil (T:=Int) (c:=(eI .i64))) (clos_c (clo_nil (T:=Int) (c:=(eI .i64))) clos_n)))))))))))))))))))
 refine yb 9 hb (yb 10 hb (yu 1 [(9,bb false),(10,bb false),(11,ii x_steps)] [z1,z5] 2 ?_))
 obtain ⟨v2,hv2,hh⟩:=bind_some hh
 refine yg (.call 73 [(.t 11),(.c (ii 0)),(.c (ii 300))]) (some 12) 10 false (oc (spec_l1In_fn hv2) ?_)
 refine yt (sp 26 [z2,(2,pp 0),z3,(14,bb (!v2))]) [z1,z5] 2 ?_
 rcases cond_some hh with ⟨hb,hh⟩ | ⟨hb,hh⟩
 · refine cT hb (sy [4] [1] (sp 26 [z3]) [z5] 2 (Aw.ret (then_r ?_)))
   rw [some_some hh]
   exact gives (r':=.agg (.nil::zru25 [.nil,.nil,.nil])) kr (Ent.clov (.one _ _ (clo_agg (clos_c (clo_nil (T:=Int) (c:=(eI .i64))) (cs1 (cs1 (cs1 (cs1 (cs1 (cs1 (cs1 (cs1 (cs1 (cs1 (cs1 (cs1 (clos_c (clo_nil (T:=Int) (c:=(eI .i64))) (clos_c (clo_nil (T:=Int) (c:=(eI .i64))) (clos_c (clo_nil (T:=Int) (c:=(eI .i64))) clos_n)))))))))))))))))))
 refine cF hb (Aw.xskip (fun _ _ _ hq=>then_m hq) (Aw.sreg [1,4,5] [1,2,3,4,5,6] (yj 1  (sp 26 [z2,(2,pp 0),z3,(14,bb (!v2)),(16,.agg (B_27 x_b))]) [z1,z5] 2 ?_)))
 obtain ⟨v3,hv3,hh⟩:=bind_some hh
 let q2:Root:=(rI_3 v3.Out); let z6:=(5,some q2); let q3:Root:=(rI_3 v3.In); let z7:=(4,some q3); let q4:Root:=(rI_3 v3.Mem); let q5:Root:=(rI_3 v3.C.Regs)
 refine ys (.call 58 [(.t 16)]) (some 17) (op_call (r:=.agg (.own 3 1 (List.length v3.C.Regs) (fl (eI .i64) v3.C.Regs)::ru25 v3.C [.own 3 1 (List.length v3.Mem) (fl (eI .i64) v3.Mem),.own 3 1 (List.length v3.In) (fl (eI .i64) v3.In),.own 3 1 (List.length v3.Out) (fl (eI .i64) v3.Out)])) (v:=.agg (sw 2 v3.C.Regs::ru25 v3.C [sw 3 v3.Mem,sw 4 v3.In,sw 5 v3.Out])) (Hr:=[z6,z7,(3,some q4),(2,some q5)]) (n':=6) (spec_l3Copy_fn hv3) (clz_v (vs:=[.agg (B_27 x_b)]) kr (clz_c (clo_same (clean_agg (cl_B_27 _))) clz_n)) nrr nrr kr ?_)
 let q6:Root:=⟨27,(sw 2 v3.C.Regs::ru25 v3.C [sw 3 v3.Mem,sw 4 v3.In,sw 5 v3.Out])⟩
 refine yt (sp 26 [z2,z3,z4]) [z5,(2,some q5),(3,some q4),z7,z6,(6,some q6)] 7 ?_
 obtain ⟨j4,hh,hk4⟩:=bind_some hh
 refine Aw.join (S:=(List Int) × Int × Int × Int × Int × Bool × Int × Int × Int × Bool × Bool × Bool × Bool × (List Int) × (List Int) × (List Int)) (fun s4=>sp 26 [(4,pp 0),(5,pp 1)]) (fun s4=>[(0,some ⟨27,(.nil::zru25 [.nil,.nil,.nil])⟩),(1,some ⟨27,[bo (eI .i64) s4.1,ii s4.2.1,ii s4.2.2.1,ii s4.2.2.2.1,ii s4.2.2.2.2.1,bb s4.2.2.2.2.2.1,ii s4.2.2.2.2.2.2.1,ii s4.2.2.2.2.2.2.2.1,ii s4.2.2.2.2.2.2.2.2.1,bb s4.2.2.2.2.2.2.2.2.2.1,bb s4.2.2.2.2.2.2.2.2.2.2.1,bb s4.2.2.2.2.2.2.2.2.2.2.2.1,bb s4.2.2.2.2.2.2.2.2.2.2.2.2.1,bo (eI .i64) s4.2.2.2.2.2.2.2.2.2.2.2.2.2.1,bo (eI .i64) s4.2.2.2.2.2.2.2.2.2.2.2.2.2.2.1,bo (eI .i64) s4.2.2.2.2.2.2.2.2.2.2.2.2.2.2.2]⟩)]) 2 (fun s4=>F_spec_BareRun_j4 s4=some R_) ?_ ?_
 · intro s4 hh
   unfold F_spec_BareRun_j4 at hh
   refine sy [4] [0] (sp 26 [(4,pp 0)]) [(0,some ⟨27,[bo (eI .i64) s4.1,ii s4.2.1,ii s4.2.2.1,ii s4.2.2.2.1,ii s4.2.2.2.2.1,bb s4.2.2.2.2.2.1,ii s4.2.2.2.2.2.2.1,ii s4.2.2.2.2.2.2.2.1,ii s4.2.2.2.2.2.2.2.2.1,bb s4.2.2.2.2.2.2.2.2.2.1,bb s4.2.2.2.2.2.2.2.2.2.2.1,bb s4.2.2.2.2.2.2.2.2.2.2.2.1,bb s4.2.2.2.2.2.2.2.2.2.2.2.2.1,bo (eI .i64) s4.2.2.2.2.2.2.2.2.2.2.2.2.2.1,bo (eI .i64) s4.2.2.2.2.2.2.2.2.2.2.2.2.2.2.1,bo (eI .i64) s4.2.2.2.2.2.2.2.2.2.2.2.2.2.2.2]⟩)] 2 (Aw.ret ?_)
   rw [some_some hh]
   exact gives (r':=.agg [bo (eI .i64) s4.1,ii s4.2.1,ii s4.2.2.1,ii s4.2.2.2.1,ii s4.2.2.2.2.1,bb s4.2.2.2.2.2.1,ii s4.2.2.2.2.2.2.1,ii s4.2.2.2.2.2.2.2.1,ii s4.2.2.2.2.2.2.2.2.1,bb s4.2.2.2.2.2.2.2.2.2.1,bb s4.2.2.2.2.2.2.2.2.2.2.1,bb s4.2.2.2.2.2.2.2.2.2.2.2.1,bb s4.2.2.2.2.2.2.2.2.2.2.2.2.1,bo (eI .i64) s4.2.2.2.2.2.2.2.2.2.2.2.2.2.1,bo (eI .i64) s4.2.2.2.2.2.2.2.2.2.2.2.2.2.2.1,bo (eI .i64) s4.2.2.2.2.2.2.2.2.2.2.2.2.2.2.2]) kr (Ent.clov (.one _ _ (clo_agg cz)))
 intro Q4 hN4 hR4 hE4
 refine sy [1,4,5,6] [1,2,3,4,5,6] (sp 26 [z2,z3,z4,(6,ii 0)]) [z5,(2,some q5),(3,some q4),z7,z6,(6,some q6)] 7 (Aw.block ?_)
 obtain ⟨o5,hi5,hk5⟩:=bind_some hh
 let q7:Root:=⟨27,(bo (eI .i64) v3.C.Regs::ru25 v3.C [bo (eI .i64) v3.Mem,bo (eI .i64) v3.In,sw 5 v3.Out])⟩; let q8:Root:=⟨27,(bo (eI .i64) v3.C.Regs::ru25 v3.C [bo (eI .i64) v3.Mem,sw 4 v3.In,sw 5 v3.Out])⟩; let q9:Root:=⟨27,(bo (eI .i64) v3.C.Regs::ru25 v3.C [sw 3 v3.Mem,sw 4 v3.In,sw 5 v3.Out])⟩
 refine Aw.iter (fun (s5:(List Int) × Int × Int × Int × Int × Bool × Int × Int × Int × Bool × Bool × Bool × Bool × (List Int) × (List Int) × (List Int) × Int)=>sp 26 [(1,ii x_steps),(4,pp 0),(5,pp 1),(6,ii s5.2.2.2.2.2.2.2.2.2.2.2.2.2.2.2.2)]) (fun (s5:(List Int) × Int × Int × Int × Int × Bool × Int × Int × Int × Bool × Bool × Bool × Bool × (List Int) × (List Int) × (List Int) × Int)=>[(0,some ⟨27,(.nil::zru25 [.nil,.nil,.nil])⟩),(1,some ⟨27,[bo (eI .i64) s5.1,ii s5.2.1,ii s5.2.2.1,ii s5.2.2.2.1,ii s5.2.2.2.2.1,bb s5.2.2.2.2.2.1,ii s5.2.2.2.2.2.2.1,ii s5.2.2.2.2.2.2.2.1,ii s5.2.2.2.2.2.2.2.2.1,bb s5.2.2.2.2.2.2.2.2.2.1,bb s5.2.2.2.2.2.2.2.2.2.2.1,bb s5.2.2.2.2.2.2.2.2.2.2.2.1,bb s5.2.2.2.2.2.2.2.2.2.2.2.2.1,bo (eI .i64) s5.2.2.2.2.2.2.2.2.2.2.2.2.2.1,bo (eI .i64) s5.2.2.2.2.2.2.2.2.2.2.2.2.2.2.1,bo (eI .i64) s5.2.2.2.2.2.2.2.2.2.2.2.2.2.2.2.1]⟩)]) 6 hi5 (Ent.trans (el [some 1,some 6,none,none,none,none] (rens_sp kr (ri (rp 1 (rp 6 (ri rl_n))))) (hq q1 rz (hq (rB27 v3) rz hs_nil))) (Ent.trans (Ent.freeze (R:=5) (cs:=(fl (eI .i64) v3.Out)) (e:=3) (xs2:=sp 26 [z2,z3,z4,(6,ii 0)]) (H2:=[z5,(6,some (rB27 v3))]) kr (noOwn_fl no_eI) (frs_sp kr (fl_c (u:=ii x_steps) kr (.same _) (fl_c (u:=pp 1) kr (.same _) (fl_c (u:=pp 6) kr (.same _) (fl_c (u:=ii 0) kr (.same _) fl_n))))) (hf_c (t:=q1) rfl kr rfl (frs_c (.same _) (frs_c (.same _) (frs_c (.same _) (frs_c (.same _) (frs_c (.same _) (frs_c (.same _) (frs_c (.same _) (frs_c (.same _) (frs_c (.same _) (frs_c (.same _) (frs_c (.same _) (frs_c (.same _) (frs_c (.same _) (frs_c (.same _) (frs_c (.same _) (frs_c (.same _) frs_n)))))))))))))))) (hf_c (t:=q7) rfl kr rfl (frs_c (.same _) (frs_c (.same _) (frs_c (.same _) (frs_c (.same _) (frs_c (.same _) (frs_c (.same _) (frs_c (.same _) (frs_c (.same _) (frs_c (.same _) (frs_c (.same _) (frs_c (.same _) (frs_c (.same _) (frs_c (.same _) (frs_c (.same _) (frs_c (.same _) (frs_c (fr_all len_eI eqn) frs_n)))))))))))))))) hf_n))) (Ent.trans (Ent.freeze (R:=4) (cs:=(fl (eI .i64) v3.In)) (e:=3) (xs2:=sp 26 [z2,z3,z4,(6,ii 0)]) (H2:=[z5,z6,(6,some q7)]) kr (noOwn_fl no_eI) (frs_sp kr (fl_c (u:=ii x_steps) kr (.same _) (fl_c (u:=pp 1) kr (.same _) (fl_c (u:=pp 6) kr (.same _) (fl_c (u:=ii 0) kr (.same _) fl_n))))) (hf_c (t:=q1) rfl kr rfl (frs_c (.same _) (frs_c (.same _) (frs_c (.same _) (frs_c (.same _) (frs_c (.same _) (frs_c (.same _) (frs_c (.same _) (frs_c (.same _) (frs_c (.same _) (frs_c (.same _) (frs_c (.same _) (frs_c (.same _) (frs_c (.same _) (frs_c (.same _) (frs_c (.same _) (frs_c (.same _) frs_n)))))))))))))))) (hf_c (t:=q2) rfl kr rfl frs_same (hf_c (t:=q8) rfl kr rfl (frs_c (.same _) (frs_c (.same _) (frs_c (.same _) (frs_c (.same _) (frs_c (.same _) (frs_c (.same _) (frs_c (.same _) (frs_c (.same _) (frs_c (.same _) (frs_c (.same _) (frs_c (.same _) (frs_c (.same _) (frs_c (.same _) (frs_c (.same _) (frs_c (fr_all len_eI eqn) (frs_c (.same _) frs_n)))))))))))))))) hf_n)))) (Ent.trans (Ent.freeze (R:=3) (cs:=(fl (eI .i64) v3.Mem)) (e:=3) (xs2:=sp 26 [z2,z3,z4,(6,ii 0)]) (H2:=[z5,z7,z6,(6,some q8)]) kr (noOwn_fl no_eI) (frs_sp kr (fl_c (u:=ii x_steps) kr (.same _) (fl_c (u:=pp 1) kr (.same _) (fl_c (u:=pp 6) kr (.same _) (fl_c (u:=ii 0) kr (.same _) fl_n))))) (hf_c (t:=q1) rfl kr rfl (frs_c (.same _) (frs_c (.same _) (frs_c (.same _) (frs_c (.same _) (frs_c (.same _) (frs_c (.same _) (frs_c (.same _) (frs_c (.same _) (frs_c (.same _) (frs_c (.same _) (frs_c (.same _) (frs_c (.same _) (frs_c (.same _) (frs_c (.same _) (frs_c (.same _) (frs_c (.same _) frs_n)))))))))))))))) (hf_c (t:=q3) rfl kr rfl frs_same (hf_c (t:=q2) rfl kr rfl frs_same (hf_c (t:=q9) rfl kr rfl (frs_c (.same _) (frs_c (.same _) (frs_c (.same _) (frs_c (.same _) (frs_c (.same _) (frs_c (.same _) (frs_c (.same _) (frs_c (.same _) (frs_c (.same _) (frs_c (.same _) (frs_c (.same _) (frs_c (.same _) (frs_c (.same _) (frs_c (fr_all len_eI eqn) (frs_c (.same _) (frs_c (.same _) frs_n)))))))))))))))) hf_n))))) (Ent.freeze (R:=2) (cs:=(fl (eI .i64) v3.C.Regs)) (e:=3) (xs2:=sp 26 [z2,z3,z4,(6,ii 0)]) (H2:=[z5,(3,some q4),z7,z6,(6,some q9)]) kr (noOwn_fl no_eI) (frs_sp kr (fl_c (u:=ii x_steps) kr (.same _) (fl_c (u:=pp 1) kr (.same _) (fl_c (u:=pp 6) kr (.same _) (fl_c (u:=ii 0) kr (.same _) fl_n))))) (hf_c (t:=q1) rfl kr rfl (frs_c (.same _) (frs_c (.same _) (frs_c (.same _) (frs_c (.same _) (frs_c (.same _) (frs_c (.same _) (frs_c (.same _) (frs_c (.same _) (frs_c (.same _) (frs_c (.same _) (frs_c (.same _) (frs_c (.same _) (frs_c (.same _) (frs_c (.same _) (frs_c (.same _) (frs_c (.same _) frs_n)))))))))))))))) (hf_c (t:=q4) rfl kr rfl frs_same (hf_c (t:=q3) rfl kr rfl frs_same (hf_c (t:=q2) rfl kr rfl frs_same (hf_c (t:=q6) rfl kr rfl (frs_c (fr_all len_eI eqn) (frs_c (.same _) (frs_c (.same _) (frs_c (.same _) (frs_c (.same _) (frs_c (.same _) (frs_c (.same _) (frs_c (.same _) (frs_c (.same _) (frs_c (.same _) (frs_c (.same _) (frs_c (.same _) (frs_c (.same _) (frs_c (.same _) (frs_c (.same _) (frs_c (.same _) frs_n)))))))))))))))) hf_n)))))))))) ?_
 intro s5 u5 Q5 hh hN5 hX5 hR5
 let z8:=(20,bb (decide (s5.2.2.2.2.2.2.2.2.2.2.2.2.2.2.2.2<x_steps))); let z9:=(6,ii s5.2.2.2.2.2.2.2.2.2.2.2.2.2.2.2.2)
 unfold F_spec_BareRun_l5 at hh
 refine Aw.seq (Aw.sreg [1,4,5,6,20] [0,1] ?_)
 let q10:Root:=⟨27,[bo (eI .i64) s5.1,ii s5.2.1,ii s5.2.2.1,ii s5.2.2.2.1,ii s5.2.2.2.2.1,bb s5.2.2.2.2.2.1,ii s5.2.2.2.2.2.2.1,ii s5.2.2.2.2.2.2.2.1,ii s5.2.2.2.2.2.2.2.2.1,bb s5.2.2.2.2.2.2.2.2.2.1,bb s5.2.2.2.2.2.2.2.2.2.2.1,bb s5.2.2.2.2.2.2.2.2.2.2.2.1,bb s5.2.2.2.2.2.2.2.2.2.2.2.2.1,bo (eI .i64) s5.2.2.2.2.2.2.2.2.2.2.2.2.2.1,bo (eI .i64) s5.2.2.2.2.2.2.2.2.2.2.2.2.2.2.1,bo (eI .i64) s5.2.2.2.2.2.2.2.2.2.2.2.2.2.2.2.1]⟩
 refine yt (sp 26 [z2,(4,pp 0),(5,pp 1),z9,z8]) [(0,some q1),(1,some q10)] 6 ?_
 rcases cond_sf hh with ⟨hb,hh⟩ | ⟨hb,hh⟩
 · refine cF hb (Aw.exit (then_x (hX5 _ _ _ _ _ (some_some hh) ?_)))
   intro hout
   rw [hout] at hk5
   refine blk_x ?_
   obtain rfl:=some_some hk5
   exact hN4 (s5.1,s5.2.1,s5.2.2.1,s5.2.2.2.1,s5.2.2.2.2.1,s5.2.2.2.2.2.1,s5.2.2.2.2.2.2.1,s5.2.2.2.2.2.2.2.1,s5.2.2.2.2.2.2.2.2.1,s5.2.2.2.2.2.2.2.2.2.1,s5.2.2.2.2.2.2.2.2.2.2.1,s5.2.2.2.2.2.2.2.2.2.2.2.1,s5.2.2.2.2.2.2.2.2.2.2.2.2.1,s5.2.2.2.2.2.2.2.2.2.2.2.2.2.1,s5.2.2.2.2.2.2.2.2.2.2.2.2.2.2.1,s5.2.2.2.2.2.2.2.2.2.2.2.2.2.2.2.1) _ _ _ hk4 (el [some 0,some 1] (rens_sp kr (rp 0 (rp 1 rl_n))) (hq q1 rz (hq q10 rz hs_nil)))
 refine cT hb (Aw.xskip (fun _ _ _ hq=>then_m hq) (Aw.seq (Aw.block (Aw.xreg [1,4,5,6] [0,1] (fun _ _ _ hq=>blk_m (then_m hq)) (yj 1  (sp 26 [z2,(4,pp 0),(5,pp 1),z9,z8,(23,.agg [bo (eI .i64) s5.1,ii s5.2.1,ii s5.2.2.1,ii s5.2.2.2.1,ii s5.2.2.2.2.1,bb s5.2.2.2.2.2.1,ii s5.2.2.2.2.2.2.1,ii s5.2.2.2.2.2.2.2.1,ii s5.2.2.2.2.2.2.2.2.1,bb s5.2.2.2.2.2.2.2.2.2.1,bb s5.2.2.2.2.2.2.2.2.2.2.1,bb s5.2.2.2.2.2.2.2.2.2.2.2.1,bb s5.2.2.2.2.2.2.2.2.2.2.2.2.1,bo (eI .i64) s5.2.2.2.2.2.2.2.2.2.2.2.2.2.1,bo (eI .i64) s5.2.2.2.2.2.2.2.2.2.2.2.2.2.2.1,bo (eI .i64) s5.2.2.2.2.2.2.2.2.2.2.2.2.2.2.2.1])]) [(0,some q1),(1,some q10)] 6 ?_)))))
 obtain ⟨v6,hv6,hh⟩:=bind_some hh
 refine ys (.call 14 [(.t 23)]) (some 24) (op_callp (r:=.agg (B_27 v6)) (v:=.agg (B_27 v6)) (Hr:=[]) (n':=6) (spec_BareStep_fn hv6) (clz_v (vs:=[.agg [bo (eI .i64) s5.1,ii s5.2.1,ii s5.2.2.1,ii s5.2.2.2.1,ii s5.2.2.2.2.1,bb s5.2.2.2.2.2.1,ii s5.2.2.2.2.2.2.1,ii s5.2.2.2.2.2.2.2.1,ii s5.2.2.2.2.2.2.2.2.1,bb s5.2.2.2.2.2.2.2.2.2.1,bb s5.2.2.2.2.2.2.2.2.2.2.1,bb s5.2.2.2.2.2.2.2.2.2.2.2.1,bb s5.2.2.2.2.2.2.2.2.2.2.2.2.1,bo (eI .i64) s5.2.2.2.2.2.2.2.2.2.2.2.2.2.1,bo (eI .i64) s5.2.2.2.2.2.2.2.2.2.2.2.2.2.2.1,bo (eI .i64) s5.2.2.2.2.2.2.2.2.2.2.2.2.2.2.2.1]]) kr (clz_c (clo_agg cz) clz_n)) nrr kr ?_)
 exact yt (sp 26 [z2,(4,pp 0),(5,pp 1),z9]) [(0,some q1),(1,some (rB27 v6))] 6 (Aw.oreg (ye (sp 26 [z2,(4,pp 0),(5,pp 1),(6,ii (w64 (s5.2.2.2.2.2.2.2.2.2.2.2.2.2.2.2.2+(1:Int)))),(21,ii s5.2.2.2.2.2.2.2.2.2.2.2.2.2.2.2.2),(22,ii (w64 (s5.2.2.2.2.2.2.2.2.2.2.2.2.2.2.2.2+(1:Int))))]) [(0,some q1),(1,some (rB27 v6))] 6 (hN5 (v6.C.Regs,v6.C.Pc,v6.C.Root,v6.C.Vector,v6.C.Saved,v6.C.SavedUser,v6.C.Cause,v6.C.Bad,v6.C.Timer,v6.C.Waits,v6.C.User,v6.C.On,v6.C.Stopped,v6.Mem,v6.In,v6.Out,(w64 (s5.2.2.2.2.2.2.2.2.2.2.2.2.2.2.2.2+(1:Int)))) _ _ _ (some_some hh) (el [some 0,some 1,none,none,none,none] (rens_sp kr (ri (rp 0 (rp 1 (ri rl_n))))) (hq q1 rz (hq (rB27 v6) rz hs_nil))))))
end Go.Proofs.Ytbanbjdcgdmkaaa
