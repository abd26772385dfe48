/- Plain functions of the program, and that it hands back what they say. Made by program. -/
import Derived.Test.YtbanbjdcgdmkaaaWT
import Derived.Test.YtbanbjdcgdmkaaaProg
import Derived.Test.YtbanbjdcgdmkaaaWKD1
import Derived.Test.YtbanbjdcgdmkaaaWKI1
namespace Go.Proofs.Ytbanbjdcgdmkaaa
open Go.RowKit
set_option maxRecDepth 100000
set_option linter.all false
set_option maxHeartbeats 0
theorem low_impl_trapped:LW 156 ⟨24,[(.cell 8 true 13)],(.seq (.reg false (rg 156 0)) (.seq (.reg false (rg 156 1)) (.seq (.reg false (rg 156 2)) (.seq (.reg false (rg 156 3)) (.seq (.reg false (rg 156 4)) (.seq (.reg false (rg 156 5)) (.seq (.reg false (rg 156 6)) (.seq (.reg false (rg 156 7)) (.seq (.reg false (rg 156 8)) .ret)))))))))⟩:=kr
noncomputable def F_impl_trapped (x_c:DCore) (x_cause:Int) (x_bad:Int) (x_saved:Int):Option DCore :=
 some (DCore.mk x_c.Regs x_c.Vector x_c.Root x_c.Vector x_saved x_c.User x_cause x_bad x_c.Timer x_c.Waits false false x_c.Stopped)
theorem impl_trapped_fn {x_c:DCore} {x_cause:Int} {x_bad:Int} {x_saved:Int} {R_:DCore} (hh:F_impl_trapped x_c x_cause x_bad x_saved=some R_):Fn Try.prog 156 [.agg (B_25 x_c),.int .i64 x_cause,.int .i64 x_bad,.int .i64 x_saved] (.agg (B_25 R_)):=by
 let z1:=(1,ii x_cause); let z2:EH:=(1,some ⟨25,(.nil::zru25 [])⟩); let z3:=(2,ii x_bad); let z4:=(4,pp 0); let z5:=(8,pp 1)
 unfold F_impl_trapped at hh
 refine Fn.start low_impl_trapped [0,1,2,3] (E:=sp 24 [(0,.agg (B_25 x_c)),z1,z3,(3,ii x_saved)]) kr (v:=.agg (B_25 R_)) (Hr:=[]) (k:=0) kr (sy [1,2,3,4,8] [0,1] (sp 24 [z1,z3,(3,ii x_saved),z4,z5]) [(0,some (rB25 x_c)),z2] 2 (sy [1,2,4,8] [0,1] (sp 24 [z1,z3,z4,z5]) [(0,some ⟨25,[bo (eI .i64) x_c.Regs,ii x_c.Pc,ii x_c.Root,ii x_c.Vector,ii x_saved,bb x_c.SavedUser,ii x_c.Cause,ii x_c.Bad,ii x_c.Timer,bb x_c.Waits,bb x_c.User,bb x_c.On,bb x_c.Stopped]⟩),z2] 2 (sy [1,2,4,8] [0,1] (sp 24 [z1,z3,z4,z5]) [(0,some ⟨25,[bo (eI .i64) x_c.Regs,ii x_c.Pc,ii x_c.Root,ii x_c.Vector,ii x_saved,bb x_c.User,ii x_c.Cause,ii x_c.Bad,ii x_c.Timer,bb x_c.Waits,bb x_c.User,bb x_c.On,bb x_c.Stopped]⟩),z2] 2 (sy [2,4,8] [0,1] (sp 24 [z3,z4,z5]) [(0,some ⟨25,[bo (eI .i64) x_c.Regs,ii x_c.Pc,ii x_c.Root,ii x_c.Vector,ii x_saved,bb x_c.User,ii x_cause,ii x_c.Bad,ii x_c.Timer,bb x_c.Waits,bb x_c.User,bb x_c.On,bb x_c.Stopped]⟩),z2] 2 (sy [4,8] [0,1] (sp 24 [z4,z5]) [(0,some ⟨25,[bo (eI .i64) x_c.Regs,ii x_c.Pc,ii x_c.Root,ii x_c.Vector,ii x_saved,bb x_c.User,ii x_cause,ii x_bad,ii x_c.Timer,bb x_c.Waits,bb x_c.User,bb x_c.On,bb x_c.Stopped]⟩),z2] 2 (sy [4,8] [0,1] (sp 24 [z4,z5]) [(0,some ⟨25,[bo (eI .i64) x_c.Regs,ii x_c.Vector,ii x_c.Root,ii x_c.Vector,ii x_saved,bb x_c.User,ii x_cause,ii x_bad,ii x_c.Timer,bb x_c.Waits,bb x_c.User,bb x_c.On,bb x_c.Stopped]⟩),z2] 2 (sy [4,8] [0,1] (sp 24 [z4,z5]) [(0,some ⟨25,[bo (eI .i64) x_c.Regs,ii x_c.Vector,ii x_c.Root,ii x_c.Vector,ii x_saved,bb x_c.User,ii x_cause,ii x_bad,ii x_c.Timer,bb x_c.Waits,bb false,bb x_c.On,bb x_c.Stopped]⟩),z2] 2 (Aw.sreg [4,8] [0,1] ?_))))))))
 let q1:Root:=⟨25,[bo (eI .i64) x_c.Regs,ii x_c.Vector,ii x_c.Root,ii x_c.Vector,ii x_saved,bb x_c.User,ii x_cause,ii x_bad,ii x_c.Timer,bb x_c.Waits,bb false,bb false,bb x_c.Stopped]⟩
 refine yt (sp 24 [z4,z5]) [(0,some q1),z2] 2 (sy [8] [1] (sp 24 [z5]) [(1,some q1)] 2 (Aw.ret ?_))
 rw [some_some hh]
 exact gives (r':=.agg [bo (eI .i64) x_c.Regs,ii x_c.Vector,ii x_c.Root,ii x_c.Vector,ii x_saved,bb x_c.User,ii x_cause,ii x_bad,ii x_c.Timer,bb x_c.Waits,bb false,bb false,bb x_c.Stopped]) kr (Ent.clov (.one _ _ (clo_agg cz)))
theorem low_impl_withRegister:LW 176 ⟨17,[(.cell 6 true 16)],(.seq (.reg false (rg 176 0)) (.seq (.reg false (rg 176 1)) (.seq (.reg false (rg 176 2)) .ret)))⟩:=kr
noncomputable def F_impl_withRegister (x_b:DBare) (x_a:Int) (x_w:Int):Option DBare :=
 Option.bind (F_impl_changed x_b.C.Regs x_a x_w) fun v1 =>
 Option.bind (F_impl_wentOn (DBare.mk (DCore.mk v1 x_b.C.Pc x_b.C.Root x_b.C.Vector x_b.C.Saved x_b.C.SavedUser x_b.C.Cause x_b.C.Bad x_b.C.Timer x_b.C.Waits x_b.C.User x_b.C.On x_b.C.Stopped) x_b.Mem x_b.In x_b.Out)) fun v2 =>
 some v2
theorem impl_withRegister_fn {x_b:DBare} {x_a:Int} {x_w:Int} {R_:DBare} (hh:F_impl_withRegister x_b x_a x_w=some R_):Fn Try.prog 176 [.agg (B_27 x_b),.int .i64 x_a,.int .i64 x_w] (.agg (B_27 R_)):=by
 unfold F_impl_withRegister at hh
 refine Fn.start low_impl_withRegister [0,1,2] (E:=sp 17 [(0,.agg (B_27 x_b)),(1,ii x_a),(2,ii x_w)]) kr (v:=.agg (B_27 R_)) (Hr:=[]) (k:=0) kr (Aw.sreg [1,2,3,6] [0,1] ?_)
 let q1:Root:=⟨27,(.nil::zru25 [.nil,.nil,.nil])⟩; let z1:=(1,some q1)
 refine yt (sp 17 [(1,ii x_a),(2,ii x_w),(3,pp 0),(6,pp 1)]) [(0,some (rB27 x_b)),z1] 2 (Aw.sreg [3,6] [0,1,2] (yu 5 [(7,pp 0),(8,pp 0),(9,bo (eI .i64) x_b.C.Regs),(10,ii x_a),(11,ii x_w)] [(0,some (rB27 x_b)),z1] 2 ?_))
 obtain ⟨v1,hv1,hh⟩:=bind_some hh
 let z2:EH:=(2,some (rI_3 v1))
 refine ys (.call 168 [(.t 9),(.t 10),(.t 11)]) (some 12) (op_call (r:=.own 3 1 (List.length v1) (fl (eI .i64) v1)) (v:=sw 2 v1) (Hr:=[z2]) (n':=3) (impl_changed_fn hv1) (clz_v (vs:=[bo (eI .i64) x_b.C.Regs,ii x_a,ii x_w]) kr (clz_c (clo_same (clean_bor (cleans_fl cl_eI))) (cz1 (cz1 clz_n)))) nrr nrr kr ?_)
 let q2:Root:=⟨27,(sw 2 v1::ru25 x_b.C [bo (eI .i64) x_b.Mem,bo (eI .i64) x_b.In,bo (eI .i64) x_b.Out])⟩
 refine yt (sp 17 [(3,pp 0),(6,pp 1)]) [(0,some q2),z1,z2] 3 ?_
 let q3:Root:=⟨27,(bo (eI .i64) v1::ru25 x_b.C [bo (eI .i64) x_b.Mem,bo (eI .i64) x_b.In,bo (eI .i64) x_b.Out])⟩
 refine Aw.freeze 2 (cs:=(fl (eI .i64) v1)) (e:=3) (env2:=sp 17 [(3,pp 0),(6,pp 1)]) (H2:=[(0,some q3),z1]) kr (noOwn_fl no_eI) (frs_sp kr (fl_c (u:=pp 0) kr (.same _) (fl_c (u:=pp 1) kr (.same _) fl_n))) (hf_c (t:=q2) rfl kr rfl (frs_c (fr_all len_eI eqn) (frs_c (.same _) (frs_c (.same _) (frs_c (.same _) (frs_c (.same _) (frs_c (.same _) (frs_c (.same _) (frs_c (.same _) (frs_c (.same _) (frs_c (.same _) (frs_c (.same _) (frs_c (.same _) (frs_c (.same _) (frs_c (.same _) (frs_c (.same _) (frs_c (.same _) frs_n)))))))))))))))) (hf_c (t:=q1) rfl kr rfl (frs_c (.same _) (frs_c (.same _) (frs_c (.same _) (frs_c (.same _) (frs_c (.same _) (frs_c (.same _) (frs_c (.same _) (frs_c (.same _) (frs_c (.same _) (frs_c (.same _) (frs_c (.same _) (frs_c (.same _) (frs_c (.same _) (frs_c (.same _) (frs_c (.same _) (frs_c (.same _) frs_n)))))))))))))))) hf_n)) (Aw.sreg [6] [1] (yj 1  (sp 17 [(3,pp 0),(6,pp 1),(15,.agg (bo (eI .i64) v1::ru25 x_b.C [bo (eI .i64) x_b.Mem,bo (eI .i64) x_b.In,bo (eI .i64) x_b.Out]))]) [(0,some q3),z1] 3 ?_))
 obtain ⟨v2,hv2,hh⟩:=bind_some hh
 refine ys (.call 146 [(.t 15)]) (some 16) (op_callp (r:=.agg (B_27 v2)) (v:=.agg (B_27 v2)) (Hr:=[]) (n':=3) (impl_wentOn_fn hv2) (clz_v (vs:=[.agg (bo (eI .i64) v1::ru25 x_b.C [bo (eI .i64) x_b.Mem,bo (eI .i64) x_b.In,bo (eI .i64) x_b.Out])]) kr (clz_c (clo_agg cz) clz_n)) nrr kr ?_)
 refine yt (sp 17 [(6,pp 1)]) [(1,some (rB27 v2))] 3 (Aw.ret ?_)
 rw [some_some hh]
 exact gives (r':=.agg (B_27 v2)) kr (Ent.clov (.one _ _ (clo_same (clean_agg (cl_B_27 _)))))
theorem low_impl_jumped:LW 184 ⟨25,[(.cell 4 true 16)],(.seq (.reg false (rg 184 0)) (.seq (.seq (.reg false (rg 184 1)) (.cond (.t 17) (.seq (.reg false (rg 184 2)) .ret) .skip)) (.seq (.reg false (rg 184 3)) (.seq (.reg false (rg 184 4)) .ret))))⟩:=kr
noncomputable def F_impl_jumped_j1 (x_b:DBare) (x_i:DIns) (s1:Unit):Option DBare :=
 some (DBare.mk (DCore.mk x_b.C.Regs x_i.N x_b.C.Root x_b.C.Vector x_b.C.Saved x_b.C.SavedUser x_b.C.Cause x_b.C.Bad x_b.C.Timer x_b.C.Waits x_b.C.User x_b.C.On x_b.C.Stopped) x_b.Mem x_b.In x_b.Out)
noncomputable def F_impl_jumped (x_b:DBare) (x_i:DIns):Option DBare :=
 Option.bind (cond (decide (x_i.Op=(6:Int)))
  (grd ((0:Int)≤x_i.A∧x_i.A<((List.length x_b.C.Regs:Nat):Int)) (cond (decide ((List.getD x_b.C.Regs (Int.toNat x_i.A) default)=(0:Int)))
   (Option.bind (F_impl_wentOn x_b) fun v2 =>
   some (.out v2))
   (some (.go ()))))
  (some (.go ()))) fun j1 =>
  JO.run j1 (F_impl_jumped_j1 x_b x_i)
theorem impl_jumped_fn {x_b:DBare} {x_i:DIns} {R_:DBare} (hh:F_impl_jumped x_b x_i=some R_):Fn Try.prog 184 [.agg (B_27 x_b),.agg (C_45 x_i)] (.agg (B_27 R_)):=by
 let z2:EH:=(0,some (rB27 x_b)); let z3:EH:=(1,some ⟨45,(C_45 x_i)⟩); let z4:=(4,pp 2); let z1:=List.getD x_b.C.Regs (Int.toNat x_i.A) default
 unfold F_impl_jumped at hh
 refine Fn.start low_impl_jumped [0,1] (E:=sp 25 [(0,.agg (B_27 x_b)),(1,.agg (C_45 x_i))]) kr (v:=.agg (B_27 R_)) (Hr:=[]) (k:=0) kr (Aw.sreg [2,3,4] [0,1,2] ?_)
 let q1:Root:=⟨27,(.nil::zru25 [.nil,.nil,.nil])⟩; let z5:=(2,some q1)
 refine yt (sp 25 [(2,pp 0),(3,pp 1),z4]) [z2,z3,z5] 3 ?_
 obtain ⟨j1,hh,hk1⟩:=bind_some hh
 refine Aw.join (S:=Unit) (fun s1=>sp 25 [(2,pp 0),(3,pp 1),(4,pp 2)]) (fun s1=>[(0,some (rB27 x_b)),(1,some ⟨45,(C_45 x_i)⟩),(2,some ⟨27,(.nil::zru25 [.nil,.nil,.nil])⟩)]) 3 (fun s1=>F_impl_jumped_j1 x_b x_i s1=some R_) ?_ ?_
 · intro s1 hh
   unfold F_impl_jumped_j1 at hh
   refine Aw.sreg [2,4] [0,2] ?_
   let q2:Root:=⟨27,[bo (eI .i64) x_b.C.Regs,ii x_i.N,ii x_b.C.Root,ii x_b.C.Vector,ii x_b.C.Saved,bb x_b.C.SavedUser,ii x_b.C.Cause,ii x_b.C.Bad,ii x_b.C.Timer,bb x_b.C.Waits,bb x_b.C.User,bb x_b.C.On,bb x_b.C.Stopped,bo (eI .i64) x_b.Mem,bo (eI .i64) x_b.In,bo (eI .i64) x_b.Out]⟩
   refine yt (sp 25 [(2,pp 0),z4]) [(0,some q2),z5] 3 (sy [4] [2] (sp 25 [z4]) [(2,some q2)] 3 (Aw.ret ?_))
   rw [some_some hh]
   exact gives (r':=.agg [bo (eI .i64) x_b.C.Regs,ii x_i.N,ii x_b.C.Root,ii x_b.C.Vector,ii x_b.C.Saved,bb x_b.C.SavedUser,ii x_b.C.Cause,ii x_b.C.Bad,ii x_b.C.Timer,bb x_b.C.Waits,bb x_b.C.User,bb x_b.C.On,bb x_b.C.Stopped,bo (eI .i64) x_b.Mem,bo (eI .i64) x_b.In,bo (eI .i64) x_b.Out]) kr (Ent.clov (.one _ _ (clo_agg cz)))
 intro Q1 hN1 hR1 hE1
 refine Aw.sreg [2,3,4,17] [0,1,2] (yj 4  (sp 25 [(2,pp 0),(3,pp 1),z4,(5,pp 1),(6,ii x_i.Op),(7,bb (decide (x_i.Op=(6:Int)))),(8,bb (decide (x_i.Op=(6:Int))))]) [z2,z3,z5] 3 ?_)
 rcases cond_sf hh with ⟨hb,hh⟩ | ⟨hb,hh⟩
 · refine yb 7 hb (yb 8 hb (yt (sp 25 [(2,pp 0),(3,pp 1),z4,(17,bb false)]) [z2,z3,z5] 3 (cF rfl (Aw.skip ?_))))
   obtain rfl:=some_some hh
   exact hN1 () _ _ _ hk1 (el [some 0,some 1,some 2] (rens_sp kr (rp 0 (rp 1 (rp 2 rl_n)))) (hq (rB27 x_b) (rens_same (nr_B_27 _)) (hq ⟨45,(C_45 x_i)⟩ (rens_same (nr_C_45 _)) (hq q1 rz hs_nil))))
 refine yb 7 hb (yb 8 hb (yu 5 [(7,bb true),(8,bb true),(9,pp 0),(10,pp 0),(11,bo (eI .i64) x_b.C.Regs),(12,.ptr 1 [] 1),(13,ii x_i.A)] [z2,z3,z5] 3 ?_))
 obtain ⟨hg6,hh⟩:=grd_some hh
 refine yg (.iadr 1 (.t 11) (.t 13)) (some 14) 8 true (op_iadr (kd:=.i64) (c:=(eI .i64)) (xs:=x_b.C.Regs) len_eI dd kr kr hg6 ?_)
 refine yg (.load false 1 (.t 14)) (some 15) 8 true (op_loadb (c:=(eI .i64)) (xs:=x_b.C.Regs) (o:=Int.toNat x_i.A*1) (i:=(Int.toNat x_i.A)) (off:=0) (v:=ii z1) len_eI kr ltn ltn dd kr ?_)
 refine yt (sp 25 [(2,pp 0),(3,pp 1),z4,(17,bb (decide (z1=(0:Int))))]) [z2,z3,z5] 3 ?_
 rcases cond_sf hh with ⟨hb,hh⟩ | ⟨hb,hh⟩
 · refine cF hb (Aw.skip ?_)
   obtain rfl:=some_some hh
   exact hN1 () _ _ _ hk1 (el [some 0,some 1,some 2] (rens_sp kr (rp 0 (rp 1 (rp 2 rl_n)))) (hq (rB27 x_b) (rens_same (nr_B_27 _)) (hq ⟨45,(C_45 x_i)⟩ (rens_same (nr_C_45 _)) (hq q1 rz hs_nil))))
 refine cT hb (Aw.sreg [4] [2] (yu 1 [(18,.agg (B_27 x_b))] [z2,z3,z5] 3 ?_))
 obtain ⟨v2,hv2,hh⟩:=bind_some hh
 refine ys (.call 146 [(.t 18)]) (some 19) (op_callp (r:=.agg (B_27 v2)) (v:=.agg (B_27 v2)) (Hr:=[]) (n':=3) (impl_wentOn_fn hv2) (clz_v (vs:=[.agg (B_27 x_b)]) kr (clz_c (clo_same (clean_agg (cl_B_27 _))) clz_n)) nrr kr ?_)
 refine yt (sp 25 [z4]) [(2,some (rB27 v2))] 3 (Aw.ret ?_)
 obtain rfl:=some_some hh
 refine hR1 _ _ _ ?_
 rw [some_some hk1]
 exact gives (r':=.agg (B_27 v2)) kr (Ent.clov (.one _ _ (clo_same (clean_agg (cl_B_27 _)))))
theorem low_impl_counted:LW 185 ⟨37,[(.tmp 4)],(.seq (.reg false (rg 185 0)) (.seq (.reg false (rg 185 1)) (.seq (.seq (.reg false (rg 185 2)) (.block 0 (.seq (.reg false (rg 185 3)) (.cond (.t 14) (.seq (.reg false (rg 185 4)) .ret) (.seq (.reg false (rg 185 5)) (.cond (.t 24) (.seq (.reg false (rg 185 6)) .ret) .skip)))))) (.seq (.reg false (rg 185 7)) .ret))))⟩:=kr
noncomputable def F_impl_counted (x_regs:List Int) (x_i:DIns):Option Int :=
 grd ((0:Int)≤(Int.tmod x_i.N (4:Int))∧(Int.tmod x_i.N (4:Int))<((List.length x_regs:Nat):Int)) (cond (decide (x_i.Op=(2:Int)))
  (grd ((0:Int)≤x_i.A∧x_i.A<((List.length x_regs:Nat):Int)) (some (Int.tmod (w64 ((List.getD x_regs (Int.toNat x_i.A) default)+(List.getD x_regs (Int.toNat (Int.tmod x_i.N (4:Int))) default))) (4096:Int))))
  (cond (decide (x_i.Op=(15:Int)))
   (grd ((0:Int)≤x_i.A∧x_i.A<((List.length x_regs:Nat):Int)) (some (Int.tmod (w64 ((w64 ((List.getD x_regs (Int.toNat x_i.A) default) - (List.getD x_regs (Int.toNat (Int.tmod x_i.N (4:Int))) default)))+(4096:Int))) (4096:Int))))
   (some x_i.N)))
theorem impl_counted_fn {x_regs:List Int} {x_i:DIns} {R_:Int} (hh:F_impl_counted x_regs x_i=some R_):Fn Try.prog 185 [bo (eI .i64) x_regs,.agg (C_45 x_i)] (.int .i64 R_):=by
 let z3:=(0,bo (eI .i64) x_regs); let z4:EH:=(0,some ⟨45,(C_45 x_i)⟩); let z5:=(3,pp 0); let z1:=List.getD x_regs (Int.toNat (Int.tmod x_i.N (4:Int))) default; let z2:=List.getD x_regs (Int.toNat x_i.A) default
 unfold F_impl_counted at hh
 refine Fn.start low_impl_counted [0,1] (E:=sp 37 [z3,(1,.agg (C_45 x_i))]) kr (v:=ii R_) (Hr:=[]) (k:=0) kr (sy [0,3] [0] (sp 37 [z3,z5]) [z4] 1 (Aw.sreg [0,3,5] [0] (yjc 4 [(4:Int)≠0] (sp 37 [z3,z5,(6,bo (eI .i64) x_regs),(7,.ptr 0 [] 2),(8,ii x_i.N),(9,ii (Int.tmod x_i.N (4:Int)))]) [z4] 1 (.cons dd .nil) ?_)))
 obtain ⟨hg2,hh⟩:=grd_some hh
 refine ys (.iadr 1 (.t 6) (.t 9)) (some 10) (op_iadr (kd:=.i64) (c:=(eI .i64)) (xs:=x_regs) len_eI dd kr kr hg2 ?_)
 refine ys (.load false 1 (.t 10)) (some 11) (op_loadb (c:=(eI .i64)) (xs:=x_regs) (o:=Int.toNat (Int.tmod x_i.N (4:Int))*1) (i:=(Int.toNat (Int.tmod x_i.N (4:Int)))) (off:=0) (v:=ii z1) len_eI kr ltn ltn dd kr ?_)
 refine yt (sp 37 [z3,z5,(5,ii z1)]) [z4] 1 (Aw.seq (sy [0,3,5,13] [0] (sp 37 [z3,z5,(5,ii z1),(13,ii x_i.Op)]) [z4] 1 (Aw.block (sy [0,3,5,13,14] [0] (sp 37 [z3,z5,(5,ii z1),(13,ii x_i.Op),(14,bb (decide (x_i.Op=(2:Int))))]) [z4] 1 ?_))))
 rcases cond_some hh with ⟨hb,hh⟩ | ⟨hb,hh⟩
 · refine cT hb (Aw.sreg [4] [] (yu 3 [(16,bo (eI .i64) x_regs),(17,.ptr 0 [] 1),(18,ii x_i.A)] [z4] 1 ?_))
   obtain ⟨hg8,hh⟩:=grd_some hh
   refine ys (.iadr 1 (.t 16) (.t 18)) (some 19) (op_iadr (kd:=.i64) (c:=(eI .i64)) (xs:=x_regs) len_eI dd kr kr hg8 ?_)
   refine ys (.load false 1 (.t 19)) (some 20) (op_loadb (c:=(eI .i64)) (xs:=x_regs) (o:=Int.toNat x_i.A*1) (i:=(Int.toNat x_i.A)) (off:=0) (v:=ii z2) len_eI kr ltn ltn dd kr ?_)
   refine ytc [(4096:Int)≠0] (sp 37 [(4,ii (Int.tmod (w64 (z2+z1)) (4096:Int)))]) [] 1 (.cons dd .nil) (Aw.ret (blk_r (then_r ?_)))
   rw [some_some hh]
   exact gvi
 refine cF hb (sy [0,3,5,24] [0] (sp 37 [z3,z5,(5,ii z1),(24,bb (decide (x_i.Op=(15:Int))))]) [z4] 1 ?_)
 rcases cond_sf hh with ⟨hb,hh⟩ | ⟨hb,hh⟩
 · exact cF hb (Aw.xskip (fun _ _ _ hq=>blk_m (then_m hq)) (sy [4] [] (sp 37 [(4,ii x_i.N)]) [] 1 (Aw.ret (gvis hh))))
 refine cT hb (Aw.sreg [4] [] (yu 3 [(26,bo (eI .i64) x_regs),(27,.ptr 0 [] 1),(28,ii x_i.A)] [z4] 1 ?_))
 obtain ⟨hg10,hh⟩:=grd_some hh
 refine ys (.iadr 1 (.t 26) (.t 28)) (some 29) (op_iadr (kd:=.i64) (c:=(eI .i64)) (xs:=x_regs) len_eI dd kr kr hg10 ?_)
 refine ys (.load false 1 (.t 29)) (some 30) (op_loadb (c:=(eI .i64)) (xs:=x_regs) (o:=Int.toNat x_i.A*1) (i:=(Int.toNat x_i.A)) (off:=0) (v:=ii z2) len_eI kr ltn ltn dd kr ?_)
 refine ytc [(4096:Int)≠0] (sp 37 [(4,ii (Int.tmod (w64 ((w64 (z2 - z1))+(4096:Int))) (4096:Int)))]) [] 1 (.cons dd .nil) (Aw.ret (blk_r (then_r ?_)))
 rw [some_some hh]
 exact gvi
theorem low_impl_didOpen:LW 177 ⟨33,[(.cell 4 true 16)],(.seq (.reg false (rg 177 0)) (.seq (.seq (.reg false (rg 177 1)) (.block 0 (.seq (.reg false (rg 177 2)) (.cond (.t 7) (.seq (.regd (rg 177 3) (rg 177 4)) (.seq (.reg false (rg 177 5)) .ret)) (.seq (.seq (.reg false (rg 177 6)) (.cond (.t 18) .skip (.reg false (rg 177 7)))) (.cond (.t 18) (.seq (.reg false (rg 177 8)) .ret) .skip)))))) (.seq (.regd (rg 177 9) (rg 177 10)) .ret)))⟩:=kr
noncomputable def F_impl_didOpen_j3 (x_b:DBare) (x_i:DIns) (s3:Bool):Option DBare :=
 cond s3
  (Option.bind (F_impl_jumped x_b x_i) fun v4 =>
  some v4)
  (Option.bind (F_impl_counted x_b.C.Regs x_i) fun v5 =>
  Option.bind (F_impl_withRegister x_b x_i.A v5) fun v6 =>
  some v6)
noncomputable def F_impl_didOpen (x_b:DBare) (x_i:DIns):Option DBare :=
 cond (decide (x_i.Op=(7:Int)))
  (Option.bind (F_impl_nextPlace x_b.C.Pc) fun v1 =>
  Option.bind (F_impl_trapped x_b.C (1:Int) (0:Int) v1) fun v2 =>
  some (DBare.mk v2 x_b.Mem x_b.In x_b.Out))
  (Option.bind (cond (decide (x_i.Op=(5:Int)))
   (some (.go (decide (x_i.Op=(5:Int)))))
   (some (.go (decide (x_i.Op=(6:Int)))))) fun j3 =>
   JO.run j3 (F_impl_didOpen_j3 x_b x_i))
theorem impl_didOpen_fn {x_b:DBare} {x_i:DIns} {R_:DBare} (hh:F_impl_didOpen x_b x_i=some R_):Fn Try.prog 177 [.agg (B_27 x_b),.agg (C_45 x_i)] (.agg (B_27 R_)):=by
 let z1:EH:=(0,some (rB27 x_b)); let z2:EH:=(1,some ⟨45,(C_45 x_i)⟩); let z3:=(2,pp 0); let z4:=(29,bo (eI .i64) x_b.C.Regs); let z5:=(3,pp 1); let z6:=(4,pp 2); let z7:=(6,ii x_i.Op); let z8:=(7,bb (decide (x_i.Op=(7:Int))))
 unfold F_impl_didOpen at hh
 refine Fn.start low_impl_didOpen [0,1] (E:=sp 33 [(0,.agg (B_27 x_b)),(1,.agg (C_45 x_i))]) kr (v:=.agg (B_27 R_)) (Hr:=[]) (k:=0) kr (Aw.sreg [2,3,4] [0,1,2] ?_)
 let q1:Root:=⟨27,(.nil::zru25 [.nil,.nil,.nil])⟩; let z9:=(2,some q1)
 refine yt (sp 33 [z3,z5,z6]) [z1,z2,z9] 3 (Aw.seq (sy [2,3,4,6] [0,1,2] (sp 33 [z3,z5,z6,z7]) [z1,z2,z9] 3 (Aw.block (sy [2,3,4,6,7] [0,1,2] (sp 33 [z3,z5,z6,z7,z8]) [z1,z2,z9] 3 ?_))))
 rcases cond_some hh with ⟨hb,hh⟩ | ⟨hb,hh⟩
 · refine cT hb (Aw.sregd [2,4] [0,2] [] kr (dj 5 (sp 33 [z3,z5,z6,z7,z8,(9,pp 0),(10,.agg (B_25 x_b.C)),(11,pp 0),(12,.ptr 0 [] 1),(13,ii x_b.C.Pc)]) [z1,z2,z9] 3 ?_))
   obtain ⟨v1,hv1,hh⟩:=bind_some hh
   refine ds (.call 170 [(.t 13)]) (some 14) (ydo_n rfl (op_call (r:=ii v1) (v:=ii v1) (Hr:=[]) (n':=3) (impl_nextPlace_fn hv1) (clz_v (vs:=[ii x_b.C.Pc]) kr (cz1 clz_n)) rfl rfl kr ⟨⟨agr_name (n:=3) (n0:=3) (r:=ii v1) (v:=ii v1) (Hr:=[]) (n':=3) kr dd,Hld.un ?_⟩⟩))
   refine dt (sp 33 [z3,z5,z6,z7,z8,(9,pp 0),(10,.agg (B_25 x_b.C)),(11,pp 0),(12,.ptr 0 [] 1),(13,ii x_b.C.Pc),(14,ii v1)]) [z1,z2,z9] 3 ?_
   obtain ⟨v2,hv2,hh⟩:=bind_some hh
   refine ys (.call 156 [(.t 10),(.c (ii 1)),(.c (ii 0)),(.t 14)]) (some 15) (op_callp (r:=.agg (B_25 v2)) (v:=.agg (B_25 v2)) (Hr:=[]) (n':=3) (impl_trapped_fn hv2) (clz_v (vs:=[.agg (B_25 x_b.C),ii 1,ii 0,ii v1]) kr (clz_c (clo_same (clean_agg (cl_B_25 _))) (cz1 (cz1 (cz1 clz_n))))) nrr kr ?_)
   let q2:Root:=⟨27,(bo (eI .i64) v2.Regs::ru25 v2 [bo (eI .i64) x_b.Mem,bo (eI .i64) x_b.In,bo (eI .i64) x_b.Out])⟩
   refine yt (sp 33 [z3,z6]) [(0,some q2),z9] 3 (sy [4] [2] (sp 33 [z6]) [(2,some q2)] 3 (Aw.ret (blk_r (then_r ?_))))
   rw [some_some hh]
   exact gives (r':=.agg (bo (eI .i64) v2.Regs::ru25 v2 [bo (eI .i64) x_b.Mem,bo (eI .i64) x_b.In,bo (eI .i64) x_b.Out])) kr (Ent.clov (.one _ _ (clo_agg cz)))
 refine cF hb ?_
 obtain ⟨j3,hh,hk3⟩:=bind_some hh
 refine Aw.join (S:=Bool) (fun s3=>sp 33 [(2,pp 0),(3,pp 1),(4,pp 2),(18,bb s3)]) (fun s3=>[(0,some (rB27 x_b)),(1,some ⟨45,(C_45 x_i)⟩),(2,some ⟨27,(.nil::zru25 [.nil,.nil,.nil])⟩)]) 3 (fun s3=>F_impl_didOpen_j3 x_b x_i s3=some R_) ?_ ?_
 · intro s3 hh
   unfold F_impl_didOpen_j3 at hh
   rcases cond_some hh with ⟨hb,hh⟩ | ⟨hb,hh⟩
   · refine cT hb (Aw.sreg [4] [2] (yj 2  (sp 33 [z3,z5,z6,(18,bb s3),(21,.agg (B_27 x_b)),(22,.agg (C_45 x_i))]) [z1,z2,z9] 3 ?_))
     obtain ⟨v4,hv4,hh⟩:=bind_some hh
     refine ys (.call 184 [(.t 21),(.t 22)]) (some 23) (op_callp (r:=.agg (B_27 v4)) (v:=.agg (B_27 v4)) (Hr:=[]) (n':=3) (impl_jumped_fn hv4) (clz_v (vs:=[.agg (B_27 x_b),.agg (C_45 x_i)]) kr (clz_c (clo_same (clean_agg (cl_B_27 _))) (cz1 clz_n))) nrr kr ?_)
     refine yt (sp 33 [z6]) [(2,some (rB27 v4))] 3 (Aw.ret (blk_r (then_r ?_)))
     rw [some_some hh]
     exact gives (r':=.agg (B_27 v4)) kr (Ent.clov (.one _ _ (clo_same (clean_agg (cl_B_27 _)))))
   refine cF hb (Aw.xskip (fun _ _ _ hq=>blk_m (then_m hq)) (Aw.sregd [4] [2] [] kr (dj 7 (sp 33 [z3,z5,z6,(18,bb s3),(24,.agg (B_27 x_b)),(25,.ptr 1 [] 1),(26,ii x_i.A),(27,pp 0),(28,pp 0),z4,(30,.agg (C_45 x_i))]) [z1,z2,z9] 3 ?_)))
   obtain ⟨v5,hv5,hh⟩:=bind_some hh
   refine ds (.call 185 [(.t 29),(.t 30)]) (some 31) (ydo_n rfl (op_call (r:=ii v5) (v:=ii v5) (Hr:=[]) (n':=3) (impl_counted_fn hv5) (clz_v (vs:=[bo (eI .i64) x_b.C.Regs,.agg (C_45 x_i)]) kr (clz_c (clo_same (clean_bor (cleans_fl cl_eI))) (cz1 clz_n))) rfl rfl kr ⟨⟨agr_name (n:=3) (n0:=3) (r:=ii v5) (v:=ii v5) (Hr:=[]) (n':=3) kr dd,Hld.un ?_⟩⟩))
   refine dt (sp 33 [z3,z5,z6,(18,bb s3),(24,.agg (B_27 x_b)),(25,.ptr 1 [] 1),(26,ii x_i.A),(27,pp 0),(28,pp 0),z4,(30,.agg (C_45 x_i)),(31,ii v5)]) [z1,z2,z9] 3 ?_
   obtain ⟨v6,hv6,hh⟩:=bind_some hh
   refine ys (.call 176 [(.t 24),(.t 26),(.t 31)]) (some 32) (op_callp (r:=.agg (B_27 v6)) (v:=.agg (B_27 v6)) (Hr:=[]) (n':=3) (impl_withRegister_fn hv6) (clz_v (vs:=[.agg (B_27 x_b),ii x_i.A,ii v5]) kr (clz_c (clo_same (clean_agg (cl_B_27 _))) (cz1 (cz1 clz_n)))) nrr kr ?_)
   refine yt (sp 33 [z6]) [(2,some (rB27 v6))] 3 (Aw.ret ?_)
   rw [some_some hh]
   exact gives (r':=.agg (B_27 v6)) kr (Ent.clov (.one _ _ (clo_same (clean_agg (cl_B_27 _)))))
 intro Q3 hN3 hR3 hE3
 refine sy [2,3,4,6,18] [0,1,2] (sp 33 [z3,z5,z6,z7,(18,bb (decide (x_i.Op=(5:Int))))]) [z1,z2,z9] 3 ?_
 rcases cond_some hh with ⟨hb,hh⟩ | ⟨hb,hh⟩
 · refine cT hb (Aw.skip ?_)
   obtain rfl:=some_some hh
   exact hN3 (decide (x_i.Op=(5:Int))) _ _ _ hk3 (el [some 0,some 1,some 2] (rens_sp kr (rp 0 (rp 1 (rp 2 (rb rl_n))))) (hq (rB27 x_b) (rens_same (nr_B_27 _)) (hq ⟨45,(C_45 x_i)⟩ (rens_same (nr_C_45 _)) (hq q1 rz hs_nil))))
 refine cF hb (Aw.oreg (ye (sp 33 [z3,z5,z6,z7,(18,bb (decide (x_i.Op=(6:Int)))),(20,bb (decide (x_i.Op=(6:Int))))]) [z1,z2,z9] 3 ?_))
 obtain rfl:=some_some hh
 exact hN3 (decide (x_i.Op=(6:Int))) _ _ _ hk3 (el [some 0,some 1,some 2] (rens_sp kr (rp 0 (rp 1 (rp 2 (rb rl_n))))) (hq (rB27 x_b) (rens_same (nr_B_27 _)) (hq ⟨45,(C_45 x_i)⟩ (rens_same (nr_C_45 _)) (hq q1 rz hs_nil))))
theorem low_impl_didInCore:LW 159 ⟨25,[(.cell 4 true 16)],(.seq (.reg false (rg 159 0)) (.seq (.seq (.reg false (rg 159 1)) (.cond (.t 7) (.seq (.reg false (rg 159 2)) .ret) .skip)) (.seq (.seq (.reg false (rg 159 3)) (.cond (.t 13) (.seq (.reg false (rg 159 4)) (.seq (.reg false (rg 159 5)) .ret)) .skip)) (.seq (.reg false (rg 159 6)) .ret))))⟩:=kr
noncomputable def F_impl_didInCore (x_b:DBare) (x_i:DIns):Option DBare :=
 Option.bind (F_impl_InsKernel x_i) fun v1 =>
 cond (!v1)
  (Option.bind (F_impl_didOpen x_b x_i) fun v2 =>
  some v2)
  (cond x_b.C.User
   (Option.bind (F_impl_trapped x_b.C (3:Int) (0:Int) x_b.C.Pc) fun v3 =>
   some (DBare.mk v3 x_b.Mem x_b.In x_b.Out))
   (Option.bind (F_impl_didKernel x_b x_i) fun v4 =>
   some v4))
theorem impl_didInCore_fn {x_b:DBare} {x_i:DIns} {R_:DBare} (hh:F_impl_didInCore x_b x_i=some R_):Fn Try.prog 159 [.agg (B_27 x_b),.agg (C_45 x_i)] (.agg (B_27 R_)):=by
 let z1:EH:=(0,some (rB27 x_b)); let z2:EH:=(1,some ⟨45,(C_45 x_i)⟩); let z3:=(2,pp 0); let z4:=(4,pp 2)
 unfold F_impl_didInCore at hh
 refine Fn.start low_impl_didInCore [0,1] (E:=sp 25 [(0,.agg (B_27 x_b)),(1,.agg (C_45 x_i))]) kr (v:=.agg (B_27 R_)) (Hr:=[]) (k:=0) kr (Aw.sreg [2,3,4] [0,1,2] ?_)
 let q1:Root:=⟨27,(.nil::zru25 [.nil,.nil,.nil])⟩; let z5:=(2,some q1)
 refine yt (sp 25 [z3,(3,pp 1),z4]) [z1,z2,z5] 3 (Aw.seq (Aw.sreg [2,3,4,7] [0,1,2] (yj 1  (sp 25 [z3,(3,pp 1),z4,(5,.agg (C_45 x_i))]) [z1,z2,z5] 3 ?_)))
 obtain ⟨v1,hv1,hh⟩:=bind_some hh
 refine ys (.call 27 [(.t 5)]) (some 6) (oc (impl_InsKernel_fn hv1) ?_)
 refine yt (sp 25 [z3,(3,pp 1),z4,(7,bb (!v1))]) [z1,z2,z5] 3 ?_
 rcases cond_some hh with ⟨hb,hh⟩ | ⟨hb,hh⟩
 · refine cT hb (Aw.sreg [4] [2] (yu 2 [(8,.agg (B_27 x_b)),(9,.agg (C_45 x_i))] [z1,z2,z5] 3 ?_))
   obtain ⟨v2,hv2,hh⟩:=bind_some hh
   refine ys (.call 177 [(.t 8),(.t 9)]) (some 10) (op_callp (r:=.agg (B_27 v2)) (v:=.agg (B_27 v2)) (Hr:=[]) (n':=3) (impl_didOpen_fn hv2) (clz_v (vs:=[.agg (B_27 x_b),.agg (C_45 x_i)]) kr (clz_c (clo_same (clean_agg (cl_B_27 _))) (cz1 clz_n))) nrr kr ?_)
   refine yt (sp 25 [z4]) [(2,some (rB27 v2))] 3 (Aw.ret (then_r ?_))
   rw [some_some hh]
   exact gives (r':=.agg (B_27 v2)) kr (Ent.clov (.one _ _ (clo_same (clean_agg (cl_B_27 _)))))
 refine cF hb (Aw.xskip (fun _ _ _ hq=>then_m hq) (Aw.seq (sy [2,3,4,13] [0,1,2] (sp 25 [z3,(3,pp 1),z4,(13,bb x_b.C.User)]) [z1,z2,z5] 3 ?_)))
 rcases cond_sf hh with ⟨hb,hh⟩ | ⟨hb,hh⟩
 · refine cF hb (Aw.xskip (fun _ _ _ hq=>then_m hq) (Aw.sreg [4] [2] (yj 2  (sp 25 [z3,(3,pp 1),z4,(13,bb x_b.C.User),(22,.agg (B_27 x_b)),(23,.agg (C_45 x_i))]) [z1,z2,z5] 3 ?_)))
   obtain ⟨v4,hv4,hh⟩:=bind_some hh
   refine ys (.call 90 [(.t 22),(.t 23)]) (some 24) (op_callp (r:=.agg (B_27 v4)) (v:=.agg (B_27 v4)) (Hr:=[]) (n':=3) (impl_didKernel_fn hv4) (clz_v (vs:=[.agg (B_27 x_b),.agg (C_45 x_i)]) kr (clz_c (clo_same (clean_agg (cl_B_27 _))) (cz1 clz_n))) nrr kr ?_)
   refine yt (sp 25 [z4]) [(2,some (rB27 v4))] 3 (Aw.ret ?_)
   rw [some_some hh]
   exact gives (r':=.agg (B_27 v4)) kr (Ent.clov (.one _ _ (clo_same (clean_agg (cl_B_27 _)))))
 refine cT hb (Aw.sreg [2,4] [0,2] (yu 5 [(14,pp 0),(15,.agg (B_25 x_b.C)),(16,pp 0),(17,.ptr 0 [] 1),(18,ii x_b.C.Pc)] [z1,z2,z5] 3 ?_))
 obtain ⟨v3,hv3,hh⟩:=bind_some hh
 refine ys (.call 156 [(.t 15),(.c (ii 3)),(.c (ii 0)),(.t 18)]) (some 19) (op_callp (r:=.agg (B_25 v3)) (v:=.agg (B_25 v3)) (Hr:=[]) (n':=3) (impl_trapped_fn hv3) (clz_v (vs:=[.agg (B_25 x_b.C),ii 3,ii 0,ii x_b.C.Pc]) kr (clz_c (clo_same (clean_agg (cl_B_25 _))) (cz1 (cz1 (cz1 clz_n))))) nrr kr ?_)
 let q2:Root:=⟨27,(bo (eI .i64) v3.Regs::ru25 v3 [bo (eI .i64) x_b.Mem,bo (eI .i64) x_b.In,bo (eI .i64) x_b.Out])⟩
 refine yt (sp 25 [z3,z4]) [(0,some q2),z5] 3 (sy [4] [2] (sp 25 [z4]) [(2,some q2)] 3 (Aw.ret (then_r ?_)))
 rw [some_some hh]
 exact gives (r':=.agg (bo (eI .i64) v3.Regs::ru25 v3 [bo (eI .i64) x_b.Mem,bo (eI .i64) x_b.In,bo (eI .i64) x_b.Out])) kr (Ent.clov (.one _ _ (clo_agg cz)))
end Go.Proofs.Ytbanbjdcgdmkaaa
