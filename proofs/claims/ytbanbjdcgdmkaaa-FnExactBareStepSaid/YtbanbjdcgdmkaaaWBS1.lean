/- Plain functions of the program, and that it hands back what they say. Made by program. -/
import Derived.Test.YtbanbjdcgdmkaaaWT
import Derived.Test.YtbanbjdcgdmkaaaProg
import Derived.Test.YtbanbjdcgdmkaaaWHV1
import Derived.Test.YtbanbjdcgdmkaaaWKC1
import Derived.Test.YtbanbjdcgdmkaaaWKD1
import Derived.Test.YtbanbjdcgdmkaaaWKI1
import Derived.Test.YtbanbjdcgdmkaaaWKT1
import Derived.Test.YtbanbjdcgdmkaaaWO1
import Derived.Test.YtbanbjdcgdmkaaaWWK1
namespace Go.Proofs.Ytbanbjdcgdmkaaa
open Go.RowKit
set_option maxRecDepth 100000
set_option linter.all false
set_option maxHeartbeats 0
theorem low_impl_interrupted:LW 126 ⟨8,[(.cell 2 true 13)],(.seq (.reg false (rg 126 0)) (.seq (.reg false (rg 126 1)) (.seq (.reg false (rg 126 2)) .ret)))⟩:=kr
noncomputable def F_impl_interrupted (x_c:DCore):Option DCore :=
 Option.bind (F_impl_trapped (DCore.mk x_c.Regs x_c.Pc x_c.Root x_c.Vector x_c.Saved x_c.SavedUser x_c.Cause x_c.Bad x_c.Timer false x_c.User x_c.On x_c.Stopped) (4:Int) (0:Int) x_c.Pc) fun v1 =>
 some v1
theorem impl_interrupted_fn {x_c:DCore} {R_:DCore} (hh:F_impl_interrupted x_c=some R_):Fn Try.prog 126 [.agg (B_25 x_c)] (.agg (B_25 R_)):=by
 let z1:EH:=(1,some ⟨25,(.nil::zru25 [])⟩)
 unfold F_impl_interrupted at hh
 refine Fn.start low_impl_interrupted [0] (E:=sp 8 [(0,.agg (B_25 x_c))]) kr (v:=.agg (B_25 R_)) (Hr:=[]) (k:=0) kr (sy [1,2] [0,1] (sp 8 [(1,pp 0),(2,pp 1)]) [(0,some (rB25 x_c)),z1] 2 (Aw.sreg [1,2] [0,1] ?_))
 let q1:Root:=⟨25,[bo (eI .i64) x_c.Regs,ii x_c.Pc,ii x_c.Root,ii x_c.Vector,ii x_c.Saved,bb x_c.SavedUser,ii x_c.Cause,ii x_c.Bad,ii x_c.Timer,bb false,bb x_c.User,bb x_c.On,bb x_c.Stopped]⟩
 refine yt (sp 8 [(1,pp 0),(2,pp 1)]) [(0,some q1),z1] 2 (Aw.sreg [2] [1] (yu 3 [(4,.agg [bo (eI .i64) x_c.Regs,ii x_c.Pc,ii x_c.Root,ii x_c.Vector,ii x_c.Saved,bb x_c.SavedUser,ii x_c.Cause,ii x_c.Bad,ii x_c.Timer,bb false,bb x_c.User,bb x_c.On,bb x_c.Stopped]),(5,.ptr 0 [] 1),(6,ii x_c.Pc)] [(0,some q1),z1] 2 ?_))
 obtain ⟨v1,hv1,hh⟩:=bind_some hh
 refine ys (.call 156 [(.t 4),(.c (ii 4)),(.c (ii 0)),(.t 6)]) (some 7) (op_callp (r:=.agg (B_25 v1)) (v:=.agg (B_25 v1)) (Hr:=[]) (n':=2) (impl_trapped_fn hv1) (clz_v (vs:=[.agg [bo (eI .i64) x_c.Regs,ii x_c.Pc,ii x_c.Root,ii x_c.Vector,ii x_c.Saved,bb x_c.SavedUser,ii x_c.Cause,ii x_c.Bad,ii x_c.Timer,bb false,bb x_c.User,bb x_c.On,bb x_c.Stopped],ii 4,ii 0,ii x_c.Pc]) kr (clz_c (clo_agg cz) (cz1 (cz1 (cz1 clz_n))))) nrr kr ?_)
 refine yt (sp 8 [(2,pp 1)]) [(1,some (rB25 v1))] 2 (Aw.ret ?_)
 rw [some_some hh]
 exact gives (r':=.agg (B_25 v1)) kr (Ent.clov (.one _ _ (clo_same (clean_agg (cl_B_25 _)))))
theorem low_impl_faulted:LW 127 ⟨14,[(.cell 4 true 16)],(.seq (.reg false (rg 127 0)) (.seq (.reg false (rg 127 1)) (.seq (.reg false (rg 127 2)) .ret)))⟩:=kr
noncomputable def F_impl_faulted (x_b:DBare) (x_addr:Int):Option DBare :=
 Option.bind (F_impl_trapped x_b.C (2:Int) x_addr x_b.C.Pc) fun v1 =>
 some (DBare.mk v1 x_b.Mem x_b.In x_b.Out)
theorem impl_faulted_fn {x_b:DBare} {x_addr:Int} {R_:DBare} (hh:F_impl_faulted x_b x_addr=some R_):Fn Try.prog 127 [.agg (B_27 x_b),.int .i64 x_addr] (.agg (B_27 R_)):=by
 unfold F_impl_faulted at hh
 refine Fn.start low_impl_faulted [0,1] (E:=sp 14 [(0,.agg (B_27 x_b)),(1,ii x_addr)]) kr (v:=.agg (B_27 R_)) (Hr:=[]) (k:=0) kr (Aw.sreg [1,2,4] [0,1] ?_)
 let q1:Root:=⟨27,(.nil::zru25 [.nil,.nil,.nil])⟩
 refine yt (sp 14 [(1,ii x_addr),(2,pp 0),(4,pp 1)]) [(0,some (rB27 x_b)),(1,some q1)] 2 (Aw.sreg [2,4] [0,1] (yu 6 [(5,pp 0),(6,.agg (B_25 x_b.C)),(7,ii x_addr),(8,pp 0),(9,.ptr 0 [] 1),(10,ii x_b.C.Pc)] [(0,some (rB27 x_b)),(1,some q1)] 2 ?_))
 obtain ⟨v1,hv1,hh⟩:=bind_some hh
 refine ys (.call 156 [(.t 6),(.c (ii 2)),(.t 7),(.t 10)]) (some 11) (op_callp (r:=.agg (B_25 v1)) (v:=.agg (B_25 v1)) (Hr:=[]) (n':=2) (impl_trapped_fn hv1) (clz_v (vs:=[.agg (B_25 x_b.C),ii 2,ii x_addr,ii x_b.C.Pc]) kr (clz_c (clo_same (clean_agg (cl_B_25 _))) (cz1 (cz1 (cz1 clz_n))))) nrr kr ?_)
 let q2:Root:=⟨27,(bo (eI .i64) v1.Regs::ru25 v1 [bo (eI .i64) x_b.Mem,bo (eI .i64) x_b.In,bo (eI .i64) x_b.Out])⟩
 refine yt (sp 14 [(2,pp 0),(4,pp 1)]) [(0,some q2),(1,some q1)] 2 (sy [4] [1] (sp 14 [(4,pp 1)]) [(1,some q2)] 2 (Aw.ret ?_))
 rw [some_some hh]
 exact gives (r':=.agg (bo (eI .i64) v1.Regs::ru25 v1 [bo (eI .i64) x_b.Mem,bo (eI .i64) x_b.In,bo (eI .i64) x_b.Out])) kr (Ent.clov (.one _ _ (clo_agg cz)))
theorem low_impl_loaded:LW 157 ⟨35,[(.cell 4 true 16)],(.seq (.reg false (rg 157 0)) (.seq (.reg false (rg 157 1)) (.seq (.reg false (rg 157 2)) (.seq (.seq (.reg false (rg 157 3)) (.cond (.t 22) (.seq (.reg false (rg 157 4)) .ret) .skip)) (.seq (.regd (rg 157 5) (rg 157 6)) .ret)))))⟩:=kr
noncomputable def F_impl_loaded (x_b:DBare) (x_i:DIns):Option DBare :=
 Option.bind (F_impl_addressOf x_b.C x_i) fun v1 =>
 Option.bind (F_impl_Walk x_b.Mem x_b.C.Root v1 x_b.C.User false) fun v2 =>
 cond (decide (v2=(-1:Int)))
  (Option.bind (F_impl_faulted x_b v1) fun v3 =>
  some v3)
  (grd ((0:Int)≤v2∧v2<((List.length x_b.Mem:Nat):Int)) (Option.bind (F_impl_withRegister x_b x_i.A (List.getD x_b.Mem (Int.toNat v2) default)) fun v4 =>
   some v4))
theorem impl_loaded_fn {x_b:DBare} {x_i:DIns} {R_:DBare} (hh:F_impl_loaded x_b x_i=some R_):Fn Try.prog 157 [.agg (B_27 x_b),.agg (C_45 x_i)] (.agg (B_27 R_)):=by
 let z2:EH:=(0,some (rB27 x_b)); let z3:EH:=(1,some ⟨45,(C_45 x_i)⟩); let z4:=(2,pp 0); let z5:=(3,pp 1); let z6:=(4,pp 2)
 unfold F_impl_loaded at hh
 refine Fn.start low_impl_loaded [0,1] (E:=sp 35 [(0,.agg (B_27 x_b)),(1,.agg (C_45 x_i))]) kr (v:=.agg (B_27 R_)) (Hr:=[]) (k:=0) kr (Aw.sreg [2,3,4] [0,1,2] ?_)
 let q1:Root:=⟨27,(.nil::zru25 [.nil,.nil,.nil])⟩; let z7:=(2,some q1)
 refine yt (sp 35 [z4,z5,z6]) [z2,z3,z7] 3 (Aw.sreg [2,3,4,5] [0,1,2] (yu 3 [(7,pp 0),(8,.agg (B_25 x_b.C)),(9,.agg (C_45 x_i))] [z2,z3,z7] 3 ?_))
 obtain ⟨v1,hv1,hh⟩:=bind_some hh
 refine ys (.call 166 [(.t 8),(.t 9)]) (some 10) (op_call (r:=ii v1) (v:=ii v1) (Hr:=[]) (n':=3) (impl_addressOf_fn hv1) (clz_v (vs:=[.agg (B_25 x_b.C),.agg (C_45 x_i)]) kr (clz_c (clo_same (clean_agg (cl_B_25 _))) (cz1 clz_n))) rfl rfl kr ?_)
 refine yt (sp 35 [z4,z5,z6,(5,ii v1)]) [z2,z3,z7] 3 (Aw.sreg [2,3,4,5,6] [0,1,2] (yu 9 [(11,.ptr 0 [] 13),(12,bo (eI .i64) x_b.Mem),(13,pp 0),(14,.ptr 0 [] 2),(15,ii x_b.C.Root),(16,ii v1),(17,pp 0),(18,.ptr 0 [] 10),(19,bb x_b.C.User)] [z2,z3,z7] 3 ?_))
 obtain ⟨v2,hv2,hh⟩:=bind_some hh
 let z8:=(22,bb (decide (v2=(-1:Int)))); let z1:=List.getD x_b.Mem (Int.toNat v2) default
 refine ys (.call 18 [(.t 12),(.t 15),(.t 16),(.t 19),(.c (bb false))]) (some 20) (oc (impl_Walk_fn hv2) ?_)
 refine yt (sp 35 [z4,z5,z6,(5,ii v1),(6,ii v2)]) [z2,z3,z7] 3 (Aw.seq (sy [2,3,4,5,6,22] [0,1,2] (sp 35 [z4,z5,z6,(5,ii v1),(6,ii v2),z8]) [z2,z3,z7] 3 ?_))
 rcases cond_some hh with ⟨hb,hh⟩ | ⟨hb,hh⟩
 · refine cT hb (Aw.sreg [4] [2] (yu 2 [(23,.agg (B_27 x_b)),(24,ii v1)] [z2,z3,z7] 3 ?_))
   obtain ⟨v3,hv3,hh⟩:=bind_some hh
   refine ys (.call 127 [(.t 23),(.t 24)]) (some 25) (op_callp (r:=.agg (B_27 v3)) (v:=.agg (B_27 v3)) (Hr:=[]) (n':=3) (impl_faulted_fn hv3) (clz_v (vs:=[.agg (B_27 x_b),ii v1]) kr (clz_c (clo_same (clean_agg (cl_B_27 _))) (cz1 clz_n))) nrr kr ?_)
   refine yt (sp 35 [z6]) [(2,some (rB27 v3))] 3 (Aw.ret (then_r ?_))
   rw [some_some hh]
   exact gives (r':=.agg (B_27 v3)) kr (Ent.clov (.one _ _ (clo_same (clean_agg (cl_B_27 _)))))
 refine cF hb (Aw.xskip (fun _ _ _ hq=>then_m hq) (Aw.sregd [4] [2] [] kr (dj 6 (sp 35 [z4,z5,z6,(5,ii v1),(6,ii v2),z8,(26,.agg (B_27 x_b)),(27,.ptr 1 [] 1),(28,ii x_i.A),(29,.ptr 0 [] 13),(30,bo (eI .i64) x_b.Mem),(31,ii v2)]) [z2,z3,z7] 3 ?_)))
 obtain ⟨hg2,hh⟩:=grd_some hh
 refine ds (.iadr 1 (.t 30) (.t 31)) (some 32) (ydo_q rfl kr (op_iadr (kd:=.i64) (c:=(eI .i64)) (xs:=x_b.Mem) len_eI dd kr kr hg2 ?_))
 refine ds (.load false 1 (.t 32)) (some 33) (ydo_q rfl kr (op_loadb (c:=(eI .i64)) (xs:=x_b.Mem) (o:=Int.toNat v2*1) (i:=(Int.toNat v2)) (off:=0) (v:=ii z1) len_eI kr ltn ltn dd kr ?_))
 refine dt (sp 35 [z4,z5,z6,(5,ii v1),(6,ii v2),z8,(26,.agg (B_27 x_b)),(27,.ptr 1 [] 1),(28,ii x_i.A),(29,.ptr 0 [] 13),(30,bo (eI .i64) x_b.Mem),(31,ii v2),(32,.bptr (fl (eI .i64) x_b.Mem) (Int.toNat v2*1)),(33,ii z1)]) [z2,z3,z7] 3 ?_
 obtain ⟨v4,hv4,hh⟩:=bind_some hh
 refine ys (.call 176 [(.t 26),(.t 28),(.t 33)]) (some 34) (op_callp (r:=.agg (B_27 v4)) (v:=.agg (B_27 v4)) (Hr:=[]) (n':=3) (impl_withRegister_fn hv4) (clz_v (vs:=[.agg (B_27 x_b),ii x_i.A,ii z1]) kr (clz_c (clo_same (clean_agg (cl_B_27 _))) (cz1 (cz1 clz_n)))) nrr kr ?_)
 refine yt (sp 35 [z6]) [(2,some (rB27 v4))] 3 (Aw.ret ?_)
 rw [some_some hh]
 exact gives (r':=.agg (B_27 v4)) kr (Ent.clov (.one _ _ (clo_same (clean_agg (cl_B_27 _)))))
theorem low_impl_stored:LW 158 ⟨40,[(.cell 4 true 16)],(.seq (.reg false (rg 158 0)) (.seq (.reg false (rg 158 1)) (.seq (.reg false (rg 158 2)) (.seq (.seq (.reg false (rg 158 3)) (.cond (.t 22) (.seq (.reg false (rg 158 4)) .ret) .skip)) (.seq (.regd (rg 158 5) (rg 158 6)) (.seq (.reg false (rg 158 7)) .ret))))))⟩:=kr
noncomputable def F_impl_stored (x_b:DBare) (x_i:DIns):Option DBare :=
 Option.bind (F_impl_addressOf x_b.C x_i) fun v1 =>
 Option.bind (F_impl_Walk x_b.Mem x_b.C.Root v1 x_b.C.User true) fun v2 =>
 cond (decide (v2=(-1:Int)))
  (Option.bind (F_impl_faulted x_b v1) fun v3 =>
  some v3)
  (grd ((0:Int)≤x_i.A∧x_i.A<((List.length x_b.C.Regs:Nat):Int)) (Option.bind (F_impl_changed x_b.Mem v2 (List.getD x_b.C.Regs (Int.toNat x_i.A) default)) fun v4 =>
   Option.bind (F_impl_wentOn (DBare.mk x_b.C v4 x_b.In x_b.Out)) fun v5 =>
   some v5))
theorem impl_stored_fn {x_b:DBare} {x_i:DIns} {R_:DBare} (hh:F_impl_stored x_b x_i=some R_):Fn Try.prog 158 [.agg (B_27 x_b),.agg (C_45 x_i)] (.agg (B_27 R_)):=by
 let z2:EH:=(0,some (rB27 x_b)); let z3:EH:=(1,some ⟨45,(C_45 x_i)⟩); let z4:=(2,pp 0); let z5:=(3,pp 1); let z6:=(31,bo (eI .i64) x_b.C.Regs); let z7:=(4,pp 2); let z1:=List.getD x_b.C.Regs (Int.toNat x_i.A) default
 unfold F_impl_stored at hh
 refine Fn.start low_impl_stored [0,1] (E:=sp 40 [(0,.agg (B_27 x_b)),(1,.agg (C_45 x_i))]) kr (v:=.agg (B_27 R_)) (Hr:=[]) (k:=0) kr (Aw.sreg [2,3,4] [0,1,2] ?_)
 let q1:Root:=⟨27,(.nil::zru25 [.nil,.nil,.nil])⟩; let z8:=(2,some q1)
 refine yt (sp 40 [z4,z5,z7]) [z2,z3,z8] 3 (Aw.sreg [2,3,4,5] [0,1,2] (yu 3 [(7,pp 0),(8,.agg (B_25 x_b.C)),(9,.agg (C_45 x_i))] [z2,z3,z8] 3 ?_))
 obtain ⟨v1,hv1,hh⟩:=bind_some hh
 refine ys (.call 166 [(.t 8),(.t 9)]) (some 10) (op_call (r:=ii v1) (v:=ii v1) (Hr:=[]) (n':=3) (impl_addressOf_fn hv1) (clz_v (vs:=[.agg (B_25 x_b.C),.agg (C_45 x_i)]) kr (clz_c (clo_same (clean_agg (cl_B_25 _))) (cz1 clz_n))) rfl rfl kr ?_)
 refine yt (sp 40 [z4,z5,z7,(5,ii v1)]) [z2,z3,z8] 3 (Aw.sreg [2,3,4,5,6] [0,1,2] (yu 9 [(11,.ptr 0 [] 13),(12,bo (eI .i64) x_b.Mem),(13,pp 0),(14,.ptr 0 [] 2),(15,ii x_b.C.Root),(16,ii v1),(17,pp 0),(18,.ptr 0 [] 10),(19,bb x_b.C.User)] [z2,z3,z8] 3 ?_))
 obtain ⟨v2,hv2,hh⟩:=bind_some hh
 let z9:=(22,bb (decide (v2=(-1:Int))))
 refine ys (.call 18 [(.t 12),(.t 15),(.t 16),(.t 19),(.c (bb true))]) (some 20) (oc (impl_Walk_fn hv2) ?_)
 refine yt (sp 40 [z4,z5,z7,(5,ii v1),(6,ii v2)]) [z2,z3,z8] 3 (Aw.seq (sy [2,3,4,5,6,22] [0,1,2] (sp 40 [z4,z5,z7,(5,ii v1),(6,ii v2),z9]) [z2,z3,z8] 3 ?_))
 rcases cond_some hh with ⟨hb,hh⟩ | ⟨hb,hh⟩
 · refine cT hb (Aw.sreg [4] [2] (yu 2 [(23,.agg (B_27 x_b)),(24,ii v1)] [z2,z3,z8] 3 ?_))
   obtain ⟨v3,hv3,hh⟩:=bind_some hh
   refine ys (.call 127 [(.t 23),(.t 24)]) (some 25) (op_callp (r:=.agg (B_27 v3)) (v:=.agg (B_27 v3)) (Hr:=[]) (n':=3) (impl_faulted_fn hv3) (clz_v (vs:=[.agg (B_27 x_b),ii v1]) kr (clz_c (clo_same (clean_agg (cl_B_27 _))) (cz1 clz_n))) nrr kr ?_)
   refine yt (sp 40 [z7]) [(2,some (rB27 v3))] 3 (Aw.ret (then_r ?_))
   rw [some_some hh]
   exact gives (r':=.agg (B_27 v3)) kr (Ent.clov (.one _ _ (clo_same (clean_agg (cl_B_27 _)))))
 refine cF hb (Aw.xskip (fun _ _ _ hq=>then_m hq) (Aw.sregd [2,4] [0,2,3] [] kr (dj 8 (sp 40 [z4,z5,z7,(5,ii v1),(6,ii v2),z9,(26,.ptr 0 [] 13),(27,bo (eI .i64) x_b.Mem),(28,ii v2),(29,pp 0),(30,pp 0),z6,(32,.ptr 1 [] 1),(33,ii x_i.A)]) [z2,z3,z8] 3 ?_)))
 obtain ⟨hg2,hh⟩:=grd_some hh
 refine ds (.iadr 1 (.t 31) (.t 33)) (some 34) (ydo_q rfl kr (op_iadr (kd:=.i64) (c:=(eI .i64)) (xs:=x_b.C.Regs) len_eI dd kr kr hg2 ?_))
 refine ds (.load false 1 (.t 34)) (some 35) (ydo_q rfl kr (op_loadb (c:=(eI .i64)) (xs:=x_b.C.Regs) (o:=Int.toNat x_i.A*1) (i:=(Int.toNat x_i.A)) (off:=0) (v:=ii z1) len_eI kr ltn ltn dd kr ?_))
 refine dt (sp 40 [z4,z5,z7,(5,ii v1),(6,ii v2),z9,(26,.ptr 0 [] 13),(27,bo (eI .i64) x_b.Mem),(28,ii v2),(29,pp 0),(30,pp 0),z6,(32,.ptr 1 [] 1),(33,ii x_i.A),(34,.bptr (fl (eI .i64) x_b.C.Regs) (Int.toNat x_i.A*1)),(35,ii z1)]) [z2,z3,z8] 3 ?_
 obtain ⟨v4,hv4,hh⟩:=bind_some hh
 let z10:EH:=(3,some (rI_3 v4))
 refine ys (.call 168 [(.t 27),(.t 28),(.t 35)]) (some 36) (op_call (r:=.own 3 1 (List.length v4) (fl (eI .i64) v4)) (v:=sw 3 v4) (Hr:=[z10]) (n':=4) (impl_changed_fn hv4) (clz_v (vs:=[bo (eI .i64) x_b.Mem,ii v2,ii z1]) kr (clz_c (clo_same (clean_bor (cleans_fl cl_eI))) (cz1 (cz1 clz_n)))) nrr nrr kr ?_)
 let q2:Root:=⟨27,(bo (eI .i64) x_b.C.Regs::ru25 x_b.C [sw 3 v4,bo (eI .i64) x_b.In,bo (eI .i64) x_b.Out])⟩
 refine yt (sp 40 [z4,z7]) [(0,some q2),z8,z10] 4 ?_
 let q3:Root:=⟨27,(bo (eI .i64) x_b.C.Regs::ru25 x_b.C [bo (eI .i64) v4,bo (eI .i64) x_b.In,bo (eI .i64) x_b.Out])⟩
 refine Aw.freeze 3 (cs:=(fl (eI .i64) v4)) (e:=3) (env2:=sp 40 [z4,z7]) (H2:=[(0,some q3),z8]) kr (noOwn_fl no_eI) (frs_sp kr (fl_c (u:=pp 0) kr (.same _) (fl_c (u:=pp 2) kr (.same _) fl_n))) (hf_c (t:=q2) rfl kr rfl (frs_c (.same _) (frs_c (.same _) (frs_c (.same _) (frs_c (.same _) (frs_c (.same _) (frs_c (.same _) (frs_c (.same _) (frs_c (.same _) (frs_c (.same _) (frs_c (.same _) (frs_c (.same _) (frs_c (.same _) (frs_c (.same _) (frs_c (fr_all len_eI eqn) (frs_c (.same _) (frs_c (.same _) frs_n)))))))))))))))) (hf_c (t:=q1) rfl kr rfl (frs_c (.same _) (frs_c (.same _) (frs_c (.same _) (frs_c (.same _) (frs_c (.same _) (frs_c (.same _) (frs_c (.same _) (frs_c (.same _) (frs_c (.same _) (frs_c (.same _) (frs_c (.same _) (frs_c (.same _) (frs_c (.same _) (frs_c (.same _) (frs_c (.same _) (frs_c (.same _) frs_n)))))))))))))))) hf_n)) (Aw.sreg [4] [2] (yj 1  (sp 40 [z4,z7,(38,.agg (bo (eI .i64) x_b.C.Regs::ru25 x_b.C [bo (eI .i64) v4,bo (eI .i64) x_b.In,bo (eI .i64) x_b.Out]))]) [(0,some q3),z8] 4 ?_))
 obtain ⟨v5,hv5,hh⟩:=bind_some hh
 refine ys (.call 146 [(.t 38)]) (some 39) (op_callp (r:=.agg (B_27 v5)) (v:=.agg (B_27 v5)) (Hr:=[]) (n':=4) (impl_wentOn_fn hv5) (clz_v (vs:=[.agg (bo (eI .i64) x_b.C.Regs::ru25 x_b.C [bo (eI .i64) v4,bo (eI .i64) x_b.In,bo (eI .i64) x_b.Out])]) kr (clz_c (clo_agg cz) clz_n)) nrr kr ?_)
 refine yt (sp 40 [z7]) [(2,some (rB27 v5))] 4 (Aw.ret ?_)
 rw [some_some hh]
 exact gives (r':=.agg (B_27 v5)) kr (Ent.clov (.one _ _ (clo_same (clean_agg (cl_B_27 _)))))
theorem low_impl_did:LW 128 ⟨20,[(.cell 4 true 16)],(.seq (.reg false (rg 128 0)) (.seq (.seq (.reg false (rg 128 1)) (.block 0 (.seq (.reg false (rg 128 2)) (.cond (.t 7) (.seq (.reg false (rg 128 3)) .ret) (.seq (.reg false (rg 128 4)) (.cond (.t 12) (.seq (.reg false (rg 128 5)) .ret) .skip)))))) (.seq (.reg false (rg 128 6)) .ret)))⟩:=kr
noncomputable def F_impl_did (x_b:DBare) (x_i:DIns):Option DBare :=
 cond (decide (x_i.Op=(3:Int)))
  (Option.bind (F_impl_loaded x_b x_i) fun v1 =>
  some v1)
  (cond (decide (x_i.Op=(4:Int)))
   (Option.bind (F_impl_stored x_b x_i) fun v2 =>
   some v2)
   (Option.bind (F_impl_didInCore x_b x_i) fun v3 =>
   some v3))
theorem impl_did_fn {x_b:DBare} {x_i:DIns} {R_:DBare} (hh:F_impl_did x_b x_i=some R_):Fn Try.prog 128 [.agg (B_27 x_b),.agg (C_45 x_i)] (.agg (B_27 R_)):=by
 let z1:EH:=(0,some (rB27 x_b)); let z2:EH:=(1,some ⟨45,(C_45 x_i)⟩); let z3:=(12,bb (decide (x_i.Op=(4:Int)))); let z4:=(4,pp 2)
 unfold F_impl_did at hh
 refine Fn.start low_impl_did [0,1] (E:=sp 20 [(0,.agg (B_27 x_b)),(1,.agg (C_45 x_i))]) kr (v:=.agg (B_27 R_)) (Hr:=[]) (k:=0) kr (Aw.sreg [2,3,4] [0,1,2] ?_)
 let q1:Root:=⟨27,(.nil::zru25 [.nil,.nil,.nil])⟩; let z5:=(2,some q1)
 refine yt (sp 20 [(2,pp 0),(3,pp 1),z4]) [z1,z2,z5] 3 (Aw.seq (sy [2,3,4,6] [0,1,2] (sp 20 [(2,pp 0),(3,pp 1),z4,(6,ii x_i.Op)]) [z1,z2,z5] 3 (Aw.block (sy [2,3,4,6,7] [0,1,2] (sp 20 [(2,pp 0),(3,pp 1),z4,(6,ii x_i.Op),(7,bb (decide (x_i.Op=(3:Int))))]) [z1,z2,z5] 3 ?_))))
 rcases cond_some hh with ⟨hb,hh⟩ | ⟨hb,hh⟩
 · refine cT hb (Aw.sreg [4] [2] (yu 2 [(9,.agg (B_27 x_b)),(10,.agg (C_45 x_i))] [z1,z2,z5] 3 ?_))
   obtain ⟨v1,hv1,hh⟩:=bind_some hh
   refine ys (.call 157 [(.t 9),(.t 10)]) (some 11) (op_callp (r:=.agg (B_27 v1)) (v:=.agg (B_27 v1)) (Hr:=[]) (n':=3) (impl_loaded_fn hv1) (clz_v (vs:=[.agg (B_27 x_b),.agg (C_45 x_i)]) kr (clz_c (clo_same (clean_agg (cl_B_27 _))) (cz1 clz_n))) nrr kr ?_)
   refine yt (sp 20 [z4]) [(2,some (rB27 v1))] 3 (Aw.ret (blk_r (then_r ?_)))
   rw [some_some hh]
   exact gives (r':=.agg (B_27 v1)) kr (Ent.clov (.one _ _ (clo_same (clean_agg (cl_B_27 _)))))
 refine cF hb (sy [2,3,4,12] [0,1,2] (sp 20 [(2,pp 0),(3,pp 1),z4,z3]) [z1,z2,z5] 3 ?_)
 rcases cond_some hh with ⟨hb,hh⟩ | ⟨hb,hh⟩
 · refine cT hb (Aw.sreg [4] [2] (yu 2 [(14,.agg (B_27 x_b)),(15,.agg (C_45 x_i))] [z1,z2,z5] 3 ?_))
   obtain ⟨v2,hv2,hh⟩:=bind_some hh
   refine ys (.call 158 [(.t 14),(.t 15)]) (some 16) (op_callp (r:=.agg (B_27 v2)) (v:=.agg (B_27 v2)) (Hr:=[]) (n':=3) (impl_stored_fn hv2) (clz_v (vs:=[.agg (B_27 x_b),.agg (C_45 x_i)]) kr (clz_c (clo_same (clean_agg (cl_B_27 _))) (cz1 clz_n))) nrr kr ?_)
   refine yt (sp 20 [z4]) [(2,some (rB27 v2))] 3 (Aw.ret (blk_r (then_r ?_)))
   rw [some_some hh]
   exact gives (r':=.agg (B_27 v2)) kr (Ent.clov (.one _ _ (clo_same (clean_agg (cl_B_27 _)))))
 refine cF hb (Aw.xskip (fun _ _ _ hq=>blk_m (then_m hq)) (Aw.sreg [4] [2] (yj 2  (sp 20 [(2,pp 0),(3,pp 1),z4,z3,(17,.agg (B_27 x_b)),(18,.agg (C_45 x_i))]) [z1,z2,z5] 3 ?_)))
 obtain ⟨v3,hv3,hh⟩:=bind_some hh
 refine ys (.call 159 [(.t 17),(.t 18)]) (some 19) (op_callp (r:=.agg (B_27 v3)) (v:=.agg (B_27 v3)) (Hr:=[]) (n':=3) (impl_didInCore_fn hv3) (clz_v (vs:=[.agg (B_27 x_b),.agg (C_45 x_i)]) kr (clz_c (clo_same (clean_agg (cl_B_27 _))) (cz1 clz_n))) nrr kr ?_)
 refine yt (sp 20 [z4]) [(2,some (rB27 v3))] 3 (Aw.ret ?_)
 rw [some_some hh]
 exact gives (r':=.agg (B_27 v3)) kr (Ent.clov (.one _ _ (clo_same (clean_agg (cl_B_27 _)))))
theorem low_impl_stepped:LW 55 ⟨47,[(.cell 2 true 16)],(.seq (.reg false (rg 55 0)) (.seq (.seq (.reg false (rg 55 1)) (.cond (.t 6) (.seq (.reg false (rg 55 2)) .ret) .skip)) (.seq (.reg false (rg 55 3)) (.seq (.seq (.reg false (rg 55 4)) (.cond (.t 14) (.seq (.reg false (rg 55 5)) (.seq (.reg false (rg 55 6)) .ret)) .skip)) (.seq (.reg false (rg 55 7)) (.seq (.seq (.reg false (rg 55 8)) (.cond (.t 33) (.seq (.reg false (rg 55 9)) .ret) .skip)) (.seq (.regd (rg 55 10) (rg 55 11)) .ret)))))))⟩:=kr
noncomputable def F_impl_stepped (x_b:DBare):Option DBare :=
 cond x_b.C.Stopped
  (some x_b)
  (Option.bind (F_impl_ticked x_b.C) fun v1 =>
  Option.bind (F_impl_isInterrupted v1) fun v2 =>
  cond v2
   (Option.bind (F_impl_interrupted v1) fun v3 =>
   some (DBare.mk v3 x_b.Mem x_b.In x_b.Out))
   (Option.bind (F_impl_Walk x_b.Mem v1.Root v1.Pc v1.User false) fun v4 =>
   cond (decide (v4=(-1:Int)))
    (Option.bind (F_impl_faulted (DBare.mk v1 x_b.Mem x_b.In x_b.Out) v1.Pc) fun v5 =>
    some v5)
    (grd ((0:Int)≤v4∧v4<((List.length x_b.Mem:Nat):Int)) (Option.bind (F_impl_InsFrom (List.getD x_b.Mem (Int.toNat v4) default)) fun v6 =>
     Option.bind (F_impl_did (DBare.mk (DCore.mk v1.Regs v1.Pc v1.Root v1.Vector v1.Saved v1.SavedUser v1.Cause v1.Bad v1.Timer v1.Waits v1.User v1.On v1.Stopped) x_b.Mem x_b.In x_b.Out) v6) fun v7 =>
     some v7))))
theorem impl_stepped_fn {x_b:DBare} {R_:DBare} (hh:F_impl_stepped x_b=some R_):Fn Try.prog 55 [.agg (B_27 x_b)] (.agg (B_27 R_)):=by
 let z2:EH:=(0,some (rB27 x_b)); let z3:=(1,pp 0); let z4:=(2,pp 1)
 unfold F_impl_stepped at hh
 refine Fn.start low_impl_stepped [0] (E:=sp 47 [(0,.agg (B_27 x_b))]) kr (v:=.agg (B_27 R_)) (Hr:=[]) (k:=0) kr (Aw.sreg [1,2] [0,1] ?_)
 let q1:Root:=⟨27,(.nil::zru25 [.nil,.nil,.nil])⟩; let z5:=(1,some q1)
 refine yt (sp 47 [z3,z4]) [z2,z5] 2 (Aw.seq (sy [1,2,6] [0,1] (sp 47 [z3,z4,(6,bb x_b.C.Stopped)]) [z2,z5] 2 ?_))
 rcases cond_some hh with ⟨hb,hh⟩ | ⟨hb,hh⟩
 · refine cT hb (sy [2] [1] (sp 47 [z4]) [(1,some (rB27 x_b))] 2 (Aw.ret (then_r ?_)))
   rw [some_some hh]
   exact gives (r':=.agg (B_27 x_b)) kr (Ent.clov (.one _ _ (clo_same (clean_agg (cl_B_27 _)))))
 refine cF hb (Aw.xskip (fun _ _ _ hq=>then_m hq) (Aw.sreg [1,2] [0,1] (yj 2  (sp 47 [z3,z4,(6,bb x_b.C.Stopped),(8,pp 0),(9,.agg (B_25 x_b.C))]) [z2,z5] 2 ?_)))
 obtain ⟨v1,hv1,hh⟩:=bind_some hh
 let z6:EV:=(39,.agg (bo (eI .i64) v1.Regs::ru25 v1 [bo (eI .i64) x_b.Mem,bo (eI .i64) x_b.In,bo (eI .i64) x_b.Out]))
 refine ys (.call 124 [(.t 9)]) (some 10) (op_callp (r:=.agg (B_25 v1)) (v:=.agg (B_25 v1)) (Hr:=[]) (n':=2) (impl_ticked_fn hv1) (clz_v (vs:=[.agg (B_25 x_b.C)]) kr (clz_c (clo_same (clean_agg (cl_B_25 _))) clz_n)) nrr kr ?_)
 let q2:Root:=⟨27,(bo (eI .i64) v1.Regs::ru25 v1 [bo (eI .i64) x_b.Mem,bo (eI .i64) x_b.In,bo (eI .i64) x_b.Out])⟩; let z7:=(0,some q2)
 refine yt (sp 47 [z3,z4]) [z7,z5] 2 (Aw.seq (Aw.sreg [1,2,14] [0,1] (yj 2  (sp 47 [z3,z4,(12,pp 0),(13,.agg (B_25 v1))]) [z7,z5] 2 ?_)))
 obtain ⟨v2,hv2,hh⟩:=bind_some hh
 refine ys (.call 125 [(.t 13)]) (some 14) (op_call (r:=bb v2) (v:=bb v2) (Hr:=[]) (n':=2) (impl_isInterrupted_fn hv2) (clz_v (vs:=[.agg (B_25 v1)]) kr (clz_c (clo_same (clean_agg (cl_B_25 _))) clz_n)) rfl rfl kr ?_)
 refine yt (sp 47 [z3,z4,(14,bb v2)]) [z7,z5] 2 ?_
 rcases cond_some hh with ⟨hb,hh⟩ | ⟨hb,hh⟩
 · refine cT hb (Aw.sreg [1,2] [0,1] (yu 2 [(15,pp 0),(16,.agg (B_25 v1))] [z7,z5] 2 ?_))
   obtain ⟨v3,hv3,hh⟩:=bind_some hh
   refine ys (.call 126 [(.t 16)]) (some 17) (op_callp (r:=.agg (B_25 v3)) (v:=.agg (B_25 v3)) (Hr:=[]) (n':=2) (impl_interrupted_fn hv3) (clz_v (vs:=[.agg (B_25 v1)]) kr (clz_c (clo_same (clean_agg (cl_B_25 _))) clz_n)) nrr kr ?_)
   let q3:Root:=⟨27,(bo (eI .i64) v3.Regs::ru25 v3 [bo (eI .i64) x_b.Mem,bo (eI .i64) x_b.In,bo (eI .i64) x_b.Out])⟩
   refine yt (sp 47 [z3,z4]) [(0,some q3),z5] 2 (sy [2] [1] (sp 47 [z4]) [(1,some q3)] 2 (Aw.ret (then_r ?_)))
   rw [some_some hh]
   exact gives (r':=.agg (bo (eI .i64) v3.Regs::ru25 v3 [bo (eI .i64) x_b.Mem,bo (eI .i64) x_b.In,bo (eI .i64) x_b.Out])) kr (Ent.clov (.one _ _ (clo_agg cz)))
 refine cF hb (Aw.xskip (fun _ _ _ hq=>then_m hq) (Aw.sreg [1,2,3] [0,1] (yj 11  (sp 47 [z3,z4,(14,bb v2),(20,.ptr 0 [] 13),(21,bo (eI .i64) x_b.Mem),(22,pp 0),(23,.ptr 0 [] 2),(24,ii v1.Root),(25,pp 0),(26,.ptr 0 [] 1),(27,ii v1.Pc),(28,pp 0),(29,.ptr 0 [] 10),(30,bb v1.User)]) [z7,z5] 2 ?_)))
 obtain ⟨v4,hv4,hh⟩:=bind_some hh
 let z8:=(33,bb (decide (v4=(-1:Int)))); let z1:=List.getD x_b.Mem (Int.toNat v4) default
 refine ys (.call 18 [(.t 21),(.t 24),(.t 27),(.t 30),(.c (bb false))]) (some 31) (oc (impl_Walk_fn hv4) ?_)
 refine yt (sp 47 [z3,z4,(3,ii v4)]) [z7,z5] 2 (Aw.seq (sy [1,2,3,33] [0,1] (sp 47 [z3,z4,(3,ii v4),z8]) [z7,z5] 2 ?_))
 rcases cond_some hh with ⟨hb,hh⟩ | ⟨hb,hh⟩
 · refine cT hb (Aw.sreg [2] [1] (yu 4 [(34,.agg (bo (eI .i64) v1.Regs::ru25 v1 [bo (eI .i64) x_b.Mem,bo (eI .i64) x_b.In,bo (eI .i64) x_b.Out])),(35,pp 0),(36,.ptr 0 [] 1),(37,ii v1.Pc)] [z7,z5] 2 ?_))
   obtain ⟨v5,hv5,hh⟩:=bind_some hh
   refine ys (.call 127 [(.t 34),(.t 37)]) (some 38) (op_callp (r:=.agg (B_27 v5)) (v:=.agg (B_27 v5)) (Hr:=[]) (n':=2) (impl_faulted_fn hv5) (clz_v (vs:=[.agg (bo (eI .i64) v1.Regs::ru25 v1 [bo (eI .i64) x_b.Mem,bo (eI .i64) x_b.In,bo (eI .i64) x_b.Out]),ii v1.Pc]) kr (clz_c (clo_agg cz) (cz1 clz_n))) nrr kr ?_)
   refine yt (sp 47 [z4]) [(1,some (rB27 v5))] 2 (Aw.ret (then_r ?_))
   rw [some_some hh]
   exact gives (r':=.agg (B_27 v5)) kr (Ent.clov (.one _ _ (clo_same (clean_agg (cl_B_27 _)))))
 refine cF hb (Aw.xskip (fun _ _ _ hq=>then_m hq) (Aw.sregd [2] [1] [] kr (dj 4 (sp 47 [z3,z4,(3,ii v4),z8,z6,(40,.ptr 0 [] 13),(41,bo (eI .i64) x_b.Mem),(42,ii v4)]) [z7,z5] 2 ?_)))
 obtain ⟨hg2,hh⟩:=grd_some hh
 refine ds (.iadr 1 (.t 41) (.t 42)) (some 43) (ydo_q rfl kr (op_iadr (kd:=.i64) (c:=(eI .i64)) (xs:=x_b.Mem) len_eI dd kr kr hg2 ?_))
 refine ds (.load false 1 (.t 43)) (some 44) (ydo_q rfl kr (op_loadb (c:=(eI .i64)) (xs:=x_b.Mem) (o:=Int.toNat v4*1) (i:=(Int.toNat v4)) (off:=0) (v:=ii z1) len_eI kr ltn ltn dd kr ?_))
 obtain ⟨v6,hv6,hh⟩:=bind_some hh
 refine ds (.call 129 [(.t 44)]) (some 45) (ydo_n rfl (op_call (r:=.agg (C_45 v6)) (v:=.agg (C_45 v6)) (Hr:=[]) (n':=2) (impl_InsFrom_fn hv6) (clz_v (vs:=[ii z1]) kr (cz1 clz_n)) rfl rfl kr ⟨⟨agr_name (n:=2) (n0:=2) (r:=.agg (C_45 v6)) (v:=.agg (C_45 v6)) (Hr:=[]) (n':=2) kr dd,Hld.un ?_⟩⟩))
 refine dt (sp 47 [z3,z4,(3,ii v4),z8,z6,(40,.ptr 0 [] 13),(41,bo (eI .i64) x_b.Mem),(42,ii v4),(43,.bptr (fl (eI .i64) x_b.Mem) (Int.toNat v4*1)),(44,ii z1),(45,.agg (C_45 v6))]) [z7,z5] 2 ?_
 obtain ⟨v7,hv7,hh⟩:=bind_some hh
 refine ys (.call 128 [(.t 39),(.t 45)]) (some 46) (op_callp (r:=.agg (B_27 v7)) (v:=.agg (B_27 v7)) (Hr:=[]) (n':=2) (impl_did_fn hv7) (clz_v (vs:=[.agg (bo (eI .i64) v1.Regs::ru25 v1 [bo (eI .i64) x_b.Mem,bo (eI .i64) x_b.In,bo (eI .i64) x_b.Out]),.agg (C_45 v6)]) kr (clz_c (clo_agg cz) (cz1 clz_n))) nrr kr ?_)
 refine yt (sp 47 [z4]) [(1,some (rB27 v7))] 2 (Aw.ret ?_)
 rw [some_some hh]
 exact gives (r':=.agg (B_27 v7)) kr (Ent.clov (.one _ _ (clo_same (clean_agg (cl_B_27 _)))))
theorem low_impl_BareStep:LW 12 ⟨10,[(.cell 2 true 16)],(.seq (.reg false (rg 12 0)) (.seq (.seq (.reg false (rg 12 1)) (.cond (.t 5) (.seq (.reg false (rg 12 2)) .ret) .skip)) (.seq (.reg false (rg 12 3)) .ret)))⟩:=kr
noncomputable def F_impl_BareStep (x_b:DBare):Option DBare :=
 Option.bind (F_impl_BareOk x_b) fun v1 =>
 cond (!v1)
  (some (DBare.mk (DCore.mk ([]:List Int) (0:Int) (0:Int) (0:Int) (0:Int) false (0:Int) (0:Int) (0:Int) false false false false) ([]:List Int) ([]:List Int) ([]:List Int)))
  (Option.bind (F_impl_stepped x_b) fun v2 =>
  Option.bind (F_impl_copiedBare v2) fun v3 =>
  some v3)
theorem impl_BareStep_fn {x_b:DBare} {R_:DBare} (hh:F_impl_BareStep x_b=some R_):Fn Try.prog 12 [.agg (B_27 x_b)] (.agg (.own 3 1 (List.length R_.C.Regs) (fl (eI .i64) R_.C.Regs)::ru25 R_.C [.own 3 1 (List.length R_.Mem) (fl (eI .i64) R_.Mem),.own 3 1 (List.length R_.In) (fl (eI .i64) R_.In),.own 3 1 (List.length R_.Out) (fl (eI .i64) R_.Out)])):=by
 let z1:EH:=(0,some (rB27 x_b)); let z2:=(2,pp 1)
 unfold F_impl_BareStep at hh
 refine Fn.start low_impl_BareStep [0] (E:=sp 10 [(0,.agg (B_27 x_b))]) kr (v:=.agg (sw 0 R_.C.Regs::ru25 R_.C [sw 1 R_.Mem,sw 2 R_.In,sw 3 R_.Out])) (Hr:=[(3,some (rI_3 R_.Out)),(2,some (rI_3 R_.In)),(1,some (rI_3 R_.Mem)),(0,some (rI_3 R_.C.Regs))]) (k:=4) kr (Aw.sreg [1,2] [0,1] ?_)
 let q1:Root:=⟨27,(.nil::zru25 [.nil,.nil,.nil])⟩; let z3:=(1,some q1)
 refine yt (sp 10 [(1,pp 0),z2]) [z1,z3] 2 (Aw.seq (Aw.sreg [1,2,5] [0,1] (yj 1  (sp 10 [(1,pp 0),z2,(3,.agg (B_27 x_b))]) [z1,z3] 2 ?_)))
 obtain ⟨v1,hv1,hh⟩:=bind_some hh
 refine ys (.call 15 [(.t 3)]) (some 4) (op_call (r:=bb v1) (v:=bb v1) (Hr:=[]) (n':=2) (impl_BareOk_fn hv1) (clz_v (vs:=[.agg (B_27 x_b)]) kr (clz_c (clo_same (clean_agg (cl_B_27 _))) clz_n)) rfl rfl kr ?_)
 refine yt (sp 10 [(1,pp 0),z2,(5,bb (!v1))]) [z1,z3] 2 ?_
 rcases cond_some hh with ⟨hb,hh⟩ | ⟨hb,hh⟩
 · refine cT hb (sy [2] [1] (sp 10 [z2]) [z3] 2 (Aw.ret (then_r ?_)))
   rw [some_some hh]
   exact gives (r':=.agg (.nil::zru25 [.nil,.nil,.nil])) kr (Ent.list [none,none,none,none] rfl rfl (Nat.zero_le _) (rens_1 (ren_agg rz)) (hs_no dd rfl rfl (hs_no dd rfl rfl (hs_no dd rfl rfl (hs_no dd rfl rfl hs_nil)))))
 refine cF hb (Aw.xskip (fun _ _ _ hq=>then_m hq) (Aw.sreg [2] [1,2,3,4,5] (yj 1  (sp 10 [(1,pp 0),z2,(5,bb (!v1)),(7,.agg (B_27 x_b))]) [z1,z3] 2 ?_)))
 obtain ⟨v2,hv2,hh⟩:=bind_some hh
 refine ys (.call 55 [(.t 7)]) (some 8) (op_callp (r:=.agg (B_27 v2)) (v:=.agg (B_27 v2)) (Hr:=[]) (n':=2) (impl_stepped_fn hv2) (clz_v (vs:=[.agg (B_27 x_b)]) kr (clz_c (clo_same (clean_agg (cl_B_27 _))) clz_n)) nrr kr ?_)
 obtain ⟨v3,hv3,hh⟩:=bind_some hh
 let q2:Root:=(rI_3 v3.Out); let q3:Root:=(rI_3 v3.In); let q4:Root:=(rI_3 v3.Mem); let q5:Root:=(rI_3 v3.C.Regs)
 refine ys (.call 54 [(.t 8)]) (some 9) (op_call (r:=.agg (.own 3 1 (List.length v3.C.Regs) (fl (eI .i64) v3.C.Regs)::ru25 v3.C [.own 3 1 (List.length v3.Mem) (fl (eI .i64) v3.Mem),.own 3 1 (List.length v3.In) (fl (eI .i64) v3.In),.own 3 1 (List.length v3.Out) (fl (eI .i64) v3.Out)])) (v:=.agg (sw 2 v3.C.Regs::ru25 v3.C [sw 3 v3.Mem,sw 4 v3.In,sw 5 v3.Out])) (Hr:=[(5,some q2),(4,some q3),(3,some q4),(2,some q5)]) (n':=6) (impl_copiedBare_fn hv3) (clz_v (vs:=[.agg (B_27 v2)]) kr (clz_c (clo_same (clean_agg (cl_B_27 _))) clz_n)) nrr nrr kr ?_)
 refine yt (sp 10 [z2]) [(1,some ⟨27,(sw 2 v3.C.Regs::ru25 v3.C [sw 3 v3.Mem,sw 4 v3.In,sw 5 v3.Out])⟩),(2,some q5),(3,some q4),(4,some q3),(5,some q2)] 6 (Aw.ret ?_)
 rw [some_some hh]
 exact gives (r':=.agg (sw 2 v3.C.Regs::ru25 v3.C [sw 3 v3.Mem,sw 4 v3.In,sw 5 v3.Out])) kr (Ent.list [some 2,some 3,some 4,some 5] rfl rfl (Nat.zero_le _) (rens_1 (ren_agg rz)) (hn nr_eI (hn nr_eI (hn nr_eI (hn nr_eI hs_nil)))))
end Go.Proofs.Ytbanbjdcgdmkaaa
