/- Plain functions of the program, and that it hands back what they say. Made by program. -/
import Derived.Test.YtbanbjdcgdmkaaaWT
import Derived.Test.YtbanbjdcgdmkaaaProg
import Derived.Test.YtbanbjdcgdmkaaaWHC1
import Derived.Test.YtbanbjdcgdmkaaaWO1
namespace Go.Proofs.Ytbanbjdcgdmkaaa
open Go.RowKit
set_option maxRecDepth 100000
set_option linter.all false
set_option maxHeartbeats 0
theorem low_impl_wentBack:LW 142 ⟨11,[(.cell 2 true 13)],(.seq (.reg false (rg 142 0)) (.seq (.reg false (rg 142 1)) (.seq (.reg false (rg 142 2)) (.seq (.reg false (rg 142 3)) (.seq (.reg false (rg 142 4)) .ret)))))⟩:=kr
noncomputable def F_impl_wentBack (x_c:DCore):Option DCore :=
 some (DCore.mk x_c.Regs x_c.Saved x_c.Root x_c.Vector x_c.Saved x_c.SavedUser x_c.Cause x_c.Bad x_c.Timer x_c.Waits x_c.SavedUser true x_c.Stopped)
theorem impl_wentBack_fn {x_c:DCore} {R_:DCore} (hh:F_impl_wentBack x_c=some R_):Fn Try.prog 142 [.agg (B_25 x_c)] (.agg (B_25 R_)):=by
 let z1:EH:=(1,some ⟨25,(.nil::zru25 [])⟩)
 unfold F_impl_wentBack at hh
 refine Fn.start low_impl_wentBack [0] (E:=sp 11 [(0,.agg (B_25 x_c))]) kr (v:=.agg (B_25 R_)) (Hr:=[]) (k:=0) kr (sy [1,2] [0,1] (sp 11 [(1,pp 0),(2,pp 1)]) [(0,some (rB25 x_c)),z1] 2 (sy [1,2] [0,1] (sp 11 [(1,pp 0),(2,pp 1)]) [(0,some ⟨25,[bo (eI .i64) x_c.Regs,ii x_c.Saved,ii x_c.Root,ii x_c.Vector,ii x_c.Saved,bb x_c.SavedUser,ii x_c.Cause,ii x_c.Bad,ii x_c.Timer,bb x_c.Waits,bb x_c.User,bb x_c.On,bb x_c.Stopped]⟩),z1] 2 (sy [1,2] [0,1] (sp 11 [(1,pp 0),(2,pp 1)]) [(0,some ⟨25,[bo (eI .i64) x_c.Regs,ii x_c.Saved,ii x_c.Root,ii x_c.Vector,ii x_c.Saved,bb x_c.SavedUser,ii x_c.Cause,ii x_c.Bad,ii x_c.Timer,bb x_c.Waits,bb x_c.SavedUser,bb x_c.On,bb x_c.Stopped]⟩),z1] 2 (Aw.sreg [1,2] [0,1] ?_))))
 let q1:Root:=⟨25,[bo (eI .i64) x_c.Regs,ii x_c.Saved,ii x_c.Root,ii x_c.Vector,ii x_c.Saved,bb x_c.SavedUser,ii x_c.Cause,ii x_c.Bad,ii x_c.Timer,bb x_c.Waits,bb x_c.SavedUser,bb true,bb x_c.Stopped]⟩
 refine yt (sp 11 [(1,pp 0),(2,pp 1)]) [(0,some q1),z1] 2 (sy [2] [1] (sp 11 [(2,pp 1)]) [(1,some q1)] 2 (Aw.ret ?_))
 rw [some_some hh]
 exact gives (r':=.agg [bo (eI .i64) x_c.Regs,ii x_c.Saved,ii x_c.Root,ii x_c.Vector,ii x_c.Saved,bb x_c.SavedUser,ii x_c.Cause,ii x_c.Bad,ii x_c.Timer,bb x_c.Waits,bb x_c.SavedUser,bb true,bb x_c.Stopped]) kr (Ent.clov (.one _ _ (clo_agg cz)))
theorem low_impl_rootFrom:LW 143 ⟨10,[(.tmp 2)],(.seq (.reg false (rg 143 0)) (.seq (.reg false (rg 143 1)) (.seq (.seq (.reg false (rg 143 2)) (.cond (.t 8) (.seq (.reg false (rg 143 3)) .ret) .skip)) (.seq (.reg false (rg 143 4)) .ret))))⟩:=kr
noncomputable def F_impl_rootFrom (x_word:Int):Option Int :=
 Option.bind (F_impl_pageOk (Int.tmod x_word (16:Int))) fun v1 =>
 cond (!v1)
  (some (-1:Int))
  (some (Int.tmod x_word (16:Int)))
theorem impl_rootFrom_fn {x_word:Int} {R_:Int} (hh:F_impl_rootFrom x_word=some R_):Fn Try.prog 143 [.int .i64 x_word] (.int .i64 R_):=by
 let z1:=(3,ii (Int.tmod x_word (16:Int)))
 unfold F_impl_rootFrom at hh
 refine Fn.start low_impl_rootFrom [0] (E:=sp 10 [(0,ii x_word)]) kr (v:=ii R_) (Hr:=[]) (k:=0) kr (sy [0] [] (sp 10 [(0,ii x_word)]) [] 0 (Aw.sreg [3] [] (ytc [(16:Int)≠0] (sp 10 [z1]) [] 0 (.cons dd .nil) (Aw.seq (Aw.sreg [3,8] [] (yj 1  (sp 10 [z1,(6,ii (Int.tmod x_word (16:Int)))]) [] 0 ?_))))))
 obtain ⟨v1,hv1,hh⟩:=bind_some hh
 refine ys (.call 83 [(.t 6)]) (some 7) (oc (impl_pageOk_fn hv1) ?_)
 refine yt (sp 10 [z1,(8,bb (!v1))]) [] 0 ?_
 rcases cond_some hh with ⟨hb,hh⟩ | ⟨hb,hh⟩
 · exact cT hb (sy [2] [] (sp 10 [(2,ii (-1))]) [] 0 (Aw.ret (then_r (gvis hh))))
 exact cF hb (Aw.xskip (fun _ _ _ hq=>then_m hq) (sy [2] [] (sp 10 [(2,ii (Int.tmod x_word (16:Int)))]) [] 0 (Aw.ret (gvis hh))))
theorem low_impl_wentOut:LW 144 ⟨14,[(.tmp 4)],(.seq (.reg false (rg 144 0)) (.seq (.seq (.reg false (rg 144 1)) (.cond (.t 7) (.seq (.reg false (rg 144 2)) .ret) .skip)) (.seq (.reg false (rg 144 3)) .ret)))⟩:=kr
noncomputable def F_impl_wentOut (x_out:List Int) (x_word:Int):Option (List Int) :=
 cond (decide ((30:Int)≤(((List.length x_out):Nat):Int)))
  (some x_out)
  (Option.bind (F_impl_copied x_out) fun v1 =>
  grd ((List.length v1+List.length ([x_word]:List Int))*8≤2 ^ 47∧List.length v1+List.length ([x_word]:List Int)≤2 ^ 47) (some (v1 ++ ([x_word]:List Int))))
theorem impl_wentOut_fn {x_out:List Int} {x_word:Int} {R_:(List Int)} (hh:F_impl_wentOut x_out x_word=some R_):Fn Try.prog 144 [bo (eI .i64) x_out,.int .i64 x_word] (bo (eI .i64) R_):=by
 let z1:=(0,bo (eI .i64) x_out); let z2:=(1,ii x_word); let z3:=(7,bb (decide ((30:Int)≤(((List.length x_out):Nat):Int))))
 unfold F_impl_wentOut at hh
 refine Fn.start low_impl_wentOut [0,1] (E:=sp 14 [z1,z2]) kr (v:=bo (eI .i64) R_) (Hr:=[]) (k:=0) kr (sy [0,1] [] (sp 14 [z1,z2]) [] 0 (Aw.seq (sy [0,1,7] [] (sp 14 [z1,z2,z3]) [] 0 ?_)))
 rcases cond_some hh with ⟨hb,hh⟩ | ⟨hb,hh⟩
 · refine cT hb (sy [4] [] (sp 14 [(4,bo (eI .i64) x_out)]) [] 0 (Aw.ret (then_r ?_)))
   rw [some_some hh]
   exact gives (r':=bo (eI .i64) x_out) kr (Ent.clov (.one _ _ (clo_same (clean_bor (cleans_fl cl_eI)))))
 refine cF hb (Aw.xskip (fun _ _ _ hq=>then_m hq) (Aw.sreg [4] [2] (yj 1  (sp 14 [z1,z2,z3,(9,bo (eI .i64) x_out)]) [] 0 ?_)))
 obtain ⟨v1,hv1,hh⟩:=bind_some hh
 let z4:EH:=(0,some (rI_3 v1))
 refine ys (.call 123 [(.t 9)]) (some 10) (op_call (r:=.own 3 1 (List.length v1) (fl (eI .i64) v1)) (v:=sw 0 v1) (Hr:=[z4]) (n':=1) (impl_copied_fn hv1) (clz_v (vs:=[bo (eI .i64) x_out]) kr (clz_c (clo_same (clean_bor (cleans_fl cl_eI))) clz_n)) nrr nrr kr ?_)
 refine yu 2 [(10,sw 0 v1),(11,ii x_word),(12,.sref 1 [] 0 1 1)] [(1,some ⟨3,[ii x_word]⟩),z4] 2 ?_
 obtain ⟨hg2,hh⟩:=grd_some hh
 refine ys (.app 3 1 8 [(ii 0)] (.t 10) (.t 12)) (some 13) (op_app (c:=(eI .i64)) (xs:=v1) (ys:=([x_word]:List Int)) (r:=0) (k:=(List.length v1)) (π:=[]) eqn len_eI kr kr kr hg2 ?_)
 refine yt (sp 14 [(4,.sref 2 [] 0 (List.length (v1 ++ ([x_word]:List Int))) 1)]) [(2,some (rI_3 (v1 ++ ([x_word]:List Int))))] 3 (Aw.ret ?_)
 rw [some_some hh]
 exact gives (r':=.sref 2 [] 0 (List.length (v1 ++ ([x_word]:List Int))) 1) kr (Ent.clov (.one _ _ (clo_own (c:=(eI .i64)) (xs:=(v1 ++ ([x_word]:List Int))) (e:=3) eqn len_eI no_eI cl_eI kr)))
theorem low_impl_changed:LW 168 ⟨15,[(.tmp 6)],(.seq (.reg false (rg 168 0)) (.seq (.reg false (rg 168 1)) (.seq (.reg false (rg 168 2)) (.seq (.reg false (rg 168 3)) .ret))))⟩:=kr
noncomputable def F_impl_changed (x_list:List Int) (x_at:Int) (x_w:Int):Option (List Int) :=
 Option.bind (F_impl_copied x_list) fun v1 =>
 grd ((0:Int)≤x_at∧x_at<(((List.length v1):Nat):Int)) (some (List.set v1 (Int.toNat x_at) x_w))
theorem impl_changed_fn {x_list:List Int} {x_at:Int} {x_w:Int} {R_:(List Int)} (hh:F_impl_changed x_list x_at x_w=some R_):Fn Try.prog 168 [bo (eI .i64) x_list,.int .i64 x_at,.int .i64 x_w] (.own 3 1 (List.length R_) (fl (eI .i64) R_)):=by
 let z1:=(1,ii x_at)
 unfold F_impl_changed at hh
 refine Fn.start low_impl_changed [0,1,2] (E:=sp 15 [(0,bo (eI .i64) x_list),z1,(2,ii x_w)]) kr (v:=sw 0 R_) (Hr:=[(0,some (rI_3 R_))]) (k:=1) kr (sy [0,1,2] [] (sp 15 [(0,bo (eI .i64) x_list),z1,(2,ii x_w)]) [] 0 (Aw.sreg [1,2,7] [0] (yu 1 [(8,bo (eI .i64) x_list)] [] 0 ?_)))
 obtain ⟨v1,hv1,hh⟩:=bind_some hh
 let z2:EH:=(0,some (rI_3 v1))
 refine ys (.call 123 [(.t 8)]) (some 9) (op_call (r:=.own 3 1 (List.length v1) (fl (eI .i64) v1)) (v:=sw 0 v1) (Hr:=[z2]) (n':=1) (impl_copied_fn hv1) (clz_v (vs:=[bo (eI .i64) x_list]) kr (clz_c (clo_same (clean_bor (cleans_fl cl_eI))) clz_n)) nrr nrr kr ?_)
 refine yt (sp 15 [z1,(2,ii x_w),(7,sw 0 v1)]) [z2] 1 (Aw.sreg [7] [0] ?_)
 obtain ⟨hg2,hh⟩:=grd_some hh
 refine yjc 4 [(0:Int)≤x_at∧x_at<(((List.length v1):Nat):Int)] (sp 15 [z1,(2,ii x_w),(7,sw 0 v1),(10,sw 0 v1),(11,ii x_at),(12,ii x_w),(13,.ptr 0 [] (0+(Int.toNat x_at)*1))]) [z2] 1 (.cons hg2 .nil) ?_
 let q1:Root:=(rI_3 (List.set v1 (Int.toNat x_at) x_w))
 refine ys (.store 1 (.t 13) (.t 12)) none (op_store (c:=(eI .i64)) (xs:=v1) (e:=3) (r:=0) (π:=[]) (o:=0+(Int.toNat x_at)*1) (i:=(Int.toNat x_at)) (off:=0) (vs:=[ii x_w]) (y:=x_w) (H':=[(0,some q1),z2]) len_eI kr kr kr kr ltn ltn dd kr kr ?_)
 refine yt (sp 15 [(7,sw 0 v1)]) [(0,some q1)] 1 (sy [6] [0] (sp 15 [(6,sw 0 v1)]) [(0,some q1)] 1 (Aw.ret ?_))
 rw [some_some hh]
 exact gives (r':=sw 0 v1) kr (Ent.list [some 0] rfl rfl (Nat.zero_le _) (rens_1 ren_sy) (hn nr_eI hs_nil))
theorem low_impl_comesIn:LW 169 ⟨29,[(.tmp 4)],(.seq (.reg false (rg 169 0)) (.seq (.seq (.reg false (rg 169 1)) (.block 0 (.seq (.reg false (rg 169 2)) (.cond (.t 6) (.seq (.reg false (rg 169 3)) .ret) (.seq (.reg false (rg 169 4)) (.cond (.t 11) (.seq (.reg false (rg 169 5)) .ret) (.seq (.reg false (rg 169 6)) (.cond (.t 16) (.seq (.reg false (rg 169 7)) .ret) .skip)))))))) (.seq (.seq (.reg false (rg 169 8)) (.cond (.t 24) (.seq (.reg false (rg 169 9)) .ret) .skip)) (.seq (.reg false (rg 169 10)) .ret))))⟩:=kr
noncomputable def F_impl_comesIn (x_b:DBare) (x_kind:Int):Option Int :=
 cond (decide (x_kind=(1:Int)))
  (some x_b.C.Cause)
  (cond (decide (x_kind=(2:Int)))
   (some x_b.C.Bad)
   (cond (decide (x_kind=(3:Int)))
    (some x_b.C.Saved)
    (cond (decide ((((List.length x_b.In):Nat):Int)=(0:Int)))
     (some (0:Int))
     (grd ((0:Int)≤(0:Int)∧(0:Int)<((List.length x_b.In:Nat):Int)) (some (List.getD x_b.In (Int.toNat (0:Int)) default))))))
theorem impl_comesIn_fn {x_b:DBare} {x_kind:Int} {R_:Int} (hh:F_impl_comesIn x_b x_kind=some R_):Fn Try.prog 169 [.agg (B_27 x_b),.int .i64 x_kind] (.int .i64 R_):=by
 let z2:EH:=(0,some (rB27 x_b)); let z3:=(2,pp 0); let z4:=(24,bb (decide ((((List.length x_b.In):Nat):Int)=(0:Int)))); let z1:=List.getD x_b.In (Int.toNat (0:Int)) default
 unfold F_impl_comesIn at hh
 refine Fn.start low_impl_comesIn [0,1] (E:=sp 29 [(0,.agg (B_27 x_b)),(1,ii x_kind)]) kr (v:=ii R_) (Hr:=[]) (k:=0) kr (sy [1,2] [0] (sp 29 [(1,ii x_kind),z3]) [z2] 1 (Aw.seq (sy [2,5] [0] (sp 29 [z3,(5,ii x_kind)]) [z2] 1 (Aw.block (sy [2,5,6] [0] (sp 29 [z3,(5,ii x_kind),(6,bb (decide (x_kind=(1:Int))))]) [z2] 1 ?_)))))
 rcases cond_some hh with ⟨hb,hh⟩ | ⟨hb,hh⟩
 · refine cT hb (sy [4] [] (sp 29 [(4,ii x_b.C.Cause)]) [] 1 (Aw.ret (blk_r (then_r ?_))))
   rw [some_some hh]
   exact gvi
 refine cF hb (sy [2,5,11] [0] (sp 29 [z3,(5,ii x_kind),(11,bb (decide (x_kind=(2:Int))))]) [z2] 1 ?_)
 rcases cond_some hh with ⟨hb,hh⟩ | ⟨hb,hh⟩
 · refine cT hb (sy [4] [] (sp 29 [(4,ii x_b.C.Bad)]) [] 1 (Aw.ret (blk_r (then_r ?_))))
   rw [some_some hh]
   exact gvi
 refine cF hb (sy [2,16] [0] (sp 29 [z3,(16,bb (decide (x_kind=(3:Int))))]) [z2] 1 ?_)
 rcases cond_some hh with ⟨hb,hh⟩ | ⟨hb,hh⟩
 · refine cT hb (sy [4] [] (sp 29 [(4,ii x_b.C.Saved)]) [] 1 (Aw.ret (blk_r (then_r ?_))))
   rw [some_some hh]
   exact gvi
 refine cF hb (Aw.xskip (fun _ _ _ hq=>blk_m (then_m hq)) (Aw.seq (sy [2,24] [0] (sp 29 [z3,z4]) [z2] 1 ?_)))
 rcases cond_some hh with ⟨hb,hh⟩ | ⟨hb,hh⟩
 · exact cT hb (sy [4] [] (sp 29 [(4,ii 0)]) [] 1 (Aw.ret (then_r (gvis hh))))
 refine cF hb (Aw.xskip (fun _ _ _ hq=>then_m hq) (Aw.sreg [4] [] (yj 2  (sp 29 [z3,z4,(25,.ptr 0 [] 14),(26,bo (eI .i64) x_b.In)]) [z2] 1 ?_)))
 obtain ⟨hg2,hh⟩:=grd_some hh
 refine ys (.iadr 1 (.t 26) (.c (ii 0))) (some 27) (op_iadr (kd:=.i64) (c:=(eI .i64)) (xs:=x_b.In) len_eI dd kr kr hg2 ?_)
 refine ys (.load false 1 (.t 27)) (some 28) (op_loadb (c:=(eI .i64)) (xs:=x_b.In) (o:=Int.toNat (0:Int)*1) (i:=(Int.toNat (0:Int))) (off:=0) (v:=ii z1) len_eI kr ltn ltn dd kr ?_)
 exact yt (sp 29 [(4,ii z1)]) [] 1 (Aw.ret (gvis hh))
theorem low_impl_tookIn:LW 145 ⟨33,[(.cell 4 true 16)],(.seq (.reg false (rg 145 0)) (.seq (.reg false (rg 145 1)) (.seq (.regd (rg 145 2) (rg 145 3)) (.seq (.seq (.reg false (rg 145 4)) (.cond (.t 27) (.reg false (rg 145 5)) .skip)) (.seq (.reg false (rg 145 6)) .ret)))))⟩:=kr
noncomputable def F_impl_tookIn_j3 (x_b:DBare) (v2:(List Int)) (s3:(List Int)):Option DBare :=
 some (DBare.mk (DCore.mk v2 x_b.C.Pc x_b.C.Root x_b.C.Vector x_b.C.Saved x_b.C.SavedUser x_b.C.Cause x_b.C.Bad x_b.C.Timer x_b.C.Waits x_b.C.User x_b.C.On x_b.C.Stopped) x_b.Mem s3 x_b.Out)
noncomputable def F_impl_tookIn (x_b:DBare) (x_i:DIns):Option DBare :=
 Option.bind (F_impl_comesIn x_b (Int.tmod x_i.N (4:Int))) fun v1 =>
 Option.bind (F_impl_changed x_b.C.Regs x_i.A v1) fun v2 =>
 Option.bind (cond (decide ((Int.tmod x_i.N (4:Int))=(0:Int)))
  (cond (decide ((0:Int)<(((List.length x_b.In):Nat):Int)))
   (grd ((0:Int)≤(1:Int)∧(1:Int)≤((List.length x_b.In:Nat):Int)∧((List.length x_b.In:Nat):Int)≤((List.length x_b.In:Nat):Int)) (some (.go (List.take (Int.toNat ((List.length x_b.In:Nat):Int) - Int.toNat (1:Int)) (List.drop (Int.toNat (1:Int)) x_b.In)))))
   (some (.go x_b.In)))
  (some (.go x_b.In))) fun j3 =>
  JO.run j3 (F_impl_tookIn_j3 x_b v2)
theorem impl_tookIn_fn {x_b:DBare} {x_i:DIns} {R_:DBare} (hh:F_impl_tookIn x_b x_i=some R_):Fn Try.prog 145 [.agg (B_27 x_b),.agg (C_45 x_i)] (.agg (B_27 R_)):=by
 let z3:EH:=(0,some (rB27 x_b)); let z4:EH:=(1,some ⟨45,(C_45 x_i)⟩); let z5:=(11,bo (eI .i64) x_b.C.Regs); let z6:=(15,ii (Int.tmod x_i.N (4:Int))); let z7:=(2,pp 0); let z8:=(27,bb (decide ((0:Int)<(((List.length x_b.In):Nat):Int)))); let z9:=(4,pp 2); let z10:=(5,ii (Int.tmod x_i.N (4:Int))); let z1:=List.drop (Int.toNat (1:Int)) x_b.In; let z2:=List.take (Int.toNat ((List.length x_b.In:Nat):Int) - Int.toNat (1:Int)) z1
 unfold F_impl_tookIn at hh
 refine Fn.start low_impl_tookIn [0,1] (E:=sp 33 [(0,.agg (B_27 x_b)),(1,.agg (C_45 x_i))]) kr (v:=.agg (B_27 R_)) (Hr:=[]) (k:=0) kr (Aw.sreg [2,3,4] [0,1,2] ?_)
 let q1:Root:=⟨27,(.nil::zru25 [.nil,.nil,.nil])⟩; let z11:=(2,some q1)
 refine yt (sp 33 [z7,(3,pp 1),z9]) [z3,z4,z11] 3 (Aw.sreg [2,3,4,5] [0,1,2] (ytc [(4:Int)≠0] (sp 33 [z7,(3,pp 1),z9,z10]) [z3,z4,z11] 3 (.cons dd .nil) (Aw.sregd [2,4,5] [0,2,3] [] kr (dj 7 (sp 33 [z7,(3,pp 1),z9,z10,(9,pp 0),(10,pp 0),z5,(12,.ptr 1 [] 1),(13,ii x_i.A),(14,.agg (B_27 x_b)),z6]) [z3,z4,z11] 3 ?_))))
 obtain ⟨v1,hv1,hh⟩:=bind_some hh
 refine ds (.call 169 [(.t 14),(.t 15)]) (some 16) (ydo_n rfl (op_call (r:=ii v1) (v:=ii v1) (Hr:=[]) (n':=3) (impl_comesIn_fn hv1) (clz_v (vs:=[.agg (B_27 x_b),ii (Int.tmod x_i.N (4:Int))]) kr (clz_c (clo_same (clean_agg (cl_B_27 _))) (cz1 clz_n))) rfl rfl kr ⟨⟨agr_name (n:=3) (n0:=3) (r:=ii v1) (v:=ii v1) (Hr:=[]) (n':=3) kr dd,Hld.un ?_⟩⟩))
 refine dt (sp 33 [z7,(3,pp 1),z9,z10,(9,pp 0),(10,pp 0),z5,(12,.ptr 1 [] 1),(13,ii x_i.A),(14,.agg (B_27 x_b)),z6,(16,ii v1)]) [z3,z4,z11] 3 ?_
 obtain ⟨v2,hv2,hh⟩:=bind_some hh
 let z12:EH:=(3,some (rI_3 v2))
 refine ys (.call 168 [(.t 11),(.t 13),(.t 16)]) (some 17) (op_call (r:=.own 3 1 (List.length v2) (fl (eI .i64) v2)) (v:=sw 3 v2) (Hr:=[z12]) (n':=4) (impl_changed_fn hv2) (clz_v (vs:=[bo (eI .i64) x_b.C.Regs,ii x_i.A,ii v1]) kr (clz_c (clo_same (clean_bor (cleans_fl cl_eI))) (cz1 (cz1 clz_n)))) nrr nrr kr ?_)
 let q2:Root:=⟨27,(sw 3 v2::ru25 x_b.C [bo (eI .i64) x_b.Mem,bo (eI .i64) x_b.In,bo (eI .i64) x_b.Out])⟩; let z13:=(0,some q2)
 refine yt (sp 33 [z7,z9,z10]) [z13,z11,z12] 4 ?_
 obtain ⟨j3,hh,hk3⟩:=bind_some hh
 refine Aw.join (S:=(List Int)) (fun s3=>sp 33 [(2,pp 0),(4,pp 2)]) (fun s3=>[(0,some ⟨27,(sw 1 v2::ru25 x_b.C [bo (eI .i64) x_b.Mem,bo (eI .i64) s3,bo (eI .i64) x_b.Out])⟩),(1,some (rI_3 v2)),(2,some ⟨27,(.nil::zru25 [.nil,.nil,.nil])⟩)]) 3 (fun s3=>F_impl_tookIn_j3 x_b v2 s3=some R_) ?_ ?_
 · intro s3 hh
   unfold F_impl_tookIn_j3 at hh
   refine sy [4] [1,2] (sp 33 [z9]) [(1,some (rI_3 v2)),(2,some ⟨27,(sw 1 v2::ru25 x_b.C [bo (eI .i64) x_b.Mem,bo (eI .i64) s3,bo (eI .i64) x_b.Out])⟩)] 3 (Aw.ret ?_)
   rw [some_some hh]
   exact gives (r':=.agg (sw 1 v2::ru25 x_b.C [bo (eI .i64) x_b.Mem,bo (eI .i64) s3,bo (eI .i64) x_b.Out])) kr (Ent.clov (.one _ _ (clo_agg (clos_c (clo_own (c:=(eI .i64)) (xs:=v2) (e:=3) eqn len_eI no_eI cl_eI kr) cz))))
 intro Q3 hN3 hR3 hE3
 refine Aw.sreg [2,4,27] [0,2,3] (yj 3  (sp 33 [z7,z9,z10,(20,ii (Int.tmod x_i.N (4:Int))),(21,bb (decide ((Int.tmod x_i.N (4:Int))=(0:Int)))),(22,bb (decide ((Int.tmod x_i.N (4:Int))=(0:Int))))]) [z13,z11,z12] 4 ?_)
 rcases cond_sf hh with ⟨hb,hh⟩ | ⟨hb,hh⟩
 · refine yb 21 hb (yb 22 hb (yt (sp 33 [z7,z9,(27,bb false)]) [z13,z11,z12] 4 (cF rfl (Aw.skip ?_))))
   obtain rfl:=some_some hh
   exact hN3 x_b.In _ _ _ hk3 (el [some 0,some 3,some 2] (rens_sp kr (rp 0 (rp 2 rl_n))) (hq q2 rz (hn nr_eI (hq q1 rz hs_nil))))
 refine yb 21 hb (yb 22 hb (yt (sp 33 [z7,z9,z8]) [z13,z11,z12] 4 ?_))
 rcases cond_sf hh with ⟨hb,hh⟩ | ⟨hb,hh⟩
 · refine cF hb (Aw.skip ?_)
   obtain rfl:=some_some hh
   exact hN3 x_b.In _ _ _ hk3 (el [some 0,some 3,some 2] (rens_sp kr (rp 0 (rp 2 rl_n))) (hq q2 rz (hn nr_eI (hq q1 rz hs_nil))))
 refine cT hb (Aw.oreg (yu 2 [(28,.ptr 0 [] 14),(29,bo (eI .i64) x_b.In)] [z13,z11,z12] 4 ?_))
 obtain ⟨hg6,hh⟩:=grd_some hh
 refine ys (.slc 1 (.t 29) (some (.c (ii 1))) none) (some 30) (op_slc (c:=(eI .i64)) (xs:=x_b.In) (l:=(1:Int)) (h:=((List.length x_b.In:Nat):Int)) len_eI kr kr kr hg6 ?_)
 let q3:Root:=⟨27,(sw 3 v2::ru25 x_b.C [bo (eI .i64) x_b.Mem,bo (eI .i64) z2,bo (eI .i64) x_b.Out])⟩
 refine ye (sp 33 [z7,z9,z8,(28,.ptr 0 [] 14),(29,bo (eI .i64) x_b.In),(30,bo (eI .i64) z2),(31,.ptr 0 [] 14)]) [(0,some q3),z13,z11,z12] 4 ?_
 obtain rfl:=some_some hh
 exact hN3 z2 _ _ _ hk3 (el [some 0,some 3,some 2] (rens_sp kr (rp 0 (rp 2 rl_n))) (hq q3 rz (hn nr_eI (hq q1 rz hs_nil))))
theorem low_impl_nextPlace:LW 170 ⟨6,[(.tmp 2)],(.seq (.reg false (rg 170 0)) (.seq (.reg false (rg 170 1)) .ret))⟩:=kr
noncomputable def F_impl_nextPlace (x_pc:Int):Option Int :=
 some (Int.tmod (w64 (x_pc+(1:Int))) (64:Int))
theorem impl_nextPlace_fn {x_pc:Int} {R_:Int} (hh:F_impl_nextPlace x_pc=some R_):Fn Try.prog 170 [.int .i64 x_pc] (.int .i64 R_):=by
 unfold F_impl_nextPlace at hh
 exact Fn.start low_impl_nextPlace [0] (E:=sp 6 [(0,ii x_pc)]) kr (v:=ii R_) (Hr:=[]) (k:=0) kr (sy [0] [] (sp 6 [(0,ii x_pc)]) [] 0 (Aw.sreg [2] [] (ytc [(64:Int)≠0] (sp 6 [(2,ii (Int.tmod (w64 (x_pc+(1:Int))) (64:Int)))]) [] 0 (.cons dd .nil) (Aw.ret (gvis hh)))))
theorem low_impl_wentOn:LW 146 ⟨10,[(.cell 2 true 16)],(.seq (.reg false (rg 146 0)) (.seq (.reg false (rg 146 1)) (.seq (.reg false (rg 146 2)) .ret)))⟩:=kr
noncomputable def F_impl_wentOn (x_b:DBare):Option DBare :=
 Option.bind (F_impl_nextPlace x_b.C.Pc) fun v1 =>
 some (DBare.mk (DCore.mk x_b.C.Regs v1 x_b.C.Root x_b.C.Vector x_b.C.Saved x_b.C.SavedUser x_b.C.Cause x_b.C.Bad x_b.C.Timer x_b.C.Waits x_b.C.User x_b.C.On x_b.C.Stopped) x_b.Mem x_b.In x_b.Out)
theorem impl_wentOn_fn {x_b:DBare} {R_:DBare} (hh:F_impl_wentOn x_b=some R_):Fn Try.prog 146 [.agg (B_27 x_b)] (.agg (B_27 R_)):=by
 unfold F_impl_wentOn at hh
 refine Fn.start low_impl_wentOn [0] (E:=sp 10 [(0,.agg (B_27 x_b))]) kr (v:=.agg (B_27 R_)) (Hr:=[]) (k:=0) kr (Aw.sreg [1,2] [0,1] ?_)
 let q1:Root:=⟨27,(.nil::zru25 [.nil,.nil,.nil])⟩
 refine yt (sp 10 [(1,pp 0),(2,pp 1)]) [(0,some (rB27 x_b)),(1,some q1)] 2 (Aw.sreg [1,2] [0,1] (yu 3 [(3,pp 0),(4,.ptr 0 [] 1),(5,ii x_b.C.Pc)] [(0,some (rB27 x_b)),(1,some q1)] 2 ?_))
 obtain ⟨v1,hv1,hh⟩:=bind_some hh
 refine ys (.call 170 [(.t 5)]) (some 6) (oc (impl_nextPlace_fn hv1) ?_)
 let q2:Root:=⟨27,[bo (eI .i64) x_b.C.Regs,ii v1,ii x_b.C.Root,ii x_b.C.Vector,ii x_b.C.Saved,bb x_b.C.SavedUser,ii x_b.C.Cause,ii x_b.C.Bad,ii x_b.C.Timer,bb x_b.C.Waits,bb x_b.C.User,bb x_b.C.On,bb x_b.C.Stopped,bo (eI .i64) x_b.Mem,bo (eI .i64) x_b.In,bo (eI .i64) x_b.Out]⟩
 refine yt (sp 10 [(1,pp 0),(2,pp 1)]) [(0,some q2),(1,some q1)] 2 (sy [2] [1] (sp 10 [(2,pp 1)]) [(1,some q2)] 2 (Aw.ret ?_))
 rw [some_some hh]
 exact gives (r':=.agg [bo (eI .i64) x_b.C.Regs,ii v1,ii x_b.C.Root,ii x_b.C.Vector,ii x_b.C.Saved,bb x_b.C.SavedUser,ii x_b.C.Cause,ii x_b.C.Bad,ii x_b.C.Timer,bb x_b.C.Waits,bb x_b.C.User,bb x_b.C.On,bb x_b.C.Stopped,bo (eI .i64) x_b.Mem,bo (eI .i64) x_b.In,bo (eI .i64) x_b.Out]) kr (Ent.clov (.one _ _ (clo_agg cz)))
theorem low_impl_didKernel:LW 90 ⟨66,[(.cell 4 true 16)],(.seq (.reg false (rg 90 0)) (.seq (.reg false (rg 90 1)) (.seq (.seq (.reg false (rg 90 2)) (.block 0 (.seq (.reg false (rg 90 3)) (.cond (.t 15) (.seq (.reg false (rg 90 4)) (.seq (.reg false (rg 90 5)) .ret)) (.seq (.reg false (rg 90 6)) (.cond (.t 20) (.seq (.reg false (rg 90 7)) (.seq (.reg false (rg 90 8)) .ret)) (.seq (.reg false (rg 90 9)) (.cond (.t 27) (.reg false (rg 90 10)) (.seq (.reg false (rg 90 11)) (.cond (.t 33) (.reg false (rg 90 12)) (.seq (.reg false (rg 90 13)) (.cond (.t 39) (.reg false (rg 90 14)) (.seq (.reg false (rg 90 15)) (.cond (.t 44) (.reg false (rg 90 16)) (.seq (.reg false (rg 90 17)) (.cond (.t 52) (.reg false (rg 90 18)) (.seq (.reg false (rg 90 19)) (.cond (.t 59) (.reg false (rg 90 20)) .skip)))))))))))))))))) (.seq (.reg false (rg 90 21)) .ret))))⟩:=kr
noncomputable def F_impl_didKernel_j1  (s1:Int × Int × Int × Bool × (List Int) × (List Int) × Int × Int × Bool × Int × Int × Bool × Bool × Bool × (List Int) × (List Int)):Option DBare :=
 Option.bind (F_impl_wentOn (DBare.mk (DCore.mk s1.2.2.2.2.2.1 s1.2.2.2.2.2.2.1 s1.1 s1.2.1 s1.2.2.2.2.2.2.2.1 s1.2.2.2.2.2.2.2.2.1 s1.2.2.2.2.2.2.2.2.2.1 s1.2.2.2.2.2.2.2.2.2.2.1 s1.2.2.1 s1.2.2.2.2.2.2.2.2.2.2.2.1 s1.2.2.2.2.2.2.2.2.2.2.2.2.1 s1.2.2.2.1 s1.2.2.2.2.2.2.2.2.2.2.2.2.2.1) s1.2.2.2.2.2.2.2.2.2.2.2.2.2.2.1 s1.2.2.2.2.2.2.2.2.2.2.2.2.2.2.2 s1.2.2.2.2.1)) fun v2 =>
 some v2
noncomputable def F_impl_didKernel (x_b:DBare) (x_i:DIns):Option DBare :=
 grd ((0:Int)≤x_i.A∧x_i.A<((List.length x_b.C.Regs:Nat):Int)) (Option.bind (cond (decide (x_i.Op=(0:Int)))
  (some (.out (DBare.mk (DCore.mk x_b.C.Regs x_b.C.Pc x_b.C.Root x_b.C.Vector x_b.C.Saved x_b.C.SavedUser x_b.C.Cause x_b.C.Bad x_b.C.Timer x_b.C.Waits x_b.C.User x_b.C.On true) x_b.Mem x_b.In x_b.Out)))
  (cond (decide (x_i.Op=(11:Int)))
   (Option.bind (F_impl_wentBack x_b.C) fun v3 =>
   some (.out (DBare.mk v3 x_b.Mem x_b.In x_b.Out)))
   (cond (decide (x_i.Op=(8:Int)))
    (Option.bind (F_impl_rootFrom (List.getD x_b.C.Regs (Int.toNat x_i.A) default)) fun v4 =>
    some (.go (v4,x_b.C.Vector,x_b.C.Timer,x_b.C.On,x_b.Out,x_b.C.Regs,x_b.C.Pc,x_b.C.Saved,x_b.C.SavedUser,x_b.C.Cause,x_b.C.Bad,x_b.C.Waits,x_b.C.User,x_b.C.Stopped,x_b.Mem,x_b.In)))
    (cond (decide (x_i.Op=(9:Int)))
     (some (.go (x_b.C.Root,(Int.tmod (List.getD x_b.C.Regs (Int.toNat x_i.A) default) (64:Int)),x_b.C.Timer,x_b.C.On,x_b.Out,x_b.C.Regs,x_b.C.Pc,x_b.C.Saved,x_b.C.SavedUser,x_b.C.Cause,x_b.C.Bad,x_b.C.Waits,x_b.C.User,x_b.C.Stopped,x_b.Mem,x_b.In)))
     (cond (decide (x_i.Op=(10:Int)))
      (some (.go (x_b.C.Root,x_b.C.Vector,(List.getD x_b.C.Regs (Int.toNat x_i.A) default),x_b.C.On,x_b.Out,x_b.C.Regs,x_b.C.Pc,x_b.C.Saved,x_b.C.SavedUser,x_b.C.Cause,x_b.C.Bad,x_b.C.Waits,x_b.C.User,x_b.C.Stopped,x_b.Mem,x_b.In)))
      (cond (decide (x_i.Op=(12:Int)))
       (some (.go (x_b.C.Root,x_b.C.Vector,x_b.C.Timer,(decide ((Int.tmod x_i.N (2:Int))=(1:Int))),x_b.Out,x_b.C.Regs,x_b.C.Pc,x_b.C.Saved,x_b.C.SavedUser,x_b.C.Cause,x_b.C.Bad,x_b.C.Waits,x_b.C.User,x_b.C.Stopped,x_b.Mem,x_b.In)))
       (cond (decide (x_i.Op=(13:Int)))
        (Option.bind (F_impl_wentOut x_b.Out (List.getD x_b.C.Regs (Int.toNat x_i.A) default)) fun v5 =>
        some (.go (x_b.C.Root,x_b.C.Vector,x_b.C.Timer,x_b.C.On,v5,x_b.C.Regs,x_b.C.Pc,x_b.C.Saved,x_b.C.SavedUser,x_b.C.Cause,x_b.C.Bad,x_b.C.Waits,x_b.C.User,x_b.C.Stopped,x_b.Mem,x_b.In)))
        (cond (decide (x_i.Op=(14:Int)))
         (Option.bind (F_impl_tookIn x_b x_i) fun v6 =>
         some (.go (v6.C.Root,v6.C.Vector,v6.C.Timer,v6.C.On,v6.Out,v6.C.Regs,v6.C.Pc,v6.C.Saved,v6.C.SavedUser,v6.C.Cause,v6.C.Bad,v6.C.Waits,v6.C.User,v6.C.Stopped,v6.Mem,v6.In)))
         (some (.go (x_b.C.Root,x_b.C.Vector,x_b.C.Timer,x_b.C.On,x_b.Out,x_b.C.Regs,x_b.C.Pc,x_b.C.Saved,x_b.C.SavedUser,x_b.C.Cause,x_b.C.Bad,x_b.C.Waits,x_b.C.User,x_b.C.Stopped,x_b.Mem,x_b.In))))))))))) fun j1 =>
  JO.run j1 (F_impl_didKernel_j1))
theorem impl_didKernel_fn {x_b:DBare} {x_i:DIns} {R_:DBare} (hh:F_impl_didKernel x_b x_i=some R_):Fn Try.prog 90 [.agg (B_27 x_b),.agg (C_45 x_i)] (.agg (B_27 R_)):=by
 let z2:EH:=(0,some (rB27 x_b)); let z3:EH:=(1,some ⟨45,(C_45 x_i)⟩); let z4:=(14,ii x_i.Op); let z5:=(2,pp 0); let z6:=(27,bb (decide (x_i.Op=(8:Int)))); let z7:=(3,pp 1); let z8:=(33,bb (decide (x_i.Op=(9:Int)))); let z9:=(39,bb (decide (x_i.Op=(10:Int)))); let z10:=(4,pp 2); let z11:=(44,bb (decide (x_i.Op=(12:Int)))); let z12:=(52,bb (decide (x_i.Op=(13:Int)))); let z13:=(59,bb (decide (x_i.Op=(14:Int)))); let z1:=List.getD x_b.C.Regs (Int.toNat x_i.A) default; let z14:=(5,ii z1)
 unfold F_impl_didKernel at hh
 refine Fn.start low_impl_didKernel [0,1] (E:=sp 66 [(0,.agg (B_27 x_b)),(1,.agg (C_45 x_i))]) kr (v:=.agg (B_27 R_)) (Hr:=[]) (k:=0) kr (Aw.sreg [2,3,4] [0,1,2] ?_)
 let q1:Root:=⟨27,(.nil::zru25 [.nil,.nil,.nil])⟩; let z15:=(2,some q1)
 refine yt (sp 66 [z5,z7,z10]) [z2,z3,z15] 3 (Aw.sreg [2,3,4,5] [0,1,2] (yu 5 [(6,pp 0),(7,pp 0),(8,bo (eI .i64) x_b.C.Regs),(9,.ptr 1 [] 1),(10,ii x_i.A)] [z2,z3,z15] 3 ?_))
 obtain ⟨hg2,hh⟩:=grd_some hh
 refine ys (.iadr 1 (.t 8) (.t 10)) (some 11) (op_iadr (kd:=.i64) (c:=(eI .i64)) (xs:=x_b.C.Regs) len_eI dd kr kr hg2 ?_)
 refine ys (.load false 1 (.t 11)) (some 12) (op_loadb (c:=(eI .i64)) (xs:=x_b.C.Regs) (o:=Int.toNat x_i.A*1) (i:=(Int.toNat x_i.A)) (off:=0) (v:=ii z1) len_eI kr ltn ltn dd kr ?_)
 refine yt (sp 66 [z5,z7,z10,z14]) [z2,z3,z15] 3 ?_
 obtain ⟨j1,hh,hk1⟩:=bind_some hh
 refine Aw.join (S:=Int × Int × Int × Bool × (List Int) × (List Int) × Int × Int × Bool × Int × Int × Bool × Bool × Bool × (List Int) × (List Int)) (fun s1=>sp 66 [(2,pp 0),(4,pp 1)]) (fun s1=>[(0,some ⟨27,[bo (eI .i64) s1.2.2.2.2.2.1,ii s1.2.2.2.2.2.2.1,ii s1.1,ii s1.2.1,ii s1.2.2.2.2.2.2.2.1,bb s1.2.2.2.2.2.2.2.2.1,ii s1.2.2.2.2.2.2.2.2.2.1,ii s1.2.2.2.2.2.2.2.2.2.2.1,ii s1.2.2.1,bb s1.2.2.2.2.2.2.2.2.2.2.2.1,bb s1.2.2.2.2.2.2.2.2.2.2.2.2.1,bb s1.2.2.2.1,bb s1.2.2.2.2.2.2.2.2.2.2.2.2.2.1,bo (eI .i64) s1.2.2.2.2.2.2.2.2.2.2.2.2.2.2.1,bo (eI .i64) s1.2.2.2.2.2.2.2.2.2.2.2.2.2.2.2,bo (eI .i64) s1.2.2.2.2.1]⟩),(1,some ⟨27,(.nil::zru25 [.nil,.nil,.nil])⟩)]) 2 (fun s1=>F_impl_didKernel_j1 s1=some R_) ?_ ?_
 · intro s1 hh
   unfold F_impl_didKernel_j1 at hh
   refine Aw.sreg [4] [1] (yj 1  (sp 66 [z5,(4,pp 1),(64,.agg [bo (eI .i64) s1.2.2.2.2.2.1,ii s1.2.2.2.2.2.2.1,ii s1.1,ii s1.2.1,ii s1.2.2.2.2.2.2.2.1,bb s1.2.2.2.2.2.2.2.2.1,ii s1.2.2.2.2.2.2.2.2.2.1,ii s1.2.2.2.2.2.2.2.2.2.2.1,ii s1.2.2.1,bb s1.2.2.2.2.2.2.2.2.2.2.2.1,bb s1.2.2.2.2.2.2.2.2.2.2.2.2.1,bb s1.2.2.2.1,bb s1.2.2.2.2.2.2.2.2.2.2.2.2.2.1,bo (eI .i64) s1.2.2.2.2.2.2.2.2.2.2.2.2.2.2.1,bo (eI .i64) s1.2.2.2.2.2.2.2.2.2.2.2.2.2.2.2,bo (eI .i64) s1.2.2.2.2.1])]) [(0,some ⟨27,[bo (eI .i64) s1.2.2.2.2.2.1,ii s1.2.2.2.2.2.2.1,ii s1.1,ii s1.2.1,ii s1.2.2.2.2.2.2.2.1,bb s1.2.2.2.2.2.2.2.2.1,ii s1.2.2.2.2.2.2.2.2.2.1,ii s1.2.2.2.2.2.2.2.2.2.2.1,ii s1.2.2.1,bb s1.2.2.2.2.2.2.2.2.2.2.2.1,bb s1.2.2.2.2.2.2.2.2.2.2.2.2.1,bb s1.2.2.2.1,bb s1.2.2.2.2.2.2.2.2.2.2.2.2.2.1,bo (eI .i64) s1.2.2.2.2.2.2.2.2.2.2.2.2.2.2.1,bo (eI .i64) s1.2.2.2.2.2.2.2.2.2.2.2.2.2.2.2,bo (eI .i64) s1.2.2.2.2.1]⟩),(1,some q1)] 2 ?_)
   obtain ⟨v2,hv2,hh⟩:=bind_some hh
   refine ys (.call 146 [(.t 64)]) (some 65) (op_callp (r:=.agg (B_27 v2)) (v:=.agg (B_27 v2)) (Hr:=[]) (n':=2) (impl_wentOn_fn hv2) (clz_v (vs:=[.agg [bo (eI .i64) s1.2.2.2.2.2.1,ii s1.2.2.2.2.2.2.1,ii s1.1,ii s1.2.1,ii s1.2.2.2.2.2.2.2.1,bb s1.2.2.2.2.2.2.2.2.1,ii s1.2.2.2.2.2.2.2.2.2.1,ii s1.2.2.2.2.2.2.2.2.2.2.1,ii s1.2.2.1,bb s1.2.2.2.2.2.2.2.2.2.2.2.1,bb s1.2.2.2.2.2.2.2.2.2.2.2.2.1,bb s1.2.2.2.1,bb s1.2.2.2.2.2.2.2.2.2.2.2.2.2.1,bo (eI .i64) s1.2.2.2.2.2.2.2.2.2.2.2.2.2.2.1,bo (eI .i64) s1.2.2.2.2.2.2.2.2.2.2.2.2.2.2.2,bo (eI .i64) s1.2.2.2.2.1]]) kr (clz_c (clo_agg cz) clz_n)) nrr kr ?_)
   refine yt (sp 66 [(4,pp 1)]) [(1,some (rB27 v2))] 2 (Aw.ret ?_)
   rw [some_some hh]
   exact gives (r':=.agg (B_27 v2)) kr (Ent.clov (.one _ _ (clo_same (clean_agg (cl_B_27 _)))))
 intro Q1 hN1 hR1 hE1
 refine sy [2,3,4,5,14] [0,1,2] (sp 66 [z5,z7,z10,z14,z4]) [z2,z3,z15] 3 (Aw.block (sy [2,3,4,5,14,15] [0,1,2] (sp 66 [z5,z7,z10,z14,z4,(15,bb (decide (x_i.Op=(0:Int))))]) [z2,z3,z15] 3 ?_))
 rcases cond_some hh with ⟨hb,hh⟩ | ⟨hb,hh⟩
 · refine cT hb (Aw.sreg [2,4] [0,2] ?_)
   let q2:Root:=⟨27,[bo (eI .i64) x_b.C.Regs,ii x_b.C.Pc,ii x_b.C.Root,ii x_b.C.Vector,ii x_b.C.Saved,bb x_b.C.SavedUser,ii x_b.C.Cause,ii x_b.C.Bad,ii x_b.C.Timer,bb x_b.C.Waits,bb x_b.C.User,bb x_b.C.On,bb true,bo (eI .i64) x_b.Mem,bo (eI .i64) x_b.In,bo (eI .i64) x_b.Out]⟩
   refine yt (sp 66 [z5,z10]) [(0,some q2),z15] 3 (sy [4] [2] (sp 66 [z10]) [(2,some q2)] 3 (Aw.ret (blk_r ?_)))
   obtain rfl:=some_some hh
   refine hR1 _ _ _ ?_
   rw [some_some hk1]
   exact gives (r':=.agg [bo (eI .i64) x_b.C.Regs,ii x_b.C.Pc,ii x_b.C.Root,ii x_b.C.Vector,ii x_b.C.Saved,bb x_b.C.SavedUser,ii x_b.C.Cause,ii x_b.C.Bad,ii x_b.C.Timer,bb x_b.C.Waits,bb x_b.C.User,bb x_b.C.On,bb true,bo (eI .i64) x_b.Mem,bo (eI .i64) x_b.In,bo (eI .i64) x_b.Out]) kr (Ent.clov (.one _ _ (clo_agg cz)))
 refine cF hb (sy [2,3,4,5,14,20] [0,1,2] (sp 66 [z5,z7,z10,z14,z4,(20,bb (decide (x_i.Op=(11:Int))))]) [z2,z3,z15] 3 ?_)
 rcases cond_some hh with ⟨hb,hh⟩ | ⟨hb,hh⟩
 · refine cT hb (Aw.sreg [2,4] [0,2] (yu 2 [(22,pp 0),(23,.agg (B_25 x_b.C))] [z2,z3,z15] 3 ?_))
   obtain ⟨v3,hv3,hh⟩:=bind_some hh
   refine ys (.call 142 [(.t 23)]) (some 24) (op_callp (r:=.agg (B_25 v3)) (v:=.agg (B_25 v3)) (Hr:=[]) (n':=3) (impl_wentBack_fn hv3) (clz_v (vs:=[.agg (B_25 x_b.C)]) kr (clz_c (clo_same (clean_agg (cl_B_25 _))) clz_n)) nrr kr ?_)
   let q3:Root:=⟨27,(bo (eI .i64) v3.Regs::ru25 v3 [bo (eI .i64) x_b.Mem,bo (eI .i64) x_b.In,bo (eI .i64) x_b.Out])⟩
   refine yt (sp 66 [z5,z10]) [(0,some q3),z15] 3 (sy [4] [2] (sp 66 [z10]) [(2,some q3)] 3 (Aw.ret (blk_r ?_)))
   obtain rfl:=some_some hh
   refine hR1 _ _ _ ?_
   rw [some_some hk1]
   exact gives (r':=.agg (bo (eI .i64) v3.Regs::ru25 v3 [bo (eI .i64) x_b.Mem,bo (eI .i64) x_b.In,bo (eI .i64) x_b.Out])) kr (Ent.clov (.one _ _ (clo_agg cz)))
 refine cF hb (sy [2,3,4,5,14,27] [0,1,2] (sp 66 [z5,z7,z10,z14,z4,z6]) [z2,z3,z15] 3 ?_)
 rcases cond_some hh with ⟨hb,hh⟩ | ⟨hb,hh⟩
 · refine cT hb (Aw.oreg (yu 1 [(29,ii z1)] [z2,z3,z15] 3 ?_))
   obtain ⟨v4,hv4,hh⟩:=bind_some hh
   refine ys (.call 143 [(.t 29)]) (some 30) (oc (impl_rootFrom_fn hv4) ?_)
   let q4:Root:=⟨27,[bo (eI .i64) x_b.C.Regs,ii x_b.C.Pc,ii v4,ii x_b.C.Vector,ii x_b.C.Saved,bb x_b.C.SavedUser,ii x_b.C.Cause,ii x_b.C.Bad,ii x_b.C.Timer,bb x_b.C.Waits,bb x_b.C.User,bb x_b.C.On,bb x_b.C.Stopped,bo (eI .i64) x_b.Mem,bo (eI .i64) x_b.In,bo (eI .i64) x_b.Out]⟩
   refine ye (sp 66 [z5,z7,z10,z14,z4,z6,(29,ii z1),(30,ii v4),(31,pp 0),(32,.ptr 0 [] 2)]) [(0,some q4),z2,z3,z15] 3 (blk_m ?_)
   obtain rfl:=some_some hh
   exact hN1 (v4,x_b.C.Vector,x_b.C.Timer,x_b.C.On,x_b.Out,x_b.C.Regs,x_b.C.Pc,x_b.C.Saved,x_b.C.SavedUser,x_b.C.Cause,x_b.C.Bad,x_b.C.Waits,x_b.C.User,x_b.C.Stopped,x_b.Mem,x_b.In) _ _ _ hk1 (el [some 0,some 2] (rens_sp kr (rp 0 (rp 2 rl_n))) (hq q4 rz (hq q1 rz hs_nil)))
 refine cF hb (sy [2,3,4,5,14,33] [0,1,2] (sp 66 [z5,z7,z10,z14,z4,z8]) [z2,z3,z15] 3 ?_)
 rcases cond_some hh with ⟨hb,hh⟩ | ⟨hb,hh⟩
 · refine cT hb (Aw.oreg ?_)
   let q5:Root:=⟨27,[bo (eI .i64) x_b.C.Regs,ii x_b.C.Pc,ii x_b.C.Root,ii (Int.tmod z1 (64:Int)),ii x_b.C.Saved,bb x_b.C.SavedUser,ii x_b.C.Cause,ii x_b.C.Bad,ii x_b.C.Timer,bb x_b.C.Waits,bb x_b.C.User,bb x_b.C.On,bb x_b.C.Stopped,bo (eI .i64) x_b.Mem,bo (eI .i64) x_b.In,bo (eI .i64) x_b.Out]⟩
   refine yec [(64:Int)≠0] (sp 66 [z5,z7,z10,z14,z4,z8,(35,ii z1),(36,ii (Int.tmod z1 (64:Int))),(37,pp 0),(38,.ptr 0 [] 3)]) [(0,some q5),z2,z3,z15] 3 (.cons dd .nil) (blk_m ?_)
   obtain rfl:=some_some hh
   exact hN1 (x_b.C.Root,(Int.tmod z1 (64:Int)),x_b.C.Timer,x_b.C.On,x_b.Out,x_b.C.Regs,x_b.C.Pc,x_b.C.Saved,x_b.C.SavedUser,x_b.C.Cause,x_b.C.Bad,x_b.C.Waits,x_b.C.User,x_b.C.Stopped,x_b.Mem,x_b.In) _ _ _ hk1 (el [some 0,some 2] (rens_sp kr (rp 0 (rp 2 rl_n))) (hq q5 rz (hq q1 rz hs_nil)))
 refine cF hb (sy [2,3,4,5,14,39] [0,1,2] (sp 66 [z5,z7,z10,z14,z4,z9]) [z2,z3,z15] 3 ?_)
 rcases cond_some hh with ⟨hb,hh⟩ | ⟨hb,hh⟩
 · refine cT hb (Aw.oreg ?_)
   let q6:Root:=⟨27,[bo (eI .i64) x_b.C.Regs,ii x_b.C.Pc,ii x_b.C.Root,ii x_b.C.Vector,ii x_b.C.Saved,bb x_b.C.SavedUser,ii x_b.C.Cause,ii x_b.C.Bad,ii z1,bb x_b.C.Waits,bb x_b.C.User,bb x_b.C.On,bb x_b.C.Stopped,bo (eI .i64) x_b.Mem,bo (eI .i64) x_b.In,bo (eI .i64) x_b.Out]⟩
   refine ye (sp 66 [z5,z7,z10,z14,z4,z9,(41,ii z1),(42,pp 0),(43,.ptr 0 [] 8)]) [(0,some q6),z2,z3,z15] 3 (blk_m ?_)
   obtain rfl:=some_some hh
   exact hN1 (x_b.C.Root,x_b.C.Vector,z1,x_b.C.On,x_b.Out,x_b.C.Regs,x_b.C.Pc,x_b.C.Saved,x_b.C.SavedUser,x_b.C.Cause,x_b.C.Bad,x_b.C.Waits,x_b.C.User,x_b.C.Stopped,x_b.Mem,x_b.In) _ _ _ hk1 (el [some 0,some 2] (rens_sp kr (rp 0 (rp 2 rl_n))) (hq q6 rz (hq q1 rz hs_nil)))
 refine cF hb (sy [2,3,4,5,14,44] [0,1,2] (sp 66 [z5,z7,z10,z14,z4,z11]) [z2,z3,z15] 3 ?_)
 rcases cond_some hh with ⟨hb,hh⟩ | ⟨hb,hh⟩
 · refine cT hb (Aw.oreg ?_)
   let q7:Root:=⟨27,[bo (eI .i64) x_b.C.Regs,ii x_b.C.Pc,ii x_b.C.Root,ii x_b.C.Vector,ii x_b.C.Saved,bb x_b.C.SavedUser,ii x_b.C.Cause,ii x_b.C.Bad,ii x_b.C.Timer,bb x_b.C.Waits,bb x_b.C.User,bb (decide ((Int.tmod x_i.N (2:Int))=(1:Int))),bb x_b.C.Stopped,bo (eI .i64) x_b.Mem,bo (eI .i64) x_b.In,bo (eI .i64) x_b.Out]⟩
   refine yec [(2:Int)≠0] (sp 66 [z5,z7,z10,z14,z4,z11,(46,.ptr 1 [] 2),(47,ii x_i.N),(48,ii (Int.tmod x_i.N (2:Int))),(49,bb (decide ((Int.tmod x_i.N (2:Int))=(1:Int)))),(50,pp 0),(51,.ptr 0 [] 11)]) [(0,some q7),z2,z3,z15] 3 (.cons dd .nil) (blk_m ?_)
   obtain rfl:=some_some hh
   exact hN1 (x_b.C.Root,x_b.C.Vector,x_b.C.Timer,(decide ((Int.tmod x_i.N (2:Int))=(1:Int))),x_b.Out,x_b.C.Regs,x_b.C.Pc,x_b.C.Saved,x_b.C.SavedUser,x_b.C.Cause,x_b.C.Bad,x_b.C.Waits,x_b.C.User,x_b.C.Stopped,x_b.Mem,x_b.In) _ _ _ hk1 (el [some 0,some 2] (rens_sp kr (rp 0 (rp 2 rl_n))) (hq q7 rz (hq q1 rz hs_nil)))
 refine cF hb (sy [2,3,4,5,14,52] [0,1,2] (sp 66 [z5,z7,z10,z14,z4,z12]) [z2,z3,z15] 3 ?_)
 rcases cond_some hh with ⟨hb,hh⟩ | ⟨hb,hh⟩
 · refine cT hb (Aw.oreg (yu 3 [(54,.ptr 0 [] 15),(55,bo (eI .i64) x_b.Out),(56,ii z1)] [z2,z3,z15] 3 ?_))
   obtain ⟨v5,hv5,hh⟩:=bind_some hh
   refine ys (.call 144 [(.t 55),(.t 56)]) (some 57) (op_callp (r:=bo (eI .i64) v5) (v:=bo (eI .i64) v5) (Hr:=[]) (n':=3) (impl_wentOut_fn hv5) (clz_v (vs:=[bo (eI .i64) x_b.Out,ii z1]) kr (clz_c (clo_same (clean_bor (cleans_fl cl_eI))) (cz1 clz_n))) nrr kr ?_)
   let q8:Root:=⟨27,(bo (eI .i64) x_b.C.Regs::ru25 x_b.C [bo (eI .i64) x_b.Mem,bo (eI .i64) x_b.In,bo (eI .i64) v5])⟩
   refine ye (sp 66 [z5,z7,z10,z14,z4,z12,(54,.ptr 0 [] 15),(55,bo (eI .i64) x_b.Out),(56,ii z1),(57,bo (eI .i64) v5),(58,.ptr 0 [] 15)]) [(0,some q8),z2,z3,z15] 3 (blk_m ?_)
   obtain rfl:=some_some hh
   exact hN1 (x_b.C.Root,x_b.C.Vector,x_b.C.Timer,x_b.C.On,v5,x_b.C.Regs,x_b.C.Pc,x_b.C.Saved,x_b.C.SavedUser,x_b.C.Cause,x_b.C.Bad,x_b.C.Waits,x_b.C.User,x_b.C.Stopped,x_b.Mem,x_b.In) _ _ _ hk1 (el [some 0,some 2] (rens_sp kr (rp 0 (rp 2 rl_n))) (hq q8 rz (hq q1 rz hs_nil)))
 refine cF hb (sy [2,3,4,59] [0,1,2] (sp 66 [z5,z7,z10,z13]) [z2,z3,z15] 3 ?_)
 rcases cond_sf hh with ⟨hb,hh⟩ | ⟨hb,hh⟩
 · refine cF hb (Aw.skip (blk_m ?_))
   obtain rfl:=some_some hh
   exact hN1 (x_b.C.Root,x_b.C.Vector,x_b.C.Timer,x_b.C.On,x_b.Out,x_b.C.Regs,x_b.C.Pc,x_b.C.Saved,x_b.C.SavedUser,x_b.C.Cause,x_b.C.Bad,x_b.C.Waits,x_b.C.User,x_b.C.Stopped,x_b.Mem,x_b.In) _ _ _ hk1 (el [some 0,some 2] (rens_sp kr (rp 0 (rp 2 rl_n))) (hq (rB27 x_b) rz (hq q1 rz hs_nil)))
 refine cT hb (Aw.oreg (yu 2 [(61,.agg (B_27 x_b)),(62,.agg (C_45 x_i))] [z2,z3,z15] 3 ?_))
 obtain ⟨v6,hv6,hh⟩:=bind_some hh
 refine ys (.call 145 [(.t 61),(.t 62)]) (some 63) (op_callp (r:=.agg (B_27 v6)) (v:=.agg (B_27 v6)) (Hr:=[]) (n':=3) (impl_tookIn_fn hv6) (clz_v (vs:=[.agg (B_27 x_b),.agg (C_45 x_i)]) kr (clz_c (clo_same (clean_agg (cl_B_27 _))) (cz1 clz_n))) nrr kr ?_)
 refine ye (sp 66 [z5,z7,z10,z13,(61,.agg (B_27 x_b)),(62,.agg (C_45 x_i)),(63,.agg (B_27 v6))]) [(0,some (rB27 v6)),z2,z3,z15] 3 (blk_m ?_)
 obtain rfl:=some_some hh
 exact hN1 (v6.C.Root,v6.C.Vector,v6.C.Timer,v6.C.On,v6.Out,v6.C.Regs,v6.C.Pc,v6.C.Saved,v6.C.SavedUser,v6.C.Cause,v6.C.Bad,v6.C.Waits,v6.C.User,v6.C.Stopped,v6.Mem,v6.In) _ _ _ hk1 (el [some 0,some 2] (rens_sp kr (rp 0 (rp 2 rl_n))) (hq (rB27 v6) rz (hq q1 rz hs_nil)))
theorem low_spec_l3Kernel:LW 63 ⟨131,[(.cell 8 true 13),(.tmp 9),(.tmp 10)],(.seq (.reg false (rg 63 0)) (.seq (.reg false (rg 63 1)) (.seq (.seq (.reg false (rg 63 2)) (.block 0 (.seq (.reg false (rg 63 3)) (.cond (.t 19) (.seq (.reg false (rg 63 4)) (.seq (.reg false (rg 63 5)) .ret)) (.seq (.reg false (rg 63 6)) (.cond (.t 25) (.seq (.reg false (rg 63 7)) (.seq (.reg false (rg 63 8)) (.cond (.t 35) (.reg false (rg 63 9)) .skip))) (.seq (.reg false (rg 63 10)) (.cond (.t 44) (.reg false (rg 63 11)) (.seq (.reg false (rg 63 12)) (.cond (.t 54) (.reg false (rg 63 13)) (.seq (.reg false (rg 63 14)) (.cond (.t 63) (.seq (.reg false (rg 63 15)) (.seq (.reg false (rg 63 16)) (.reg false (rg 63 17)))) (.seq (.reg false (rg 63 18)) (.cond (.t 71) (.reg false (rg 63 19)) (.seq (.reg false (rg 63 20)) (.cond (.t 78) (.seq (.reg false (rg 63 21)) (.cond (.t 82) (.reg false (rg 63 22)) .skip)) (.seq (.reg false (rg 63 23)) (.cond (.t 92) (.seq (.reg false (rg 63 24)) (.seq (.seq (.reg false (rg 63 25)) (.cond (.t 114) (.seq (.reg false (rg 63 26)) (.reg false (rg 63 27))) .skip)) (.reg false (rg 63 28)))) .skip)))))))))))))))))) (.seq (.reg false (rg 63 29)) (.seq (.reg false (rg 63 30)) .ret)))))⟩:=kr
noncomputable def F_spec_l3Kernel_j1 (x_c:DCore) (s1:Int × Int × Int × Bool × Bool × Int × (List Int) × (List Int) × (List Int)):Option (DCore × (List Int) × (List Int)) :=
 some ((DCore.mk s1.2.2.2.2.2.2.2.2 s1.2.2.2.2.2.1 s1.1 s1.2.1 x_c.Saved x_c.SavedUser x_c.Cause x_c.Bad s1.2.2.1 x_c.Waits s1.2.2.2.1 s1.2.2.2.2.1 x_c.Stopped),s1.2.2.2.2.2.2.2.1,s1.2.2.2.2.2.2.1)
noncomputable def F_spec_l3Kernel_j2 (x_c:DCore) (x_out:List Int) (x_i:DIns) (s2:(List Int) × Int):Option (JO (Int × Int × Int × Bool × Bool × Int × (List Int) × (List Int) × (List Int)) (DCore × (List Int) × (List Int))) :=
 grd ((0:Int)≤x_i.A∧x_i.A<(((List.length x_c.Regs):Nat):Int)) (some (.go (x_c.Root,x_c.Vector,x_c.Timer,x_c.User,x_c.On,(Int.tmod (w64 (x_c.Pc+(1:Int))) (64:Int)),x_out,s2.1,(List.set x_c.Regs (Int.toNat x_i.A) s2.2))))
noncomputable def F_spec_l3Kernel (x_c:DCore) (x_in:List Int) (x_out:List Int) (x_i:DIns):Option (DCore × (List Int) × (List Int)) :=
 Option.bind (cond (decide (x_i.Op=(0:Int)))
  (some (.out ((DCore.mk x_c.Regs x_c.Pc x_c.Root x_c.Vector x_c.Saved x_c.SavedUser x_c.Cause x_c.Bad x_c.Timer x_c.Waits x_c.User x_c.On true),x_in,x_out)))
  (cond (decide (x_i.Op=(8:Int)))
   (grd ((0:Int)≤x_i.A∧x_i.A<(((List.length x_c.Regs):Nat):Int)) (cond (decide ((Int.tmod (List.getD x_c.Regs (Int.toNat x_i.A) default) (16:Int))<(8:Int)))
    (grd ((0:Int)≤x_i.A∧x_i.A<(((List.length x_c.Regs):Nat):Int)) (some (.go ((Int.tmod (List.getD x_c.Regs (Int.toNat x_i.A) default) (16:Int)),x_c.Vector,x_c.Timer,x_c.User,x_c.On,(Int.tmod (w64 (x_c.Pc+(1:Int))) (64:Int)),x_out,x_in,x_c.Regs))))
    (some (.go ((-1:Int),x_c.Vector,x_c.Timer,x_c.User,x_c.On,(Int.tmod (w64 (x_c.Pc+(1:Int))) (64:Int)),x_out,x_in,x_c.Regs)))))
   (cond (decide (x_i.Op=(9:Int)))
    (grd ((0:Int)≤x_i.A∧x_i.A<(((List.length x_c.Regs):Nat):Int)) (some (.go (x_c.Root,(Int.tmod (List.getD x_c.Regs (Int.toNat x_i.A) default) (64:Int)),x_c.Timer,x_c.User,x_c.On,(Int.tmod (w64 (x_c.Pc+(1:Int))) (64:Int)),x_out,x_in,x_c.Regs))))
    (cond (decide (x_i.Op=(10:Int)))
     (grd ((0:Int)≤x_i.A∧x_i.A<(((List.length x_c.Regs):Nat):Int)) (some (.go (x_c.Root,x_c.Vector,(List.getD x_c.Regs (Int.toNat x_i.A) default),x_c.User,x_c.On,(Int.tmod (w64 (x_c.Pc+(1:Int))) (64:Int)),x_out,x_in,x_c.Regs))))
     (cond (decide (x_i.Op=(11:Int)))
      (some (.go (x_c.Root,x_c.Vector,x_c.Timer,x_c.SavedUser,true,x_c.Saved,x_out,x_in,x_c.Regs)))
      (cond (decide (x_i.Op=(12:Int)))
       (some (.go (x_c.Root,x_c.Vector,x_c.Timer,x_c.User,(decide ((Int.tmod x_i.N (2:Int))=(1:Int))),(Int.tmod (w64 (x_c.Pc+(1:Int))) (64:Int)),x_out,x_in,x_c.Regs)))
       (cond (decide (x_i.Op=(13:Int)))
        (cond (decide ((((List.length x_out):Nat):Int)<(30:Int)))
         (grd ((0:Int)≤x_i.A∧x_i.A<(((List.length x_c.Regs):Nat):Int)) (grd ((List.length x_out+List.length ([(List.getD x_c.Regs (Int.toNat x_i.A) default)]:List Int))*8≤2 ^ 47∧List.length x_out+List.length ([(List.getD x_c.Regs (Int.toNat x_i.A) default)]:List Int)≤2 ^ 47) (some (.go (x_c.Root,x_c.Vector,x_c.Timer,x_c.User,x_c.On,(Int.tmod (w64 (x_c.Pc+(1:Int))) (64:Int)),(x_out ++ ([(List.getD x_c.Regs (Int.toNat x_i.A) default)]:List Int)),x_in,x_c.Regs)))))
         (some (.go (x_c.Root,x_c.Vector,x_c.Timer,x_c.User,x_c.On,(Int.tmod (w64 (x_c.Pc+(1:Int))) (64:Int)),x_out,x_in,x_c.Regs))))
        (cond (decide (x_i.Op=(14:Int)))
         (grd ((0:Int)≤(Int.tmod x_i.N (4:Int))∧(Int.tmod x_i.N (4:Int))<((4:Nat):Int)) (Option.bind (cond (decide ((Int.tmod x_i.N (4:Int))=(0:Int)))
          (cond (decide ((0:Int)<(((List.length x_in):Nat):Int)))
           (grd ((0:Int)≤(0:Int)∧(0:Int)<((List.length x_in:Nat):Int)) (grd ((0:Int)≤(1:Int)∧(1:Int)≤((List.length x_in:Nat):Int)∧((List.length x_in:Nat):Int)≤((List.length x_in:Nat):Int)) (some (.go ((List.take (Int.toNat ((List.length x_in:Nat):Int) - Int.toNat (1:Int)) (List.drop (Int.toNat (1:Int)) x_in)),(List.getD x_in (Int.toNat (0:Int)) default))))))
           (some (.go (x_in,(List.getD ([(0:Int),x_c.Cause,x_c.Bad,x_c.Saved]:List Int) (Int.toNat (Int.tmod x_i.N (4:Int))) default)))))
          (some (.go (x_in,(List.getD ([(0:Int),x_c.Cause,x_c.Bad,x_c.Saved]:List Int) (Int.toNat (Int.tmod x_i.N (4:Int))) default))))) fun j2 =>
          JO.run j2 (F_spec_l3Kernel_j2 x_c x_out x_i)))
         (some (.go (x_c.Root,x_c.Vector,x_c.Timer,x_c.User,x_c.On,(Int.tmod (w64 (x_c.Pc+(1:Int))) (64:Int)),x_out,x_in,x_c.Regs))))))))))) fun j1 =>
  JO.run j1 (F_spec_l3Kernel_j1 x_c)
theorem spec_l3Kernel_fn {x_c:DCore} {x_in:List Int} {x_out:List Int} {x_i:DIns} {R_:DCore × (List Int) × (List Int)} (hh:F_spec_l3Kernel x_c x_in x_out x_i=some R_):Inl Try.prog 63 [.agg (.sref 0 [] 0 (List.length x_c.Regs) 1::ru25 x_c []),bo (eI .i64) x_in,.sref 1 [] 0 (List.length x_out) 1,.agg (C_45 x_i)] [(1,some (rI_3 x_out)),(0,some (rI_3 x_c.Regs))] 2 (.tup [.agg (.sref 2 [] 0 (List.length R_.1.Regs) 1::ru25 R_.1 []),bo (eI .i64) R_.2.1,.sref 3 [] 0 (List.length R_.2.2) 1]) [(3,some (rI_3 R_.2.2)),(2,some (rI_3 R_.1.Regs))] 4:=by
 let z7:=(1,bo (eI .i64) x_in); let z8:=(11,ii (Int.tmod (w64 (x_c.Pc+(1:Int))) (64:Int))); let z9:=(11,ii x_c.Saved); let z10:EV:=(125,.ptr 2 [] (0+(Int.toNat x_i.A)*1)); let z11:=(18,ii x_i.Op); let z12:=(2,sw 1 x_out); let z13:EH:=(3,some ⟨45,(C_45 x_i)⟩); let z14:=(4,pp 2); let z15:EH:=(4,some ⟨25,(.nil::zru25 [])⟩); let z16:EV:=(40,.ptr 0 [] (0+(Int.toNat x_i.A)*1)); let z17:=(44,bb (decide (x_i.Op=(9:Int)))); let z18:EH:=(5,some ⟨45,(C_45 x_i)⟩); let z19:EV:=(50,.ptr 0 [] (0+(Int.toNat x_i.A)*1)); let z20:=(54,bb (decide (x_i.Op=(10:Int)))); let z21:EH:=(6,some ⟨25,(.nil::zru25 [])⟩); let z22:EV:=(60,.ptr 0 [] (0+(Int.toNat x_i.A)*1)); let z23:=(7,pp 3); let z24:=(71,bb (decide (x_i.Op=(12:Int)))); let z25:=(8,pp 4); let z26:=(82,bb (decide ((((List.length x_out):Nat):Int)<(30:Int)))); let z27:EV:=(88,.ptr 0 [] (0+(Int.toNat x_i.A)*1)); let z28:=(92,bb (decide (x_i.Op=(14:Int)))); let z1:=List.drop (Int.toNat (1:Int)) x_in; let z6:=List.take (Int.toNat ((List.length x_in:Nat):Int) - Int.toNat (1:Int)) z1; let z2:=List.getD ([(0:Int),x_c.Cause,x_c.Bad,x_c.Saved]:List Int) (Int.toNat (Int.tmod x_i.N (4:Int))) default; let z3:=List.getD x_c.Regs (Int.toNat x_i.A) default; let z29:=(35,bb (decide ((Int.tmod z3 (16:Int))<(8:Int)))); let z4:=List.getD x_in (Int.toNat (0:Int)) default
 unfold F_spec_l3Kernel at hh
 let q1:Root:=(rI_3 x_c.Regs); let z30:=(0,some q1); let q2:Root:=(rI_3 x_out); let z31:=(1,some q2)
 refine Inl.start low_spec_l3Kernel [0,1,2,3] [0,1] (E:=sp 131 [(0,.agg (sw 0 x_c.Regs::ru25 x_c [])),z7,z12,(3,.agg (C_45 x_i))]) (H1:=[z30,z31]) kr kr (Aw.sreg [1,2,4,7,8] [0,1,2,3,4] ?_)
 let q3:Root:=⟨25,(sw 0 x_c.Regs::ru25 x_c [])⟩; let z32:=(2,some q3)
 refine yt (sp 131 [z7,z12,z14,z23,z25]) [z30,z31,z32,z13,z15] 5 (Aw.sreg [1,2,4,7,8,11] [0,1,2,3,4] (ytc [(64:Int)≠0] (sp 131 [z7,z12,z14,z23,z25,z8]) [z30,z31,z32,z13,z15] 5 (.cons dd .nil) ?_))
 obtain ⟨j1,hh,hk1⟩:=bind_some hh
 refine Aw.join (S:=Int × Int × Int × Bool × Bool × Int × (List Int) × (List Int) × (List Int)) (fun s1=>sp 131 [(1,bo (eI .i64) s1.2.2.2.2.2.2.2.1),(2,sw 3 s1.2.2.2.2.2.2.1),(4,pp 4),(8,pp 5),(11,ii s1.2.2.2.2.2.1)]) (fun s1=>[(2,some (rI_3 s1.2.2.2.2.2.2.2.2)),(3,some (rI_3 s1.2.2.2.2.2.2.1)),(4,some ⟨25,[sw 2 s1.2.2.2.2.2.2.2.2,ii x_c.Pc,ii s1.1,ii s1.2.1,ii x_c.Saved,bb x_c.SavedUser,ii x_c.Cause,ii x_c.Bad,ii s1.2.2.1,bb x_c.Waits,bb s1.2.2.2.1,bb s1.2.2.2.2.1,bb x_c.Stopped]⟩),(5,some ⟨25,(.nil::zru25 [])⟩)]) 6 (fun s1=>F_spec_l3Kernel_j1 x_c s1=some R_) ?_ ?_
 · intro s1 hh
   unfold F_spec_l3Kernel_j1 at hh
   refine Aw.sreg [1,2,4,8] [2,3,4,5] ?_
   let q4:Root:=(rI_3 s1.2.2.2.2.2.2.2.2); let q5:Root:=(rI_3 s1.2.2.2.2.2.2.1); let q6:Root:=⟨25,[sw 2 s1.2.2.2.2.2.2.2.2,ii s1.2.2.2.2.2.1,ii s1.1,ii s1.2.1,ii x_c.Saved,bb x_c.SavedUser,ii x_c.Cause,ii x_c.Bad,ii s1.2.2.1,bb x_c.Waits,bb s1.2.2.2.1,bb s1.2.2.2.2.1,bb x_c.Stopped]⟩
   refine yt (sp 131 [(1,bo (eI .i64) s1.2.2.2.2.2.2.2.1),(2,sw 3 s1.2.2.2.2.2.2.1),(4,pp 4),(8,pp 5)]) [(2,some q4),(3,some q5),(4,some q6),(5,some ⟨25,(.nil::zru25 [])⟩)] 6 (sy [8,9,10] [2,3,5] (sp 131 [(8,pp 5),(9,bo (eI .i64) s1.2.2.2.2.2.2.2.1),(10,sw 3 s1.2.2.2.2.2.2.1)]) [(2,some q4),(3,some q5),(5,some q6)] 6 (Aw.ret ?_))
   rw [some_some hh]
   exact gives (r':=.tup [.agg [sw 2 s1.2.2.2.2.2.2.2.2,ii s1.2.2.2.2.2.1,ii s1.1,ii s1.2.1,ii x_c.Saved,bb x_c.SavedUser,ii x_c.Cause,ii x_c.Bad,ii s1.2.2.1,bb x_c.Waits,bb s1.2.2.2.1,bb s1.2.2.2.2.1,bb x_c.Stopped],bo (eI .i64) s1.2.2.2.2.2.2.2.1,sw 3 s1.2.2.2.2.2.2.1]) kr (el [some 0,some 1,some 2,some 3] (rens_1 (ren_tup rz)) (hn nr_eI (hn nr_eI hs_nil)))
 intro Q1 hN1 hR1 hE1
 refine sy [1,2,4,7,8,11,18] [0,1,2,3,4] (sp 131 [z7,z12,z14,z23,z25,z8,z11]) [z30,z31,z32,z13,z15] 5 (Aw.block (sy [1,2,4,7,8,11,18,19] [0,1,2,3,4] (sp 131 [z7,z12,z14,z23,z25,z8,z11,(19,bb (decide (x_i.Op=(0:Int))))]) [z30,z31,z32,z13,z15] 5 ?_))
 rcases cond_some hh with ⟨hb,hh⟩ | ⟨hb,hh⟩
 · refine cT hb (Aw.sreg [1,2,4,8] [0,1,2,4] ?_)
   let q7:Root:=⟨25,[sw 0 x_c.Regs,ii x_c.Pc,ii x_c.Root,ii x_c.Vector,ii x_c.Saved,bb x_c.SavedUser,ii x_c.Cause,ii x_c.Bad,ii x_c.Timer,bb x_c.Waits,bb x_c.User,bb x_c.On,bb true]⟩
   refine yt (sp 131 [z7,z12,z14,z25]) [z30,z31,(2,some q7),z15] 5 (sy [8,9,10] [0,1,4] (sp 131 [z25,(9,bo (eI .i64) x_in),(10,sw 1 x_out)]) [z30,z31,(4,some q7)] 5 (Aw.ret (blk_r ?_)))
   obtain rfl:=some_some hh
   refine hR1 _ _ _ ?_
   rw [some_some hk1]
   exact gives (r':=.tup [.agg [sw 0 x_c.Regs,ii x_c.Pc,ii x_c.Root,ii x_c.Vector,ii x_c.Saved,bb x_c.SavedUser,ii x_c.Cause,ii x_c.Bad,ii x_c.Timer,bb x_c.Waits,bb x_c.User,bb x_c.On,bb true],bo (eI .i64) x_in,sw 1 x_out]) kr (el [some 0,some 1,some 0,some 1] (rens_1 (ren_tup rz)) (hn nr_eI (hn nr_eI hs_nil)))
 refine cF hb (sy [1,2,4,7,8,11,18,25] [0,1,2,3,4] (sp 131 [z7,z12,z14,z23,z25,z8,z11,(25,bb (decide (x_i.Op=(8:Int))))]) [z30,z31,z32,z13,z15] 5 ?_)
 rcases cond_some hh with ⟨hb,hh⟩ | ⟨hb,hh⟩
 · refine cT hb (Aw.sreg [1,2,4,7,8,11] [0,1,2,3,4] ?_)
   let q8:Root:=⟨25,[sw 0 x_c.Regs,ii x_c.Pc,ii (-1),ii x_c.Vector,ii x_c.Saved,bb x_c.SavedUser,ii x_c.Cause,ii x_c.Bad,ii x_c.Timer,bb x_c.Waits,bb x_c.User,bb x_c.On,bb x_c.Stopped]⟩; let z33:=(2,some q8)
   refine yt (sp 131 [z7,z12,z14,z23,z25,z8]) [z30,z31,z33,z13,z15] 5 (Aw.sreg [1,2,4,7,8,11,35] [0,1,2,3,4] ?_)
   obtain ⟨hg60,hh⟩:=grd_some hh
   refine yjc 5 [(0:Int)≤x_i.A∧x_i.A<(((List.length x_c.Regs):Nat):Int)] (sp 131 [z7,z12,z14,z23,z25,z8,(28,pp 2),(29,sw 0 x_c.Regs),(30,.ptr 3 [] 1),(31,ii x_i.A),(32,.ptr 0 [] (0+(Int.toNat x_i.A)*1))]) [z30,z31,z33,z13,z15] 5 (.cons hg60 .nil) (ys (.load false 1 (.t 32)) (some 33) (op_load (c:=(eI .i64)) (xs:=x_c.Regs) (e:=3) (r:=0) (π:=[]) (o:=0+(Int.toNat x_i.A)*1) (i:=(Int.toNat x_i.A)) (off:=0) (v:=ii z3) len_eI kr kr ltn ltn dd kr ?_))
   refine ytc [(16:Int)≠0] (sp 131 [z7,z12,z14,z23,z25,z8,z29]) [z30,z31,z33,z13,z15] 5 (.cons dd .nil) ?_
   rcases cond_sf hh with ⟨hb,hh⟩ | ⟨hb,hh⟩
   · refine cF hb (Aw.skip (blk_m ?_))
     obtain rfl:=some_some hh
     exact hN1 ((-1:Int),x_c.Vector,x_c.Timer,x_c.User,x_c.On,(Int.tmod (w64 (x_c.Pc+(1:Int))) (64:Int)),x_out,x_in,x_c.Regs) _ _ _ hk1 (el [some 0,some 1,some 0,some 1,some 2,some 4] (rens_sp kr (ro nr_eI (rs (sw 1 x_out) (rp 2 (rp 4 (ri rl_n)))))) (hn nr_eI (hn nr_eI (hq q8 rz (hq ⟨25,(.nil::zru25 [])⟩ rz hs_nil)))))
   refine cT hb (Aw.oreg ?_)
   obtain ⟨hg59,hh⟩:=grd_some hh
   refine yjc 5 [(0:Int)≤x_i.A∧x_i.A<(((List.length x_c.Regs):Nat):Int)] (sp 131 [z7,z12,z14,z23,z25,z8,z29,(36,pp 2),(37,sw 0 x_c.Regs),(38,.ptr 3 [] 1),(39,ii x_i.A),z16]) [z30,z31,z33,z13,z15] 5 (.cons hg59 .nil) (ys (.load false 1 (.t 40)) (some 41) (op_load (c:=(eI .i64)) (xs:=x_c.Regs) (e:=3) (r:=0) (π:=[]) (o:=0+(Int.toNat x_i.A)*1) (i:=(Int.toNat x_i.A)) (off:=0) (v:=ii z3) len_eI kr kr ltn ltn dd kr ?_))
   let q9:Root:=⟨25,[sw 0 x_c.Regs,ii x_c.Pc,ii (Int.tmod z3 (16:Int)),ii x_c.Vector,ii x_c.Saved,bb x_c.SavedUser,ii x_c.Cause,ii x_c.Bad,ii x_c.Timer,bb x_c.Waits,bb x_c.User,bb x_c.On,bb x_c.Stopped]⟩
   refine yec [(16:Int)≠0] (sp 131 [z7,z12,z14,z23,z25,z8,z29,(36,pp 2),(37,sw 0 x_c.Regs),(38,.ptr 3 [] 1),(39,ii x_i.A),z16,(41,ii z3),(42,ii (Int.tmod z3 (16:Int))),(43,.ptr 2 [] 2)]) [(2,some q9),z30,z31,z33,z13,z15] 5 (.cons dd .nil) (blk_m ?_)
   obtain rfl:=some_some hh
   exact hN1 ((Int.tmod z3 (16:Int)),x_c.Vector,x_c.Timer,x_c.User,x_c.On,(Int.tmod (w64 (x_c.Pc+(1:Int))) (64:Int)),x_out,x_in,x_c.Regs) _ _ _ hk1 (el [some 0,some 1,some 0,some 1,some 2,some 4] (rens_sp kr (ro nr_eI (rs (sw 1 x_out) (rp 2 (rp 4 (ri rl_n)))))) (hn nr_eI (hn nr_eI (hq q9 rz (hq ⟨25,(.nil::zru25 [])⟩ rz hs_nil)))))
 refine cF hb (sy [1,2,4,7,8,11,18,44] [0,1,2,3,4] (sp 131 [z7,z12,z14,z23,z25,z8,z11,z17]) [z30,z31,z32,z13,z15] 5 ?_)
 rcases cond_some hh with ⟨hb,hh⟩ | ⟨hb,hh⟩
 · refine cT hb (Aw.oreg ?_)
   obtain ⟨hg62,hh⟩:=grd_some hh
   refine yjc 5 [(0:Int)≤x_i.A∧x_i.A<(((List.length x_c.Regs):Nat):Int)] (sp 131 [z7,z12,z14,z23,z25,z8,z11,z17,(46,pp 2),(47,sw 0 x_c.Regs),(48,.ptr 3 [] 1),(49,ii x_i.A),z19]) [z30,z31,z32,z13,z15] 5 (.cons hg62 .nil) (ys (.load false 1 (.t 50)) (some 51) (op_load (c:=(eI .i64)) (xs:=x_c.Regs) (e:=3) (r:=0) (π:=[]) (o:=0+(Int.toNat x_i.A)*1) (i:=(Int.toNat x_i.A)) (off:=0) (v:=ii z3) len_eI kr kr ltn ltn dd kr ?_))
   let q10:Root:=⟨25,[sw 0 x_c.Regs,ii x_c.Pc,ii x_c.Root,ii (Int.tmod z3 (64:Int)),ii x_c.Saved,bb x_c.SavedUser,ii x_c.Cause,ii x_c.Bad,ii x_c.Timer,bb x_c.Waits,bb x_c.User,bb x_c.On,bb x_c.Stopped]⟩
   refine yec [(64:Int)≠0] (sp 131 [z7,z12,z14,z23,z25,z8,z11,z17,(46,pp 2),(47,sw 0 x_c.Regs),(48,.ptr 3 [] 1),(49,ii x_i.A),z19,(51,ii z3),(52,ii (Int.tmod z3 (64:Int))),(53,.ptr 2 [] 3)]) [(2,some q10),z30,z31,z32,z13,z15] 5 (.cons dd .nil) (blk_m ?_)
   obtain rfl:=some_some hh
   exact hN1 (x_c.Root,(Int.tmod z3 (64:Int)),x_c.Timer,x_c.User,x_c.On,(Int.tmod (w64 (x_c.Pc+(1:Int))) (64:Int)),x_out,x_in,x_c.Regs) _ _ _ hk1 (el [some 0,some 1,some 0,some 1,some 2,some 4] (rens_sp kr (ro nr_eI (rs (sw 1 x_out) (rp 2 (rp 4 (ri rl_n)))))) (hn nr_eI (hn nr_eI (hq q10 rz (hq ⟨25,(.nil::zru25 [])⟩ rz hs_nil)))))
 refine cF hb (sy [1,2,4,7,8,11,18,54] [0,1,2,3,4] (sp 131 [z7,z12,z14,z23,z25,z8,z11,z20]) [z30,z31,z32,z13,z15] 5 ?_)
 rcases cond_some hh with ⟨hb,hh⟩ | ⟨hb,hh⟩
 · refine cT hb (Aw.oreg ?_)
   obtain ⟨hg64,hh⟩:=grd_some hh
   refine yjc 5 [(0:Int)≤x_i.A∧x_i.A<(((List.length x_c.Regs):Nat):Int)] (sp 131 [z7,z12,z14,z23,z25,z8,z11,z20,(56,pp 2),(57,sw 0 x_c.Regs),(58,.ptr 3 [] 1),(59,ii x_i.A),z22]) [z30,z31,z32,z13,z15] 5 (.cons hg64 .nil) (ys (.load false 1 (.t 60)) (some 61) (op_load (c:=(eI .i64)) (xs:=x_c.Regs) (e:=3) (r:=0) (π:=[]) (o:=0+(Int.toNat x_i.A)*1) (i:=(Int.toNat x_i.A)) (off:=0) (v:=ii z3) len_eI kr kr ltn ltn dd kr ?_))
   let q11:Root:=⟨25,[sw 0 x_c.Regs,ii x_c.Pc,ii x_c.Root,ii x_c.Vector,ii x_c.Saved,bb x_c.SavedUser,ii x_c.Cause,ii x_c.Bad,ii z3,bb x_c.Waits,bb x_c.User,bb x_c.On,bb x_c.Stopped]⟩
   refine ye (sp 131 [z7,z12,z14,z23,z25,z8,z11,z20,(56,pp 2),(57,sw 0 x_c.Regs),(58,.ptr 3 [] 1),(59,ii x_i.A),z22,(61,ii z3),(62,.ptr 2 [] 8)]) [(2,some q11),z30,z31,z32,z13,z15] 5 (blk_m ?_)
   obtain rfl:=some_some hh
   exact hN1 (x_c.Root,x_c.Vector,z3,x_c.User,x_c.On,(Int.tmod (w64 (x_c.Pc+(1:Int))) (64:Int)),x_out,x_in,x_c.Regs) _ _ _ hk1 (el [some 0,some 1,some 0,some 1,some 2,some 4] (rens_sp kr (ro nr_eI (rs (sw 1 x_out) (rp 2 (rp 4 (ri rl_n)))))) (hn nr_eI (hn nr_eI (hq q11 rz (hq ⟨25,(.nil::zru25 [])⟩ rz hs_nil)))))
 refine cF hb (sy [1,2,4,7,8,11,18,63] [0,1,2,3,4] (sp 131 [z7,z12,z14,z23,z25,z8,z11,(63,bb (decide (x_i.Op=(11:Int))))]) [z30,z31,z32,z13,z15] 5 ?_)
 rcases cond_some hh with ⟨hb,hh⟩ | ⟨hb,hh⟩
 · refine cT hb (sy [1,2,4,8,11] [0,1,2,4] (sp 131 [z7,z12,z14,z25,z9]) [z30,z31,z32,z15] 5 (Aw.sreg [1,2,4,8,11] [0,1,2,4] ?_))
   let q12:Root:=⟨25,[sw 0 x_c.Regs,ii x_c.Pc,ii x_c.Root,ii x_c.Vector,ii x_c.Saved,bb x_c.SavedUser,ii x_c.Cause,ii x_c.Bad,ii x_c.Timer,bb x_c.Waits,bb x_c.SavedUser,bb x_c.On,bb x_c.Stopped]⟩
   refine yt (sp 131 [z7,z12,z14,z25,z9]) [z30,z31,(2,some q12),z15] 5 (Aw.oreg ?_)
   let q13:Root:=⟨25,[sw 0 x_c.Regs,ii x_c.Pc,ii x_c.Root,ii x_c.Vector,ii x_c.Saved,bb x_c.SavedUser,ii x_c.Cause,ii x_c.Bad,ii x_c.Timer,bb x_c.Waits,bb x_c.SavedUser,bb true,bb x_c.Stopped]⟩
   refine ye (sp 131 [z7,z12,z14,z25,z9,(70,.ptr 2 [] 11)]) [(2,some q13),z30,z31,(2,some q12),z15] 5 (blk_m ?_)
   obtain rfl:=some_some hh
   exact hN1 (x_c.Root,x_c.Vector,x_c.Timer,x_c.SavedUser,true,x_c.Saved,x_out,x_in,x_c.Regs) _ _ _ hk1 (el [some 0,some 1,some 0,some 1,some 2,some 4] (rens_sp kr (ro nr_eI (rs (sw 1 x_out) (rp 2 (rp 4 (ri rl_n)))))) (hn nr_eI (hn nr_eI (hq q13 rz (hq ⟨25,(.nil::zru25 [])⟩ rz hs_nil)))))
 refine cF hb (sy [1,2,4,7,8,11,18,71] [0,1,2,3,4] (sp 131 [z7,z12,z14,z23,z25,z8,z11,z24]) [z30,z31,z32,z13,z15] 5 ?_)
 rcases cond_some hh with ⟨hb,hh⟩ | ⟨hb,hh⟩
 · refine cT hb (Aw.oreg ?_)
   let q14:Root:=⟨25,[sw 0 x_c.Regs,ii x_c.Pc,ii x_c.Root,ii x_c.Vector,ii x_c.Saved,bb x_c.SavedUser,ii x_c.Cause,ii x_c.Bad,ii x_c.Timer,bb x_c.Waits,bb x_c.User,bb (decide ((Int.tmod x_i.N (2:Int))=(1:Int))),bb x_c.Stopped]⟩
   refine yec [(2:Int)≠0] (sp 131 [z7,z12,z14,z23,z25,z8,z11,z24,(73,.ptr 3 [] 2),(74,ii x_i.N),(75,ii (Int.tmod x_i.N (2:Int))),(76,bb (decide ((Int.tmod x_i.N (2:Int))=(1:Int)))),(77,.ptr 2 [] 11)]) [(2,some q14),z30,z31,z32,z13,z15] 5 (.cons dd .nil) (blk_m ?_)
   obtain rfl:=some_some hh
   exact hN1 (x_c.Root,x_c.Vector,x_c.Timer,x_c.User,(decide ((Int.tmod x_i.N (2:Int))=(1:Int))),(Int.tmod (w64 (x_c.Pc+(1:Int))) (64:Int)),x_out,x_in,x_c.Regs) _ _ _ hk1 (el [some 0,some 1,some 0,some 1,some 2,some 4] (rens_sp kr (ro nr_eI (rs (sw 1 x_out) (rp 2 (rp 4 (ri rl_n)))))) (hn nr_eI (hn nr_eI (hq q14 rz (hq ⟨25,(.nil::zru25 [])⟩ rz hs_nil)))))
 refine cF hb (sy [1,2,4,7,8,11,18,78] [0,1,2,3,4] (sp 131 [z7,z12,z14,z23,z25,z8,z11,(78,bb (decide (x_i.Op=(13:Int))))]) [z30,z31,z32,z13,z15] 5 ?_)
 rcases cond_some hh with ⟨hb,hh⟩ | ⟨hb,hh⟩
 · refine cT hb (sy [1,2,4,7,8,11,82] [0,1,2,3,4] (sp 131 [z7,z12,z14,z23,z25,z8,z26]) [z30,z31,z32,z13,z15] 5 ?_)
   rcases cond_sf hh with ⟨hb,hh⟩ | ⟨hb,hh⟩
   · refine cF hb (Aw.skip (blk_m ?_))
     obtain rfl:=some_some hh
     exact hN1 (x_c.Root,x_c.Vector,x_c.Timer,x_c.User,x_c.On,(Int.tmod (w64 (x_c.Pc+(1:Int))) (64:Int)),x_out,x_in,x_c.Regs) _ _ _ hk1 (el [some 0,some 1,some 0,some 1,some 2,some 4] (rens_sp kr (ro nr_eI (rs (sw 1 x_out) (rp 2 (rp 4 (ri rl_n)))))) (hn nr_eI (hn nr_eI (hq q3 rz (hq ⟨25,(.nil::zru25 [])⟩ rz hs_nil)))))
   refine cT hb (Aw.oreg ?_)
   obtain ⟨hg68,hh⟩:=grd_some hh
   refine yjc 6 [(0:Int)≤x_i.A∧x_i.A<(((List.length x_c.Regs):Nat):Int)] (sp 131 [z7,z12,z14,z23,z25,z8,z26,(83,sw 1 x_out),(84,pp 2),(85,sw 0 x_c.Regs),(86,.ptr 3 [] 1),(87,ii x_i.A),z27]) [z30,z31,z32,z13,z15] 5 (.cons hg68 .nil) (ys (.load false 1 (.t 88)) (some 89) (op_load (c:=(eI .i64)) (xs:=x_c.Regs) (e:=3) (r:=0) (π:=[]) (o:=0+(Int.toNat x_i.A)*1) (i:=(Int.toNat x_i.A)) (off:=0) (v:=ii z3) len_eI kr kr ltn ltn dd kr ?_))
   let q15:Root:=⟨3,[ii z3]⟩
   refine yu 1 [(89,ii z3),(90,.sref 5 [] 0 1 1)] [(5,some q15),z30,z31,z32,z13,z15] 6 ?_
   obtain ⟨hg67,hh⟩:=grd_some hh
   refine ys (.app 3 1 8 [(ii 0)] (.t 83) (.t 90)) (some 91) (op_app (c:=(eI .i64)) (xs:=x_out) (ys:=([z3]:List Int)) (r:=1) (k:=(List.length x_out)) (π:=[]) eqn len_eI kr kr kr hg67 ?_)
   let q16:Root:=(rI_3 (x_out ++ ([z3]:List Int)))
   refine ye (sp 131 [z7,(2,.sref 6 [] 0 (List.length (x_out ++ ([z3]:List Int))) 1),z14,z23,z25,z8,z26,(83,sw 1 x_out),(84,pp 2),(85,sw 0 x_c.Regs),(86,.ptr 3 [] 1),(87,ii x_i.A),z27,(89,ii z3),(90,.sref 5 [] 0 1 1),(91,.sref 6 [] 0 (List.length (x_out ++ ([z3]:List Int))) 1)]) [(6,some q16),(1,none),(5,some q15),z30,z31,z32,z13,z15] 7 (blk_m ?_)
   obtain rfl:=some_some hh
   exact hN1 (x_c.Root,x_c.Vector,x_c.Timer,x_c.User,x_c.On,(Int.tmod (w64 (x_c.Pc+(1:Int))) (64:Int)),(x_out ++ ([z3]:List Int)),x_in,x_c.Regs) _ _ _ hk1 (el [some 0,some 1,some 0,some 6,some 2,some 4] (rens_sp kr (ro nr_eI (rs (.sref 6 [] 0 (List.length (x_out ++ ([z3]:List Int))) 1) (rp 2 (rp 4 (ri rl_n)))))) (hn nr_eI (hn nr_eI (hq q3 rz (hq ⟨25,(.nil::zru25 [])⟩ rz hs_nil)))))
 refine cF hb (sy [1,2,4,7,8,11,92] [0,1,2,3,4] (sp 131 [z7,z12,z14,z23,z25,z8,z28]) [z30,z31,z32,z13,z15] 5 ?_)
 rcases cond_sf hh with ⟨hb,hh⟩ | ⟨hb,hh⟩
 · refine cF hb (Aw.skip (blk_m ?_))
   obtain rfl:=some_some hh
   exact hN1 (x_c.Root,x_c.Vector,x_c.Timer,x_c.User,x_c.On,(Int.tmod (w64 (x_c.Pc+(1:Int))) (64:Int)),x_out,x_in,x_c.Regs) _ _ _ hk1 (el [some 0,some 1,some 0,some 1,some 2,some 4] (rens_sp kr (ro nr_eI (rs (sw 1 x_out) (rp 2 (rp 4 (ri rl_n)))))) (hn nr_eI (hn nr_eI (hq q3 rz (hq ⟨25,(.nil::zru25 [])⟩ rz hs_nil)))))
 refine cT hb (Aw.sreg [1,2,4,7,8,11,12] [0,1,2,3,4] ?_)
 obtain ⟨hg84,hh⟩:=grd_some hh
 refine yjc 11 [(4:Int)≠0,(0:Int)≤(Int.tmod x_i.N (4:Int))∧(Int.tmod x_i.N (4:Int))<((4:Nat):Int)] (sp 131 [z7,z12,z14,z23,z25,z8,z28,(94,.ptr 2 [] 6),(95,ii x_c.Cause),(96,.ptr 2 [] 7),(97,ii x_c.Bad),(98,.ptr 2 [] 4),(99,ii x_c.Saved),(100,.sref 5 [] 0 4 1),(101,.ptr 3 [] 2),(102,ii x_i.N),(103,ii (Int.tmod x_i.N (4:Int))),(104,.ptr 5 [] (0+(Int.toNat (Int.tmod x_i.N (4:Int)))*1))]) [(5,some ⟨3,[ii 0,ii x_c.Cause,ii x_c.Bad,ii x_c.Saved]⟩),z30,z31,z32,z13,z15] 6 (.cons dd (.cons hg84 .nil)) (ys (.load false 1 (.t 104)) (some 105) (op_load (c:=(eI .i64)) (xs:=([(0:Int),x_c.Cause,x_c.Bad,x_c.Saved]:List Int)) (e:=3) (r:=5) (π:=[]) (o:=0+(Int.toNat (Int.tmod x_i.N (4:Int)))*1) (i:=(Int.toNat (Int.tmod x_i.N (4:Int)))) (off:=0) (v:=ii z2) len_eI kr kr ltn ltn dd kr ?_))
 refine yt (sp 131 [z7,z12,z14,z23,z25,z8,(12,ii z2)]) [z30,z31,z32,z13,z15] 6 ?_
 obtain ⟨j2,hh,hk2⟩:=bind_some hh
 refine Aw.join (S:=(List Int) × Int) (fun s2=>sp 131 [(1,bo (eI .i64) s2.1),(2,sw 3 x_out),(4,pp 4),(7,pp 5),(8,pp 6),(11,ii (Int.tmod (w64 (x_c.Pc+(1:Int))) (64:Int))),(12,ii s2.2)]) (fun s2=>[(2,some (rI_3 x_c.Regs)),(3,some (rI_3 x_out)),(4,some ⟨25,(sw 2 x_c.Regs::ru25 x_c [])⟩),(5,some ⟨45,(C_45 x_i)⟩),(6,some ⟨25,(.nil::zru25 [])⟩)]) 7 (fun s2=>F_spec_l3Kernel_j2 x_c x_out x_i s2=some j1) ?_ ?_
 · intro s2 hh
   let z5:=List.set x_c.Regs (Int.toNat x_i.A) s2.2
   unfold F_spec_l3Kernel_j2 at hh
   refine Aw.oreg ?_
   obtain ⟨hg79,hh⟩:=grd_some hh
   let q17:Root:=⟨25,(sw 2 x_c.Regs::ru25 x_c [])⟩
   refine yjc 6 [(0:Int)≤x_i.A∧x_i.A<(((List.length x_c.Regs):Nat):Int)] (sp 131 [(1,bo (eI .i64) s2.1),(2,sw 3 x_out),(4,pp 4),(7,pp 5),(8,pp 6),z8,(12,ii s2.2),(120,pp 4),(121,sw 2 x_c.Regs),(122,.ptr 5 [] 1),(123,ii x_i.A),(124,ii s2.2),z10]) [(2,some q1),(3,some q2),(4,some q17),z18,z21] 7 (.cons hg79 .nil) ?_
   let q18:Root:=(rI_3 z5)
   refine ys (.store 1 (.t 125) (.t 124)) none (op_store (c:=(eI .i64)) (xs:=x_c.Regs) (e:=3) (r:=2) (π:=[]) (o:=0+(Int.toNat x_i.A)*1) (i:=(Int.toNat x_i.A)) (off:=0) (vs:=[ii s2.2]) (y:=s2.2) (H':=[(2,some q18),(2,some q1),(3,some q2),(4,some q17),z18,z21]) len_eI kr kr kr kr ltn ltn dd kr kr ?_)
   refine ye (sp 131 [(1,bo (eI .i64) s2.1),(2,sw 3 x_out),(4,pp 4),(7,pp 5),(8,pp 6),z8,(12,ii s2.2),(120,pp 4),(121,sw 2 x_c.Regs),(122,.ptr 5 [] 1),(123,ii x_i.A),(124,ii s2.2),z10]) [(2,some q18),(2,some q1),(3,some q2),(4,some q17),z18,z21] 7 (blk_m ?_)
   obtain rfl:=some_some hh
   exact hN1 (x_c.Root,x_c.Vector,x_c.Timer,x_c.User,x_c.On,(Int.tmod (w64 (x_c.Pc+(1:Int))) (64:Int)),x_out,s2.1,z5) _ _ _ hk1 (el [some 0,some 1,some 2,some 3,some 4,some 6] (rens_sp kr (ro nr_eI (rs (sw 3 x_out) (rp 4 (rp 6 (ri rl_n)))))) (hn nr_eI (hn nr_eI (hq q17 rz (hq ⟨25,(.nil::zru25 [])⟩ rz hs_nil)))))
 intro Q2 hN2 hR2 hE2
 refine Aw.sreg [1,2,4,7,8,11,12,114] [0,1,2,3,4] (yjc 5 [(4:Int)≠0] (sp 131 [z7,z12,z14,z23,z25,z8,(12,ii z2),(106,.ptr 3 [] 2),(107,ii x_i.N),(108,ii (Int.tmod x_i.N (4:Int))),(109,bb (decide ((Int.tmod x_i.N (4:Int))=(0:Int)))),(110,bb (decide ((Int.tmod x_i.N (4:Int))=(0:Int))))]) [z30,z31,z32,z13,z15] 6 (.cons dd .nil) ?_)
 rcases cond_sf hh with ⟨hb,hh⟩ | ⟨hb,hh⟩
 · refine yb 109 hb (yb 110 hb (yt (sp 131 [z7,z12,z14,z23,z25,z8,(12,ii z2),(114,bb false)]) [z30,z31,z32,z13,z15] 6 (cF rfl (Aw.skip ?_))))
   obtain rfl:=some_some hh
   exact hN2 (x_in,z2) _ _ _ hk2 (el [some 0,some 1,some 0,some 1,some 2,some 3,some 4] (rens_sp kr (ro nr_eI (rs (sw 1 x_out) (rp 2 (rp 3 (rp 4 (ri (ri rl_n)))))))) (hn nr_eI (hn nr_eI (hq q3 rz (hq ⟨45,(C_45 x_i)⟩ (rens_same (nr_C_45 _)) (hq ⟨25,(.nil::zru25 [])⟩ rz hs_nil))))))
 refine yb 109 hb (yb 110 hb (yt (sp 131 [z7,z12,z14,z23,z25,z8,(12,ii z2),(114,bb (decide ((0:Int)<(((List.length x_in):Nat):Int))))]) [z30,z31,z32,z13,z15] 6 ?_))
 rcases cond_sf hh with ⟨hb,hh⟩ | ⟨hb,hh⟩
 · refine cF hb (Aw.skip ?_)
   obtain rfl:=some_some hh
   exact hN2 (x_in,z2) _ _ _ hk2 (el [some 0,some 1,some 0,some 1,some 2,some 3,some 4] (rens_sp kr (ro nr_eI (rs (sw 1 x_out) (rp 2 (rp 3 (rp 4 (ri (ri rl_n)))))))) (hn nr_eI (hn nr_eI (hq q3 rz (hq ⟨45,(C_45 x_i)⟩ (rens_same (nr_C_45 _)) (hq ⟨25,(.nil::zru25 [])⟩ rz hs_nil))))))
 refine cT hb (Aw.sreg [1,2,4,7,8,11,12] [0,1,2,3,4] (yu 1 [(115,bo (eI .i64) x_in)] [z30,z31,z32,z13,z15] 6 ?_))
 obtain ⟨hg81,hh⟩:=grd_some hh
 refine ys (.iadr 1 (.t 115) (.c (ii 0))) (some 116) (op_iadr (kd:=.i64) (c:=(eI .i64)) (xs:=x_in) len_eI dd kr kr hg81 ?_)
 refine ys (.load false 1 (.t 116)) (some 117) (op_loadb (c:=(eI .i64)) (xs:=x_in) (o:=Int.toNat (0:Int)*1) (i:=(Int.toNat (0:Int))) (off:=0) (v:=ii z4) len_eI kr ltn ltn dd kr ?_)
 refine yt (sp 131 [z7,z12,z14,z23,z25,z8,(12,ii z4)]) [z30,z31,z32,z13,z15] 6 (Aw.oreg (yu 1 [(118,bo (eI .i64) x_in)] [z30,z31,z32,z13,z15] 6 ?_))
 obtain ⟨hg83,hh⟩:=grd_some hh
 refine ys (.slc 1 (.t 118) (some (.c (ii 1))) none) (some 119) (op_slc (c:=(eI .i64)) (xs:=x_in) (l:=(1:Int)) (h:=((List.length x_in:Nat):Int)) len_eI kr kr kr hg83 ?_)
 refine ye (sp 131 [(1,bo (eI .i64) z6),z12,z14,z23,z25,z8,(12,ii z4),(118,bo (eI .i64) x_in),(119,bo (eI .i64) z6)]) [z30,z31,z32,z13,z15] 6 ?_
 obtain rfl:=some_some hh
 exact hN2 (z6,z4) _ _ _ hk2 (el [some 0,some 1,some 0,some 1,some 2,some 3,some 4] (rens_sp kr (ro nr_eI (rs (sw 1 x_out) (rp 2 (rp 3 (rp 4 (ri (ri rl_n)))))))) (hn nr_eI (hn nr_eI (hq q3 rz (hq ⟨45,(C_45 x_i)⟩ (rens_same (nr_C_45 _)) (hq ⟨25,(.nil::zru25 [])⟩ rz hs_nil))))))
end Go.Proofs.Ytbanbjdcgdmkaaa
