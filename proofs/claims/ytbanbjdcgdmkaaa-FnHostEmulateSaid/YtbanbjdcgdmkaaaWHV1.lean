/- Plain functions of the program, and that it hands back what they say. Made by program. -/
import Derived.Test.YtbanbjdcgdmkaaaWT
import Derived.Test.YtbanbjdcgdmkaaaProg
import Derived.Test.YtbanbjdcgdmkaaaWHC1
namespace Go.Proofs.Ytbanbjdcgdmkaaa
open Go.RowKit
set_option maxRecDepth 100000
set_option linter.all false
set_option maxHeartbeats 0
theorem low_impl_copiedBare:LW 54 ⟨22,[(.cell 2 true 16)],(.seq (.reg false (rg 54 0)) (.seq (.reg false (rg 54 1)) (.seq (.reg false (rg 54 2)) (.seq (.reg false (rg 54 3)) (.seq (.reg false (rg 54 4)) (.seq (.reg false (rg 54 5)) .ret))))))⟩:=kr
noncomputable def F_impl_copiedBare (x_b:DBare):Option DBare :=
 Option.bind (F_impl_copied x_b.C.Regs) fun v1 =>
 Option.bind (F_impl_copied x_b.Mem) fun v2 =>
 Option.bind (F_impl_copied x_b.In) fun v3 =>
 Option.bind (F_impl_copied x_b.Out) fun v4 =>
 some (DBare.mk (DCore.mk v1 x_b.C.Pc x_b.C.Root x_b.C.Vector x_b.C.Saved x_b.C.SavedUser x_b.C.Cause x_b.C.Bad x_b.C.Timer x_b.C.Waits x_b.C.User x_b.C.On x_b.C.Stopped) v2 v3 v4)
theorem impl_copiedBare_fn {x_b:DBare} {R_:DBare} (hh:F_impl_copiedBare x_b=some R_):Fn Try.prog 54 [.agg (B_27 x_b)] (.agg (.own 3 1 (List.length R_.C.Regs) (fl (eI .i64) R_.C.Regs)::ru25 R_.C [.own 3 1 (List.length R_.Mem) (fl (eI .i64) R_.Mem),.own 3 1 (List.length R_.In) (fl (eI .i64) R_.In),.own 3 1 (List.length R_.Out) (fl (eI .i64) R_.Out)])):=by
 let z1:=(2,pp 1)
 unfold F_impl_copiedBare at hh
 refine Fn.start low_impl_copiedBare [0] (E:=sp 22 [(0,.agg (B_27 x_b))]) kr (v:=.agg (sw 0 R_.C.Regs::ru25 R_.C [sw 1 R_.Mem,sw 2 R_.In,sw 3 R_.Out])) (Hr:=[(3,some (rI_3 R_.Out)),(2,some (rI_3 R_.In)),(1,some (rI_3 R_.Mem)),(0,some (rI_3 R_.C.Regs))]) (k:=4) kr (Aw.sreg [1,2] [0,1] ?_)
 let q1:Root:=⟨27,(.nil::zru25 [.nil,.nil,.nil])⟩; let z2:=(1,some q1)
 refine yt (sp 22 [(1,pp 0),z1]) [(0,some (rB27 x_b)),z2] 2 (Aw.sreg [1,2] [0,1,2] (yu 3 [(3,pp 0),(4,pp 0),(5,bo (eI .i64) x_b.C.Regs)] [(0,some (rB27 x_b)),z2] 2 ?_))
 obtain ⟨v1,hv1,hh⟩:=bind_some hh
 let z3:EH:=(2,some (rI_3 v1))
 refine ys (.call 123 [(.t 5)]) (some 6) (op_call (r:=.own 3 1 (List.length v1) (fl (eI .i64) v1)) (v:=sw 2 v1) (Hr:=[z3]) (n':=3) (impl_copied_fn hv1) (clz_v (vs:=[bo (eI .i64) x_b.C.Regs]) kr (clz_c (clo_same (clean_bor (cleans_fl cl_eI))) clz_n)) nrr nrr kr ?_)
 let q2:Root:=⟨27,(sw 2 v1::ru25 x_b.C [bo (eI .i64) x_b.Mem,bo (eI .i64) x_b.In,bo (eI .i64) x_b.Out])⟩
 refine yt (sp 22 [(1,pp 0),z1]) [(0,some q2),z2,z3] 3 (Aw.sreg [1,2] [0,1,2,3] (yu 2 [(9,.ptr 0 [] 13),(10,bo (eI .i64) x_b.Mem)] [(0,some q2),z2,z3] 3 ?_))
 obtain ⟨v2,hv2,hh⟩:=bind_some hh
 let z4:EH:=(3,some (rI_3 v2))
 refine ys (.call 123 [(.t 10)]) (some 11) (op_call (r:=.own 3 1 (List.length v2) (fl (eI .i64) v2)) (v:=sw 3 v2) (Hr:=[z4]) (n':=4) (impl_copied_fn hv2) (clz_v (vs:=[bo (eI .i64) x_b.Mem]) kr (clz_c (clo_same (clean_bor (cleans_fl cl_eI))) clz_n)) nrr nrr kr ?_)
 let q3:Root:=⟨27,(sw 2 v1::ru25 x_b.C [sw 3 v2,bo (eI .i64) x_b.In,bo (eI .i64) x_b.Out])⟩
 refine yt (sp 22 [(1,pp 0),z1]) [(0,some q3),z2,z3,z4] 4 (Aw.sreg [1,2] [0,1,2,3,4] (yu 2 [(13,.ptr 0 [] 14),(14,bo (eI .i64) x_b.In)] [(0,some q3),z2,z3,z4] 4 ?_))
 obtain ⟨v3,hv3,hh⟩:=bind_some hh
 let z5:EH:=(4,some (rI_3 v3))
 refine ys (.call 123 [(.t 14)]) (some 15) (op_call (r:=.own 3 1 (List.length v3) (fl (eI .i64) v3)) (v:=sw 4 v3) (Hr:=[z5]) (n':=5) (impl_copied_fn hv3) (clz_v (vs:=[bo (eI .i64) x_b.In]) kr (clz_c (clo_same (clean_bor (cleans_fl cl_eI))) clz_n)) nrr nrr kr ?_)
 let q4:Root:=⟨27,(sw 2 v1::ru25 x_b.C [sw 3 v2,sw 4 v3,bo (eI .i64) x_b.Out])⟩
 refine yt (sp 22 [(1,pp 0),z1]) [(0,some q4),z2,z3,z4,z5] 5 (Aw.sreg [1,2] [0,1,2,3,4,5] (yu 2 [(17,.ptr 0 [] 15),(18,bo (eI .i64) x_b.Out)] [(0,some q4),z2,z3,z4,z5] 5 ?_))
 obtain ⟨v4,hv4,hh⟩:=bind_some hh
 let z6:EH:=(5,some (rI_3 v4))
 refine ys (.call 123 [(.t 18)]) (some 19) (op_call (r:=.own 3 1 (List.length v4) (fl (eI .i64) v4)) (v:=sw 5 v4) (Hr:=[z6]) (n':=6) (impl_copied_fn hv4) (clz_v (vs:=[bo (eI .i64) x_b.Out]) kr (clz_c (clo_same (clean_bor (cleans_fl cl_eI))) clz_n)) nrr nrr kr ?_)
 let q5:Root:=⟨27,(sw 2 v1::ru25 x_b.C [sw 3 v2,sw 4 v3,sw 5 v4])⟩
 refine yt (sp 22 [(1,pp 0),z1]) [(0,some q5),z2,z3,z4,z5,z6] 6 (sy [2] [1,2,3,4,5] (sp 22 [z1]) [(1,some q5),z3,z4,z5,z6] 6 (Aw.ret ?_))
 rw [some_some hh]
 exact gives (r':=.agg (sw 2 v1::ru25 x_b.C [sw 3 v2,sw 4 v3,sw 5 v4])) kr (Ent.list [some 2,some 3,some 4,some 5] rfl rfl (Nat.zero_le _) (rens_1 (ren_agg rz)) (hn nr_eI (hn nr_eI (hn nr_eI (hn nr_eI hs_nil)))))
theorem low_impl_pageOf:LW 140 ⟨12,[(.tmp 4)],(.seq (.reg false (rg 140 0)) (.seq (.reg false (rg 140 1)) .ret))⟩:=kr
noncomputable def F_impl_pageOf (x_words:List Int) (x_page:Int):Option (List Int) :=
 grd ((0:Int)≤(w64 (x_page*(8:Int)))∧(w64 (x_page*(8:Int)))≤(w64 ((w64 (x_page+(1:Int)))*(8:Int)))∧(w64 ((w64 (x_page+(1:Int)))*(8:Int)))≤((List.length x_words:Nat):Int)) (some (List.take (Int.toNat (w64 ((w64 (x_page+(1:Int)))*(8:Int))) - Int.toNat (w64 (x_page*(8:Int)))) (List.drop (Int.toNat (w64 (x_page*(8:Int)))) x_words)))
theorem impl_pageOf_fn {x_words:List Int} {x_page:Int} {R_:(List Int)} (hh:F_impl_pageOf x_words x_page=some R_):Fn Try.prog 140 [bo (eI .i64) x_words,.int .i64 x_page] (bo (eI .i64) R_):=by
 let z1:=List.drop (Int.toNat (w64 (x_page*(8:Int)))) x_words; let z2:=List.take (Int.toNat (w64 ((w64 (x_page+(1:Int)))*(8:Int))) - Int.toNat (w64 (x_page*(8:Int)))) z1
 unfold F_impl_pageOf at hh
 refine Fn.start low_impl_pageOf [0,1] (E:=sp 12 [(0,bo (eI .i64) x_words),(1,ii x_page)]) kr (v:=bo (eI .i64) R_) (Hr:=[]) (k:=0) kr (sy [0,1] [] (sp 12 [(0,bo (eI .i64) x_words),(1,ii x_page)]) [] 0 (Aw.sreg [4] [] (yu 6 [(5,bo (eI .i64) x_words),(6,ii x_page),(7,ii (w64 (x_page*(8:Int)))),(8,ii x_page),(9,ii (w64 (x_page+(1:Int)))),(10,ii (w64 ((w64 (x_page+(1:Int)))*(8:Int))))] [] 0 ?_)))
 obtain ⟨hg2,hh⟩:=grd_some hh
 refine ys (.slc 1 (.t 5) (some (.t 7)) (some (.t 10))) (some 11) (op_slc (c:=(eI .i64)) (xs:=x_words) (l:=(w64 (x_page*(8:Int)))) (h:=(w64 ((w64 (x_page+(1:Int)))*(8:Int)))) len_eI kr kr kr hg2 ?_)
 refine yt (sp 12 [(4,bo (eI .i64) z2)]) [] 0 (Aw.ret ?_)
 rw [some_some hh]
 exact gives (r':=bo (eI .i64) z2) kr (Ent.clov (.one _ _ (clo_same (clean_bor (cleans_fl cl_eI)))))
noncomputable def F_impl_pageOf_p (x_words:List Int) (x_page:Int):Option ((List Int) × (Nat × Nat)) :=
 grd ((0:Int)≤(w64 (x_page*(8:Int)))∧(w64 (x_page*(8:Int)))≤(w64 ((w64 (x_page+(1:Int)))*(8:Int)))∧(w64 ((w64 (x_page+(1:Int)))*(8:Int)))≤(((List.length x_words):Nat):Int)) (some (x_words,((Int.toNat (w64 (x_page*(8:Int)))),(Int.toNat (w64 ((w64 (x_page+(1:Int)))*(8:Int))) - Int.toNat (w64 (x_page*(8:Int)))))))
theorem impl_pageOf_p_fn {x_words:List Int} {x_page:Int} {R_:(List Int) × (Nat × Nat)} (hh:F_impl_pageOf_p x_words x_page=some R_):Inl Try.prog 140 [.sref 0 [] 0 (List.length x_words) 1,.int .i64 x_page] [(0,some (rI_3 x_words))] 1 (.sref 0 [] (0+R_.2.1*1) R_.2.2 1) [(0,some (rI_3 R_.1))] 1:=by
 unfold F_impl_pageOf_p at hh
 let q1:Root:=(rI_3 x_words)
 refine Inl.start low_impl_pageOf [0,1] [0] (E:=sp 12 [(0,sw 0 x_words),(1,ii x_page)]) (H1:=[(0,some q1)]) kr kr (sy [0,1] [0] (sp 12 [(0,sw 0 x_words),(1,ii x_page)]) [(0,some q1)] 1 (Aw.sreg [4] [0] (yu 6 [(5,sw 0 x_words),(6,ii x_page),(7,ii (w64 (x_page*(8:Int)))),(8,ii x_page),(9,ii (w64 (x_page+(1:Int)))),(10,ii (w64 ((w64 (x_page+(1:Int)))*(8:Int))))] [(0,some q1)] 1 ?_)))
 obtain ⟨hg2,hh⟩:=grd_some hh
 refine ys (.slc 1 (.t 5) (some (.t 7)) (some (.t 10))) (some 11) (op_slo (r:=0) (π:=[]) (o:=0) (k:=(List.length x_words)) (sz:=1) (l:=(w64 (x_page*(8:Int)))) (h:=(w64 ((w64 (x_page+(1:Int)))*(8:Int)))) kr kr kr hg2 ?_)
 refine yt (sp 12 [(4,.sref 0 [] (0+Int.toNat (w64 (x_page*(8:Int)))*1) (Int.toNat (w64 ((w64 (x_page+(1:Int)))*(8:Int))) - Int.toNat (w64 (x_page*(8:Int)))) 1)]) [(0,some q1)] 1 (Aw.ret ?_)
 rw [some_some hh]
 exact gives (r':=.sref 0 [] (0+Int.toNat (w64 (x_page*(8:Int)))*1) (Int.toNat (w64 ((w64 (x_page+(1:Int)))*(8:Int))) - Int.toNat (w64 (x_page*(8:Int)))) 1) kr (el [some 0] (rens_1 ren_sy) (hn nr_eI hs_nil))
theorem low_impl_memFrom:LW 148 ⟨29,[(.tmp 4)],(.seq (.reg false (rg 148 0)) (.seq (.reg false (rg 148 1)) (.seq (.seq (.reg false (rg 148 2)) (.block 0 (.loop (.seq (.reg false (rg 148 3)) (.seq (.cond (.t 12) .skip (.exit 0)) (.seq (.block 1 (.seq (.reg false (rg 148 4)) (.seq (.reg false (rg 148 5)) (.cond (.t 18) (.regd (rg 148 6) (rg 148 7)) .skip)))) (.reg false (rg 148 8)))))))) (.seq (.reg false (rg 148 10)) .ret))))⟩:=kr
noncomputable def F_impl_memFrom_j1  (s1:(List Int)):Option (List Int) :=
 some s1
noncomputable def F_impl_memFrom_j3 (s2:(List Int) × Int) (s3:(List Int)):Option (LO ((List Int) × Int) (JO (List Int) (List Int))) :=
 some (.next (s3,(w64 (s2.2+(1:Int)))))
noncomputable def F_impl_memFrom_l2 (x_words:List Int) (x_pages:List DSlot) (s2:(List Int) × Int):Option (LO ((List Int) × Int) (JO (List Int) (List Int))) :=
 cond (decide (s2.2<(((List.length x_pages):Nat):Int)))
  (Option.bind (grd ((0:Int)≤s2.2∧s2.2<((List.length x_pages:Nat):Int)) (cond (!decide (((List.getD x_pages (Int.toNat s2.2) default).Frame)=(-1:Int)))
   (Option.bind (F_impl_pageOf_p s2.1 s2.2) fun v4 =>
   grd (List.length v4.1=(List.length s2.1)) (grd (v4.2.1+v4.2.2≤List.length v4.1) (Option.bind (F_impl_pageOf x_words ((List.getD x_pages (Int.toNat s2.2) default).Frame)) fun v5 =>
    some (.go (over v4.1 v4.2.1 v4.2.2 v5)))))
   (some (.go s2.1)))) fun j3 =>
   JO.run j3 (F_impl_memFrom_j3 s2))
  (some (.ret (.go s2.1)))
noncomputable def F_impl_memFrom (x_words:List Int) (x_pages:List DSlot):Option (List Int) :=
 Option.bind (Option.bind (iter (F_impl_memFrom_l2 x_words x_pages) ((List.replicate (Int.toNat (64:Int)) (0:Int)),(0:Int))) LO.val) fun j1 =>
  JO.run j1 (F_impl_memFrom_j1)
theorem impl_memFrom_fn {x_words:List Int} {x_pages:List DSlot} {R_:(List Int)} (hh:F_impl_memFrom x_words x_pages=some R_):Fn Try.prog 148 [bo (eI .i64) x_words,bo C_52 x_pages] (.own 3 1 (List.length R_) (fl (eI .i64) R_)):=by
 let z2:=(0,bo (eI .i64) x_words); let z3:=(1,bo C_52 x_pages); let z4:=(10,ii (((List.length x_pages):Nat):Int)); let z5:EV:=(5,.sref 0 [] 0 (List.length (List.replicate (Int.toNat (64:Int)) (0:Int))) 1); let z6:=(9,bo C_52 x_pages)
 unfold F_impl_memFrom at hh
 refine Fn.start low_impl_memFrom [0,1] (E:=sp 29 [z2,z3]) kr (v:=sw 0 R_) (Hr:=[(0,some (rI_3 R_))]) (k:=1) kr (sy [0,1] [] (sp 29 [z2,z3]) [] 0 (Aw.sreg [0,1,5] [0] (ys (.mk 3 1 8 [(ii 0)] (.c (ii 64))) (some 8) (op_mk (c:=(eI .i64)) (d:=(0:Int)) (k:=(64:Int)) kr dd kr ?_))))
 let q1:Root:=(rI_3 (List.replicate (Int.toNat (64:Int)) (0:Int)))
 refine yt (sp 29 [z2,z3,z5]) [(0,some q1)] 1 ?_
 obtain ⟨j1,hh,hk1⟩:=bind_some hh
 refine Aw.join (S:=(List Int)) (fun s1=>sp 29 [(5,sw 0 s1)]) (fun s1=>[(0,some (rI_3 s1))]) 1 (fun s1=>F_impl_memFrom_j1 s1=some R_) ?_ ?_
 · intro s1 hh
   unfold F_impl_memFrom_j1 at hh
   refine sy [4] [0] (sp 29 [(4,sw 0 s1)]) [(0,some (rI_3 s1))] 1 (Aw.ret ?_)
   rw [some_some hh]
   exact gives (r':=sw 0 s1) kr (Ent.list [some 0] rfl rfl (Nat.zero_le _) (rens_1 ren_sy) (hn nr_eI hs_nil))
 intro Q1 hN1 hR1 hE1
 refine sy [0,5,9,10,11] [0] (sp 29 [z2,z5,z6,z4,(11,ii 0)]) [(0,some q1)] 1 (Aw.block ?_)
 obtain ⟨o2,hi2,hk2⟩:=bind_some hh
 refine Aw.iter (fun (s2:(List Int) × Int)=>sp 29 [(0,bo (eI .i64) x_words),(5,sw 0 s2.1),(9,bo C_52 x_pages),(10,ii (((List.length x_pages):Nat):Int)),(11,ii s2.2)]) (fun (s2:(List Int) × Int)=>[(0,some (rI_3 s2.1))]) 1 hi2 (el [some 0] (rens_sp kr (ro nr_eI (rs (.sref 0 [] 0 (List.length (List.replicate (Int.toNat (64:Int)) (0:Int))) 1) (ro nr_C_52 (ri (ri rl_n)))))) (hn nr_eI hs_nil)) ?_
 intro s2 u2 Q2 hh hN2 hX2 hR2
 let z7:EH:=(0,some (rI_3 s2.1)); let z8:=(11,ii s2.2); let z9:=(12,bb (decide (s2.2<(((List.length x_pages):Nat):Int)))); let z10:=(5,sw 0 s2.1); let z11:=(6,ii s2.2); let z1:=List.getD x_pages (Int.toNat s2.2) default; let z12:=(18,bb (!decide ((z1.Frame)=(-1:Int))))
 unfold F_impl_memFrom_l2 at hh
 refine sy [0,5,9,10,11,12] [0] (sp 29 [z2,z10,z6,z4,z8,z9]) [z7] 1 (Aw.seq ?_)
 rcases cond_sf hh with ⟨hb,hh⟩ | ⟨hb,hh⟩
 · refine cF hb (Aw.exit (then_x (hX2 _ _ _ _ _ (some_some hh) ?_)))
   intro hout
   rw [hout] at hk2
   refine blk_x ?_
   obtain rfl:=some_some hk2
   exact hN1 s2.1 _ _ _ hk1 (el [some 0] (rens_sp kr (rs (sw 0 s2.1) rl_n)) (hn nr_eI hs_nil))
 refine cT hb (Aw.xskip (fun _ _ _ hq=>then_m hq) ?_)
 obtain ⟨j3,hh,hk3⟩:=bind_some hh
 refine Aw.join (S:=(List Int)) (fun s3=>sp 29 [(0,bo (eI .i64) x_words),(5,sw 0 s3),(9,bo C_52 x_pages),(10,ii (((List.length x_pages):Nat):Int)),(11,ii s2.2)]) (fun s3=>[(0,some (rI_3 s3))]) 1 (fun s3=>F_impl_memFrom_j3 s2 s3=some u2) ?_ ?_
 · intro s3 hh
   unfold F_impl_memFrom_j3 at hh
   exact Aw.oreg (ye (sp 29 [z2,(5,sw 0 s3),z6,z4,(11,ii (w64 (s2.2+(1:Int)))),(27,ii (w64 (s2.2+(1:Int))))]) [(0,some (rI_3 s3))] 1 (hN2 (s3,(w64 (s2.2+(1:Int)))) _ _ _ (some_some hh) (el [some 0] (rens_sp kr (ro nr_eI (rs (sw 0 s3) (ro nr_C_52 (ri (ri rl_n)))))) (hn nr_eI hs_nil))))
 intro Q3 hN3 hR3 hE3
 refine Aw.block (Aw.sreg [0,5,6,7,9,10,11] [0,1] (yj 1  (sp 29 [z2,z10,z6,z4,z8,z9,(13,ii s2.2)]) [z7] 1 ?_))
 obtain ⟨hg104,hh⟩:=grd_some hh
 refine ys (.iadr 3 (.t 9) (.t 11)) (some 14) (op_iadr (kd:=.i64) (c:=C_52) (xs:=x_pages) len_C_52 dd kr kr hg104 ?_)
 refine ys (.load true 3 (.t 14)) (some 15) (op_loadbA (c:=C_52) (xs:=x_pages) (o:=Int.toNat s2.2*3) (i:=(Int.toNat s2.2)) (off:=0) (v:=.agg [ii (z1.Frame),bb (z1.Write),bb (z1.Dirty)]) len_C_52 kr ltn ltn dd kr ?_)
 let q2:Root:=⟨52,[ii (z1.Frame),bb (z1.Write),bb (z1.Dirty)]⟩; let z13:=(1,some q2)
 refine yt (sp 29 [z2,z10,z11,(7,pp 1),z6,z4,z8]) [z7,z13] 2 (sy [0,5,6,7,9,10,11,18] [0,1] (sp 29 [z2,z10,z11,(7,pp 1),z6,z4,z8,z12]) [z7,z13] 2 ?_)
 rcases cond_sf hh with ⟨hb,hh⟩ | ⟨hb,hh⟩
 · refine cF hb (Aw.skip (blk_m ?_))
   obtain rfl:=some_some hh
   exact hN3 s2.1 _ _ _ hk3 (el [some 0] (rens_sp kr (ro nr_eI (rs (sw 0 s2.1) (ro nr_C_52 (ri (ri rl_n)))))) (hn nr_eI hs_nil))
 refine cT hb (Aw.oregd [0] kr (dj 2 (sp 29 [z2,z10,z11,(7,pp 1),z6,z4,z8,z12,(19,sw 0 s2.1),(20,ii s2.2)]) [z7,z13] 2 ?_))
 obtain ⟨v4,hv4,hh⟩:=bind_some hh
 let z14:EH:=(0,some (rI_3 v4.1)); let z15:EV:=(21,.sref 0 [] (0+v4.2.1*1) v4.2.2 1)
 obtain ⟨hg107,hh⟩:=grd_some hh
 obtain ⟨hg108,hh⟩:=grd_some hh
 refine ds (.call 140 [(.t 19),(.t 20)]) (some 21) (ydo_n rfl (cf (.sref 0 [] (0+v4.2.1*1) v4.2.2 1) [z14] 2 [0] (impl_pageOf_p_fn hv4) [sw 0 s2.1,ii s2.2] rz (hn nr_eI hs_nil) ren_sy (hn nr_eI hs_nil) ⟨⟨agr_callf rfl rfl,Hld.un ?_⟩⟩))
 refine dt (sp 29 [z2,z10,z11,(7,pp 1),z6,z4,z8,z12,(19,sw 0 s2.1),(20,ii s2.2),z15,(22,bo (eI .i64) x_words),(23,pp 1),(24,ii (z1.Frame))]) [z14,(0,none),z7,z13] 2 ?_
 obtain ⟨v5,hv5,hh⟩:=bind_some hh
 refine ys (.call 140 [(.t 22),(.t 24)]) (some 25) (op_callp (r:=bo (eI .i64) v5) (v:=bo (eI .i64) v5) (Hr:=[]) (n':=2) (impl_pageOf_fn hv5) (clz_v (vs:=[bo (eI .i64) x_words,ii (z1.Frame)]) kr (clz_c (clo_same (clean_bor (cleans_fl cl_eI))) (cz1 clz_n))) nrr kr ?_)
 let q3:Root:=(rI_3 (over v4.1 v4.2.1 v4.2.2 v5))
 refine ys (.cpy 1 (.t 21) (.t 25)) (some 26) (op_cpy (c:=(eI .i64)) (xs:=v4.1) (ys:=v5) (e:=3) (r:=0) (π:=[]) (o:=0+v4.2.1*1) (k:=v4.2.2) (i:=v4.2.1) (H':=[(0,some q3),z14,(0,none),z7,z13]) len_eI (rpv kr (rp_bor (c:=(eI .i64)) (xs:=v5) len_eI)) kr kr ltn ltn kr ?_)
 refine ye (sp 29 [z2,z10,z11,(7,pp 1),z6,z4,z8,z12,(19,sw 0 s2.1),(20,ii s2.2),z15,(22,bo (eI .i64) x_words),(23,pp 1),(24,ii (z1.Frame)),(25,bo (eI .i64) v5),(26,ii ((min v4.2.2 (List.length v5):Nat):Int))]) [(0,some q3),z14,(0,none),z7,z13] 2 (blk_m ?_)
 obtain rfl:=some_some hh
 exact hN3 (over v4.1 v4.2.1 v4.2.2 v5) _ _ _ hk3 (el [some 0] (rens_sp kr (ro nr_eI (rs (sw 0 s2.1) (ro nr_C_52 (ri (ri rl_n)))))) (hn nr_eI hs_nil))
theorem low_impl_viewed:LW 94 ⟨23,[(.cell 4 true 16)],(.seq (.reg false (rg 94 0)) (.seq (.reg false (rg 94 1)) (.seq (.regd (rg 94 2) (rg 94 3)) .ret)))⟩:=kr
noncomputable def F_impl_viewed (x_h:DHost) (x_g:Int):Option DBare :=
 grd ((0:Int)≤x_g∧x_g<((List.length x_h.Guests:Nat):Int)) (Option.bind (F_impl_memFrom x_h.Words ((List.getD x_h.Guests (Int.toNat x_g) default).Pages)) fun v1 =>
  some (DBare.mk (DCore.mk (((List.getD x_h.Guests (Int.toNat x_g) default).C).Regs) (((List.getD x_h.Guests (Int.toNat x_g) default).C).Pc) (((List.getD x_h.Guests (Int.toNat x_g) default).C).Root) (((List.getD x_h.Guests (Int.toNat x_g) default).C).Vector) (((List.getD x_h.Guests (Int.toNat x_g) default).C).Saved) (((List.getD x_h.Guests (Int.toNat x_g) default).C).SavedUser) (((List.getD x_h.Guests (Int.toNat x_g) default).C).Cause) (((List.getD x_h.Guests (Int.toNat x_g) default).C).Bad) (((List.getD x_h.Guests (Int.toNat x_g) default).C).Timer) (((List.getD x_h.Guests (Int.toNat x_g) default).C).Waits) (((List.getD x_h.Guests (Int.toNat x_g) default).C).User) (((List.getD x_h.Guests (Int.toNat x_g) default).C).On) (((List.getD x_h.Guests (Int.toNat x_g) default).C).Stopped)) v1 ((List.getD x_h.Guests (Int.toNat x_g) default).In) ((List.getD x_h.Guests (Int.toNat x_g) default).Out)))
theorem impl_viewed_fn {x_h:DHost} {x_g:Int} {R_:DBare} (hh:F_impl_viewed x_h x_g=some R_):Fn Try.prog 94 [.agg (B_41 x_h),.int .i64 x_g] (.agg (B_27 R_)):=by
 let z2:EH:=(0,some (rB41 x_h)); let z3:=(14,bo (eI .i64) x_h.Words); let z1:=List.getD x_h.Guests (Int.toNat x_g) default
 unfold F_impl_viewed at hh
 refine Fn.start low_impl_viewed [0,1] (E:=sp 23 [(0,.agg (B_41 x_h)),(1,ii x_g)]) kr (v:=.agg (B_27 R_)) (Hr:=[]) (k:=0) kr (Aw.sreg [1,2,4] [0,1] ?_)
 let q1:Root:=⟨27,(.nil::zru25 [.nil,.nil,.nil])⟩; let z4:=(1,some q1)
 refine yt (sp 23 [(1,ii x_g),(2,pp 0),(4,pp 1)]) [z2,z4] 2 (Aw.sreg [2,4,5] [0,1,2] (yu 3 [(6,.ptr 0 [] 1),(7,bo B_55 x_h.Guests),(8,ii x_g)] [z2,z4] 2 ?_))
 obtain ⟨hg2,hh⟩:=grd_some hh
 refine ys (.iadr 17 (.t 7) (.t 8)) (some 9) (op_iadr (kd:=.i64) (c:=B_55) (xs:=x_h.Guests) len_B_55 dd kr kr hg2 ?_)
 refine ys (.load true 17 (.t 9)) (some 10) (op_loadbA (c:=B_55) (xs:=x_h.Guests) (o:=Int.toNat x_g*17) (i:=(Int.toNat x_g)) (off:=0) (v:=.agg (B_55 z1)) len_B_55 kr ltn ltn dd kr ?_)
 let q2:Root:=(rB55 z1)
 refine yt (sp 23 [(2,pp 0),(4,pp 1),(5,pp 2)]) [z2,z4,(2,some q2)] 3 (Aw.sregd [4] [1,3] [] kr (dj 6 (sp 23 [(2,pp 0),(4,pp 1),(5,pp 2),(11,.ptr 2 [] 1),(12,.agg (B_25 z1.C)),(13,pp 0),z3,(15,.ptr 2 [] 14),(16,bo C_52 (z1.Pages))]) [z2,z4,(2,some q2)] 3 ?_))
 obtain ⟨v1,hv1,hh⟩:=bind_some hh
 let z5:EH:=(3,some (rI_3 v1))
 refine ds (.call 148 [(.t 14),(.t 16)]) (some 17) (ydo_n rfl (op_call (r:=.own 3 1 (List.length v1) (fl (eI .i64) v1)) (v:=sw 3 v1) (Hr:=[z5]) (n':=4) (impl_memFrom_fn hv1) (clz_v (vs:=[bo (eI .i64) x_h.Words,bo C_52 (z1.Pages)]) kr (clz_c (clo_same (clean_bor (cleans_fl cl_eI))) (clz_c (clo_same (clean_bor (cleans_fl cl_C_52))) clz_n))) nrr nrr kr ⟨⟨agr_name (n:=3) (n0:=3) (r:=.own 3 1 (List.length v1) (fl (eI .i64) v1)) (v:=sw 3 v1) (Hr:=[z5]) (n':=4) kr dd,Hld.un ?_⟩⟩))
 refine dt (sp 23 [(2,pp 0),(4,pp 1),(5,pp 2),(11,.ptr 2 [] 1),(12,.agg (B_25 z1.C)),(13,pp 0),z3,(15,.ptr 2 [] 14),(16,bo C_52 (z1.Pages)),(17,sw 3 v1),(18,.ptr 2 [] 15),(19,bo (eI .i64) (z1.In)),(20,.ptr 2 [] 16),(21,bo (eI .i64) (z1.Out))]) [z5,z2,z4,(2,some q2)] 4 (yt (sp 23 [(4,pp 1)]) [(1,some ⟨27,[bo (eI .i64) ((z1.C).Regs),ii ((z1.C).Pc),ii ((z1.C).Root),ii ((z1.C).Vector),ii ((z1.C).Saved),bb ((z1.C).SavedUser),ii ((z1.C).Cause),ii ((z1.C).Bad),ii ((z1.C).Timer),bb ((z1.C).Waits),bb ((z1.C).User),bb ((z1.C).On),bb ((z1.C).Stopped),sw 3 v1,bo (eI .i64) (z1.In),bo (eI .i64) (z1.Out)]⟩),z5] 4 (Aw.ret ?_))
 rw [some_some hh]
 exact gives (r':=.agg [bo (eI .i64) ((z1.C).Regs),ii ((z1.C).Pc),ii ((z1.C).Root),ii ((z1.C).Vector),ii ((z1.C).Saved),bb ((z1.C).SavedUser),ii ((z1.C).Cause),ii ((z1.C).Bad),ii ((z1.C).Timer),bb ((z1.C).Waits),bb ((z1.C).User),bb ((z1.C).On),bb ((z1.C).Stopped),sw 3 v1,bo (eI .i64) (z1.In),bo (eI .i64) (z1.Out)]) kr (Ent.clov (.one _ _ (clo_agg (clos_c (clo_same (clean_bor (cleans_fl cl_eI))) (cs1 (cs1 (cs1 (cs1 (cs1 (cs1 (cs1 (cs1 (cs1 (cs1 (cs1 (cs1 (clos_c (clo_own (c:=(eI .i64)) (xs:=v1) (e:=3) eqn len_eI no_eI cl_eI kr) cz)))))))))))))))))
theorem low_impl_HostView:LW 32 ⟨15,[(.cell 4 true 16),(.tmp 5)],(.seq (.reg false (rg 32 0)) (.seq (.seq (.reg false (rg 32 1)) (.cond (.t 9) (.seq (.reg false (rg 32 2)) .ret) .skip)) (.seq (.reg false (rg 32 3)) .ret)))⟩:=kr
noncomputable def F_impl_HostView (x_h:DHost) (x_g:Int):Option (DBare × Bool) :=
 Option.bind (F_impl_hasGuest x_h x_g) fun v1 =>
 cond (!v1)
  (some ((DBare.mk (DCore.mk ([]:List Int) (0:Int) (0:Int) (0:Int) (0:Int) false (0:Int) (0:Int) (0:Int) false false false false) ([]:List Int) ([]:List Int) ([]:List Int)),false))
  (Option.bind (F_impl_viewed x_h x_g) fun v2 =>
  Option.bind (F_impl_copiedBare v2) fun v3 =>
  some (v3,true))
theorem impl_HostView_fn {x_h:DHost} {x_g:Int} {R_:DBare × Bool} (hh:F_impl_HostView x_h x_g=some R_):Fn Try.prog 32 [.agg (B_41 x_h),.int .i64 x_g] (.tup [.agg (.own 3 1 (List.length R_.1.C.Regs) (fl (eI .i64) R_.1.C.Regs)::ru25 R_.1.C [.own 3 1 (List.length R_.1.Mem) (fl (eI .i64) R_.1.Mem),.own 3 1 (List.length R_.1.In) (fl (eI .i64) R_.1.In),.own 3 1 (List.length R_.1.Out) (fl (eI .i64) R_.1.Out)]),.bool R_.2]):=by
 let z1:EH:=(0,some (rB41 x_h)); let z2:=(1,ii x_g); let z3:=(4,pp 1)
 unfold F_impl_HostView at hh
 refine Fn.start low_impl_HostView [0,1] (E:=sp 15 [(0,.agg (B_41 x_h)),z2]) kr (v:=.tup [.agg (sw 0 R_.1.C.Regs::ru25 R_.1.C [sw 1 R_.1.Mem,sw 2 R_.1.In,sw 3 R_.1.Out]),bb R_.2]) (Hr:=[(3,some (rI_3 R_.1.Out)),(2,some (rI_3 R_.1.In)),(1,some (rI_3 R_.1.Mem)),(0,some (rI_3 R_.1.C.Regs))]) (k:=4) kr (Aw.sreg [1,2,4] [0,1] ?_)
 let q1:Root:=⟨27,(.nil::zru25 [.nil,.nil,.nil])⟩; let z4:=(1,some q1)
 refine yt (sp 15 [z2,(2,pp 0),z3]) [z1,z4] 2 (Aw.seq (Aw.sreg [1,2,4,9] [0,1] (yj 2  (sp 15 [z2,(2,pp 0),z3,(6,.agg (B_41 x_h)),(7,ii x_g)]) [z1,z4] 2 ?_)))
 obtain ⟨v1,hv1,hh⟩:=bind_some hh
 refine ys (.call 76 [(.t 6),(.t 7)]) (some 8) (op_call (r:=bb v1) (v:=bb v1) (Hr:=[]) (n':=2) (impl_hasGuest_fn hv1) (clz_v (vs:=[.agg (B_41 x_h),ii x_g]) kr (clz_c (clo_same (clean_agg (cl_B_41 _))) (cz1 clz_n))) rfl rfl kr ?_)
 refine yt (sp 15 [z2,(2,pp 0),z3,(9,bb (!v1))]) [z1,z4] 2 ?_
 rcases cond_some hh with ⟨hb,hh⟩ | ⟨hb,hh⟩
 · refine cT hb (sy [4,5] [1] (sp 15 [z3,(5,bb false)]) [z4] 2 (Aw.ret (then_r ?_)))
   rw [some_some hh]
   exact gives (r':=.tup [.agg (.nil::zru25 [.nil,.nil,.nil]),bb false]) kr (Ent.list [none,none,none,none] rfl rfl (Nat.zero_le _) (rens_1 (ren_tup rz)) (hs_no dd rfl rfl (hs_no dd rfl rfl (hs_no dd rfl rfl (hs_no dd rfl rfl hs_nil)))))
 refine cF hb (Aw.xskip (fun _ _ _ hq=>then_m hq) (Aw.sreg [4,5] [1,2,3,4,5] (yj 2  (sp 15 [z2,(2,pp 0),z3,(9,bb (!v1)),(11,.agg (B_41 x_h)),(12,ii x_g)]) [z1,z4] 2 ?_)))
 obtain ⟨v2,hv2,hh⟩:=bind_some hh
 refine ys (.call 94 [(.t 11),(.t 12)]) (some 13) (op_callp (r:=.agg (B_27 v2)) (v:=.agg (B_27 v2)) (Hr:=[]) (n':=2) (impl_viewed_fn hv2) (clz_v (vs:=[.agg (B_41 x_h),ii x_g]) kr (clz_c (clo_same (clean_agg (cl_B_41 _))) (cz1 clz_n))) nrr kr ?_)
 obtain ⟨v3,hv3,hh⟩:=bind_some hh
 let q2:Root:=(rI_3 v3.Out); let q3:Root:=(rI_3 v3.In); let q4:Root:=(rI_3 v3.Mem); let q5:Root:=(rI_3 v3.C.Regs)
 refine ys (.call 54 [(.t 13)]) (some 14) (op_call (r:=.agg (.own 3 1 (List.length v3.C.Regs) (fl (eI .i64) v3.C.Regs)::ru25 v3.C [.own 3 1 (List.length v3.Mem) (fl (eI .i64) v3.Mem),.own 3 1 (List.length v3.In) (fl (eI .i64) v3.In),.own 3 1 (List.length v3.Out) (fl (eI .i64) v3.Out)])) (v:=.agg (sw 2 v3.C.Regs::ru25 v3.C [sw 3 v3.Mem,sw 4 v3.In,sw 5 v3.Out])) (Hr:=[(5,some q2),(4,some q3),(3,some q4),(2,some q5)]) (n':=6) (impl_copiedBare_fn hv3) (clz_v (vs:=[.agg (B_27 v2)]) kr (clz_c (clo_same (clean_agg (cl_B_27 _))) clz_n)) nrr nrr kr ?_)
 refine yt (sp 15 [z3,(5,bb true)]) [(1,some ⟨27,(sw 2 v3.C.Regs::ru25 v3.C [sw 3 v3.Mem,sw 4 v3.In,sw 5 v3.Out])⟩),(2,some q5),(3,some q4),(4,some q3),(5,some q2)] 6 (Aw.ret ?_)
 rw [some_some hh]
 exact gives (r':=.tup [.agg (sw 2 v3.C.Regs::ru25 v3.C [sw 3 v3.Mem,sw 4 v3.In,sw 5 v3.Out]),bb true]) kr (Ent.list [some 2,some 3,some 4,some 5] rfl rfl (Nat.zero_le _) (rens_1 (ren_tup rz)) (hn nr_eI (hn nr_eI (hn nr_eI (hn nr_eI hs_nil)))))
end Go.Proofs.Ytbanbjdcgdmkaaa
