/- Plain functions of the program, and that it hands back what they say. Made by program. -/
import Derived.Test.YtbanbjdcgdmkaaaWT
import Derived.Test.YtbanbjdcgdmkaaaProg
import Derived.Test.YtbanbjdcgdmkaaaWHO1
namespace Go.Proofs.Ytbanbjdcgdmkaaa
open Go.RowKit
set_option maxRecDepth 100000
set_option linter.all false
set_option maxHeartbeats 0
theorem low_spec_l4Used:LW 163 ⟨47,[(.tmp 2)],(.seq (.reg false (rg 163 0)) (.seq (.reg false (rg 163 1)) (.seq (.seq (.reg false (rg 163 2)) (.block 0 (.loop (.seq (.seq (.reg false (rg 163 3)) (.cond (.t 12) .skip (.exit 0))) (.seq (.block 1 (.seq (.reg false (rg 163 4)) (.block 2 (.loop (.seq (.seq (.reg false (rg 163 5)) (.cond (.t 23) .skip (.exit 2))) (.seq (.block 3 (.seq (.reg false (rg 163 6)) (.seq (.reg false (rg 163 7)) (.cond (.t 37) (.reg false (rg 163 8)) .skip)))) (.reg false (rg 163 9)))))))) (.reg false (rg 163 11))))))) (.seq (.reg false (rg 163 13)) .ret))))⟩:=kr
noncomputable def F_spec_l4Used_j1  (s1:(List Int)):Option (List Int) :=
 some s1
noncomputable def F_spec_l4Used_j3 (s2:(List Int) × Int) (s3:(List Int)):Option (LO ((List Int) × Int) (JO (List Int) (List Int))) :=
 some (.next (s3,(w64 (s2.2+(1:Int)))))
noncomputable def F_spec_l4Used_j5 (s4:(List Int) × Int) (s5:(List Int)):Option (LO ((List Int) × Int) (JO (List Int) (LO ((List Int) × Int) (JO (List Int) (List Int))))) :=
 some (.next (s5,(w64 (s4.2+(1:Int)))))
noncomputable def F_spec_l4Used_l4 (x_h:DHost) (s2:(List Int) × Int) (s4:(List Int) × Int):Option (LO ((List Int) × Int) (JO (List Int) (LO ((List Int) × Int) (JO (List Int) (List Int))))) :=
 grd ((0:Int)≤s2.2∧s2.2<((List.length x_h.Guests:Nat):Int)) (cond (decide (s4.2<(((List.length ((List.getD x_h.Guests (Int.toNat s2.2) default).Pages)):Nat):Int)))
  (Option.bind (grd ((0:Int)≤s2.2∧s2.2<((List.length x_h.Guests:Nat):Int)) (grd ((0:Int)≤s4.2∧s4.2<((List.length ((List.getD x_h.Guests (Int.toNat s2.2) default).Pages):Nat):Int)) (cond (decide ((0:Int)≤((List.getD ((List.getD x_h.Guests (Int.toNat s2.2) default).Pages) (Int.toNat s4.2) default).Frame)))
   (grd ((0:Int)≤((List.getD ((List.getD x_h.Guests (Int.toNat s2.2) default).Pages) (Int.toNat s4.2) default).Frame)∧((List.getD ((List.getD x_h.Guests (Int.toNat s2.2) default).Pages) (Int.toNat s4.2) default).Frame)<(((List.length s4.1):Nat):Int)) (grd ((0:Int)≤((List.getD ((List.getD x_h.Guests (Int.toNat s2.2) default).Pages) (Int.toNat s4.2) default).Frame)∧((List.getD ((List.getD x_h.Guests (Int.toNat s2.2) default).Pages) (Int.toNat s4.2) default).Frame)<(((List.length s4.1):Nat):Int)) (some (.go (List.set s4.1 (Int.toNat ((List.getD ((List.getD x_h.Guests (Int.toNat s2.2) default).Pages) (Int.toNat s4.2) default).Frame)) (w64 ((List.getD s4.1 (Int.toNat ((List.getD ((List.getD x_h.Guests (Int.toNat s2.2) default).Pages) (Int.toNat s4.2) default).Frame)) default)+(1:Int))))))))
   (some (.go s4.1))))) fun j5 =>
   JO.run j5 (F_spec_l4Used_j5 s4))
  (some (.ret (.go s4.1))))
noncomputable def F_spec_l4Used_l2 (x_h:DHost) (s2:(List Int) × Int):Option (LO ((List Int) × Int) (JO (List Int) (List Int))) :=
 cond (decide (s2.2<(((List.length x_h.Guests):Nat):Int)))
  (Option.bind (Option.bind (iter (F_spec_l4Used_l4 x_h s2) (s2.1,(0:Int))) LO.val) fun j3 =>
   JO.run j3 (F_spec_l4Used_j3 s2))
  (some (.ret (.go s2.1)))
noncomputable def F_spec_l4Used (x_h:DHost):Option (List Int) :=
 Option.bind (Option.bind (iter (F_spec_l4Used_l2 x_h) ((List.replicate (Int.toNat (20:Int)) (0:Int)),(0:Int))) LO.val) fun j1 =>
  JO.run j1 (F_spec_l4Used_j1)
theorem spec_l4Used_fn {x_h:DHost} {R_:(List Int)} (hh:F_spec_l4Used x_h=some R_):Fn Try.prog 163 [.agg (B_41 x_h)] (.own 3 1 (List.length R_) (fl (eI .i64) R_)):=by
 let z5:EH:=(0,some (rB41 x_h)); let z6:=(1,pp 0); let z7:EV:=(3,.sref 1 [] 0 (List.length (List.replicate (Int.toNat (20:Int)) (0:Int))) 1)
 unfold F_spec_l4Used at hh
 refine Fn.start low_spec_l4Used [0] (E:=sp 47 [(0,.agg (B_41 x_h))]) kr (v:=sw 0 R_) (Hr:=[(0,some (rI_3 R_))]) (k:=1) kr (sy [1] [0] (sp 47 [z6]) [z5] 1 (Aw.sreg [1,3] [0,1] (ys (.mk 3 1 8 [(ii 0)] (.c (ii 20))) (some 7) (op_mk (c:=(eI .i64)) (d:=(0:Int)) (k:=(20:Int)) kr dd kr ?_))))
 let q1:Root:=(rI_3 (List.replicate (Int.toNat (20:Int)) (0:Int)))
 refine yt (sp 47 [z6,z7]) [z5,(1,some q1)] 2 ?_
 obtain ⟨j1,hh,hk1⟩:=bind_some hh
 refine Aw.join (S:=(List Int)) (fun s1=>sp 47 [(3,sw 0 s1)]) (fun s1=>[(0,some (rI_3 s1))]) 1 (fun s1=>F_spec_l4Used_j1 s1=some R_) ?_ ?_
 · intro s1 hh
   unfold F_spec_l4Used_j1 at hh
   refine sy [2] [0] (sp 47 [(2,sw 0 s1)]) [(0,some (rI_3 s1))] 1 (Aw.ret ?_)
   rw [some_some hh]
   exact gives (r':=sw 0 s1) kr (Ent.list [some 0] rfl rfl (Nat.zero_le _) (rens_1 ren_sy) (hn nr_eI hs_nil))
 intro Q1 hN1 hR1 hE1
 refine sy [1,3,4] [0,1] (sp 47 [z6,z7,(4,ii 0)]) [z5,(1,some q1)] 2 (Aw.block ?_)
 obtain ⟨o2,hi2,hk2⟩:=bind_some hh
 refine Aw.iter (fun (s2:(List Int) × Int)=>sp 47 [(1,pp 0),(3,sw 1 s2.1),(4,ii s2.2)]) (fun (s2:(List Int) × Int)=>[(0,some (rB41 x_h)),(1,some (rI_3 s2.1))]) 2 hi2 (el [some 0,some 1] (rens_sp kr (rp 0 (rs (.sref 1 [] 0 (List.length (List.replicate (Int.toNat (20:Int)) (0:Int))) 1) (ri rl_n)))) (hq (rB41 x_h) (rens_same (nr_B_41 _)) (hn nr_eI hs_nil))) ?_
 intro s2 u2 Q2 hh hN2 hX2 hR2
 let z8:EH:=(1,some (rI_3 s2.1)); let z9:=(4,ii s2.2); let z1:=List.getD x_h.Guests (Int.toNat s2.2) default
 unfold F_spec_l4Used_l2 at hh
 refine Aw.seq (sy [1,3,4,12] [0,1] (sp 47 [z6,(3,sw 1 s2.1),z9,(12,bb (decide (s2.2<(((List.length x_h.Guests):Nat):Int))))]) [z5,z8] 2 ?_)
 rcases cond_sf hh with ⟨hb,hh⟩ | ⟨hb,hh⟩
 · refine cF hb (Aw.exit (then_x (hX2 _ _ _ _ _ (some_some hh) ?_)))
   intro hout
   rw [hout] at hk2
   refine blk_x ?_
   obtain rfl:=some_some hk2
   exact hN1 s2.1 _ _ _ hk1 (el [some 1] (rens_sp kr (rs (sw 1 s2.1) rl_n)) (hn nr_eI hs_nil))
 refine cT hb (Aw.xskip (fun _ _ _ hq=>then_m hq) ?_)
 obtain ⟨j3,hh,hk3⟩:=bind_some hh
 refine Aw.join (S:=(List Int)) (fun s3=>sp 47 [(1,pp 0),(3,sw 1 s3),(4,ii s2.2)]) (fun s3=>[(0,some (rB41 x_h)),(1,some (rI_3 s3))]) 2 (fun s3=>F_spec_l4Used_j3 s2 s3=some u2) ?_ ?_
 · intro s3 hh
   unfold F_spec_l4Used_j3 at hh
   exact Aw.oreg (ye (sp 47 [z6,(3,sw 1 s3),(4,ii (w64 (s2.2+(1:Int)))),(13,ii s2.2),(14,ii (w64 (s2.2+(1:Int))))]) [z5,(1,some (rI_3 s3))] 2 (hN2 (s3,(w64 (s2.2+(1:Int)))) _ _ _ (some_some hh) (el [some 0,some 1] (rens_sp kr (rp 0 (rs (sw 1 s3) (ri rl_n)))) (hq (rB41 x_h) (rens_same (nr_B_41 _)) (hn nr_eI hs_nil)))))
 intro Q3 hN3 hR3 hE3
 refine Aw.block (sy [1,3,4,5] [0,1] (sp 47 [z6,(3,sw 1 s2.1),z9,(5,ii 0)]) [z5,z8] 2 (Aw.block ?_))
 obtain ⟨o4,hi4,hk4⟩:=bind_some hh
 refine Aw.iter (fun (s4:(List Int) × Int)=>sp 47 [(1,pp 0),(3,sw 1 s4.1),(4,ii s2.2),(5,ii s4.2)]) (fun (s4:(List Int) × Int)=>[(0,some (rB41 x_h)),(1,some (rI_3 s4.1))]) 2 hi4 (el [some 0,some 1] (rens_sp kr (rp 0 (rs (sw 1 s2.1) (ri (ri rl_n))))) (hq (rB41 x_h) (rens_same (nr_B_41 _)) (hn nr_eI hs_nil))) ?_
 intro s4 u4 Q4 hh hN4 hX4 hR4
 let z10:EH:=(1,some (rI_3 s4.1)); let z11:=(23,bb (decide (s4.2<(((List.length (z1.Pages)):Nat):Int)))); let z12:=(3,sw 1 s4.1); let z13:=(5,ii s4.2); let z2:=List.getD (z1.Pages) (Int.toNat s4.2) default; let z14:=(37,bb (decide ((0:Int)≤(z2.Frame)))); let z15:=(39,ii (z2.Frame)); let z16:=(41,ii (z2.Frame)); let z17:EV:=(42,.ptr 1 [] (0+(Int.toNat (z2.Frame))*1)); let z18:EV:=(45,.ptr 1 [] (0+(Int.toNat (z2.Frame))*1)); let z19:=(6,ii (z2.Frame)); let z3:=List.getD s4.1 (Int.toNat (z2.Frame)) default; let z20:=(44,ii (w64 (z3+(1:Int)))); let z4:=List.set s4.1 (Int.toNat (z2.Frame)) (w64 (z3+(1:Int)))
 unfold F_spec_l4Used_l4 at hh
 refine Aw.seq (Aw.sreg [1,3,4,5,23] [0,1] (yj 4  (sp 47 [z6,z12,z9,z13,(15,ii s4.2),(16,.ptr 0 [] 1),(17,bo B_55 x_h.Guests),(18,ii s2.2)]) [z5,z10] 2 ?_))
 obtain ⟨hg984,hh⟩:=grd_some hh
 refine ys (.iadr 17 (.t 17) (.t 18)) (some 19) (op_iadr (kd:=.i64) (c:=B_55) (xs:=x_h.Guests) len_B_55 dd kr kr hg984 ?_)
 refine yu 1 [(19,.bptr (fl B_55 x_h.Guests) (Int.toNat s2.2*17)),(20,.bptr (fl B_55 x_h.Guests) (Int.toNat s2.2*17+14))] [z5,z10] 2 (ys (.load false 1 (.t 20)) (some 21) (op_loadb (c:=B_55) (xs:=x_h.Guests) (o:=Int.toNat s2.2*17+14) (i:=(Int.toNat s2.2)) (off:=14) (v:=bo C_52 (z1.Pages)) len_B_55 kr ltn ltn dd kr ?_))
 refine yt (sp 47 [z6,z12,z9,z13,z11]) [z5,z10] 2 ?_
 rcases cond_sf hh with ⟨hb,hh⟩ | ⟨hb,hh⟩
 · refine cF hb (Aw.exit (then_x (hX4 _ _ _ _ _ (some_some hh) ?_)))
   intro hout
   rw [hout] at hk4
   refine blk_x (blk_m ?_)
   obtain rfl:=some_some hk4
   exact hN3 s4.1 _ _ _ hk3 (el [some 0,some 1] (rens_sp kr (rp 0 (rs (sw 1 s4.1) (ri rl_n)))) (hq (rB41 x_h) (rens_same (nr_B_41 _)) (hn nr_eI hs_nil)))
 refine cT hb (Aw.xskip (fun _ _ _ hq=>then_m hq) ?_)
 obtain ⟨j5,hh,hk5⟩:=bind_some hh
 refine Aw.join (S:=(List Int)) (fun s5=>sp 47 [(1,pp 0),(3,sw 1 s5),(4,ii s2.2),(5,ii s4.2)]) (fun s5=>[(0,some (rB41 x_h)),(1,some (rI_3 s5))]) 2 (fun s5=>F_spec_l4Used_j5 s4 s5=some u4) ?_ ?_
 · intro s5 hh
   unfold F_spec_l4Used_j5 at hh
   exact Aw.oreg (ye (sp 47 [z6,(3,sw 1 s5),z9,(5,ii (w64 (s4.2+(1:Int)))),(24,ii s4.2),(25,ii (w64 (s4.2+(1:Int))))]) [z5,(1,some (rI_3 s5))] 2 (hN4 (s5,(w64 (s4.2+(1:Int)))) _ _ _ (some_some hh) (el [some 0,some 1] (rens_sp kr (rp 0 (rs (sw 1 s5) (ri (ri rl_n))))) (hq (rB41 x_h) (rens_same (nr_B_41 _)) (hn nr_eI hs_nil)))))
 intro Q5 hN5 hR5 hE5
 refine Aw.block (Aw.sreg [1,3,4,5,6] [0,1] (yj 3  (sp 47 [z6,z12,z9,z13,z11,(26,.ptr 0 [] 1),(27,bo B_55 x_h.Guests),(28,ii s2.2)]) [z5,z10] 2 ?_))
 obtain ⟨hg1003,hh⟩:=grd_some hh
 refine ys (.iadr 17 (.t 27) (.t 28)) (some 29) (op_iadr (kd:=.i64) (c:=B_55) (xs:=x_h.Guests) len_B_55 dd kr kr hg1003 ?_)
 refine yu 1 [(29,.bptr (fl B_55 x_h.Guests) (Int.toNat s2.2*17)),(30,.bptr (fl B_55 x_h.Guests) (Int.toNat s2.2*17+14))] [z5,z10] 2 (ys (.load false 1 (.t 30)) (some 31) (op_loadb (c:=B_55) (xs:=x_h.Guests) (o:=Int.toNat s2.2*17+14) (i:=(Int.toNat s2.2)) (off:=14) (v:=bo C_52 (z1.Pages)) len_B_55 kr ltn ltn dd kr ?_))
 refine yu 1 [(31,bo C_52 (z1.Pages)),(32,ii s4.2)] [z5,z10] 2 ?_
 obtain ⟨hg1004,hh⟩:=grd_some hh
 refine ys (.iadr 3 (.t 31) (.t 32)) (some 33) (op_iadr (kd:=.i64) (c:=C_52) (xs:=z1.Pages) len_C_52 dd kr kr hg1004 ?_)
 refine yu 1 [(33,.bptr (fl C_52 (z1.Pages)) (Int.toNat s4.2*3)),(34,.bptr (fl C_52 (z1.Pages)) (Int.toNat s4.2*3+0))] [z5,z10] 2 (ys (.load false 1 (.t 34)) (some 35) (op_loadb (c:=C_52) (xs:=z1.Pages) (o:=Int.toNat s4.2*3+0) (i:=(Int.toNat s4.2)) (off:=0) (v:=ii (z2.Frame)) len_C_52 kr ltn ltn dd kr ?_))
 refine yt (sp 47 [z6,z12,z9,z13,z19]) [z5,z10] 2 (sy [1,3,4,5,6,37] [0,1] (sp 47 [z6,z12,z9,z13,z19,z14]) [z5,z10] 2 ?_)
 rcases cond_sf hh with ⟨hb,hh⟩ | ⟨hb,hh⟩
 · refine cF hb (Aw.skip (blk_m ?_))
   obtain rfl:=some_some hh
   exact hN5 s4.1 _ _ _ hk5 (el [some 0,some 1] (rens_sp kr (rp 0 (rs (sw 1 s4.1) (ri (ri rl_n))))) (hq (rB41 x_h) (rens_same (nr_B_41 _)) (hn nr_eI hs_nil)))
 refine cT hb (Aw.oreg ?_)
 obtain ⟨hg1008,hh⟩:=grd_some hh
 refine yjc 5 [(0:Int)≤(z2.Frame)∧(z2.Frame)<(((List.length s4.1):Nat):Int)] (sp 47 [z6,z12,z9,z13,z19,z14,(38,sw 1 s4.1),z15,(40,sw 1 s4.1),z16,z17]) [z5,z10] 2 (.cons hg1008 .nil) (ys (.load false 1 (.t 42)) (some 43) (op_load (c:=(eI .i64)) (xs:=s4.1) (e:=3) (r:=1) (π:=[]) (o:=0+(Int.toNat (z2.Frame))*1) (i:=(Int.toNat (z2.Frame))) (off:=0) (v:=ii z3) len_eI kr kr ltn ltn dd kr ?_))
 obtain ⟨hg1007,hh⟩:=grd_some hh
 refine yjc 2 [(0:Int)≤(z2.Frame)∧(z2.Frame)<(((List.length s4.1):Nat):Int)] (sp 47 [z6,z12,z9,z13,z19,z14,(38,sw 1 s4.1),z15,(40,sw 1 s4.1),z16,z17,(43,ii z3),z20,z18]) [z5,z10] 2 (.cons hg1007 .nil) ?_
 let q2:Root:=(rI_3 z4)
 refine ys (.store 1 (.t 45) (.t 44)) none (op_store (c:=(eI .i64)) (xs:=s4.1) (e:=3) (r:=1) (π:=[]) (o:=0+(Int.toNat (z2.Frame))*1) (i:=(Int.toNat (z2.Frame))) (off:=0) (vs:=[ii (w64 (z3+(1:Int)))]) (y:=(w64 (z3+(1:Int)))) (H':=[(1,some q2),z5,z10]) len_eI kr kr kr kr ltn ltn dd kr kr ?_)
 refine ye (sp 47 [z6,z12,z9,z13,z19,z14,(38,sw 1 s4.1),z15,(40,sw 1 s4.1),z16,z17,(43,ii z3),z20,z18]) [(1,some q2),z5,z10] 2 (blk_m ?_)
 obtain rfl:=some_some hh
 exact hN5 z4 _ _ _ hk5 (el [some 0,some 1] (rens_sp kr (rp 0 (rs (sw 1 s4.1) (ri (ri rl_n))))) (hq (rB41 x_h) (rens_same (nr_B_41 _)) (hn nr_eI hs_nil)))
theorem low_spec_HostFree:LW 133 ⟨27,[(.tmp 2)],(.seq (.reg false (rg 133 0)) (.seq (.reg false (rg 133 1)) (.seq (.seq (.reg false (rg 133 2)) (.cond (.t 9) (.seq (.reg false (rg 133 3)) .ret) .skip)) (.seq (.reg false (rg 133 4)) (.seq (.seq (.reg false (rg 133 5)) (.block 0 (.loop (.seq (.seq (.reg false (rg 133 6)) (.cond (.t 14) .skip (.exit 0))) (.seq (.block 1 (.seq (.reg false (rg 133 7)) (.cond (.t 21) (.reg false (rg 133 8)) .skip))) (.reg false (rg 133 9))))))) (.seq (.reg false (rg 133 11)) .ret))))))⟩:=kr
noncomputable def F_spec_HostFree_j3  (s3:(List Int)):Option (List Int) :=
 some s3
noncomputable def F_spec_HostFree_j5 (s4:(List Int) × Int) (s5:(List Int)):Option (LO ((List Int) × Int) (JO (List Int) (List Int))) :=
 some (.next (s5,(w64 (s4.2+(1:Int)))))
noncomputable def F_spec_HostFree_l4 (v2:(List Int)) (s4:(List Int) × Int):Option (LO ((List Int) × Int) (JO (List Int) (List Int))) :=
 cond (decide (s4.2<(20:Int)))
  (Option.bind (grd ((0:Int)≤s4.2∧s4.2<(((List.length v2):Nat):Int)) (cond (decide ((List.getD v2 (Int.toNat s4.2) default)=(0:Int)))
   (grd ((List.length s4.1+List.length ([s4.2]:List Int))*8≤2 ^ 47∧List.length s4.1+List.length ([s4.2]:List Int)≤2 ^ 47) (some (.go (s4.1 ++ ([s4.2]:List Int)))))
   (some (.go s4.1)))) fun j5 =>
   JO.run j5 (F_spec_HostFree_j5 s4))
  (some (.ret (.go s4.1)))
noncomputable def F_spec_HostFree (x_h:DHost):Option (List Int) :=
 Option.bind (F_spec_HostOk x_h) fun v1 =>
 cond (!v1)
  (some ([]:List Int))
  (Option.bind (F_spec_l4Used x_h) fun v2 =>
  Option.bind (Option.bind (iter (F_spec_HostFree_l4 v2) (([]:List Int),(0:Int))) LO.val) fun j3 =>
   JO.run j3 (F_spec_HostFree_j3))
theorem spec_HostFree_fn {x_h:DHost} {R_:(List Int)} (hh:F_spec_HostFree x_h=some R_):Fn Try.prog 133 [.agg (B_41 x_h)] (.own 3 1 (List.length R_) (fl (eI .i64) R_)):=by
 let z2:EH:=(0,some (rB41 x_h)); let z3:EH:=(1,some ⟨3,[]⟩); let z4:EV:=(3,.sref 1 [] 0 0 1)
 unfold F_spec_HostFree at hh
 refine Fn.start low_spec_HostFree [0] (E:=sp 27 [(0,.agg (B_41 x_h))]) kr (v:=sw 0 R_) (Hr:=[(0,some (rI_3 R_))]) (k:=1) kr (sy [1] [0] (sp 27 [(1,pp 0)]) [z2] 1 (sy [1,3] [0,1] (sp 27 [(1,pp 0),z4]) [z2,z3] 2 (Aw.seq (Aw.sreg [1,3,9] [0,1] (yj 1  (sp 27 [(1,pp 0),z4,(7,.agg (B_41 x_h))]) [z2,z3] 2 ?_)))))
 obtain ⟨v1,hv1,hh⟩:=bind_some hh
 refine ys (.call 132 [(.t 7)]) (some 8) (op_call (r:=bb v1) (v:=bb v1) (Hr:=[]) (n':=2) (spec_HostOk_fn hv1) (clz_v (vs:=[.agg (B_41 x_h)]) kr (clz_c (clo_same (clean_agg (cl_B_41 _))) clz_n)) rfl rfl kr ?_)
 refine yt (sp 27 [(1,pp 0),z4,(9,bb (!v1))]) [z2,z3] 2 ?_
 rcases cond_some hh with ⟨hb,hh⟩ | ⟨hb,hh⟩
 · refine cT hb (sy [2] [1] (sp 27 [(2,.sref 1 [] 0 0 1)]) [z3] 2 (Aw.ret (then_r ?_)))
   rw [some_some hh]
   exact gives (r':=.sref 1 [] 0 0 1) kr (Ent.list [some 1] rfl rfl (Nat.zero_le _) (rens_1 ren_sy) (hq ⟨3,[]⟩ (rens_same rfl) hs_nil))
 refine cF hb (Aw.xskip (fun _ _ _ hq=>then_m hq) (Aw.sreg [3,4] [1,2] (yj 1  (sp 27 [(1,pp 0),z4,(9,bb (!v1)),(11,.agg (B_41 x_h))]) [z2,z3] 2 ?_)))
 obtain ⟨v2,hv2,hh⟩:=bind_some hh
 let z5:EH:=(1,some (rI_3 v2)); let z6:EH:=(2,some (rI_3 v2)); let z7:=(4,sw 1 v2)
 refine ys (.call 163 [(.t 11)]) (some 12) (op_call (r:=.own 3 1 (List.length v2) (fl (eI .i64) v2)) (v:=sw 2 v2) (Hr:=[z6]) (n':=3) (spec_l4Used_fn hv2) (clz_v (vs:=[.agg (B_41 x_h)]) kr (clz_c (clo_same (clean_agg (cl_B_41 _))) clz_n)) nrr nrr kr ?_)
 refine yt (sp 27 [z4,(4,sw 2 v2)]) [z3,z6] 3 ?_
 obtain ⟨j3,hh,hk3⟩:=bind_some hh
 refine Aw.join (S:=(List Int)) (fun s3=>sp 27 [(3,sw 0 s3)]) (fun s3=>[(0,some (rI_3 s3))]) 1 (fun s3=>F_spec_HostFree_j3 s3=some R_) ?_ ?_
 · intro s3 hh
   unfold F_spec_HostFree_j3 at hh
   refine sy [2] [0] (sp 27 [(2,sw 0 s3)]) [(0,some (rI_3 s3))] 1 (Aw.ret ?_)
   rw [some_some hh]
   exact gives (r':=sw 0 s3) kr (Ent.list [some 0] rfl rfl (Nat.zero_le _) (rens_1 ren_sy) (hn nr_eI hs_nil))
 intro Q3 hN3 hR3 hE3
 refine sy [3,4,5] [1,2] (sp 27 [z4,(4,sw 2 v2),(5,ii 0)]) [z3,z6] 3 (Aw.block ?_)
 obtain ⟨o4,hi4,hk4⟩:=bind_some hh
 refine Aw.iter (fun (s4:(List Int) × Int)=>sp 27 [(3,sw 0 s4.1),(4,sw 1 v2),(5,ii s4.2)]) (fun (s4:(List Int) × Int)=>[(0,some (rI_3 s4.1)),(1,some (rI_3 v2))]) 2 hi4 (el [some 1,some 2] (rens_sp kr (rs (.sref 1 [] 0 0 1) (rs (sw 2 v2) (ri rl_n)))) (hn nr_eI (hn nr_eI hs_nil))) ?_
 intro s4 u4 Q4 hh hN4 hX4 hR4
 let z8:EH:=(0,some (rI_3 s4.1)); let z9:=(14,bb (decide (s4.2<(20:Int)))); let z1:=List.getD v2 (Int.toNat s4.2) default; let z10:=(21,bb (decide (z1=(0:Int))))
 unfold F_spec_HostFree_l4 at hh
 refine Aw.seq (sy [3,4,5,14] [0,1] (sp 27 [(3,sw 0 s4.1),z7,(5,ii s4.2),z9]) [z8,z5] 2 ?_)
 rcases cond_sf hh with ⟨hb,hh⟩ | ⟨hb,hh⟩
 · refine cF hb (Aw.exit (then_x (hX4 _ _ _ _ _ (some_some hh) ?_)))
   intro hout
   rw [hout] at hk4
   refine blk_x ?_
   obtain rfl:=some_some hk4
   exact hN3 s4.1 _ _ _ hk3 (el [some 0] (rens_sp kr (rs (sw 0 s4.1) rl_n)) (hn nr_eI hs_nil))
 refine cT hb (Aw.xskip (fun _ _ _ hq=>then_m hq) ?_)
 obtain ⟨j5,hh,hk5⟩:=bind_some hh
 refine Aw.join (S:=(List Int)) (fun s5=>sp 27 [(3,sw 0 s5),(4,sw 1 v2),(5,ii s4.2)]) (fun s5=>[(0,some (rI_3 s5)),(1,some (rI_3 v2))]) 2 (fun s5=>F_spec_HostFree_j5 s4 s5=some u4) ?_ ?_
 · intro s5 hh
   unfold F_spec_HostFree_j5 at hh
   exact Aw.oreg (ye (sp 27 [(3,sw 0 s5),z7,(5,ii (w64 (s4.2+(1:Int)))),(15,ii s4.2),(16,ii (w64 (s4.2+(1:Int))))]) [(0,some (rI_3 s5)),z5] 2 (hN4 (s5,(w64 (s4.2+(1:Int)))) _ _ _ (some_some hh) (el [some 0,some 1] (rens_sp kr (rs (sw 0 s5) (rs (sw 1 v2) (ri rl_n)))) (hn nr_eI (hn nr_eI hs_nil)))))
 intro Q5 hN5 hR5 hE5
 refine Aw.block (Aw.sreg [3,4,5,21] [0,1] ?_)
 obtain ⟨hg60,hh⟩:=grd_some hh
 refine yjc 3 [(0:Int)≤s4.2∧s4.2<(((List.length v2):Nat):Int)] (sp 27 [(3,sw 0 s4.1),z7,(5,ii s4.2),z9,(17,sw 1 v2),(18,ii s4.2),(19,.ptr 1 [] (0+(Int.toNat s4.2)*1))]) [z8,z5] 2 (.cons hg60 .nil) (ys (.load false 1 (.t 19)) (some 20) (op_load (c:=(eI .i64)) (xs:=v2) (e:=3) (r:=1) (π:=[]) (o:=0+(Int.toNat s4.2)*1) (i:=(Int.toNat s4.2)) (off:=0) (v:=ii z1) len_eI kr kr ltn ltn dd kr ?_))
 refine yt (sp 27 [(3,sw 0 s4.1),z7,(5,ii s4.2),z10]) [z8,z5] 2 ?_
 rcases cond_sf hh with ⟨hb,hh⟩ | ⟨hb,hh⟩
 · refine cF hb (Aw.skip (blk_m ?_))
   obtain rfl:=some_some hh
   exact hN5 s4.1 _ _ _ hk5 (el [some 0,some 1] (rens_sp kr (rs (sw 0 s4.1) (rs (sw 1 v2) (ri rl_n)))) (hn nr_eI (hn nr_eI hs_nil)))
 refine cT hb (Aw.oreg (yu 3 [(22,sw 0 s4.1),(23,ii s4.2),(24,.sref 2 [] 0 1 1)] [(2,some ⟨3,[ii s4.2]⟩),z8,z5] 3 ?_))
 obtain ⟨hg59,hh⟩:=grd_some hh
 refine ys (.app 3 1 8 [(ii 0)] (.t 22) (.t 24)) (some 25) (op_app (c:=(eI .i64)) (xs:=s4.1) (ys:=([s4.2]:List Int)) (r:=0) (k:=(List.length s4.1)) (π:=[]) eqn len_eI kr kr kr hg59 ?_)
 let q1:Root:=(rI_3 (s4.1 ++ ([s4.2]:List Int)))
 refine ye (sp 27 [(3,.sref 3 [] 0 (List.length (s4.1 ++ ([s4.2]:List Int))) 1),z7,(5,ii s4.2),z10,(22,sw 0 s4.1),(23,ii s4.2),(24,.sref 2 [] 0 1 1),(25,.sref 3 [] 0 (List.length (s4.1 ++ ([s4.2]:List Int))) 1)]) [(3,some q1),(0,none),(2,some ⟨3,[ii s4.2]⟩),z8,z5] 4 (blk_m ?_)
 obtain rfl:=some_some hh
 exact hN5 (s4.1 ++ ([s4.2]:List Int)) _ _ _ hk5 (el [some 3,some 1] (rens_sp kr (rs (.sref 3 [] 0 (List.length (s4.1 ++ ([s4.2]:List Int))) 1) (rs (sw 1 v2) (ri rl_n)))) (hn nr_eI (hn nr_eI hs_nil)))
end Go.Proofs.Ytbanbjdcgdmkaaa
