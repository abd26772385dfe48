/- Plain functions of the program, and that it hands back what they say. Made by program. -/
import Derived.Test.YtlikfpmbcdlnjaaWT
import Derived.Test.YtlikfpmbcdlnjaaProg
import Derived.Test.YtlikfpmbcdlnjaaWHO1
namespace Go.Proofs.Ytlikfpmbcdlnjaa
open Go.RowKit
set_option maxRecDepth 100000
set_option linter.all false
set_option maxHeartbeats 0
def Lf71_r0:List LOper:=[oo 2 (.mv (.c .nil))]
def Lf71_r1:List LOper:=[oo 6 (.bsl 3 1 0 [(ii 0)] []),om 3 6]
def Lf71_r2:List LOper:=[om 7 0,oK 8 103 [7],oH 9 8,oN 10 0]
def Lf71_r3:List LOper:=[oB 11 .lss 10 9]
def Lf71_r4:List LOper:=[om 12 10,oi 13 1 8 10,ol 14 13,om 4 12,om 5 14]
def Lf71_r5:List LOper:=[om 15 5,ob 16 .eql 15 0]
def Lf71_r6:List LOper:=[om 17 3,om 18 4,oo 19 (.bsl 3 1 1 [(ii 0)] [(0,(1,(.t 18)))]),oo 20 (.app 3 1 8 [(ii 0)] (.t 17) (.t 19)),om 3 20]
def Lf71_r7:List LOper:=[ob 21 .add 10 1,om 10 21]
def Lf71_l8:LCode:=(.seq (.reg false Lf71_r3) (.seq (.cond (.t 11) .skip (.exit 0)) (.seq (.block 1 (.seq (.reg false Lf71_r4) (.seq (.reg false Lf71_r5) (.cond (.t 16) (.reg false Lf71_r6) .skip)))) (.reg false Lf71_r7))))
def Lf71_r9:List LOper:=[om 22 3,om 2 22]
def Lf71:LFun:=⟨23,[(.tmp 2)],(.seq (.reg false Lf71_r0) (.seq (.reg false Lf71_r1) (.seq (.seq (.reg false Lf71_r2) (.block 0 (.loop Lf71_l8))) (.seq (.reg false Lf71_r9) .ret))))⟩
theorem low_impl_freeFrames:lowFun Go.Proofs.Try.prog 71=some Lf71:=by kernel_rfl
noncomputable def F_impl_freeFrames_j1  (s1:(List Int)):Option (List Int) :=
 some s1
noncomputable def F_impl_freeFrames_j4 (s3:(List Int) × Int) (s4:(List Int)):Option (LO ((List Int) × Int) (JO (List Int) (List Int))) :=
 some (.next (s4,(w64 (s3.2+(1:Int)))))
noncomputable def F_impl_freeFrames_l3 (v2:(List Int)) (s3:(List Int) × Int):Option (LO ((List Int) × Int) (JO (List Int) (List Int))) :=
 cond (decide (s3.2<(((List.length v2):Nat):Int)))
  (Option.bind (grd ((0:Int)≤s3.2∧s3.2<(((List.length v2):Nat):Int)) (cond (decide ((List.getD v2 (Int.toNat s3.2) default)=(0:Int)))
   (grd ((List.length s3.1+List.length ([s3.2]:List Int))*8≤2 ^ 47∧List.length s3.1+List.length ([s3.2]:List Int)≤2 ^ 47) (some (.go (s3.1 ++ ([s3.2]:List Int)))))
   (some (.go s3.1)))) fun j4 =>
   JO.run j4 (F_impl_freeFrames_j4 s3))
  (some (.ret (.go s3.1)))
noncomputable def F_impl_freeFrames (x_guests:List DGuest):Option (List Int) :=
 Option.bind (Option.bind (F_impl_frameTakers x_guests) fun v2 =>
  Option.bind (iter (F_impl_freeFrames_l3 v2) (([]:List Int),(0:Int))) LO.val) fun j1 =>
  JO.run j1 (F_impl_freeFrames_j1)
theorem impl_freeFrames_fn {x_guests:List DGuest} {R_:(List Int)} (hh:F_impl_freeFrames x_guests=some R_):Fn Try.prog 71 [bo B_53 x_guests] (.own 3 1 (List.length R_) (fl (eI .i64) R_)):=by
 let z2:=(0,bo B_53 x_guests); let z3:EH:=(0,some ⟨3,[]⟩); let z4:EV:=(3,.sref 0 [] 0 0 1)
 unfold F_impl_freeFrames at hh
 refine Fn.start low_impl_freeFrames [0] (E:=sp 23 [z2]) kr (v:=sw 0 R_) (Hr:=[(0,some ⟨3,(fl (eI .i64) R_)⟩)]) (k:=1) kr (sy [0] [] (sp 23 [z2]) [] 0 (sy [0,3] [0] (sp 23 [z2,z4]) [z3] 1 ?_))
 obtain ⟨j1,hh,hk1⟩:=bind_some hh
 refine Aw.join (S:=(List Int)) (fun s1=>sp 23 [(3,sw 0 s1)]) (fun s1=>[(0,some ⟨3,(fl (eI .i64) s1)⟩)]) 1 (fun s1=>F_impl_freeFrames_j1 s1=some R_) ?_ ?_
 · intro s1 hh
   unfold F_impl_freeFrames_j1 at hh
   refine sy [2] [0] (sp 23 [(2,sw 0 s1)]) [(0,some ⟨3,(fl (eI .i64) s1)⟩)] 1 (Aw.ret ?_)
   rw [some_some hh]
   exact gives (r':=sw 0 s1) kr (Ent.list [some 0] rfl rfl (Nat.zero_le _) (rens_1 ren_sy) (hn nr_eI hs_nil))
 intro Q1 hN1 hR1 hE1
 refine Aw.sreg [3,8,9,10] [0,1] (yj 1  (sp 23 [z2,z4,(7,bo B_53 x_guests)]) [z3] 1 ?_)
 obtain ⟨v2,hv2,hh⟩:=bind_some hh
 let z5:EH:=(1,some ⟨3,(fl (eI .i64) v2)⟩); let z6:=(8,sw 1 v2); let z7:=(9,ii (((List.length v2):Nat):Int))
 refine ys (.call 103 [(.t 7)]) (some 8) (op_call (r:=.own 3 1 (List.length v2) (fl (eI .i64) v2)) (v:=sw 1 v2) (Hr:=[z5]) (n':=2) (impl_frameTakers_fn hv2) (clz_v (vs:=[bo B_53 x_guests]) kr (clz_c (clo_same (clean_bor (cleans_fl cl_B_53))) clz_n)) (by simp only [AV.noRef,noRefs,Bool.and_self,noRefs_fl nr_eI]) (by simp only [AV.noBor,noBors,Bool.and_self,noBors_fl nb_eI]) kr ?_)
 refine yt (sp 23 [z4,z6,z7,(10,ii 0)]) [z3,z5] 2 (Aw.block ?_)
 obtain ⟨o3,hi3,hk3⟩:=bind_some hh
 refine Aw.iter (fun (s3:(List Int) × Int)=>sp 23 [(3,sw 0 s3.1),(8,sw 1 v2),(9,ii (((List.length v2):Nat):Int)),(10,ii s3.2)]) (fun (s3:(List Int) × Int)=>[(0,some ⟨3,(fl (eI .i64) s3.1)⟩),(1,some ⟨3,(fl (eI .i64) v2)⟩)]) 2 hi3 (el [some 0,some 1] (rens_sp kr (rs (.sref 0 [] 0 0 1) (rs (sw 1 v2) (ri (ri rl_n))))) (hn nr_eI (hn nr_eI hs_nil))) ?_
 intro s3 u3 Q3 hh hN3 hX3 hR3
 let z8:EH:=(0,some ⟨3,(fl (eI .i64) s3.1)⟩); let z9:=(10,ii s3.2); let z10:=(11,bb (decide (s3.2<(((List.length v2):Nat):Int)))); let z11:=(3,sw 0 s3.1); let z1:=List.getD v2 (Int.toNat s3.2) default; let z12:=(16,bb (decide (z1=(0:Int))))
 unfold F_impl_freeFrames_l3 at hh
 refine sy [3,8,9,10,11] [0,1] (sp 23 [z11,z6,z7,z9,z10]) [z8,z5] 2 (Aw.seq ?_)
 rcases cond_sf hh with ⟨hb,hh⟩ | ⟨hb,hh⟩
 · refine cF hb (Aw.exit (then_x (hX3 _ _ _ _ _ (some_some hh) ?_)))
   intro hout
   rw [hout] at hk3
   refine blk_x ?_
   obtain rfl:=some_some hk3
   exact hN1 s3.1 _ _ _ hk1 (el [some 0] (rens_sp kr (rs (sw 0 s3.1) rl_n)) (hn nr_eI hs_nil))
 refine cT hb (Aw.xskip (fun _ _ _ hq=>then_m hq) ?_)
 obtain ⟨j4,hh,hk4⟩:=bind_some hh
 refine Aw.join (S:=(List Int)) (fun s4=>sp 23 [(3,sw 0 s4),(8,sw 1 v2),(9,ii (((List.length v2):Nat):Int)),(10,ii s3.2)]) (fun s4=>[(0,some ⟨3,(fl (eI .i64) s4)⟩),(1,some ⟨3,(fl (eI .i64) v2)⟩)]) 2 (fun s4=>F_impl_freeFrames_j4 s3 s4=some u3) ?_ ?_
 · intro s4 hh
   unfold F_impl_freeFrames_j4 at hh
   exact Aw.oreg (ye (sp 23 [(3,sw 0 s4),z6,z7,(10,ii (w64 (s3.2+(1:Int)))),(21,ii (w64 (s3.2+(1:Int))))]) [(0,some ⟨3,(fl (eI .i64) s4)⟩),z5] 2 (hN3 (s4,(w64 (s3.2+(1:Int)))) _ _ _ (some_some hh) (el [some 0,some 1] (rens_sp kr (rs (sw 0 s4) (rs (sw 1 v2) (ri (ri rl_n))))) (hn nr_eI (hn nr_eI hs_nil)))))
 intro Q4 hN4 hR4 hE4
 refine Aw.block (Aw.sreg [3,4,5,8,9,10] [0,1] ?_)
 obtain ⟨hg60,hh⟩:=grd_some hh
 refine yjc 2 [(0:Int)≤s3.2∧s3.2<(((List.length v2):Nat):Int)] (sp 23 [z11,z6,z7,z9,z10,(12,ii s3.2),(13,.ptr 1 [] (0+(Int.toNat s3.2)*1))]) [z8,z5] 2 (.cons hg60 .nil) (ys (.load false 1 (.t 13)) (some 14) (op_load (c:=(eI .i64)) (xs:=v2) (e:=3) (r:=1) (π:=[]) (o:=0+(Int.toNat s3.2)*1) (i:=(Int.toNat s3.2)) (off:=0) (v:=ii z1) len_eI kr kr ltn ltn dd kr ?_))
 refine yt (sp 23 [z11,(4,ii s3.2),(5,ii z1),z6,z7,z9]) [z8,z5] 2 (sy [3,4,8,9,10,16] [0,1] (sp 23 [z11,(4,ii s3.2),z6,z7,z9,z12]) [z8,z5] 2 ?_)
 rcases cond_sf hh with ⟨hb,hh⟩ | ⟨hb,hh⟩
 · refine cF hb (Aw.skip (blk_m ?_))
   obtain rfl:=some_some hh
   exact hN4 s3.1 _ _ _ hk4 (el [some 0,some 1] (rens_sp kr (rs (sw 0 s3.1) (rs (sw 1 v2) (ri (ri rl_n))))) (hn nr_eI (hn nr_eI hs_nil)))
 refine cT hb (Aw.oreg (yu 3 [(17,sw 0 s3.1),(18,ii s3.2),(19,.sref 2 [] 0 1 1)] [(2,some ⟨3,[ii s3.2]⟩),z8,z5] 3 ?_))
 obtain ⟨hg59,hh⟩:=grd_some hh
 refine ys (.app 3 1 8 [(ii 0)] (.t 17) (.t 19)) (some 20) (op_app (c:=(eI .i64)) (xs:=s3.1) (ys:=([s3.2]:List Int)) (r:=0) (k:=(List.length s3.1)) (π:=[]) eqn len_eI kr kr kr hg59 ?_)
 let q1:Root:=⟨3,(fl (eI .i64) (s3.1 ++ ([s3.2]:List Int)))⟩
 refine ye (sp 23 [(3,.sref 3 [] 0 (List.length (s3.1 ++ ([s3.2]:List Int))) 1),(4,ii s3.2),z6,z7,z9,z12,(17,sw 0 s3.1),(18,ii s3.2),(19,.sref 2 [] 0 1 1),(20,.sref 3 [] 0 (List.length (s3.1 ++ ([s3.2]:List Int))) 1)]) [(3,some q1),(0,none),(2,some ⟨3,[ii s3.2]⟩),z8,z5] 4 (blk_m ?_)
 obtain rfl:=some_some hh
 exact hN4 (s3.1 ++ ([s3.2]:List Int)) _ _ _ hk4 (el [some 3,some 1] (rens_sp kr (rs (.sref 3 [] 0 (List.length (s3.1 ++ ([s3.2]:List Int))) 1) (rs (sw 1 v2) (ri (ri rl_n))))) (hn nr_eI (hn nr_eI hs_nil)))
def Lf105_r0:List LOper:=[oX 1 26 0,oo 2 (.mv (.c .nil))]
def Lf105_r1:List LOper:=[oo 7 (.mk 3 1 8 [(ii 0)] (.c (ii 20))),om 3 7]
def Lf105_r2:List LOper:=[oN 4 0]
def Lf105_r3:List LOper:=[om 8 4,oA 9 1 1,ol 10 9,oH 11 10,oB 12 .lss 8 11]
def Lf105_r4:List LOper:=[oN 5 0]
def Lf105_r5:List LOper:=[om 15 5,oA 16 1 1,ol 17 16,om 18 4,oi 19 17 17 18,oA 20 14 19,ol 21 20,oH 22 21,oB 23 .lss 15 22]
def Lf105_r6:List LOper:=[oA 26 1 1,ol 27 26,om 28 4,oi 29 17 27 28,oA 30 14 29,ol 31 30,om 32 5,oi 33 3 31 32,oA 34 0 33,ol 35 34,om 6 35]
def Lf105_r7:List LOper:=[om 36 6,ob 37 .geq 36 0]
def Lf105_r8:List LOper:=[om 38 3,om 39 6,om 40 3,om 41 6,oi 42 1 40 41,ol 43 42,ob 44 .add 43 1,oi 45 1 38 39,oS 1 45 44]
def Lf105_r9:List LOper:=[om 24 5,ob 25 .add 24 1,om 5 25]
def Lf105_l10:LCode:=(.seq (.seq (.reg false Lf105_r5) (.cond (.t 23) .skip (.exit 2))) (.seq (.block 3 (.seq (.reg false Lf105_r6) (.seq (.reg false Lf105_r7) (.cond (.t 37) (.reg false Lf105_r8) .skip)))) (.reg false Lf105_r9)))
def Lf105_r11:List LOper:=[om 13 4,ob 14 .add 13 1,om 4 14]
def Lf105_l12:LCode:=(.seq (.seq (.reg false Lf105_r3) (.cond (.t 12) .skip (.exit 0))) (.seq (.block 1 (.seq (.reg false Lf105_r4) (.block 2 (.loop Lf105_l10)))) (.reg false Lf105_r11)))
def Lf105_r13:List LOper:=[om 46 3,om 2 46]
def Lf105:LFun:=⟨47,[(.tmp 2)],(.seq (.reg false Lf105_r0) (.seq (.reg false Lf105_r1) (.seq (.seq (.reg false Lf105_r2) (.block 0 (.loop Lf105_l12))) (.seq (.reg false Lf105_r13) .ret))))⟩
theorem low_spec_l4Used:lowFun Go.Proofs.Try.prog 105=some Lf105:=by kernel_rfl
noncomputable def F_spec_l4Used_j1  (s1:(List Int)):Option (List Int) :=
 some s1
noncomputable def F_spec_l4Used_j3 (s2:(List Int) × Int) (s3:(List Int)):Option (LO ((List Int) × Int) (JO (List Int) (List Int))) :=
 some (.next (s3,(w64 (s2.2+(1:Int)))))
noncomputable def F_spec_l4Used_j5 (s4:(List Int) × Int) (s5:(List Int)):Option (LO ((List Int) × Int) (JO (List Int) (LO ((List Int) × Int) (JO (List Int) (List Int))))) :=
 some (.next (s5,(w64 (s4.2+(1:Int)))))
noncomputable def F_spec_l4Used_l4 (x_h:DHost) (s2:(List Int) × Int) (s4:(List Int) × Int):Option (LO ((List Int) × Int) (JO (List Int) (LO ((List Int) × Int) (JO (List Int) (List Int))))) :=
 grd ((0:Int)≤s2.2∧s2.2<((List.length x_h.Guests:Nat):Int)) (cond (decide (s4.2<(((List.length ((List.getD x_h.Guests (Int.toNat s2.2) default).Pages)):Nat):Int)))
  (Option.bind (grd ((0:Int)≤s2.2∧s2.2<((List.length x_h.Guests:Nat):Int)) (grd ((0:Int)≤s4.2∧s4.2<((List.length ((List.getD x_h.Guests (Int.toNat s2.2) default).Pages):Nat):Int)) (cond (decide ((0:Int)≤((List.getD ((List.getD x_h.Guests (Int.toNat s2.2) default).Pages) (Int.toNat s4.2) default).Frame)))
   (grd ((0:Int)≤((List.getD ((List.getD x_h.Guests (Int.toNat s2.2) default).Pages) (Int.toNat s4.2) default).Frame)∧((List.getD ((List.getD x_h.Guests (Int.toNat s2.2) default).Pages) (Int.toNat s4.2) default).Frame)<(((List.length s4.1):Nat):Int)) (grd ((0:Int)≤((List.getD ((List.getD x_h.Guests (Int.toNat s2.2) default).Pages) (Int.toNat s4.2) default).Frame)∧((List.getD ((List.getD x_h.Guests (Int.toNat s2.2) default).Pages) (Int.toNat s4.2) default).Frame)<(((List.length s4.1):Nat):Int)) (some (.go (List.set s4.1 (Int.toNat ((List.getD ((List.getD x_h.Guests (Int.toNat s2.2) default).Pages) (Int.toNat s4.2) default).Frame)) (w64 ((List.getD s4.1 (Int.toNat ((List.getD ((List.getD x_h.Guests (Int.toNat s2.2) default).Pages) (Int.toNat s4.2) default).Frame)) default)+(1:Int))))))))
   (some (.go s4.1))))) fun j5 =>
   JO.run j5 (F_spec_l4Used_j5 s4))
  (some (.ret (.go s4.1))))
noncomputable def F_spec_l4Used_l2 (x_h:DHost) (s2:(List Int) × Int):Option (LO ((List Int) × Int) (JO (List Int) (List Int))) :=
 cond (decide (s2.2<(((List.length x_h.Guests):Nat):Int)))
  (Option.bind (Option.bind (iter (F_spec_l4Used_l4 x_h s2) (s2.1,(0:Int))) LO.val) fun j3 =>
   JO.run j3 (F_spec_l4Used_j3 s2))
  (some (.ret (.go s2.1)))
noncomputable def F_spec_l4Used (x_h:DHost):Option (List Int) :=
 Option.bind (Option.bind (iter (F_spec_l4Used_l2 x_h) ((List.replicate (Int.toNat (20:Int)) (0:Int)),(0:Int))) LO.val) fun j1 =>
  JO.run j1 (F_spec_l4Used_j1)
theorem spec_l4Used_fn {x_h:DHost} {R_:(List Int)} (hh:F_spec_l4Used x_h=some R_):Fn Try.prog 105 [.agg (B_26 x_h)] (.own 3 1 (List.length R_) (fl (eI .i64) R_)):=by
 let z5:EH:=(0,some ⟨26,(B_26 x_h)⟩); let z6:=(1,pp 0); let z7:EV:=(3,.sref 1 [] 0 (List.length (List.replicate (Int.toNat (20:Int)) (0:Int))) 1)
 unfold F_spec_l4Used at hh
 refine Fn.start low_spec_l4Used [0] (E:=sp 47 [(0,.agg (B_26 x_h))]) kr (v:=sw 0 R_) (Hr:=[(0,some ⟨3,(fl (eI .i64) R_)⟩)]) (k:=1) kr (sy [1] [0] (sp 47 [z6]) [z5] 1 (Aw.sreg [1,3] [0,1] (ys (.mk 3 1 8 [(ii 0)] (.c (ii 20))) (some 7) (op_mk (c:=(eI .i64)) (d:=(0:Int)) (k:=(20:Int)) kr dd kr ?_))))
 let q1:Root:=⟨3,(fl (eI .i64) (List.replicate (Int.toNat (20:Int)) (0:Int)))⟩
 refine yt (sp 47 [z6,z7]) [z5,(1,some q1)] 2 ?_
 obtain ⟨j1,hh,hk1⟩:=bind_some hh
 refine Aw.join (S:=(List Int)) (fun s1=>sp 47 [(3,sw 0 s1)]) (fun s1=>[(0,some ⟨3,(fl (eI .i64) s1)⟩)]) 1 (fun s1=>F_spec_l4Used_j1 s1=some R_) ?_ ?_
 · intro s1 hh
   unfold F_spec_l4Used_j1 at hh
   refine sy [2] [0] (sp 47 [(2,sw 0 s1)]) [(0,some ⟨3,(fl (eI .i64) s1)⟩)] 1 (Aw.ret ?_)
   rw [some_some hh]
   exact gives (r':=sw 0 s1) kr (Ent.list [some 0] rfl rfl (Nat.zero_le _) (rens_1 ren_sy) (hn nr_eI hs_nil))
 intro Q1 hN1 hR1 hE1
 refine sy [1,3,4] [0,1] (sp 47 [z6,z7,(4,ii 0)]) [z5,(1,some q1)] 2 (Aw.block ?_)
 obtain ⟨o2,hi2,hk2⟩:=bind_some hh
 refine Aw.iter (fun (s2:(List Int) × Int)=>sp 47 [(1,pp 0),(3,sw 1 s2.1),(4,ii s2.2)]) (fun (s2:(List Int) × Int)=>[(0,some ⟨26,(B_26 x_h)⟩),(1,some ⟨3,(fl (eI .i64) s2.1)⟩)]) 2 hi2 (el [some 0,some 1] (rens_sp kr (rp 0 (rs (.sref 1 [] 0 (List.length (List.replicate (Int.toNat (20:Int)) (0:Int))) 1) (ri rl_n)))) (hq ⟨26,(B_26 x_h)⟩ (rens_same (nr_B_26 _)) (hn nr_eI hs_nil))) ?_
 intro s2 u2 Q2 hh hN2 hX2 hR2
 let z8:EH:=(1,some ⟨3,(fl (eI .i64) s2.1)⟩); let z9:=(4,ii s2.2); let z1:=List.getD x_h.Guests (Int.toNat s2.2) default
 unfold F_spec_l4Used_l2 at hh
 refine Aw.seq (sy [1,3,4,12] [0,1] (sp 47 [z6,(3,sw 1 s2.1),z9,(12,bb (decide (s2.2<(((List.length x_h.Guests):Nat):Int))))]) [z5,z8] 2 ?_)
 rcases cond_sf hh with ⟨hb,hh⟩ | ⟨hb,hh⟩
 · refine cF hb (Aw.exit (then_x (hX2 _ _ _ _ _ (some_some hh) ?_)))
   intro hout
   rw [hout] at hk2
   refine blk_x ?_
   obtain rfl:=some_some hk2
   exact hN1 s2.1 _ _ _ hk1 (el [some 1] (rens_sp kr (rs (sw 1 s2.1) rl_n)) (hn nr_eI hs_nil))
 refine cT hb (Aw.xskip (fun _ _ _ hq=>then_m hq) ?_)
 obtain ⟨j3,hh,hk3⟩:=bind_some hh
 refine Aw.join (S:=(List Int)) (fun s3=>sp 47 [(1,pp 0),(3,sw 1 s3),(4,ii s2.2)]) (fun s3=>[(0,some ⟨26,(B_26 x_h)⟩),(1,some ⟨3,(fl (eI .i64) s3)⟩)]) 2 (fun s3=>F_spec_l4Used_j3 s2 s3=some u2) ?_ ?_
 · intro s3 hh
   unfold F_spec_l4Used_j3 at hh
   exact Aw.oreg (ye (sp 47 [z6,(3,sw 1 s3),(4,ii (w64 (s2.2+(1:Int)))),(13,ii s2.2),(14,ii (w64 (s2.2+(1:Int))))]) [z5,(1,some ⟨3,(fl (eI .i64) s3)⟩)] 2 (hN2 (s3,(w64 (s2.2+(1:Int)))) _ _ _ (some_some hh) (el [some 0,some 1] (rens_sp kr (rp 0 (rs (sw 1 s3) (ri rl_n)))) (hq ⟨26,(B_26 x_h)⟩ (rens_same (nr_B_26 _)) (hn nr_eI hs_nil)))))
 intro Q3 hN3 hR3 hE3
 refine Aw.block (sy [1,3,4,5] [0,1] (sp 47 [z6,(3,sw 1 s2.1),z9,(5,ii 0)]) [z5,z8] 2 (Aw.block ?_))
 obtain ⟨o4,hi4,hk4⟩:=bind_some hh
 refine Aw.iter (fun (s4:(List Int) × Int)=>sp 47 [(1,pp 0),(3,sw 1 s4.1),(4,ii s2.2),(5,ii s4.2)]) (fun (s4:(List Int) × Int)=>[(0,some ⟨26,(B_26 x_h)⟩),(1,some ⟨3,(fl (eI .i64) s4.1)⟩)]) 2 hi4 (el [some 0,some 1] (rens_sp kr (rp 0 (rs (sw 1 s2.1) (ri (ri rl_n))))) (hq ⟨26,(B_26 x_h)⟩ (rens_same (nr_B_26 _)) (hn nr_eI hs_nil))) ?_
 intro s4 u4 Q4 hh hN4 hX4 hR4
 let z10:EH:=(1,some ⟨3,(fl (eI .i64) s4.1)⟩); let z11:=(23,bb (decide (s4.2<(((List.length (z1.Pages)):Nat):Int)))); let z12:=(3,sw 1 s4.1); let z13:=(5,ii s4.2); let z2:=List.getD (z1.Pages) (Int.toNat s4.2) default; let z14:=(37,bb (decide ((0:Int)≤(z2.Frame)))); let z15:=(39,ii (z2.Frame)); let z16:=(41,ii (z2.Frame)); let z17:EV:=(42,.ptr 1 [] (0+(Int.toNat (z2.Frame))*1)); let z18:EV:=(45,.ptr 1 [] (0+(Int.toNat (z2.Frame))*1)); let z19:=(6,ii (z2.Frame)); let z3:=List.getD s4.1 (Int.toNat (z2.Frame)) default; let z20:=(44,ii (w64 (z3+(1:Int)))); let z4:=List.set s4.1 (Int.toNat (z2.Frame)) (w64 (z3+(1:Int)))
 unfold F_spec_l4Used_l4 at hh
 refine Aw.seq (Aw.sreg [1,3,4,5,23] [0,1] (yj 4  (sp 47 [z6,z12,z9,z13,(15,ii s4.2),(16,.ptr 0 [] 1),(17,bo B_53 x_h.Guests),(18,ii s2.2)]) [z5,z10] 2 ?_))
 obtain ⟨hg984,hh⟩:=grd_some hh
 refine ys (.iadr 17 (.t 17) (.t 18)) (some 19) (op_iadr (kd:=.i64) (c:=B_53) (xs:=x_h.Guests) len_B_53 dd kr kr hg984 ?_)
 refine yu 1 [(19,.bptr (fl B_53 x_h.Guests) (Int.toNat s2.2*17)),(20,.bptr (fl B_53 x_h.Guests) (Int.toNat s2.2*17+14))] [z5,z10] 2 (ys (.load false 1 (.t 20)) (some 21) (op_loadb (c:=B_53) (xs:=x_h.Guests) (o:=Int.toNat s2.2*17+14) (i:=(Int.toNat s2.2)) (off:=14) (v:=bo C_50 (z1.Pages)) len_B_53 kr ltn ltn dd kr ?_))
 refine yt (sp 47 [z6,z12,z9,z13,z11]) [z5,z10] 2 ?_
 rcases cond_sf hh with ⟨hb,hh⟩ | ⟨hb,hh⟩
 · refine cF hb (Aw.exit (then_x (hX4 _ _ _ _ _ (some_some hh) ?_)))
   intro hout
   rw [hout] at hk4
   refine blk_x (blk_m ?_)
   obtain rfl:=some_some hk4
   exact hN3 s4.1 _ _ _ hk3 (el [some 0,some 1] (rens_sp kr (rp 0 (rs (sw 1 s4.1) (ri rl_n)))) (hq ⟨26,(B_26 x_h)⟩ (rens_same (nr_B_26 _)) (hn nr_eI hs_nil)))
 refine cT hb (Aw.xskip (fun _ _ _ hq=>then_m hq) ?_)
 obtain ⟨j5,hh,hk5⟩:=bind_some hh
 refine Aw.join (S:=(List Int)) (fun s5=>sp 47 [(1,pp 0),(3,sw 1 s5),(4,ii s2.2),(5,ii s4.2)]) (fun s5=>[(0,some ⟨26,(B_26 x_h)⟩),(1,some ⟨3,(fl (eI .i64) s5)⟩)]) 2 (fun s5=>F_spec_l4Used_j5 s4 s5=some u4) ?_ ?_
 · intro s5 hh
   unfold F_spec_l4Used_j5 at hh
   exact Aw.oreg (ye (sp 47 [z6,(3,sw 1 s5),z9,(5,ii (w64 (s4.2+(1:Int)))),(24,ii s4.2),(25,ii (w64 (s4.2+(1:Int))))]) [z5,(1,some ⟨3,(fl (eI .i64) s5)⟩)] 2 (hN4 (s5,(w64 (s4.2+(1:Int)))) _ _ _ (some_some hh) (el [some 0,some 1] (rens_sp kr (rp 0 (rs (sw 1 s5) (ri (ri rl_n))))) (hq ⟨26,(B_26 x_h)⟩ (rens_same (nr_B_26 _)) (hn nr_eI hs_nil)))))
 intro Q5 hN5 hR5 hE5
 refine Aw.block (Aw.sreg [1,3,4,5,6] [0,1] (yj 3  (sp 47 [z6,z12,z9,z13,z11,(26,.ptr 0 [] 1),(27,bo B_53 x_h.Guests),(28,ii s2.2)]) [z5,z10] 2 ?_))
 obtain ⟨hg1003,hh⟩:=grd_some hh
 refine ys (.iadr 17 (.t 27) (.t 28)) (some 29) (op_iadr (kd:=.i64) (c:=B_53) (xs:=x_h.Guests) len_B_53 dd kr kr hg1003 ?_)
 refine yu 1 [(29,.bptr (fl B_53 x_h.Guests) (Int.toNat s2.2*17)),(30,.bptr (fl B_53 x_h.Guests) (Int.toNat s2.2*17+14))] [z5,z10] 2 (ys (.load false 1 (.t 30)) (some 31) (op_loadb (c:=B_53) (xs:=x_h.Guests) (o:=Int.toNat s2.2*17+14) (i:=(Int.toNat s2.2)) (off:=14) (v:=bo C_50 (z1.Pages)) len_B_53 kr ltn ltn dd kr ?_))
 refine yu 1 [(31,bo C_50 (z1.Pages)),(32,ii s4.2)] [z5,z10] 2 ?_
 obtain ⟨hg1004,hh⟩:=grd_some hh
 refine ys (.iadr 3 (.t 31) (.t 32)) (some 33) (op_iadr (kd:=.i64) (c:=C_50) (xs:=z1.Pages) len_C_50 dd kr kr hg1004 ?_)
 refine yu 1 [(33,.bptr (fl C_50 (z1.Pages)) (Int.toNat s4.2*3)),(34,.bptr (fl C_50 (z1.Pages)) (Int.toNat s4.2*3+0))] [z5,z10] 2 (ys (.load false 1 (.t 34)) (some 35) (op_loadb (c:=C_50) (xs:=z1.Pages) (o:=Int.toNat s4.2*3+0) (i:=(Int.toNat s4.2)) (off:=0) (v:=ii (z2.Frame)) len_C_50 kr ltn ltn dd kr ?_))
 refine yt (sp 47 [z6,z12,z9,z13,z19]) [z5,z10] 2 (sy [1,3,4,5,6,37] [0,1] (sp 47 [z6,z12,z9,z13,z19,z14]) [z5,z10] 2 ?_)
 rcases cond_sf hh with ⟨hb,hh⟩ | ⟨hb,hh⟩
 · refine cF hb (Aw.skip (blk_m ?_))
   obtain rfl:=some_some hh
   exact hN5 s4.1 _ _ _ hk5 (el [some 0,some 1] (rens_sp kr (rp 0 (rs (sw 1 s4.1) (ri (ri rl_n))))) (hq ⟨26,(B_26 x_h)⟩ (rens_same (nr_B_26 _)) (hn nr_eI hs_nil)))
 refine cT hb (Aw.oreg ?_)
 obtain ⟨hg1008,hh⟩:=grd_some hh
 refine yjc 5 [(0:Int)≤(z2.Frame)∧(z2.Frame)<(((List.length s4.1):Nat):Int)] (sp 47 [z6,z12,z9,z13,z19,z14,(38,sw 1 s4.1),z15,(40,sw 1 s4.1),z16,z17]) [z5,z10] 2 (.cons hg1008 .nil) (ys (.load false 1 (.t 42)) (some 43) (op_load (c:=(eI .i64)) (xs:=s4.1) (e:=3) (r:=1) (π:=[]) (o:=0+(Int.toNat (z2.Frame))*1) (i:=(Int.toNat (z2.Frame))) (off:=0) (v:=ii z3) len_eI kr kr ltn ltn dd kr ?_))
 obtain ⟨hg1007,hh⟩:=grd_some hh
 refine yjc 2 [(0:Int)≤(z2.Frame)∧(z2.Frame)<(((List.length s4.1):Nat):Int)] (sp 47 [z6,z12,z9,z13,z19,z14,(38,sw 1 s4.1),z15,(40,sw 1 s4.1),z16,z17,(43,ii z3),z20,z18]) [z5,z10] 2 (.cons hg1007 .nil) ?_
 let q2:Root:=⟨3,(fl (eI .i64) z4)⟩
 refine ys (.store 1 (.t 45) (.t 44)) none (op_store (c:=(eI .i64)) (xs:=s4.1) (e:=3) (r:=1) (π:=[]) (o:=0+(Int.toNat (z2.Frame))*1) (i:=(Int.toNat (z2.Frame))) (off:=0) (vs:=[ii (w64 (z3+(1:Int)))]) (y:=(w64 (z3+(1:Int)))) (H':=[(1,some q2),z5,z10]) len_eI kr kr kr kr ltn ltn dd kr kr ?_)
 refine ye (sp 47 [z6,z12,z9,z13,z19,z14,(38,sw 1 s4.1),z15,(40,sw 1 s4.1),z16,z17,(43,ii z3),z20,z18]) [(1,some q2),z5,z10] 2 (blk_m ?_)
 obtain rfl:=some_some hh
 exact hN5 z4 _ _ _ hk5 (el [some 0,some 1] (rens_sp kr (rp 0 (rs (sw 1 s4.1) (ri (ri rl_n))))) (hq ⟨26,(B_26 x_h)⟩ (rens_same (nr_B_26 _)) (hn nr_eI hs_nil)))
def Lf62_r0:List LOper:=[oX 1 26 0,oo 2 (.mv (.c .nil))]
def Lf62_r1:List LOper:=[oo 6 (.bsl 3 1 0 [(ii 0)] []),om 3 6]
def Lf62_r2:List LOper:=[oL 7 2 1,oK 8 52 [7],oU 9 8]
def Lf62_r3:List LOper:=[om 10 3,om 2 10]
def Lf62_r4:List LOper:=[oL 11 2 1,oK 12 105 [11],om 4 12]
def Lf62_r5:List LOper:=[oN 5 0]
def Lf62_r6:List LOper:=[om 13 5,ob 14 .lss 13 20]
def Lf62_r7:List LOper:=[om 17 4,om 18 5,oi 19 1 17 18,ol 20 19,ob 21 .eql 20 0]
def Lf62_r8:List LOper:=[om 22 3,om 23 5,oo 24 (.bsl 3 1 1 [(ii 0)] [(0,(1,(.t 23)))]),oo 25 (.app 3 1 8 [(ii 0)] (.t 22) (.t 24)),om 3 25]
def Lf62_r9:List LOper:=[om 15 5,ob 16 .add 15 1,om 5 16]
def Lf62_l10:LCode:=(.seq (.seq (.reg false Lf62_r6) (.cond (.t 14) .skip (.exit 0))) (.seq (.block 1 (.seq (.reg false Lf62_r7) (.cond (.t 21) (.reg false Lf62_r8) .skip))) (.reg false Lf62_r9)))
def Lf62_r11:List LOper:=[om 26 3,om 2 26]
def Lf62:LFun:=⟨27,[(.tmp 2)],(.seq (.reg false Lf62_r0) (.seq (.reg false Lf62_r1) (.seq (.seq (.reg false Lf62_r2) (.cond (.t 9) (.seq (.reg false Lf62_r3) .ret) .skip)) (.seq (.reg false Lf62_r4) (.seq (.seq (.reg false Lf62_r5) (.block 0 (.loop Lf62_l10))) (.seq (.reg false Lf62_r11) .ret))))))⟩
theorem low_spec_HostFree:lowFun Go.Proofs.Try.prog 62=some Lf62:=by kernel_rfl
noncomputable def F_spec_HostFree_j3  (s3:(List Int)):Option (List Int) :=
 some s3
noncomputable def F_spec_HostFree_j5 (s4:(List Int) × Int) (s5:(List Int)):Option (LO ((List Int) × Int) (JO (List Int) (List Int))) :=
 some (.next (s5,(w64 (s4.2+(1:Int)))))
noncomputable def F_spec_HostFree_l4 (v2:(List Int)) (s4:(List Int) × Int):Option (LO ((List Int) × Int) (JO (List Int) (List Int))) :=
 cond (decide (s4.2<(20:Int)))
  (Option.bind (grd ((0:Int)≤s4.2∧s4.2<(((List.length v2):Nat):Int)) (cond (decide ((List.getD v2 (Int.toNat s4.2) default)=(0:Int)))
   (grd ((List.length s4.1+List.length ([s4.2]:List Int))*8≤2 ^ 47∧List.length s4.1+List.length ([s4.2]:List Int)≤2 ^ 47) (some (.go (s4.1 ++ ([s4.2]:List Int)))))
   (some (.go s4.1)))) fun j5 =>
   JO.run j5 (F_spec_HostFree_j5 s4))
  (some (.ret (.go s4.1)))
noncomputable def F_spec_HostFree (x_h:DHost):Option (List Int) :=
 Option.bind (F_spec_HostOk x_h) fun v1 =>
 cond (!v1)
  (some ([]:List Int))
  (Option.bind (F_spec_l4Used x_h) fun v2 =>
  Option.bind (Option.bind (iter (F_spec_HostFree_l4 v2) (([]:List Int),(0:Int))) LO.val) fun j3 =>
   JO.run j3 (F_spec_HostFree_j3))
theorem spec_HostFree_fn {x_h:DHost} {R_:(List Int)} (hh:F_spec_HostFree x_h=some R_):Fn Try.prog 62 [.agg (B_26 x_h)] (.own 3 1 (List.length R_) (fl (eI .i64) R_)):=by
 let z2:EH:=(0,some ⟨26,(B_26 x_h)⟩); let z3:EH:=(1,some ⟨3,[]⟩); let z4:EV:=(3,.sref 1 [] 0 0 1)
 unfold F_spec_HostFree at hh
 refine Fn.start low_spec_HostFree [0] (E:=sp 27 [(0,.agg (B_26 x_h))]) kr (v:=sw 0 R_) (Hr:=[(0,some ⟨3,(fl (eI .i64) R_)⟩)]) (k:=1) kr (sy [1] [0] (sp 27 [(1,pp 0)]) [z2] 1 (sy [1,3] [0,1] (sp 27 [(1,pp 0),z4]) [z2,z3] 2 (Aw.seq (Aw.sreg [1,3,9] [0,1] (yj 1  (sp 27 [(1,pp 0),z4,(7,.agg (B_26 x_h))]) [z2,z3] 2 ?_)))))
 obtain ⟨v1,hv1,hh⟩:=bind_some hh
 refine ys (.call 52 [(.t 7)]) (some 8) (op_call (r:=bb v1) (v:=bb v1) (Hr:=[]) (n':=2) (spec_HostOk_fn hv1) (clz_v (vs:=[.agg (B_26 x_h)]) kr (clz_c (clo_same (clean_agg (cl_B_26 _))) clz_n)) rfl rfl kr ?_)
 refine yt (sp 27 [(1,pp 0),z4,(9,bb (!v1))]) [z2,z3] 2 ?_
 rcases cond_some hh with ⟨hb,hh⟩ | ⟨hb,hh⟩
 · refine cT hb (sy [2] [1] (sp 27 [(2,.sref 1 [] 0 0 1)]) [z3] 2 (Aw.ret (then_r ?_)))
   rw [some_some hh]
   exact gives (r':=.sref 1 [] 0 0 1) kr (Ent.list [some 1] rfl rfl (Nat.zero_le _) (rens_1 ren_sy) (hq ⟨3,[]⟩ (rens_same rfl) hs_nil))
 refine cF hb (Aw.xskip (fun _ _ _ hq=>then_m hq) (Aw.sreg [3,4] [1,2] (yj 1  (sp 27 [(1,pp 0),z4,(9,bb (!v1)),(11,.agg (B_26 x_h))]) [z2,z3] 2 ?_)))
 obtain ⟨v2,hv2,hh⟩:=bind_some hh
 let z5:EH:=(1,some ⟨3,(fl (eI .i64) v2)⟩); let z6:EH:=(2,some ⟨3,(fl (eI .i64) v2)⟩); let z7:=(4,sw 1 v2)
 refine ys (.call 105 [(.t 11)]) (some 12) (op_call (r:=.own 3 1 (List.length v2) (fl (eI .i64) v2)) (v:=sw 2 v2) (Hr:=[z6]) (n':=3) (spec_l4Used_fn hv2) (clz_v (vs:=[.agg (B_26 x_h)]) kr (clz_c (clo_same (clean_agg (cl_B_26 _))) clz_n)) (by simp only [AV.noRef,noRefs,Bool.and_self,noRefs_fl nr_eI]) (by simp only [AV.noBor,noBors,Bool.and_self,noBors_fl nb_eI]) kr ?_)
 refine yt (sp 27 [z4,(4,sw 2 v2)]) [z3,z6] 3 ?_
 obtain ⟨j3,hh,hk3⟩:=bind_some hh
 refine Aw.join (S:=(List Int)) (fun s3=>sp 27 [(3,sw 0 s3)]) (fun s3=>[(0,some ⟨3,(fl (eI .i64) s3)⟩)]) 1 (fun s3=>F_spec_HostFree_j3 s3=some R_) ?_ ?_
 · intro s3 hh
   unfold F_spec_HostFree_j3 at hh
   refine sy [2] [0] (sp 27 [(2,sw 0 s3)]) [(0,some ⟨3,(fl (eI .i64) s3)⟩)] 1 (Aw.ret ?_)
   rw [some_some hh]
   exact gives (r':=sw 0 s3) kr (Ent.list [some 0] rfl rfl (Nat.zero_le _) (rens_1 ren_sy) (hn nr_eI hs_nil))
 intro Q3 hN3 hR3 hE3
 refine sy [3,4,5] [1,2] (sp 27 [z4,(4,sw 2 v2),(5,ii 0)]) [z3,z6] 3 (Aw.block ?_)
 obtain ⟨o4,hi4,hk4⟩:=bind_some hh
 refine Aw.iter (fun (s4:(List Int) × Int)=>sp 27 [(3,sw 0 s4.1),(4,sw 1 v2),(5,ii s4.2)]) (fun (s4:(List Int) × Int)=>[(0,some ⟨3,(fl (eI .i64) s4.1)⟩),(1,some ⟨3,(fl (eI .i64) v2)⟩)]) 2 hi4 (el [some 1,some 2] (rens_sp kr (rs (.sref 1 [] 0 0 1) (rs (sw 2 v2) (ri rl_n)))) (hn nr_eI (hn nr_eI hs_nil))) ?_
 intro s4 u4 Q4 hh hN4 hX4 hR4
 let z8:EH:=(0,some ⟨3,(fl (eI .i64) s4.1)⟩); let z9:=(14,bb (decide (s4.2<(20:Int)))); let z1:=List.getD v2 (Int.toNat s4.2) default; let z10:=(21,bb (decide (z1=(0:Int))))
 unfold F_spec_HostFree_l4 at hh
 refine Aw.seq (sy [3,4,5,14] [0,1] (sp 27 [(3,sw 0 s4.1),z7,(5,ii s4.2),z9]) [z8,z5] 2 ?_)
 rcases cond_sf hh with ⟨hb,hh⟩ | ⟨hb,hh⟩
 · refine cF hb (Aw.exit (then_x (hX4 _ _ _ _ _ (some_some hh) ?_)))
   intro hout
   rw [hout] at hk4
   refine blk_x ?_
   obtain rfl:=some_some hk4
   exact hN3 s4.1 _ _ _ hk3 (el [some 0] (rens_sp kr (rs (sw 0 s4.1) rl_n)) (hn nr_eI hs_nil))
 refine cT hb (Aw.xskip (fun _ _ _ hq=>then_m hq) ?_)
 obtain ⟨j5,hh,hk5⟩:=bind_some hh
 refine Aw.join (S:=(List Int)) (fun s5=>sp 27 [(3,sw 0 s5),(4,sw 1 v2),(5,ii s4.2)]) (fun s5=>[(0,some ⟨3,(fl (eI .i64) s5)⟩),(1,some ⟨3,(fl (eI .i64) v2)⟩)]) 2 (fun s5=>F_spec_HostFree_j5 s4 s5=some u4) ?_ ?_
 · intro s5 hh
   unfold F_spec_HostFree_j5 at hh
   exact Aw.oreg (ye (sp 27 [(3,sw 0 s5),z7,(5,ii (w64 (s4.2+(1:Int)))),(15,ii s4.2),(16,ii (w64 (s4.2+(1:Int))))]) [(0,some ⟨3,(fl (eI .i64) s5)⟩),z5] 2 (hN4 (s5,(w64 (s4.2+(1:Int)))) _ _ _ (some_some hh) (el [some 0,some 1] (rens_sp kr (rs (sw 0 s5) (rs (sw 1 v2) (ri rl_n)))) (hn nr_eI (hn nr_eI hs_nil)))))
 intro Q5 hN5 hR5 hE5
 refine Aw.block (Aw.sreg [3,4,5,21] [0,1] ?_)
 obtain ⟨hg60,hh⟩:=grd_some hh
 refine yjc 3 [(0:Int)≤s4.2∧s4.2<(((List.length v2):Nat):Int)] (sp 27 [(3,sw 0 s4.1),z7,(5,ii s4.2),z9,(17,sw 1 v2),(18,ii s4.2),(19,.ptr 1 [] (0+(Int.toNat s4.2)*1))]) [z8,z5] 2 (.cons hg60 .nil) (ys (.load false 1 (.t 19)) (some 20) (op_load (c:=(eI .i64)) (xs:=v2) (e:=3) (r:=1) (π:=[]) (o:=0+(Int.toNat s4.2)*1) (i:=(Int.toNat s4.2)) (off:=0) (v:=ii z1) len_eI kr kr ltn ltn dd kr ?_))
 refine yt (sp 27 [(3,sw 0 s4.1),z7,(5,ii s4.2),z10]) [z8,z5] 2 ?_
 rcases cond_sf hh with ⟨hb,hh⟩ | ⟨hb,hh⟩
 · refine cF hb (Aw.skip (blk_m ?_))
   obtain rfl:=some_some hh
   exact hN5 s4.1 _ _ _ hk5 (el [some 0,some 1] (rens_sp kr (rs (sw 0 s4.1) (rs (sw 1 v2) (ri rl_n)))) (hn nr_eI (hn nr_eI hs_nil)))
 refine cT hb (Aw.oreg (yu 3 [(22,sw 0 s4.1),(23,ii s4.2),(24,.sref 2 [] 0 1 1)] [(2,some ⟨3,[ii s4.2]⟩),z8,z5] 3 ?_))
 obtain ⟨hg59,hh⟩:=grd_some hh
 refine ys (.app 3 1 8 [(ii 0)] (.t 22) (.t 24)) (some 25) (op_app (c:=(eI .i64)) (xs:=s4.1) (ys:=([s4.2]:List Int)) (r:=0) (k:=(List.length s4.1)) (π:=[]) eqn len_eI kr kr kr hg59 ?_)
 let q1:Root:=⟨3,(fl (eI .i64) (s4.1 ++ ([s4.2]:List Int)))⟩
 refine ye (sp 27 [(3,.sref 3 [] 0 (List.length (s4.1 ++ ([s4.2]:List Int))) 1),z7,(5,ii s4.2),z10,(22,sw 0 s4.1),(23,ii s4.2),(24,.sref 2 [] 0 1 1),(25,.sref 3 [] 0 (List.length (s4.1 ++ ([s4.2]:List Int))) 1)]) [(3,some q1),(0,none),(2,some ⟨3,[ii s4.2]⟩),z8,z5] 4 (blk_m ?_)
 obtain rfl:=some_some hh
 exact hN5 (s4.1 ++ ([s4.2]:List Int)) _ _ _ hk5 (el [some 3,some 1] (rens_sp kr (rs (.sref 3 [] 0 (List.length (s4.1 ++ ([s4.2]:List Int))) 1) (rs (sw 1 v2) (ri rl_n)))) (hn nr_eI (hn nr_eI hs_nil)))
end Go.Proofs.Ytlikfpmbcdlnjaa
