/- Plain functions of the program, and that it hands back what they say. Made by program. -/
import Derived.Test.YtlikfpmbcdlnjaaWT
import Derived.Test.YtlikfpmbcdlnjaaProg
import Derived.Test.YtlikfpmbcdlnjaaWHC1
import Derived.Test.YtlikfpmbcdlnjaaWHD1
import Derived.Test.YtlikfpmbcdlnjaaWHF1
import Derived.Test.YtlikfpmbcdlnjaaWHO1
import Derived.Test.YtlikfpmbcdlnjaaWHV1
import Derived.Test.YtlikfpmbcdlnjaaWO1
namespace Go.Proofs.Ytlikfpmbcdlnjaa
open Go.RowKit
set_option maxRecDepth 100000
set_option linter.all false
set_option maxHeartbeats 0
def Lf69_r0:List LOper:=[oN 2 0]
def Lf69_r1:List LOper:=[om 5 0,oH 6 5,oN 7 0]
def Lf69_r2:List LOper:=[oB 8 .lss 7 6]
def Lf69_r3:List LOper:=[om 9 7,oi 10 17 5 7,oL 11 17 10,oo 4 (.fresh 53 zc2),om 3 9,oS 17 4 11]
def Lf69_r4:List LOper:=[oA 12 0 4,ol 13 12,oU 14 13]
def Lf69_r5:List LOper:=[om 15 3,om 2 15]
def Lf69_r6:List LOper:=[ob 16 .add 7 1,om 7 16]
def Lf69_l7:LCode:=(.seq (.reg false Lf69_r2) (.seq (.cond (.t 8) .skip (.exit 0)) (.seq (.block 1 (.seq (.reg false Lf69_r3) (.seq (.reg false Lf69_r4) (.cond (.t 14) (.seq (.reg false Lf69_r5) .ret) .skip)))) (.reg false Lf69_r6))))
def Lf69_r8:List LOper:=[oN 2 (-1)]
def Lf69:LFun:=⟨17,[(.tmp 2)],(.seq (.reg false Lf69_r0) (.seq (.seq (.reg false Lf69_r1) (.block 0 (.loop Lf69_l7))) (.seq (.reg false Lf69_r8) .ret)))⟩
theorem low_impl_firstGone:lowFun Go.Proofs.Try.prog 69=some Lf69:=by kernel_rfl
noncomputable def F_impl_firstGone_j1  (s1:Unit):Option Int :=
 some (-1:Int)
noncomputable def F_impl_firstGone_l2 (x_guests:List DGuest) (s2:Int):Option (LO Int (JO Unit Int)) :=
 cond (decide (s2<(((List.length x_guests):Nat):Int)))
  (grd ((0:Int)≤s2∧s2<((List.length x_guests:Nat):Int)) (cond (!((List.getD x_guests (Int.toNat s2) default).Live))
   (some (.ret (.out s2)))
   (some (.next (w64 (s2+(1:Int)))))))
  (some (.ret (.go ())))
noncomputable def F_impl_firstGone (x_guests:List DGuest):Option Int :=
 Option.bind (Option.bind (iter (F_impl_firstGone_l2 x_guests) (0:Int)) LO.val) fun j1 =>
  JO.run j1 (F_impl_firstGone_j1)
theorem impl_firstGone_fn {x_guests:List DGuest} {R_:Int} (hh:F_impl_firstGone x_guests=some R_):Fn Try.prog 69 [bo B_53 x_guests] (.int .i64 R_):=by
 let z2:=(5,bo B_53 x_guests); let z3:=(6,ii (((List.length x_guests):Nat):Int))
 unfold F_impl_firstGone at hh
 refine Fn.start low_impl_firstGone [0] (E:=sp 17 [(0,bo B_53 x_guests)]) kr (v:=ii R_) (Hr:=[]) (k:=0) kr (sy [0] [] (sp 17 [(0,bo B_53 x_guests)]) [] 0 ?_)
 obtain ⟨j1,hh,hk1⟩:=bind_some hh
 refine Aw.join (S:=Unit) (fun s1=>sp 17 []) (fun s1=>[]) 0 (fun s1=>F_impl_firstGone_j1 s1=some R_) ?_ ?_
 · intro s1 hh
   unfold F_impl_firstGone_j1 at hh
   exact sy [2] [] (sp 17 [(2,ii (-1))]) [] 0 (Aw.ret (gvis hh))
 intro Q1 hN1 hR1 hE1
 refine sy [5,6,7] [] (sp 17 [z2,z3,(7,ii 0)]) [] 0 (Aw.block ?_)
 obtain ⟨o2,hi2,hk2⟩:=bind_some hh
 refine Aw.iter (fun (s2:Int)=>sp 17 [(5,bo B_53 x_guests),(6,ii (((List.length x_guests):Nat):Int)),(7,ii s2)]) (fun (s2:Int)=>[]) 0 hi2 (el [] (rens_sp kr (ro nr_B_53 (ri (ri rl_n)))) hs_nil) ?_
 intro s2 u2 Q2 hh hN2 hX2 hR2
 let z4:=(8,bb (decide (s2<(((List.length x_guests):Nat):Int)))); let z1:=List.getD x_guests (Int.toNat s2) default
 unfold F_impl_firstGone_l2 at hh
 refine sy [5,6,7,8] [] (sp 17 [z2,z3,(7,ii s2),z4]) [] 0 (Aw.seq ?_)
 rcases cond_sf hh with ⟨hb,hh⟩ | ⟨hb,hh⟩
 · refine cF hb (Aw.exit (then_x (hX2 _ _ _ _ _ (some_some hh) ?_)))
   intro hout
   rw [hout] at hk2
   refine blk_x ?_
   obtain rfl:=some_some hk2
   exact hN1 () _ _ _ hk1 (el [] (rens_sp kr rl_n) hs_nil)
 refine cT hb (Aw.xskip (fun _ _ _ hq=>then_m hq) (Aw.seq (Aw.block (Aw.sreg [3,4,5,6,7] [0] (yj 1  (sp 17 [z2,z3,(7,ii s2),z4,(9,ii s2)]) [] 0 ?_)))))
 obtain ⟨hg24,hh⟩:=grd_some hh
 refine ys (.iadr 17 (.t 5) (.t 7)) (some 10) (op_iadr (kd:=.i64) (c:=B_53) (xs:=x_guests) len_B_53 dd kr kr hg24 ?_)
 refine ys (.load true 17 (.t 10)) (some 11) (op_loadbA (c:=B_53) (xs:=x_guests) (o:=Int.toNat s2*17) (i:=(Int.toNat s2)) (off:=0) (v:=.agg (B_53 z1)) len_B_53 kr ltn ltn dd kr ?_)
 refine yt (sp 17 [(3,ii s2),(4,pp 0),z2,z3,(7,ii s2)]) [(0,some ⟨53,(B_53 z1)⟩)] 1 (sy [3,5,6,7,14] [] (sp 17 [(3,ii s2),z2,z3,(7,ii s2),(14,bb (!(z1.Live)))]) [] 1 ?_)
 rcases cond_some hh with ⟨hb,hh⟩ | ⟨hb,hh⟩
 · refine cT hb (sy [2] [] (sp 17 [(2,ii s2)]) [] 1 (Aw.ret (blk_r (then_r ?_))))
   refine hR2 _ _ _ _ (some_some hh) ?_
   intro hout
   rw [hout] at hk2
   refine blk_r ?_
   obtain rfl:=some_some hk2
   refine hR1 _ _ _ ?_
   rw [some_some hk1]
   exact gvi
 exact cF hb (Aw.xskip (fun _ _ _ hq=>blk_m (then_m hq)) (Aw.oreg (ye (sp 17 [(3,ii s2),z2,z3,(7,ii (w64 (s2+(1:Int)))),(14,bb (!(z1.Live))),(16,ii (w64 (s2+(1:Int))))]) [] 1 (hN2 (w64 (s2+(1:Int))) _ _ _ (some_some hh) (el [] (rens_sp kr (ro nr_B_53 (ri (ri rl_n)))) hs_nil)))))
def Lf133_r0:List LOper:=[oF 2]
def Lf133_r1:List LOper:=[om 5 0,oH 6 5,oN 7 0]
def Lf133_r2:List LOper:=[oB 8 .lss 7 6]
def Lf133_r3:List LOper:=[oi 9 1 5 7,ol 10 9,om 4 10]
def Lf133_r4:List LOper:=[om 11 4,ob 12 .neq 11 0]
def Lf133_r5:List LOper:=[oF 2]
def Lf133_r6:List LOper:=[ob 13 .add 7 1,om 7 13]
def Lf133_l7:LCode:=(.seq (.reg false Lf133_r2) (.seq (.cond (.t 8) .skip (.exit 0)) (.seq (.block 1 (.seq (.reg false Lf133_r3) (.seq (.reg false Lf133_r4) (.cond (.t 12) (.seq (.reg false Lf133_r5) .ret) .skip)))) (.reg false Lf133_r6))))
def Lf133_r8:List LOper:=[oT 2]
def Lf133:LFun:=⟨14,[(.tmp 2)],(.seq (.reg false Lf133_r0) (.seq (.seq (.reg false Lf133_r1) (.block 0 (.loop Lf133_l7))) (.seq (.reg false Lf133_r8) .ret)))⟩
theorem low_impl_allZeros:lowFun Go.Proofs.Try.prog 133=some Lf133:=by kernel_rfl
noncomputable def F_impl_allZeros_j1  (s1:Unit):Option Bool :=
 some true
noncomputable def F_impl_allZeros_l2 (x_words:List Int) (s2:Int):Option (LO Int (JO Unit Bool)) :=
 cond (decide (s2<(((List.length x_words):Nat):Int)))
  (grd ((0:Int)≤s2∧s2<((List.length x_words:Nat):Int)) (cond (!decide ((List.getD x_words (Int.toNat s2) default)=(0:Int)))
   (some (.ret (.out false)))
   (some (.next (w64 (s2+(1:Int)))))))
  (some (.ret (.go ())))
noncomputable def F_impl_allZeros (x_words:List Int):Option Bool :=
 Option.bind (Option.bind (iter (F_impl_allZeros_l2 x_words) (0:Int)) LO.val) fun j1 =>
  JO.run j1 (F_impl_allZeros_j1)
theorem impl_allZeros_fn {x_words:List Int} {R_:Bool} (hh:F_impl_allZeros x_words=some R_):Fn Try.prog 133 [bo (eI .i64) x_words] (.bool R_):=by
 let z2:=(5,bo (eI .i64) x_words); let z3:=(6,ii (((List.length x_words):Nat):Int))
 unfold F_impl_allZeros at hh
 refine Fn.start low_impl_allZeros [0] (E:=sp 14 [(0,bo (eI .i64) x_words)]) kr (v:=bb R_) (Hr:=[]) (k:=0) kr (sy [0] [] (sp 14 [(0,bo (eI .i64) x_words)]) [] 0 ?_)
 obtain ⟨j1,hh,hk1⟩:=bind_some hh
 refine Aw.join (S:=Unit) (fun s1=>sp 14 []) (fun s1=>[]) 0 (fun s1=>F_impl_allZeros_j1 s1=some R_) ?_ ?_
 · intro s1 hh
   unfold F_impl_allZeros_j1 at hh
   exact sy [2] [] (sp 14 [(2,bb true)]) [] 0 (Aw.ret (gvbs hh))
 intro Q1 hN1 hR1 hE1
 refine sy [5,6,7] [] (sp 14 [z2,z3,(7,ii 0)]) [] 0 (Aw.block ?_)
 obtain ⟨o2,hi2,hk2⟩:=bind_some hh
 refine Aw.iter (fun (s2:Int)=>sp 14 [(5,bo (eI .i64) x_words),(6,ii (((List.length x_words):Nat):Int)),(7,ii s2)]) (fun (s2:Int)=>[]) 0 hi2 (el [] (rens_sp kr (ro nr_eI (ri (ri rl_n)))) hs_nil) ?_
 intro s2 u2 Q2 hh hN2 hX2 hR2
 let z1:=List.getD x_words (Int.toNat s2) default; let z4:=(12,bb (!decide (z1=(0:Int))))
 unfold F_impl_allZeros_l2 at hh
 refine sy [5,6,7,8] [] (sp 14 [z2,z3,(7,ii s2),(8,bb (decide (s2<(((List.length x_words):Nat):Int))))]) [] 0 (Aw.seq ?_)
 rcases cond_sf hh with ⟨hb,hh⟩ | ⟨hb,hh⟩
 · refine cF hb (Aw.exit (then_x (hX2 _ _ _ _ _ (some_some hh) ?_)))
   intro hout
   rw [hout] at hk2
   refine blk_x ?_
   obtain rfl:=some_some hk2
   exact hN1 () _ _ _ hk1 (el [] (rens_sp kr rl_n) hs_nil)
 refine cT hb (Aw.xskip (fun _ _ _ hq=>then_m hq) (Aw.seq (Aw.block (Aw.sreg [4,5,6,7] [] ?_))))
 obtain ⟨hg24,hh⟩:=grd_some hh
 refine ys (.iadr 1 (.t 5) (.t 7)) (some 9) (op_iadr (kd:=.i64) (c:=(eI .i64)) (xs:=x_words) len_eI dd kr kr hg24 ?_)
 refine ys (.load false 1 (.t 9)) (some 10) (op_loadb (c:=(eI .i64)) (xs:=x_words) (o:=Int.toNat s2*1) (i:=(Int.toNat s2)) (off:=0) (v:=ii z1) len_eI kr ltn ltn dd kr ?_)
 refine yt (sp 14 [(4,ii z1),z2,z3,(7,ii s2)]) [] 0 (sy [5,6,7,12] [] (sp 14 [z2,z3,(7,ii s2),z4]) [] 0 ?_)
 rcases cond_sf hh with ⟨hb,hh⟩ | ⟨hb,hh⟩
 · exact cF hb (Aw.xskip (fun _ _ _ hq=>blk_m (then_m hq)) (Aw.oreg (ye (sp 14 [z2,z3,(7,ii (w64 (s2+(1:Int)))),z4,(13,ii (w64 (s2+(1:Int))))]) [] 0 (hN2 (w64 (s2+(1:Int))) _ _ _ (some_some hh) (el [] (rens_sp kr (ro nr_eI (ri (ri rl_n)))) hs_nil)))))
 refine cT hb (sy [2] [] (sp 14 [(2,bb false)]) [] 0 (Aw.ret (blk_r (then_r ?_))))
 refine hR2 _ _ _ _ (some_some hh) ?_
 intro hout
 rw [hout] at hk2
 refine blk_r ?_
 obtain rfl:=some_some hk2
 refine hR1 _ _ _ ?_
 rw [some_some hk1]
 exact gvb
def Lf70_r0:List LOper:=[oo 4 (.mv (.c .nil)),oF 5]
def Lf70_r1:List LOper:=[oo 9 (.mk 50 3 16 [(ii 0),(bb false),(bb false)] (.c (ii 8))),om 6 9]
def Lf70_r2:List LOper:=[oN 7 0]
def Lf70_r3:List LOper:=[om 10 6,oH 11 10,oN 12 0]
def Lf70_r4:List LOper:=[oB 13 .lss 12 11]
def Lf70_r5:List LOper:=[om 14 12,om 8 14]
def Lf70_r6:List LOper:=[om 15 0,om 16 8,oK 17 134 [15,16],oK 18 133 [17]]
def Lf70_r7:List LOper:=[om 19 6,om 20 8,oo 21 (.bld [(ii 0),(bb false),(bb false)] [(0,(1,(.c (ii (-1)))))]),oi 22 3 19 20,oS 3 22 21]
def Lf70_r8:List LOper:=[om 23 7,om 24 1,oH 25 24,oB 26 .eql 23 25]
def Lf70_r9:List LOper:=[oo 4 (.mv (.c .nil)),oF 5]
def Lf70_r10:List LOper:=[om 27 6,om 28 8,om 29 1,om 30 7,oi 31 1 29 30,ol 32 31,oo 33 (.bld [(ii 0),(bb false),(bb false)] [(0,(1,(.t 32))),(1,(1,(.c (bb true))))]),oi 34 3 27 28,oS 3 34 33]
def Lf70_r11:List LOper:=[om 35 7,ob 36 .add 35 1,om 7 36]
def Lf70_r12:List LOper:=[ob 37 .add 12 1,om 12 37]
def Lf70_l13:LCode:=(.seq (.reg false Lf70_r4) (.seq (.cond (.t 13) .skip (.exit 0)) (.seq (.block 1 (.seq (.reg false Lf70_r5) (.seq (.seq (.reg false Lf70_r6) (.cond (.t 18) (.seq (.reg false Lf70_r7) (.exit 1)) .skip)) (.seq (.seq (.reg false Lf70_r8) (.cond (.t 26) (.seq (.reg false Lf70_r9) .ret) .skip)) (.seq (.reg false Lf70_r10) (.reg false Lf70_r11)))))) (.reg false Lf70_r12))))
def Lf70_r14:List LOper:=[om 38 6,om 4 38,oT 5]
def Lf70:LFun:=⟨39,[(.tmp 4),(.tmp 5)],(.seq (.reg false Lf70_r0) (.seq (.reg false Lf70_r1) (.seq (.reg false Lf70_r2) (.seq (.seq (.reg false Lf70_r3) (.block 0 (.loop Lf70_l13))) (.seq (.reg false Lf70_r14) .ret)))))⟩
theorem low_impl_slotsFor:lowFun Go.Proofs.Try.prog 70=some Lf70:=by kernel_rfl
noncomputable def F_impl_slotsFor_j1  (s1:(List DSlot)):Option ((List DSlot) × Bool) :=
 some (s1,true)
noncomputable def F_impl_slotsFor_j3 (s2:(List DSlot) × Int × Int) (s3:(List DSlot) × Int):Option (LO ((List DSlot) × Int × Int) (JO (List DSlot) ((List DSlot) × Bool))) :=
 some (.next (s3.1,s3.2,(w64 (s2.2.2+(1:Int)))))
noncomputable def F_impl_slotsFor_l2 (x_mem:List Int) (x_free:List Int) (s2:(List DSlot) × Int × Int):Option (LO ((List DSlot) × Int × Int) (JO (List DSlot) ((List DSlot) × Bool))) :=
 cond (decide (s2.2.2<(((List.length (List.replicate (Int.toNat (8:Int)) (DSlot.mk (0:Int) false false))):Nat):Int)))
  (Option.bind (Option.bind (F_impl_pageOf x_mem s2.2.2) fun v4 =>
   Option.bind (F_impl_allZeros v4) fun v5 =>
   cond v5
    (grd ((0:Int)≤s2.2.2∧s2.2.2<(((List.length s2.1):Nat):Int)) (some (.go ((List.set s2.1 (Int.toNat s2.2.2) (DSlot.mk (-1:Int) false false)),s2.2.1))))
    (cond (decide (s2.2.1=(((List.length x_free):Nat):Int)))
     (some (.out (.ret (.out (([]:List DSlot),false)))))
     (grd ((0:Int)≤s2.2.1∧s2.2.1<((List.length x_free:Nat):Int)) (grd ((0:Int)≤s2.2.2∧s2.2.2<(((List.length s2.1):Nat):Int)) (some (.go ((List.set s2.1 (Int.toNat s2.2.2) (DSlot.mk (List.getD x_free (Int.toNat s2.2.1) default) true false)),(w64 (s2.2.1+(1:Int)))))))))) fun j3 =>
   JO.run j3 (F_impl_slotsFor_j3 s2))
  (some (.ret (.go s2.1)))
noncomputable def F_impl_slotsFor (x_mem:List Int) (x_free:List Int):Option ((List DSlot) × Bool) :=
 Option.bind (Option.bind (iter (F_impl_slotsFor_l2 x_mem x_free) ((List.replicate (Int.toNat (8:Int)) (DSlot.mk (0:Int) false false)),(0:Int),(0:Int))) LO.val) fun j1 =>
  JO.run j1 (F_impl_slotsFor_j1)
theorem impl_slotsFor_fn {x_mem:List Int} {x_free:List Int} {R_:(List DSlot) × Bool} (hh:F_impl_slotsFor x_mem x_free=some R_):Fn Try.prog 70 [bo (eI .i64) x_mem,bo (eI .i64) x_free] (.tup [.own 50 3 (List.length R_.1) (fl C_50 R_.1),.bool R_.2]):=by
 let z6:=(0,bo (eI .i64) x_mem); let z7:=(1,bo (eI .i64) x_free); let z1:=DSlot.mk (-1:Int) false false; let z2:=DSlot.mk (0:Int) false false; let z8:=(11,ii (((List.length (List.replicate (Int.toNat (8:Int)) z2)):Nat):Int)); let z9:EV:=(6,.sref 0 [] 0 (List.length (List.replicate (Int.toNat (8:Int)) z2)) 3)
 unfold F_impl_slotsFor at hh
 refine Fn.start low_impl_slotsFor [0,1] (E:=sp 39 [z6,z7]) kr (v:=.tup [.sref 0 [] 0 (List.length R_.1) 3,bb R_.2]) (Hr:=[(0,some ⟨50,(fl C_50 R_.1)⟩)]) (k:=1) kr (sy [0,1] [] (sp 39 [z6,z7]) [] 0 (Aw.sreg [0,1,6] [0] (ys (.mk 50 3 16 [(ii 0),(bb false),(bb false)] (.c (ii 8))) (some 9) (op_mk (c:=C_50) (d:=z2) (k:=(8:Int)) kr dd kr ?_))))
 let q1:Root:=⟨50,(fl C_50 (List.replicate (Int.toNat (8:Int)) z2))⟩
 refine yt (sp 39 [z6,z7,z9]) [(0,some q1)] 1 (sy [0,1,6,7] [0] (sp 39 [z6,z7,z9,(7,ii 0)]) [(0,some q1)] 1 ?_)
 obtain ⟨j1,hh,hk1⟩:=bind_some hh
 refine Aw.join (S:=(List DSlot)) (fun s1=>sp 39 [(6,.sref 0 [] 0 (List.length s1) 3)]) (fun s1=>[(0,some ⟨50,(fl C_50 s1)⟩)]) 1 (fun s1=>F_impl_slotsFor_j1 s1=some R_) ?_ ?_
 · intro s1 hh
   unfold F_impl_slotsFor_j1 at hh
   refine sy [4,5] [0] (sp 39 [(4,.sref 0 [] 0 (List.length s1) 3),(5,bb true)]) [(0,some ⟨50,(fl C_50 s1)⟩)] 1 (Aw.ret ?_)
   rw [some_some hh]
   exact gives (r':=.tup [.sref 0 [] 0 (List.length s1) 3,bb true]) kr (Ent.list [some 0] rfl rfl (Nat.zero_le _) (rens_1 (ren_tup rz)) (hn nr_C_50 hs_nil))
 intro Q1 hN1 hR1 hE1
 refine sy [0,1,6,7,11,12] [0] (sp 39 [z6,z7,z9,(7,ii 0),z8,(12,ii 0)]) [(0,some q1)] 1 (Aw.block ?_)
 obtain ⟨o2,hi2,hk2⟩:=bind_some hh
 refine Aw.iter (fun (s2:(List DSlot) × Int × Int)=>sp 39 [(0,bo (eI .i64) x_mem),(1,bo (eI .i64) x_free),(6,.sref 0 [] 0 (List.length s2.1) 3),(7,ii s2.2.1),(11,ii (((List.length (List.replicate (Int.toNat (8:Int)) (DSlot.mk (0:Int) false false))):Nat):Int)),(12,ii s2.2.2)]) (fun (s2:(List DSlot) × Int × Int)=>[(0,some ⟨50,(fl C_50 s2.1)⟩)]) 1 hi2 (el [some 0] (rens_sp kr (ro nr_eI (ro nr_eI (rs (.sref 0 [] 0 (List.length (List.replicate (Int.toNat (8:Int)) (DSlot.mk (0:Int) false false))) 3) (ri (ri (ri rl_n))))))) (hn nr_C_50 hs_nil)) ?_
 intro s2 u2 Q2 hh hN2 hX2 hR2
 let z10:EH:=(0,some ⟨50,(fl C_50 s2.1)⟩); let z11:=(12,ii s2.2.2); let z12:=(26,bb (decide (s2.2.1=(((List.length x_free):Nat):Int)))); let z13:EV:=(27,.sref 0 [] 0 (List.length s2.1) 3); let z14:EV:=(6,.sref 0 [] 0 (List.length s2.1) 3); let z15:=(7,ii s2.2.1); let z16:=(8,ii s2.2.2); let z4:=List.set s2.1 (Int.toNat s2.2.2) z1; let z3:=List.getD x_free (Int.toNat s2.2.1) default; let z5:=List.set s2.1 (Int.toNat s2.2.2) (DSlot.mk z3 true false)
 unfold F_impl_slotsFor_l2 at hh
 refine sy [0,1,6,7,11,12,13] [0] (sp 39 [z6,z7,z14,z15,z8,z11,(13,bb (decide (s2.2.2<(((List.length (List.replicate (Int.toNat (8:Int)) z2)):Nat):Int))))]) [z10] 1 (Aw.seq ?_)
 rcases cond_sf hh with ⟨hb,hh⟩ | ⟨hb,hh⟩
 · refine cF hb (Aw.exit (then_x (hX2 _ _ _ _ _ (some_some hh) ?_)))
   intro hout
   rw [hout] at hk2
   refine blk_x ?_
   obtain rfl:=some_some hk2
   exact hN1 s2.1 _ _ _ hk1 (el [some 0] (rens_sp kr (rs (.sref 0 [] 0 (List.length s2.1) 3) rl_n)) (hn nr_C_50 hs_nil))
 refine cT hb (Aw.xskip (fun _ _ _ hq=>then_m hq) ?_)
 obtain ⟨j3,hh,hk3⟩:=bind_some hh
 refine Aw.join (S:=(List DSlot) × Int) (fun s3=>sp 39 [(0,bo (eI .i64) x_mem),(1,bo (eI .i64) x_free),(6,.sref 0 [] 0 (List.length s3.1) 3),(7,ii s3.2),(11,ii (((List.length (List.replicate (Int.toNat (8:Int)) (DSlot.mk (0:Int) false false))):Nat):Int)),(12,ii s2.2.2)]) (fun s3=>[(0,some ⟨50,(fl C_50 s3.1)⟩)]) 1 (fun s3=>F_impl_slotsFor_j3 s2 s3=some u2) ?_ ?_
 · intro s3 hh
   unfold F_impl_slotsFor_j3 at hh
   exact Aw.oreg (ye (sp 39 [z6,z7,(6,.sref 0 [] 0 (List.length s3.1) 3),(7,ii s3.2),z8,(12,ii (w64 (s2.2.2+(1:Int)))),(37,ii (w64 (s2.2.2+(1:Int))))]) [(0,some ⟨50,(fl C_50 s3.1)⟩)] 1 (hN2 (s3.1,s3.2,(w64 (s2.2.2+(1:Int)))) _ _ _ (some_some hh) (el [some 0] (rens_sp kr (ro nr_eI (ro nr_eI (rs (.sref 0 [] 0 (List.length s3.1) 3) (ri (ri (ri rl_n))))))) (hn nr_C_50 hs_nil))))
 intro Q3 hN3 hR3 hE3
 refine Aw.block (sy [0,1,6,7,8,11,12] [0] (sp 39 [z6,z7,z14,z15,z16,z8,z11]) [z10] 1 (Aw.seq (Aw.sreg [0,1,6,7,8,11,12,18] [0] (yj 2  (sp 39 [z6,z7,z14,z15,z16,z8,z11,(15,bo (eI .i64) x_mem),(16,ii s2.2.2)]) [z10] 1 ?_))))
 obtain ⟨v4,hv4,hh⟩:=bind_some hh
 refine ys (.call 134 [(.t 15),(.t 16)]) (some 17) (op_callp (r:=bo (eI .i64) v4) (v:=bo (eI .i64) v4) (Hr:=[]) (n':=1) (impl_pageOf_fn hv4) (clz_v (vs:=[bo (eI .i64) x_mem,ii s2.2.2]) kr (clz_c (clo_same (clean_bor (cleans_fl cl_eI))) (cz1 clz_n))) (by simp only [AV.noRef,noRefs,Bool.and_self,noRefs_fl nr_eI]) kr ?_)
 obtain ⟨v5,hv5,hh⟩:=bind_some hh
 refine ys (.call 133 [(.t 17)]) (some 18) (oc (impl_allZeros_fn hv5) ?_)
 refine yt (sp 39 [z6,z7,z14,z15,z16,z8,z11,(18,bb v5)]) [z10] 1 ?_
 rcases cond_some hh with ⟨hb,hh⟩ | ⟨hb,hh⟩
 · refine cT hb (Aw.sreg [0,1,6,7,11,12] [0] ?_)
   obtain ⟨hg140,hh⟩:=grd_some hh
   refine yjc 4 [(0:Int)≤s2.2.2∧s2.2.2<(((List.length s2.1):Nat):Int)] (sp 39 [z6,z7,z14,z15,z16,z8,z11,(18,bb v5),(19,.sref 0 [] 0 (List.length s2.1) 3),(20,ii s2.2.2),(21,.agg [ii (-1),bb false,bb false]),(22,.ptr 0 [] (0+(Int.toNat s2.2.2)*3))]) [z10] 1 (.cons hg140 .nil) ?_
   let q2:Root:=⟨50,(fl C_50 z4)⟩
   refine ys (.store 3 (.t 22) (.t 21)) none (op_store (c:=C_50) (xs:=s2.1) (e:=50) (r:=0) (π:=[]) (o:=0+(Int.toNat s2.2.2)*3) (i:=(Int.toNat s2.2.2)) (off:=0) (vs:=[ii (-1),bb false,bb false]) (y:=z1) (H':=[(0,some q2),z10]) len_C_50 kr kr kr kr ltn ltn dd kr kr ?_)
   refine yt (sp 39 [z6,z7,z14,z15,z8,z11]) [(0,some q2)] 1 (Aw.exit (then_x (blk_x ?_)))
   obtain rfl:=some_some hh
   exact hN3 (z4,s2.2.1) _ _ _ hk3 (el [some 0] (rens_sp kr (ro nr_eI (ro nr_eI (rs (.sref 0 [] 0 (List.length s2.1) 3) (ri (ri (ri rl_n))))))) (hn nr_C_50 hs_nil))
 refine cF hb (Aw.xskip (fun _ _ _ hq=>then_m hq) (Aw.seq (sy [0,1,6,7,8,11,12,26] [0] (sp 39 [z6,z7,z14,z15,z16,z8,z11,z12]) [z10] 1 ?_)))
 rcases cond_some hh with ⟨hb,hh⟩ | ⟨hb,hh⟩
 · refine cT hb (sy [4,5] [] (sp 39 [(4,.nil),(5,bb false)]) [] 1 (Aw.ret (then_r (blk_r ?_))))
   obtain rfl:=some_some hh
   refine hR3 _ _ _ ((hR2 _ _ _ _ (some_some hk3) ?_))
   intro hout
   rw [hout] at hk2
   refine blk_r ?_
   obtain rfl:=some_some hk2
   refine hR1 _ _ _ ?_
   rw [some_some hk1]
   exact gives (r':=.tup [.nil,bb false]) kr (Ent.list [none] rfl rfl (Nat.zero_le _) (rens_1 (ren_tup rz)) (hs_no dd rfl rfl hs_nil))
 refine cF hb (Aw.xskip (fun _ _ _ hq=>then_m hq) (Aw.sreg [0,1,6,7,11,12] [0] (yj 4  (sp 39 [z6,z7,z14,z15,z16,z8,z11,z12,z13,(28,ii s2.2.2),(29,bo (eI .i64) x_free),(30,ii s2.2.1)]) [z10] 1 ?_)))
 obtain ⟨hg143,hh⟩:=grd_some hh
 refine ys (.iadr 1 (.t 29) (.t 30)) (some 31) (op_iadr (kd:=.i64) (c:=(eI .i64)) (xs:=x_free) len_eI dd kr kr hg143 ?_)
 refine ys (.load false 1 (.t 31)) (some 32) (op_loadb (c:=(eI .i64)) (xs:=x_free) (o:=Int.toNat s2.2.1*1) (i:=(Int.toNat s2.2.1)) (off:=0) (v:=ii z3) len_eI kr ltn ltn dd kr ?_)
 obtain ⟨hg144,hh⟩:=grd_some hh
 refine yjc 2 [(0:Int)≤s2.2.2∧s2.2.2<(((List.length s2.1):Nat):Int)] (sp 39 [z6,z7,z14,z15,z16,z8,z11,z12,z13,(28,ii s2.2.2),(29,bo (eI .i64) x_free),(30,ii s2.2.1),(31,.bptr (fl (eI .i64) x_free) (Int.toNat s2.2.1*1)),(32,ii z3),(33,.agg [ii z3,bb true,bb false]),(34,.ptr 0 [] (0+(Int.toNat s2.2.2)*3))]) [z10] 1 (.cons hg144 .nil) ?_
 let q3:Root:=⟨50,(fl C_50 z5)⟩
 refine ys (.store 3 (.t 34) (.t 33)) none (op_store (c:=C_50) (xs:=s2.1) (e:=50) (r:=0) (π:=[]) (o:=0+(Int.toNat s2.2.2)*3) (i:=(Int.toNat s2.2.2)) (off:=0) (vs:=[ii z3,bb true,bb false]) (y:=(DSlot.mk z3 true false)) (H':=[(0,some q3),z10]) len_C_50 kr kr kr kr ltn ltn dd kr kr ?_)
 refine yt (sp 39 [z6,z7,z14,z15,z8,z11]) [(0,some q3)] 1 (Aw.oreg (ye (sp 39 [z6,z7,z14,(7,ii (w64 (s2.2.1+(1:Int)))),z8,z11,(35,ii s2.2.1),(36,ii (w64 (s2.2.1+(1:Int))))]) [(0,some q3)] 1 (blk_m ?_)))
 obtain rfl:=some_some hh
 exact hN3 (z5,(w64 (s2.2.1+(1:Int)))) _ _ _ hk3 (el [some 0] (rens_sp kr (ro nr_eI (ro nr_eI (rs (.sref 0 [] 0 (List.length s2.1) 3) (ri (ri (ri rl_n))))))) (hn nr_C_50 hs_nil))
def Lf73_r0:List LOper:=[oo 6 (.mv (.c .nil))]
def Lf73_r1:List LOper:=[om 10 0,oK 11 124 [10],om 7 11]
def Lf73_r2:List LOper:=[om 12 1,oH 13 12,oN 14 0]
def Lf73_r3:List LOper:=[oB 15 .lss 14 13]
def Lf73_r4:List LOper:=[om 16 14,oi 17 3 12 14,oL 18 3 17,oo 9 (.fresh 50 [(ii 0),(bb false),(bb false)]),om 8 16,oS 3 9 18]
def Lf73_r5:List LOper:=[oA 19 0 9,ol 20 19,ob 21 .neq 20 (-1)]
def Lf73_r6:List LOper:=[om 22 7,oA 23 0 9,ol 24 23,oK 25 134 [22,24],om 26 2,om 27 8,oK 28 134 [26,27],oo 29 (.cpy 1 (.t 25) (.t 28))]
def Lf73_r7:List LOper:=[ob 30 .add 14 1,om 14 30]
def Lf73_l8:LCode:=(.seq (.reg false Lf73_r3) (.seq (.cond (.t 15) .skip (.exit 0)) (.seq (.block 1 (.seq (.reg false Lf73_r4) (.seq (.reg false Lf73_r5) (.cond (.t 21) (.reg false Lf73_r6) .skip)))) (.reg false Lf73_r7))))
def Lf73_r9:List LOper:=[om 31 7,om 6 31]
def Lf73:LFun:=⟨32,[(.tmp 6)],(.seq (.reg false Lf73_r0) (.seq (.reg false Lf73_r1) (.seq (.seq (.reg false Lf73_r2) (.block 0 (.loop Lf73_l8))) (.seq (.reg false Lf73_r9) .ret))))⟩
theorem low_impl_withPages:lowFun Go.Proofs.Try.prog 73=some Lf73:=by kernel_rfl
noncomputable def F_impl_withPages_j2  (s2:(List Int)):Option (List Int) :=
 some s2
noncomputable def F_impl_withPages_j4 (s3:(List Int) × Int) (s4:(List Int)):Option (LO ((List Int) × Int) (JO (List Int) (List Int))) :=
 some (.next (s4,(w64 (s3.2+(1:Int)))))
noncomputable def F_impl_withPages_l3 (x_pages:List DSlot) (x_mem:List Int) (s3:(List Int) × Int):Option (LO ((List Int) × Int) (JO (List Int) (List Int))) :=
 cond (decide (s3.2<(((List.length x_pages):Nat):Int)))
  (Option.bind (grd ((0:Int)≤s3.2∧s3.2<((List.length x_pages:Nat):Int)) (cond (!decide (((List.getD x_pages (Int.toNat s3.2) default).Frame)=(-1:Int)))
   (Option.bind (F_impl_pageOf_p s3.1 ((List.getD x_pages (Int.toNat s3.2) default).Frame)) fun v5 =>
   grd (List.length v5.1=(List.length s3.1)) (grd (v5.2.1+v5.2.2≤List.length v5.1) (Option.bind (F_impl_pageOf x_mem s3.2) fun v6 =>
    some (.go (over v5.1 v5.2.1 v5.2.2 v6)))))
   (some (.go s3.1)))) fun j4 =>
   JO.run j4 (F_impl_withPages_j4 s3))
  (some (.ret (.go s3.1)))
noncomputable def F_impl_withPages (x_words:List Int) (x_pages:List DSlot) (x_mem:List Int):Option (List Int) :=
 Option.bind (F_impl_copied x_words) fun v1 =>
 Option.bind (Option.bind (iter (F_impl_withPages_l3 x_pages x_mem) (v1,(0:Int))) LO.val) fun j2 =>
  JO.run j2 (F_impl_withPages_j2)
theorem impl_withPages_fn {x_words:List Int} {x_pages:List DSlot} {x_mem:List Int} {R_:(List Int)} (hh:F_impl_withPages x_words x_pages x_mem=some R_):Fn Try.prog 73 [bo (eI .i64) x_words,bo C_50 x_pages,bo (eI .i64) x_mem] (.own 3 1 (List.length R_) (fl (eI .i64) R_)):=by
 let z2:=(1,bo C_50 x_pages); let z3:=(12,bo C_50 x_pages); let z4:=(13,ii (((List.length x_pages):Nat):Int)); let z5:=(2,bo (eI .i64) x_mem)
 unfold F_impl_withPages at hh
 refine Fn.start low_impl_withPages [0,1,2] (E:=sp 32 [(0,bo (eI .i64) x_words),z2,z5]) kr (v:=sw 0 R_) (Hr:=[(0,some ⟨3,(fl (eI .i64) R_)⟩)]) (k:=1) kr (sy [0,1,2] [] (sp 32 [(0,bo (eI .i64) x_words),z2,z5]) [] 0 (Aw.sreg [1,2,7] [0] (yu 1 [(10,bo (eI .i64) x_words)] [] 0 ?_)))
 obtain ⟨v1,hv1,hh⟩:=bind_some hh
 let z6:EH:=(0,some ⟨3,(fl (eI .i64) v1)⟩)
 refine ys (.call 124 [(.t 10)]) (some 11) (op_call (r:=.own 3 1 (List.length v1) (fl (eI .i64) v1)) (v:=sw 0 v1) (Hr:=[z6]) (n':=1) (impl_copied_fn hv1) (clz_v (vs:=[bo (eI .i64) x_words]) kr (clz_c (clo_same (clean_bor (cleans_fl cl_eI))) clz_n)) (by simp only [AV.noRef,noRefs,Bool.and_self,noRefs_fl nr_eI]) (by simp only [AV.noBor,noBors,Bool.and_self,noBors_fl nb_eI]) kr ?_)
 refine yt (sp 32 [z2,z5,(7,sw 0 v1)]) [z6] 1 ?_
 obtain ⟨j2,hh,hk2⟩:=bind_some hh
 refine Aw.join (S:=(List Int)) (fun s2=>sp 32 [(7,sw 0 s2)]) (fun s2=>[(0,some ⟨3,(fl (eI .i64) s2)⟩)]) 1 (fun s2=>F_impl_withPages_j2 s2=some R_) ?_ ?_
 · intro s2 hh
   unfold F_impl_withPages_j2 at hh
   refine sy [6] [0] (sp 32 [(6,sw 0 s2)]) [(0,some ⟨3,(fl (eI .i64) s2)⟩)] 1 (Aw.ret ?_)
   rw [some_some hh]
   exact gives (r':=sw 0 s2) kr (Ent.list [some 0] rfl rfl (Nat.zero_le _) (rens_1 ren_sy) (hn nr_eI hs_nil))
 intro Q2 hN2 hR2 hE2
 refine sy [2,7,12,13,14] [0] (sp 32 [z5,(7,sw 0 v1),z3,z4,(14,ii 0)]) [z6] 1 (Aw.block ?_)
 obtain ⟨o3,hi3,hk3⟩:=bind_some hh
 refine Aw.iter (fun (s3:(List Int) × Int)=>sp 32 [(2,bo (eI .i64) x_mem),(7,sw 0 s3.1),(12,bo C_50 x_pages),(13,ii (((List.length x_pages):Nat):Int)),(14,ii s3.2)]) (fun (s3:(List Int) × Int)=>[(0,some ⟨3,(fl (eI .i64) s3.1)⟩)]) 1 hi3 (el [some 0] (rens_sp kr (ro nr_eI (rs (sw 0 v1) (ro nr_C_50 (ri (ri rl_n)))))) (hn nr_eI hs_nil)) ?_
 intro s3 u3 Q3 hh hN3 hX3 hR3
 let z7:EH:=(0,some ⟨3,(fl (eI .i64) s3.1)⟩); let z8:=(14,ii s3.2); let z9:=(15,bb (decide (s3.2<(((List.length x_pages):Nat):Int)))); let z10:=(7,sw 0 s3.1); let z1:=List.getD x_pages (Int.toNat s3.2) default; let z11:=(21,bb (!decide ((z1.Frame)=(-1:Int))))
 unfold F_impl_withPages_l3 at hh
 refine sy [2,7,12,13,14,15] [0] (sp 32 [z5,z10,z3,z4,z8,z9]) [z7] 1 (Aw.seq ?_)
 rcases cond_sf hh with ⟨hb,hh⟩ | ⟨hb,hh⟩
 · refine cF hb (Aw.exit (then_x (hX3 _ _ _ _ _ (some_some hh) ?_)))
   intro hout
   rw [hout] at hk3
   refine blk_x ?_
   obtain rfl:=some_some hk3
   exact hN2 s3.1 _ _ _ hk2 (el [some 0] (rens_sp kr (rs (sw 0 s3.1) rl_n)) (hn nr_eI hs_nil))
 refine cT hb (Aw.xskip (fun _ _ _ hq=>then_m hq) ?_)
 obtain ⟨j4,hh,hk4⟩:=bind_some hh
 refine Aw.join (S:=(List Int)) (fun s4=>sp 32 [(2,bo (eI .i64) x_mem),(7,sw 0 s4),(12,bo C_50 x_pages),(13,ii (((List.length x_pages):Nat):Int)),(14,ii s3.2)]) (fun s4=>[(0,some ⟨3,(fl (eI .i64) s4)⟩)]) 1 (fun s4=>F_impl_withPages_j4 s3 s4=some u3) ?_ ?_
 · intro s4 hh
   unfold F_impl_withPages_j4 at hh
   exact Aw.oreg (ye (sp 32 [z5,(7,sw 0 s4),z3,z4,(14,ii (w64 (s3.2+(1:Int)))),(30,ii (w64 (s3.2+(1:Int))))]) [(0,some ⟨3,(fl (eI .i64) s4)⟩)] 1 (hN3 (s4,(w64 (s3.2+(1:Int)))) _ _ _ (some_some hh) (el [some 0] (rens_sp kr (ro nr_eI (rs (sw 0 s4) (ro nr_C_50 (ri (ri rl_n)))))) (hn nr_eI hs_nil))))
 intro Q4 hN4 hR4 hE4
 refine Aw.block (Aw.sreg [2,7,8,9,12,13,14] [0,1] (yj 1  (sp 32 [z5,z10,z3,z4,z8,z9,(16,ii s3.2)]) [z7] 1 ?_))
 obtain ⟨hg104,hh⟩:=grd_some hh
 refine ys (.iadr 3 (.t 12) (.t 14)) (some 17) (op_iadr (kd:=.i64) (c:=C_50) (xs:=x_pages) len_C_50 dd kr kr hg104 ?_)
 refine ys (.load true 3 (.t 17)) (some 18) (op_loadbA (c:=C_50) (xs:=x_pages) (o:=Int.toNat s3.2*3) (i:=(Int.toNat s3.2)) (off:=0) (v:=.agg [ii (z1.Frame),bb (z1.Write),bb (z1.Dirty)]) len_C_50 kr ltn ltn dd kr ?_)
 let q1:Root:=⟨50,[ii (z1.Frame),bb (z1.Write),bb (z1.Dirty)]⟩; let z12:=(1,some q1)
 refine yt (sp 32 [z5,z10,(8,ii s3.2),(9,pp 1),z3,z4,z8]) [z7,z12] 2 (sy [2,7,8,9,12,13,14,21] [0,1] (sp 32 [z5,z10,(8,ii s3.2),(9,pp 1),z3,z4,z8,z11]) [z7,z12] 2 ?_)
 rcases cond_sf hh with ⟨hb,hh⟩ | ⟨hb,hh⟩
 · refine cF hb (Aw.skip (blk_m ?_))
   obtain rfl:=some_some hh
   exact hN4 s3.1 _ _ _ hk4 (el [some 0] (rens_sp kr (ro nr_eI (rs (sw 0 s3.1) (ro nr_C_50 (ri (ri rl_n)))))) (hn nr_eI hs_nil))
 refine cT hb (Aw.oreg (yu 3 [(22,sw 0 s3.1),(23,pp 1),(24,ii (z1.Frame))] [z7,z12] 2 ?_))
 obtain ⟨v5,hv5,hh⟩:=bind_some hh
 let z13:EH:=(0,some ⟨3,(fl (eI .i64) v5.1)⟩); let z14:EV:=(25,.sref 0 [] (0+v5.2.1*1) v5.2.2 1)
 obtain ⟨hg107,hh⟩:=grd_some hh
 obtain ⟨hg108,hh⟩:=grd_some hh
 refine ys (.call 134 [(.t 22),(.t 24)]) (some 25) (op_callf (v':=.sref 0 [] (0+v5.2.1*1) v5.2.2 1) (Hp':=[z13]) (n':=2) [0] (impl_pageOf_p_fn hv5) (args':=[sw 0 s3.1,ii (z1.Frame)]) kr rfl rfl rfl rz rfl (hn nr_eI hs_nil) ren_sy rfl (hn nr_eI hs_nil) rfl ?_)
 refine yu 2 [z14,(26,bo (eI .i64) x_mem),(27,ii s3.2)] [z13,(0,none),z7,z12] 2 ?_
 obtain ⟨v6,hv6,hh⟩:=bind_some hh
 refine ys (.call 134 [(.t 26),(.t 27)]) (some 28) (op_callp (r:=bo (eI .i64) v6) (v:=bo (eI .i64) v6) (Hr:=[]) (n':=2) (impl_pageOf_fn hv6) (clz_v (vs:=[bo (eI .i64) x_mem,ii s3.2]) kr (clz_c (clo_same (clean_bor (cleans_fl cl_eI))) (cz1 clz_n))) (by simp only [AV.noRef,noRefs,Bool.and_self,noRefs_fl nr_eI]) kr ?_)
 let q2:Root:=⟨3,(fl (eI .i64) (over v5.1 v5.2.1 v5.2.2 v6))⟩
 refine ys (.cpy 1 (.t 25) (.t 28)) (some 29) (op_cpy (c:=(eI .i64)) (xs:=v5.1) (ys:=v6) (e:=3) (r:=0) (π:=[]) (o:=0+v5.2.1*1) (k:=v5.2.2) (i:=v5.2.1) (H':=[(0,some q2),z13,(0,none),z7,z12]) len_eI (rpv kr (rp_bor (c:=(eI .i64)) (xs:=v6) len_eI)) kr kr ltn ltn kr ?_)
 refine ye (sp 32 [z5,z10,(8,ii s3.2),(9,pp 1),z3,z4,z8,z11,(22,sw 0 s3.1),(23,pp 1),(24,ii (z1.Frame)),z14,(26,bo (eI .i64) x_mem),(27,ii s3.2),(28,bo (eI .i64) v6),(29,ii ((min v5.2.2 (List.length v6):Nat):Int))]) [(0,some q2),z13,(0,none),z7,z12] 2 (blk_m ?_)
 obtain rfl:=some_some hh
 exact hN4 (over v5.1 v5.2.1 v5.2.2 v6) _ _ _ hk4 (el [some 0] (rens_sp kr (ro nr_eI (rs (sw 0 s3.1) (ro nr_C_50 (ri (ri rl_n)))))) (hn nr_eI hs_nil))
def Lf18_r0:List LOper:=[oX 2 26 0,oX 3 30 1,oo 4 (.fresh 26 [.nil,.nil]),oN 5 0,oF 6]
def Lf18_r1:List LOper:=[oL 13 2 2,oK 14 23 [13],oU 15 14,om 16 15,og 17 (.load true 16 (.t 3)) 16 false,og 18 (.call 57 [(.t 17)]) 16 false,og 19 (.un .not (.t 18)) 16 false,oQ 20 16 19]
def Lf18_r2:List LOper:=[oo 21 (.bld [.nil,.nil] []),oS 2 4 21,oN 5 (-1),oF 6]
def Lf18_r3:List LOper:=[oA 22 1 2,ol 23 22,oK 24 69 [23],om 7 24]
def Lf18_r4:List LOper:=[oA 26 13 3,ol 27 26,oA 28 1 2,ol 29 28,oK 30 71 [29],oK 31 70 [27,30],om 25 31,oE 32 25 0,oE 33 25 1,om 8 32]
def Lf18_r4t:List LOper:=[om 9 33]
def Lf18_r6:List LOper:=[om 34 7,ob 35 .eql 34 (-1),om 36 35,og 37 (.mv (.t 9)) 36 false,og 38 (.un .not (.t 37)) 36 false,oQ 39 36 38]
def Lf18_r7:List LOper:=[oo 40 (.bld [.nil,.nil] []),oS 2 4 40,oN 5 (-1),oF 6]
def Lf18_r8:List LOper:=[oL 41 16 3,oK 42 72 [41],oo 10 (.fresh 30 zc1),oS 16 10 42]
def Lf18_r9:List LOper:=[oA 43 0 10,oL 44 13 43,om 45 8,oA 46 14 10,ol 47 46,oA 48 15 10,ol 49 48,oo 50 (.bld zc2 [(0,(1,(.c (bb true)))),(1,(13,(.t 44))),(14,(1,(.t 45))),(15,(1,(.t 47))),(16,(1,(.t 49)))]),oo 11 (.fresh 53 zc2),oS 17 11 50]
def Lf18_r10:List LOper:=[oA 51 0 2,ol 52 51,om 53 8,oA 54 13 3,ol 55 54,oK 56 73 [52,53,55],oA 57 1 2,ol 58 57,om 59 7,oL 60 17 11,oK 61 74 [58,59,60],oo 62 (.bld [.nil,.nil] [(0,(1,(.t 56))),(1,(1,(.t 61)))]),oo 12 (.fresh 26 [.nil,.nil])]
def Lf18_r10t:List LOper:=[oS 2 12 62]
def Lf18_r12:List LOper:=[oL 63 2 12,om 64 7,oS 2 4 63,om 5 64,oT 6]
def Lf18:LFun:=⟨65,[(.cell 4 true 2),(.tmp 5),(.tmp 6)],(.seq (.reg false Lf18_r0) (.seq (.seq (.reg false Lf18_r1) (.cond (.t 20) (.seq (.reg false Lf18_r2) .ret) .skip)) (.seq (.reg false Lf18_r3) (.seq (.regd Lf18_r4 Lf18_r4t) (.seq (.seq (.reg false Lf18_r6) (.cond (.t 39) (.seq (.reg false Lf18_r7) .ret) .skip)) (.seq (.reg false Lf18_r8) (.seq (.reg false Lf18_r9) (.seq (.regd Lf18_r10 Lf18_r10t) (.seq (.reg false Lf18_r12) .ret)))))))))⟩
theorem low_impl_HostBoot:lowFun Go.Proofs.Try.prog 18=some Lf18:=by kernel_rfl
noncomputable def F_impl_HostBoot (x_h:DHost) (x_b:DBare):Option (DHost × Int × Bool) :=
 Option.bind (F_impl_HostOk x_h) fun v1 =>
 cond (!v1)
  (some ((DHost.mk ([]:List Int) ([]:List DGuest)),(-1:Int),false))
  (Option.bind (F_impl_BareOk x_b) fun v2 =>
  cond (!v2)
   (some ((DHost.mk ([]:List Int) ([]:List DGuest)),(-1:Int),false))
   (Option.bind (F_impl_firstGone x_h.Guests) fun v3 =>
   Option.bind (F_impl_freeFrames x_h.Guests) fun v4 =>
   Option.bind (F_impl_slotsFor x_b.Mem v4) fun v5 =>
   cond (decide (v3=(-1:Int)))
    (some ((DHost.mk ([]:List Int) ([]:List DGuest)),(-1:Int),false))
    (cond (!v5.2)
     (some ((DHost.mk ([]:List Int) ([]:List DGuest)),(-1:Int),false))
     (Option.bind (F_impl_copiedBare x_b) fun v6 =>
     Option.bind (F_impl_withPages x_h.Words v5.1 x_b.Mem) fun v7 =>
     Option.bind (F_impl_withGuest x_h.Guests v3 (DGuest.mk true v6.C v5.1 v6.In v6.Out)) fun v8 =>
     some ((DHost.mk v7 v8),v3,true)))))
theorem impl_HostBoot_fn {x_h:DHost} {x_b:DBare} {R_:DHost × Int × Bool} (hh:F_impl_HostBoot x_h x_b=some R_):Fn Try.prog 18 [.agg (B_26 x_h),.agg (B_30 x_b)] (.tup [.agg [.own 3 1 (List.length R_.1.Words) (fl (eI .i64) R_.1.Words),.own 53 17 (List.length R_.1.Guests) (fl O_53 R_.1.Guests)],.int .i64 R_.2.1,.bool R_.2.2]):=by
 let z1:EH:=(0,some ⟨26,(B_26 x_h)⟩); let z2:EH:=(1,some ⟨30,(B_30 x_b)⟩); let z3:=(2,pp 0); let z4:EH:=(2,some ⟨26,[.nil,.nil]⟩); let z5:=(3,pp 1); let z6:=(4,pp 2); let z7:=(5,ii (-1)); let z8:=(52,bo (eI .i64) x_h.Words); let z9:=(55,bo (eI .i64) x_b.Mem); let z10:=(6,bb false)
 unfold F_impl_HostBoot at hh
 refine Fn.start low_impl_HostBoot [0,1] (E:=sp 65 [(0,.agg (B_26 x_h)),(1,.agg (B_30 x_b))]) kr (v:=.tup [.agg [sw 0 R_.1.Words,.sref 1 [] 0 (List.length R_.1.Guests) 17],ii R_.2.1,bb R_.2.2]) (Hr:=[(1,some ⟨53,(fl O_53 R_.1.Guests)⟩),(0,some ⟨3,(fl (eI .i64) R_.1.Words)⟩)]) (k:=2) kr (sy [2,3,4] [0,1,2] (sp 65 [z3,z5,z6]) [z1,z2,z4] 3 (Aw.seq (Aw.sreg [2,3,4,20] [0,1,2] (yj 1  (sp 65 [z3,z5,z6,(13,.agg (B_26 x_h))]) [z1,z2,z4] 3 ?_))))
 obtain ⟨v1,hv1,hh⟩:=bind_some hh
 refine ys (.call 23 [(.t 13)]) (some 14) (op_call (r:=bb v1) (v:=bb v1) (Hr:=[]) (n':=3) (impl_HostOk_fn hv1) (clz_v (vs:=[.agg (B_26 x_h)]) kr (clz_c (clo_same (clean_agg (cl_B_26 _))) clz_n)) rfl rfl kr ?_)
 refine yu 2 [(14,bb v1),(15,bb (!v1)),(16,bb (!v1))] [z1,z2,z4] 3 ?_
 rcases cond_some hh with ⟨hb,hh⟩ | ⟨hb,hh⟩
 · refine yb 15 hb (yb 16 hb (yt (sp 65 [z3,z5,z6,(20,bb true)]) [z1,z2,z4] 3 (cT rfl (sy [4,5,6] [2] (sp 65 [z6,z7,z10]) [z4] 3 (Aw.ret (then_r ?_))))))
   rw [some_some hh]
   exact gives (r':=.tup [.agg [.nil,.nil],ii (-1),bb false]) kr (Ent.list [none,none] rfl rfl (Nat.zero_le _) (rens_1 (ren_tup rz)) (hs_no dd rfl rfl (hs_no dd rfl rfl hs_nil)))
 refine yb 15 hb (yb 16 hb (yu 1 [(15,bb false),(16,bb false),(17,.agg (B_30 x_b))] [z1,z2,z4] 3 ?_))
 obtain ⟨v2,hv2,hh⟩:=bind_some hh
 refine yg (.call 57 [(.t 17)]) (some 18) 16 false (op_call (r:=bb v2) (v:=bb v2) (Hr:=[]) (n':=3) (impl_BareOk_fn hv2) (clz_v (vs:=[.agg (B_30 x_b)]) kr (clz_c (clo_same (clean_agg (cl_B_30 _))) clz_n)) rfl rfl kr ?_)
 refine yt (sp 65 [z3,z5,z6,(20,bb (!v2))]) [z1,z2,z4] 3 ?_
 rcases cond_some hh with ⟨hb,hh⟩ | ⟨hb,hh⟩
 · refine cT hb (sy [4,5,6] [2] (sp 65 [z6,z7,z10]) [z4] 3 (Aw.ret (then_r ?_)))
   rw [some_some hh]
   exact gives (r':=.tup [.agg [.nil,.nil],ii (-1),bb false]) kr (Ent.list [none,none] rfl rfl (Nat.zero_le _) (rens_1 (ren_tup rz)) (hs_no dd rfl rfl (hs_no dd rfl rfl hs_nil)))
 refine cF hb (Aw.xskip (fun _ _ _ hq=>then_m hq) (Aw.sreg [2,3,4,7] [0,1,2] (yj 2  (sp 65 [z3,z5,z6,(20,bb (!v2)),(22,.ptr 0 [] 1),(23,bo B_53 x_h.Guests)]) [z1,z2,z4] 3 ?_)))
 obtain ⟨v3,hv3,hh⟩:=bind_some hh
 let z11:=(7,ii v3)
 refine ys (.call 69 [(.t 23)]) (some 24) (op_call (r:=ii v3) (v:=ii v3) (Hr:=[]) (n':=3) (impl_firstGone_fn hv3) (clz_v (vs:=[bo B_53 x_h.Guests]) kr (clz_c (clo_same (clean_bor (cleans_fl cl_B_53))) clz_n)) rfl rfl kr ?_)
 refine yt (sp 65 [z3,z5,z6,z11]) [z1,z2,z4] 3 (Aw.sregd [2,3,4,7,8,9] [0,1,2,4] [] kr (dc (cs:=[]) (E':=(sp 65 [z3,z5,z6,z11,(26,.ptr 1 [] 13),(27,bo (eI .i64) x_b.Mem),(28,.ptr 0 [] 1),(29,bo B_53 x_h.Guests)])) (H':=[z1,z2,z4]) (n':=3) (fs':=none) (pre:=(List.take 4 Lf18_r4)) (L':=(List.drop 4 Lf18_r4)) kr (fun K=>by kernel_rfl) .nil ?_))
 obtain ⟨v4,hv4,hh⟩:=bind_some hh
 let z12:EH:=(3,some ⟨3,(fl (eI .i64) v4)⟩)
 refine ds (.call 71 [(.t 29)]) (some 30) (ydo_n rfl (op_call (r:=.own 3 1 (List.length v4) (fl (eI .i64) v4)) (v:=sw 3 v4) (Hr:=[z12]) (n':=4) (impl_freeFrames_fn hv4) (clz_v (vs:=[bo B_53 x_h.Guests]) kr (clz_c (clo_same (clean_bor (cleans_fl cl_B_53))) clz_n)) (by simp only [AV.noRef,noRefs,Bool.and_self,noRefs_fl nr_eI]) (by simp only [AV.noBor,noBors,Bool.and_self,noBors_fl nb_eI]) kr ⟨⟨agr_name (n:=3) (n0:=3) (r:=.own 3 1 (List.length v4) (fl (eI .i64) v4)) (v:=sw 3 v4) (Hr:=[z12]) (n':=4) kr dd,Hld.un ?_⟩⟩))
 obtain ⟨v5,hv5,hh⟩:=bind_some hh
 let z13:EH:=(4,some ⟨50,(fl C_50 v5.1)⟩); let z14:EV:=(53,.sref 4 [] 0 (List.length v5.1) 3); let z15:EV:=(8,.sref 4 [] 0 (List.length v5.1) 3)
 refine ds (.call 70 [(.t 27),(.t 30)]) (some 31) (ydo_n rfl (op_call (r:=.tup [.own 50 3 (List.length v5.1) (fl C_50 v5.1),bb v5.2]) (v:=.tup [.sref 4 [] 0 (List.length v5.1) 3,bb v5.2]) (Hr:=[z13]) (n':=5) (impl_slotsFor_fn hv5) (clz_v (vs:=[bo (eI .i64) x_b.Mem,sw 3 v4]) kr (clz_c (clo_same (clean_bor (cleans_fl cl_eI))) (clz_c (clo_own (c:=(eI .i64)) (xs:=v4) (e:=3) eqn len_eI no_eI cl_eI kr) clz_n))) (by simp only [AV.noRef,noRefs,Bool.and_self,noRefs_fl nr_C_50]) (by simp only [AV.noBor,noBors,Bool.and_self,noBors_fl nb_C_50]) kr ⟨⟨agr_name (n:=4) (n0:=3) (r:=.tup [.own 50 3 (List.length v5.1) (fl C_50 v5.1),bb v5.2]) (v:=.tup [.sref 4 [] 0 (List.length v5.1) 3,bb v5.2]) (Hr:=[z13]) (n':=5) kr dd,Hld.un ?_⟩⟩))
 refine dct (cs:=[]) (E':=(sp 65 [z3,z5,z6,z11,z15,(25,.tup [.sref 4 [] 0 (List.length v5.1) 3,bb v5.2]),(26,.ptr 1 [] 13),(27,bo (eI .i64) x_b.Mem),(28,.ptr 0 [] 1),(29,bo B_53 x_h.Guests),(30,sw 3 v4),(31,.tup [.sref 4 [] 0 (List.length v5.1) 3,bb v5.2]),(32,.sref 4 [] 0 (List.length v5.1) 3),(33,bb v5.2)])) (H':=[z13,z12,z1,z2,z4]) (n':=5) (fun K=>by kernel_rfl) .nil (yt (sp 65 [z3,z5,z6,z11,z15,(9,bb v5.2)]) [z1,z2,z4,z13] 5 (Aw.seq (Aw.sreg [2,3,4,7,8,39] [0,1,2,4] (yj 3  (sp 65 [z3,z5,z6,z11,z15,(9,bb v5.2),(34,ii v3),(35,bb (decide (v3=(-1:Int)))),(36,bb (decide (v3=(-1:Int))))]) [z1,z2,z4,z13] 5 ?_))))
 rcases cond_some hh with ⟨hb,hh⟩ | ⟨hb,hh⟩
 · refine yb 35 hb (yb 36 hb (yt (sp 65 [z3,z5,z6,z11,z15,(39,bb true)]) [z1,z2,z4,z13] 5 (cT rfl (sy [4,5,6] [2] (sp 65 [z6,z7,z10]) [z4] 5 (Aw.ret (then_r ?_))))))
   rw [some_some hh]
   exact gives (r':=.tup [.agg [.nil,.nil],ii (-1),bb false]) kr (Ent.list [none,none] rfl rfl (Nat.zero_le _) (rens_1 (ren_tup rz)) (hs_no dd rfl rfl (hs_no dd rfl rfl hs_nil)))
 refine yb 35 hb (yb 36 hb (yt (sp 65 [z3,z5,z6,z11,z15,(39,bb (!v5.2))]) [z1,z2,z4,z13] 5 ?_))
 rcases cond_some hh with ⟨hb,hh⟩ | ⟨hb,hh⟩
 · refine cT hb (sy [4,5,6] [2] (sp 65 [z6,z7,z10]) [z4] 5 (Aw.ret (then_r ?_)))
   rw [some_some hh]
   exact gives (r':=.tup [.agg [.nil,.nil],ii (-1),bb false]) kr (Ent.list [none,none] rfl rfl (Nat.zero_le _) (rens_1 (ren_tup rz)) (hs_no dd rfl rfl (hs_no dd rfl rfl hs_nil)))
 refine cF hb (Aw.xskip (fun _ _ _ hq=>then_m hq) (Aw.sreg [2,3,4,7,8,10] [0,1,2,4,5,6,7,8,9] (yj 1  (sp 65 [z3,z5,z6,z11,z15,(39,bb (!v5.2)),(41,.agg (B_30 x_b))]) [z1,z2,z4,z13] 5 ?_)))
 obtain ⟨v6,hv6,hh⟩:=bind_some hh
 let z16:EV:=(60,.agg (bb true::sw 5 v6.C.Regs::ru28 v6.C [.sref 4 [] 0 (List.length v5.1) 3,sw 7 v6.In,sw 8 v6.Out])); let q1:Root:=⟨3,(fl (eI .i64) v6.Out)⟩; let z17:=(8,some q1); let q2:Root:=⟨3,(fl (eI .i64) v6.In)⟩; let z18:=(7,some q2); let q3:Root:=⟨3,(fl (eI .i64) v6.Mem)⟩; let q4:Root:=⟨3,(fl (eI .i64) v6.C.Regs)⟩; let z19:=(5,some q4)
 refine ys (.call 72 [(.t 41)]) (some 42) (op_call (r:=.agg (.own 3 1 (List.length v6.C.Regs) (fl (eI .i64) v6.C.Regs)::ru28 v6.C [.own 3 1 (List.length v6.Mem) (fl (eI .i64) v6.Mem),.own 3 1 (List.length v6.In) (fl (eI .i64) v6.In),.own 3 1 (List.length v6.Out) (fl (eI .i64) v6.Out)])) (v:=.agg (sw 5 v6.C.Regs::ru28 v6.C [sw 6 v6.Mem,sw 7 v6.In,sw 8 v6.Out])) (Hr:=[z17,z18,(6,some q3),z19]) (n':=9) (impl_copiedBare_fn hv6) (clz_v (vs:=[.agg (B_30 x_b)]) kr (clz_c (clo_same (clean_agg (cl_B_30 _))) clz_n)) (by simp only [ru28,AV.noRef,noRefs,Bool.and_self,noRefs_fl nr_eI]) (by simp only [ru28,AV.noBor,noBors,Bool.and_self,noBors_fl nb_eI]) kr ?_)
 refine yt (sp 65 [z3,z5,z6,z11,z15,(10,pp 9)]) [z1,z2,z4,z13,z19,(6,some q3),z18,z17,(9,some ⟨30,(sw 5 v6.C.Regs::ru28 v6.C [sw 6 v6.Mem,sw 7 v6.In,sw 8 v6.Out])⟩)] 10 (Aw.sreg [2,3,4,7,8,11] [0,1,2,4,5,7,8,10] ?_)
 let q5:Root:=⟨53,(bb true::sw 5 v6.C.Regs::ru28 v6.C [.sref 4 [] 0 (List.length v5.1) 3,sw 7 v6.In,sw 8 v6.Out])⟩; let z20:=(10,some q5)
 refine yt (sp 65 [z3,z5,z6,z11,z15,(11,pp 10)]) [z1,z2,z4,z13,z19,z18,z17,z20] 11 (Aw.sregd [4,7,12] [2,11,12,13] [4,5,7,8] kr (dc (cs:=[]) (E':=(sp 65 [z3,z5,z6,z11,z15,(11,pp 10),(51,pp 0),z8,z14,(54,.ptr 1 [] 13),z9])) (H':=[z1,z2,z4,z13,z19,z18,z17,z20]) (n':=11) (fs':=none) (pre:=(List.take 5 Lf18_r10)) (L':=(List.drop 5 Lf18_r10)) kr (fun K=>by kernel_rfl) .nil ?_))
 obtain ⟨v7,hv7,hh⟩:=bind_some hh
 let z21:EH:=(11,some ⟨3,(fl (eI .i64) v7)⟩)
 refine ds (.call 73 [(.t 52),(.t 53),(.t 55)]) (some 56) (ydo_n rfl (op_call (r:=.own 3 1 (List.length v7) (fl (eI .i64) v7)) (v:=sw 11 v7) (Hr:=[z21]) (n':=12) (impl_withPages_fn hv7) (clz_v (vs:=[bo (eI .i64) x_h.Words,.sref 4 [] 0 (List.length v5.1) 3,bo (eI .i64) x_b.Mem]) kr (clz_c (clo_same (clean_bor (cleans_fl cl_eI))) (clz_c (clo_own (c:=C_50) (xs:=v5.1) (e:=50) eqn len_C_50 no_C_50 cl_C_50 kr) (clz_c (clo_same (clean_bor (cleans_fl cl_eI))) clz_n)))) (by simp only [AV.noRef,noRefs,Bool.and_self,noRefs_fl nr_eI]) (by simp only [AV.noBor,noBors,Bool.and_self,noBors_fl nb_eI]) kr ⟨⟨agr_name (n:=11) (n0:=11) (r:=.own 3 1 (List.length v7) (fl (eI .i64) v7)) (v:=sw 11 v7) (Hr:=[z21]) (n':=12) kr dd,Hld.un ?_⟩⟩))
 refine dc (cs:=[]) (E':=(sp 65 [z3,z5,z6,z11,z15,(11,pp 10),(51,pp 0),z8,z14,(54,.ptr 1 [] 13),z9,(56,sw 11 v7),(57,.ptr 0 [] 1),(58,bo B_53 x_h.Guests),(59,ii v3),z16])) (H':=[z21,z1,z2,z4,z13,z19,z18,z17,z20]) (n':=12) (fs':=none) (pre:=(List.take 4 (List.drop 6 Lf18_r10))) (L':=(List.drop 10 Lf18_r10)) kr (fun K=>by kernel_rfl) .nil ?_
 obtain ⟨v8,hv8,hh⟩:=bind_some hh
 let z22:EH:=(12,some ⟨53,(fl O_53 v8)⟩)
 refine ds (.call 74 [(.t 58),(.t 59),(.t 60)]) (some 61) (ydo_n rfl (op_callf (v':=.sref 12 [] 0 (List.length v8) 17) (Hp':=[z22]) (n':=13) [5,4,7,8] (impl_withGuest_fn hv8) (args':=[bo B_53 x_h.Guests,ii v3,.agg (bb true::sw 5 v6.C.Regs::ru28 v6.C [.sref 4 [] 0 (List.length v5.1) 3,sw 7 v6.In,sw 8 v6.Out])]) kr rfl rfl rfl rz rfl (hn nr_eI (hn nr_eI (hn nr_C_50 (hn nr_eI hs_nil)))) ren_sy rfl (hn nr_O_53 hs_nil) rfl ⟨⟨agr_callf rfl rfl,Hld.un ?_⟩⟩))
 refine dct (cs:=[]) (E':=(sp 65 [z3,z5,z6,z11,z15,(11,pp 10),(12,pp 13),(51,pp 0),z8,z14,(54,.ptr 1 [] 13),z9,(56,sw 11 v7),(57,.ptr 0 [] 1),(58,bo B_53 x_h.Guests),(59,ii v3),z16,(61,.sref 12 [] 0 (List.length v8) 17),(62,.agg [sw 11 v7,.sref 12 [] 0 (List.length v8) 17])])) (H':=[(13,some ⟨26,[.nil,.nil]⟩),z22,(5,none),(4,none),(7,none),(8,none),z21,z1,z2,z4,z13,z19,z18,z17,z20]) (n':=14) (fun K=>by kernel_rfl) .nil ?_
 let q6:Root:=⟨26,[sw 11 v7,.sref 12 [] 0 (List.length v8) 17]⟩
 refine yt (sp 65 [z6,z11,(12,pp 13)]) [z4,z21,z22,(13,some q6)] 14 (sy [4,5,6] [2,11,12] (sp 65 [z6,(5,ii v3),(6,bb true)]) [(2,some q6),z21,z22] 14 (Aw.ret ?_))
 rw [some_some hh]
 exact gives (r':=.tup [.agg [sw 11 v7,.sref 12 [] 0 (List.length v8) 17],ii v3,bb true]) kr (Ent.list [some 11,some 12] rfl rfl (Nat.zero_le _) (rens_1 (ren_tup rz)) (hn nr_O_53 (hn nr_eI hs_nil)))
def Lf19_r0:List LOper:=[oX 2 26 0,oX 3 30 1,oo 4 (.fresh 26 [.nil,.nil]),oN 5 0,oF 6]
def Lf19_r1:List LOper:=[oL 16 2 2,oK 17 52 [16],oU 18 17,om 19 18,og 20 (.load true 16 (.t 3)) 19 false,og 21 (.call 75 [(.t 20)]) 19 false,og 22 (.un .not (.t 21)) 19 false,oQ 23 19 22]
def Lf19_r2:List LOper:=[oo 24 (.bld [.nil,.nil] []),oS 2 4 24,oN 5 (-1),oF 6]
def Lf19_r3:List LOper:=[oL 25 2 2,oK 26 76 [25],oo 7 (.fresh 26 [.nil,.nil]),oS 2 7 26]
def Lf19_r4:List LOper:=[oN 8 (-1)]
def Lf19_r5:List LOper:=[oN 9 2]
def Lf19_r6:List LOper:=[om 27 9,ob 28 .geq 27 0]
def Lf19_r7:List LOper:=[oA 31 1 2,ol 32 31,om 33 9,oi 34 17 32 33,oA 35 0 34,ol 36 35,oU 37 36]
def Lf19_r8:List LOper:=[om 38 9,om 8 38]
def Lf19_r9:List LOper:=[om 29 9,ob 30 .sub 29 1,om 9 30]
def Lf19_l10:LCode:=(.seq (.seq (.reg false Lf19_r6) (.cond (.t 28) .skip (.exit 0))) (.seq (.block 1 (.seq (.reg false Lf19_r7) (.cond (.t 37) (.reg false Lf19_r8) .skip))) (.reg false Lf19_r9)))
def Lf19_r11:List LOper:=[oL 39 2 2,oK 40 62 [39],om 10 40]
def Lf19_r12:List LOper:=[oA 41 0 3,oL 42 13 41,oK 43 77 [42],oo 44 (.bsl 3 1 0 [(ii 0)] []),oA 45 14 3,ol 46 45,oo 47 (.app 3 1 8 [(ii 0)] (.t 44) (.t 46)),oo 48 (.bsl 3 1 0 [(ii 0)] []),oA 49 15 3,ol 50 49,oo 51 (.app 3 1 8 [(ii 0)] (.t 48) (.t 50)),oo 52 (.bld zc2 [(0,(1,(.c (bb true)))),(1,(13,(.t 43))),(15,(1,(.t 47))),(16,(1,(.t 51)))]),oo 11 (.fresh 53 zc2)]
def Lf19_r12t:List LOper:=[oS 17 11 52]
def Lf19_r14:List LOper:=[oN 12 0]
def Lf19_r15:List LOper:=[om 53 12,ob 54 .lss 53 8,om 55 54,og 56 (.mv (.t 8)) 55 true,og 57 (.bin .geq (.t 56) (.c (ii 0))) 55 true,oP 58 55 57]
def Lf19_r16:List LOper:=[oA 61 13 3,ol 62 61,om 63 12,ob 64 .mul 63 8,om 65 12,ob 66 .add 65 1,ob 67 .mul 66 8,oo 68 (.slc 1 (.t 62) (some (.t 64)) (some (.t 67))),om 13 68]
def Lf19_r17:List LOper:=[oT 14]
def Lf19_r18:List LOper:=[oN 15 0]
def Lf19_r19:List LOper:=[om 69 15,ob 70 .lss 69 8]
def Lf19_r20:List LOper:=[om 73 14,om 74 73,og 75 (.mv (.t 13)) 74 true,og 76 (.mv (.t 15)) 74 true,og 77 (.iadr 1 (.t 75) (.t 76)) 74 true,og 78 (.load false 1 (.t 77)) 74 true,og 79 (.bin .eql (.t 78) (.c (ii 0))) 74 true,oP 80 74 79,om 14 80]
def Lf19_r21:List LOper:=[om 71 15,ob 72 .add 71 1,om 15 72]
def Lf19_l22:LCode:=(.seq (.seq (.reg false Lf19_r19) (.cond (.t 70) .skip (.exit 4))) (.seq (.block 5 (.reg false Lf19_r20)) (.reg false Lf19_r21)))
def Lf19_r23:List LOper:=[om 81 14]
def Lf19_r24:List LOper:=[oA 82 14 11,ol 83 82,oo 84 (.bld [(ii 0),(bb false),(bb false)] [(0,(1,(.c (ii (-1)))))]),oo 85 (.bsl 50 3 1 [(ii 0),(bb false),(bb false)] [(0,(3,(.t 84)))]),oo 86 (.app 50 3 16 [(ii 0),(bb false),(bb false)] (.t 83) (.t 85)),oA 87 14 11,oS 1 87 86]
def Lf19_r25:List LOper:=[om 88 10,oH 89 88,ob 90 .eql 89 0]
def Lf19_r26:List LOper:=[oo 91 (.bld [.nil,.nil] []),oS 2 4 91,oN 5 (-1),oF 6]
def Lf19_r27:List LOper:=[oA 92 0 7,ol 93 92,om 94 10,oo 95 (.iadr 1 (.t 94) (.c (ii 0))),ol 96 95,ob 97 .mul 96 8,oo 98 (.slc 1 (.t 93) (some (.t 97)) none),om 99 13]
def Lf19_r27t:List LOper:=[oo 100 (.cpy 1 (.t 98) (.t 99))]
def Lf19_r29:List LOper:=[oA 101 14 11,ol 102 101,om 103 10,oo 104 (.iadr 1 (.t 103) (.c (ii 0))),ol 105 104,oo 106 (.bld [(ii 0),(bb false),(bb false)] [(0,(1,(.t 105))),(1,(1,(.c (bb true))))]),oo 107 (.bsl 50 3 1 [(ii 0),(bb false),(bb false)] [(0,(3,(.t 106)))])]
def Lf19_r29t:List LOper:=[oo 108 (.app 50 3 16 [(ii 0),(bb false),(bb false)] (.t 102) (.t 107)),oA 109 14 11,oS 1 109 108]
def Lf19_r31:List LOper:=[om 110 10,oo 111 (.slc 1 (.t 110) (some (.c (ii 1))) none),om 10 111]
def Lf19_r32:List LOper:=[om 59 12,ob 60 .add 59 1,om 12 60]
def Lf19_l33:LCode:=(.seq (.seq (.reg false Lf19_r15) (.cond (.t 58) .skip (.exit 2))) (.seq (.block 3 (.seq (.reg false Lf19_r16) (.seq (.reg false Lf19_r17) (.seq (.seq (.reg false Lf19_r18) (.block 4 (.loop Lf19_l22))) (.seq (.seq (.reg false Lf19_r23) (.cond (.t 81) (.seq (.reg false Lf19_r24) (.exit 3)) .skip)) (.seq (.seq (.reg false Lf19_r25) (.cond (.t 90) (.seq (.reg false Lf19_r26) .ret) .skip)) (.seq (.regt Lf19_r27 Lf19_r27t) (.seq (.regd Lf19_r29 Lf19_r29t) (.reg false Lf19_r31))))))))) (.reg false Lf19_r32)))
def Lf19_r34:List LOper:=[om 112 8,ob 113 .lss 112 0]
def Lf19_r35:List LOper:=[oo 114 (.bld [.nil,.nil] []),oS 2 4 114,oN 5 (-1),oF 6]
def Lf19_r36:List LOper:=[oA 115 1 7,ol 116 115,om 117 8,oL 118 17 11,oi 119 17 116 117,oS 17 119 118]
def Lf19_r37:List LOper:=[oL 120 2 7,om 121 8,oS 2 4 120,om 5 121,oT 6]
def Lf19:LFun:=⟨122,[(.cell 4 true 2),(.tmp 5),(.tmp 6)],(.seq (.reg false Lf19_r0) (.seq (.seq (.reg false Lf19_r1) (.cond (.t 23) (.seq (.reg false Lf19_r2) .ret) .skip)) (.seq (.reg false Lf19_r3) (.seq (.reg false Lf19_r4) (.seq (.seq (.reg false Lf19_r5) (.block 0 (.loop Lf19_l10))) (.seq (.reg false Lf19_r11) (.seq (.regd Lf19_r12 Lf19_r12t) (.seq (.seq (.reg false Lf19_r14) (.block 2 (.loop Lf19_l33))) (.seq (.seq (.reg false Lf19_r34) (.cond (.t 113) (.seq (.reg false Lf19_r35) .ret) .skip)) (.seq (.reg false Lf19_r36) (.seq (.reg false Lf19_r37) .ret)))))))))))⟩
theorem low_spec_HostBoot:lowFun Go.Proofs.Try.prog 19=some Lf19:=by kernel_rfl
noncomputable def F_spec_HostBoot_j7 (x_b:DBare) (v3:DHost) (s4:Int) (v6:DCore) (s7:(List Int) × (List DSlot)):Option (DHost × Int × Bool) :=
 cond (decide (s4<(0:Int)))
  (some ((DHost.mk ([]:List Int) ([]:List DGuest)),(-1:Int),false))
  (grd ((0:Int)≤s4∧s4<(((List.length v3.Guests):Nat):Int)) (some ((DHost.mk s7.1 (List.set v3.Guests (Int.toNat s4) (DGuest.mk true v6 s7.2 x_b.In x_b.Out))),s4,true)))
noncomputable def F_spec_HostBoot_j9 (s8:(List Int) × (List Int) × (List DSlot) × Int) (s9:(List Int) × (List Int) × (List DSlot)):Option (LO ((List Int) × (List Int) × (List DSlot) × Int) (JO ((List Int) × (List DSlot)) (DHost × Int × Bool))) :=
 some (.next (s9.1,s9.2.1,s9.2.2,(w64 (s8.2.2.2+(1:Int)))))
noncomputable def F_spec_HostBoot_j10 (x_b:DBare) (s8:(List Int) × (List Int) × (List DSlot) × Int) (s10:Bool):Option (JO ((List Int) × (List Int) × (List DSlot)) (LO ((List Int) × (List Int) × (List DSlot) × Int) (JO ((List Int) × (List DSlot)) (DHost × Int × Bool)))) :=
 cond s10
  (grd ((List.length s8.2.2.1+List.length ([(DSlot.mk (-1:Int) false false)]:List DSlot))*16≤2 ^ 47∧List.length s8.2.2.1+List.length ([(DSlot.mk (-1:Int) false false)]:List DSlot)≤2 ^ 47) (some (.go (s8.1,s8.2.1,(s8.2.2.1 ++ ([(DSlot.mk (-1:Int) false false)]:List DSlot))))))
  (cond (decide ((((List.length s8.2.1):Nat):Int)=(0:Int)))
   (some (.out (.ret (.out ((DHost.mk ([]:List Int) ([]:List DGuest)),(-1:Int),false)))))
   (grd ((0:Int)≤(0:Int)∧(0:Int)<((List.length s8.2.1:Nat):Int)) (grd ((0:Int)≤(w64 ((List.getD s8.2.1 (Int.toNat (0:Int)) default)*(8:Int)))∧(w64 ((List.getD s8.2.1 (Int.toNat (0:Int)) default)*(8:Int)))≤(((List.length s8.1):Nat):Int)∧(((List.length s8.1):Nat):Int)≤(((List.length s8.1):Nat):Int)) (grd ((0:Int)≤(0:Int)∧(0:Int)<((List.length s8.2.1:Nat):Int)) (grd ((List.length s8.2.2.1+List.length ([(DSlot.mk (List.getD s8.2.1 (Int.toNat (0:Int)) default) true false)]:List DSlot))*16≤2 ^ 47∧List.length s8.2.2.1+List.length ([(DSlot.mk (List.getD s8.2.1 (Int.toNat (0:Int)) default) true false)]:List DSlot)≤2 ^ 47) (grd ((0:Int)≤(1:Int)∧(1:Int)≤((List.length s8.2.1:Nat):Int)∧((List.length s8.2.1:Nat):Int)≤((List.length s8.2.1:Nat):Int)) (some (.go ((over s8.1 (Int.toNat (w64 ((List.getD s8.2.1 (Int.toNat (0:Int)) default)*(8:Int)))) (Int.toNat (((List.length s8.1):Nat):Int) - Int.toNat (w64 ((List.getD s8.2.1 (Int.toNat (0:Int)) default)*(8:Int)))) (List.take (Int.toNat (w64 ((w64 (s8.2.2.2+(1:Int)))*(8:Int))) - Int.toNat (w64 (s8.2.2.2*(8:Int)))) (List.drop (Int.toNat (w64 (s8.2.2.2*(8:Int)))) x_b.Mem))),(List.take (Int.toNat ((List.length s8.2.1:Nat):Int) - Int.toNat (1:Int)) (List.drop (Int.toNat (1:Int)) s8.2.1)),(s8.2.2.1 ++ ([(DSlot.mk (List.getD s8.2.1 (Int.toNat (0:Int)) default) true false)]:List DSlot)))))))))))
noncomputable def F_spec_HostBoot_j12 (s11:Bool × Int) (s12:Bool):Option (LO (Bool × Int) (JO Bool (JO ((List Int) × (List Int) × (List DSlot)) (LO ((List Int) × (List Int) × (List DSlot) × Int) (JO ((List Int) × (List DSlot)) (DHost × Int × Bool)))))) :=
 some (.next (s12,(w64 (s11.2+(1:Int)))))
noncomputable def F_spec_HostBoot_l11 (x_b:DBare) (s8:(List Int) × (List Int) × (List DSlot) × Int) (s11:Bool × Int):Option (LO (Bool × Int) (JO Bool (JO ((List Int) × (List Int) × (List DSlot)) (LO ((List Int) × (List Int) × (List DSlot) × Int) (JO ((List Int) × (List DSlot)) (DHost × Int × Bool)))))) :=
 cond (decide (s11.2<(8:Int)))
  (Option.bind (cond s11.1
   (grd ((0:Int)≤s11.2∧s11.2<((List.length (List.take (Int.toNat (w64 ((w64 (s8.2.2.2+(1:Int)))*(8:Int))) - Int.toNat (w64 (s8.2.2.2*(8:Int)))) (List.drop (Int.toNat (w64 (s8.2.2.2*(8:Int)))) x_b.Mem)):Nat):Int)) (some (.go (decide ((List.getD (List.take (Int.toNat (w64 ((w64 (s8.2.2.2+(1:Int)))*(8:Int))) - Int.toNat (w64 (s8.2.2.2*(8:Int)))) (List.drop (Int.toNat (w64 (s8.2.2.2*(8:Int)))) x_b.Mem)) (Int.toNat s11.2) default)=(0:Int))))))
   (some (.go false))) fun j12 =>
   JO.run j12 (F_spec_HostBoot_j12 s11))
  (some (.ret (.go s11.1)))
noncomputable def F_spec_HostBoot_l8 (x_b:DBare) (s4:Int) (s8:(List Int) × (List Int) × (List DSlot) × Int):Option (LO ((List Int) × (List Int) × (List DSlot) × Int) (JO ((List Int) × (List DSlot)) (DHost × Int × Bool))) :=
 cond (decide (s8.2.2.2<(8:Int)))
  (cond (decide ((0:Int)≤s4))
   (Option.bind (grd ((0:Int)≤(w64 (s8.2.2.2*(8:Int)))∧(w64 (s8.2.2.2*(8:Int)))≤(w64 ((w64 (s8.2.2.2+(1:Int)))*(8:Int)))∧(w64 ((w64 (s8.2.2.2+(1:Int)))*(8:Int)))≤((List.length x_b.Mem:Nat):Int)) (Option.bind (Option.bind (iter (F_spec_HostBoot_l11 x_b s8) (true,(0:Int))) LO.val) fun j10 =>
    JO.run j10 (F_spec_HostBoot_j10 x_b s8))) fun j9 =>
    JO.run j9 (F_spec_HostBoot_j9 s8))
   (some (.ret (.go (s8.1,s8.2.2.1)))))
  (some (.ret (.go (s8.1,s8.2.2.1))))
noncomputable def F_spec_HostBoot_j4 (x_h:DHost) (x_b:DBare) (v3:DHost) (s4:Int):Option (DHost × Int × Bool) :=
 Option.bind (F_spec_HostFree x_h) fun v5 =>
 Option.bind (F_spec_l3Core x_b.C) fun v6 =>
 grd (List.length x_b.In*8≤2 ^ 47∧List.length x_b.In≤2 ^ 47) (grd (List.length x_b.Out*8≤2 ^ 47∧List.length x_b.Out≤2 ^ 47) (Option.bind (Option.bind (iter (F_spec_HostBoot_l8 x_b s4) (v3.Words,v5,([]:List DSlot),(0:Int))) LO.val) fun j7 =>
  JO.run j7 (F_spec_HostBoot_j7 x_b v3 s4 v6)))
noncomputable def F_spec_HostBoot_j14 (s13:Int × Int) (s14:Int):Option (LO (Int × Int) (JO Int (DHost × Int × Bool))) :=
 some (.next (s14,(w64 (s13.2 - (1:Int)))))
noncomputable def F_spec_HostBoot_l13 (x_h:DHost) (s13:Int × Int):Option (LO (Int × Int) (JO Int (DHost × Int × Bool))) :=
 cond (decide ((0:Int)≤s13.2))
  (Option.bind (grd ((0:Int)≤s13.2∧s13.2<((List.length x_h.Guests:Nat):Int)) (cond (!((List.getD x_h.Guests (Int.toNat s13.2) default).Live))
   (some (.go s13.2))
   (some (.go s13.1)))) fun j14 =>
   JO.run j14 (F_spec_HostBoot_j14 s13))
  (some (.ret (.go s13.1)))
noncomputable def F_spec_HostBoot (x_h:DHost) (x_b:DBare):Option (DHost × Int × Bool) :=
 Option.bind (F_spec_HostOk x_h) fun v1 =>
 cond (!v1)
  (some ((DHost.mk ([]:List Int) ([]:List DGuest)),(-1:Int),false))
  (Option.bind (F_spec_BareOk x_b) fun v2 =>
  cond (!v2)
   (some ((DHost.mk ([]:List Int) ([]:List DGuest)),(-1:Int),false))
   (Option.bind (F_spec_l4Copy x_h) fun v3 =>
   Option.bind (Option.bind (iter (F_spec_HostBoot_l13 x_h) ((-1:Int),(2:Int))) LO.val) fun j4 =>
    JO.run j4 (F_spec_HostBoot_j4 x_h x_b v3)))
theorem spec_HostBoot_fn {x_h:DHost} {x_b:DBare} {R_:DHost × Int × Bool} (hh:F_spec_HostBoot x_h x_b=some R_):Fn Try.prog 19 [.agg (B_26 x_h),.agg (B_30 x_b)] (.tup [.agg [.own 3 1 (List.length R_.1.Words) (fl (eI .i64) R_.1.Words),.own 53 17 (List.length R_.1.Guests) (fl O_53 R_.1.Guests)],.int .i64 R_.2.1,.bool R_.2.2]):=by
 let z11:EH:=(0,some ⟨26,(B_26 x_h)⟩); let z12:EH:=(0,some ⟨26,[.nil,.nil]⟩); let z13:EH:=(0,some ⟨30,(B_30 x_b)⟩); let z14:EH:=(1,some ⟨26,[.nil,.nil]⟩); let z15:EH:=(1,some ⟨30,(B_30 x_b)⟩); let z16:=(11,pp 5); let z17:=(11,pp 6); let z18:=(2,pp 0); let z19:EH:=(2,some ⟨26,[.nil,.nil]⟩); let z20:=(3,pp 0); let z21:=(3,pp 1); let z22:=(4,pp 0); let z23:=(4,pp 1); let z24:=(4,pp 2); let z25:EV:=(42,.agg (B_28 x_b.C)); let z26:=(46,bo (eI .i64) x_b.In); let z27:=(5,ii (-1)); let z28:=(6,bb false); let z29:=(7,pp 2); let z30:=(7,pp 3); let z1:=DSlot.mk (-1:Int) false false
 unfold F_spec_HostBoot at hh
 refine Fn.start low_spec_HostBoot [0,1] (E:=sp 122 [(0,.agg (B_26 x_h)),(1,.agg (B_30 x_b))]) kr (v:=.tup [.agg [sw 0 R_.1.Words,.sref 1 [] 0 (List.length R_.1.Guests) 17],ii R_.2.1,bb R_.2.2]) (Hr:=[(1,some ⟨53,(fl O_53 R_.1.Guests)⟩),(0,some ⟨3,(fl (eI .i64) R_.1.Words)⟩)]) (k:=2) kr (sy [2,3,4] [0,1,2] (sp 122 [z18,z21,z24]) [z11,z15,z19] 3 (Aw.seq (Aw.sreg [2,3,4,23] [0,1,2] (yj 1  (sp 122 [z18,z21,z24,(16,.agg (B_26 x_h))]) [z11,z15,z19] 3 ?_))))
 obtain ⟨v1,hv1,hh⟩:=bind_some hh
 refine ys (.call 52 [(.t 16)]) (some 17) (op_call (r:=bb v1) (v:=bb v1) (Hr:=[]) (n':=3) (spec_HostOk_fn hv1) (clz_v (vs:=[.agg (B_26 x_h)]) kr (clz_c (clo_same (clean_agg (cl_B_26 _))) clz_n)) rfl rfl kr ?_)
 refine yu 2 [(17,bb v1),(18,bb (!v1)),(19,bb (!v1))] [z11,z15,z19] 3 ?_
 rcases cond_some hh with ⟨hb,hh⟩ | ⟨hb,hh⟩
 · refine yb 18 hb (yb 19 hb (yt (sp 122 [z18,z21,z24,(23,bb true)]) [z11,z15,z19] 3 (cT rfl (sy [4,5,6] [2] (sp 122 [z24,z27,z28]) [z19] 3 (Aw.ret (then_r ?_))))))
   rw [some_some hh]
   exact gives (r':=.tup [.agg [.nil,.nil],ii (-1),bb false]) kr (Ent.list [none,none] rfl rfl (Nat.zero_le _) (rens_1 (ren_tup rz)) (hs_no dd rfl rfl (hs_no dd rfl rfl hs_nil)))
 refine yb 18 hb (yb 19 hb (yu 1 [(18,bb false),(19,bb false),(20,.agg (B_30 x_b))] [z11,z15,z19] 3 ?_))
 obtain ⟨v2,hv2,hh⟩:=bind_some hh
 refine yg (.call 75 [(.t 20)]) (some 21) 19 false (op_call (r:=bb v2) (v:=bb v2) (Hr:=[]) (n':=3) (spec_BareOk_fn hv2) (clz_v (vs:=[.agg (B_30 x_b)]) kr (clz_c (clo_same (clean_agg (cl_B_30 _))) clz_n)) rfl rfl kr ?_)
 refine yt (sp 122 [z18,z21,z24,(23,bb (!v2))]) [z11,z15,z19] 3 ?_
 rcases cond_some hh with ⟨hb,hh⟩ | ⟨hb,hh⟩
 · refine cT hb (sy [4,5,6] [2] (sp 122 [z24,z27,z28]) [z19] 3 (Aw.ret (then_r ?_)))
   rw [some_some hh]
   exact gives (r':=.tup [.agg [.nil,.nil],ii (-1),bb false]) kr (Ent.list [none,none] rfl rfl (Nat.zero_le _) (rens_1 (ren_tup rz)) (hs_no dd rfl rfl (hs_no dd rfl rfl hs_nil)))
 refine cF hb (Aw.xskip (fun _ _ _ hq=>then_m hq) (Aw.sreg [2,3,4,7] [0,1,2,3,4,5] (yj 1  (sp 122 [z18,z21,z24,(23,bb (!v2)),(25,.agg (B_26 x_h))]) [z11,z15,z19] 3 ?_)))
 obtain ⟨v3,hv3,hh⟩:=bind_some hh
 let q1:Root:=⟨53,(fl O_53 v3.Guests)⟩; let z31:=(4,some q1); let z32:=(5,some q1); let q2:Root:=⟨3,(fl (eI .i64) v3.Words)⟩; let z33:=(4,some q2)
 refine ys (.call 76 [(.t 25)]) (some 26) (op_call (r:=.agg [.own 3 1 (List.length v3.Words) (fl (eI .i64) v3.Words),.own 53 17 (List.length v3.Guests) (fl O_53 v3.Guests)]) (v:=.agg [sw 3 v3.Words,.sref 4 [] 0 (List.length v3.Guests) 17]) (Hr:=[z31,(3,some q2)]) (n':=5) (spec_l4Copy_fn hv3) (clz_v (vs:=[.agg (B_26 x_h)]) kr (clz_c (clo_same (clean_agg (cl_B_26 _))) clz_n)) (by simp only [AV.noRef,noRefs,Bool.and_self,noRefs_fl nr_eI,noRefs_fl nr_O_53]) (by simp only [AV.noBor,noBors,Bool.and_self,noBors_fl nb_eI,noBors_fl nb_O_53]) kr ?_)
 let q3:Root:=⟨26,[sw 3 v3.Words,.sref 4 [] 0 (List.length v3.Guests) 17]⟩
 refine yt (sp 122 [z18,z21,z24,(7,pp 5)]) [z11,z15,z19,(3,some q2),z31,(5,some q3)] 6 (sy [2,3,4,7,8] [0,1,2,3,4,5] (sp 122 [z18,z21,z24,(7,pp 5),(8,ii (-1))]) [z11,z15,z19,(3,some q2),z31,(5,some q3)] 6 ?_)
 obtain ⟨j4,hh,hk4⟩:=bind_some hh
 refine Aw.join (S:=Int) (fun s4=>sp 122 [(2,pp 0),(3,pp 1),(4,pp 2),(7,pp 3),(8,ii s4)]) (fun s4=>[(0,some ⟨26,(B_26 x_h)⟩),(1,some ⟨30,(B_30 x_b)⟩),(2,some ⟨26,[.nil,.nil]⟩),(3,some ⟨26,[sw 4 v3.Words,.sref 5 [] 0 (List.length v3.Guests) 17]⟩),(4,some ⟨3,(fl (eI .i64) v3.Words)⟩),(5,some ⟨53,(fl O_53 v3.Guests)⟩)]) 6 (fun s4=>F_spec_HostBoot_j4 x_h x_b v3 s4=some R_) ?_ ?_
 · intro s4 hh
   let z34:=(113,bb (decide (s4<(0:Int)))); let z35:=(58,bb (decide ((0:Int)≤s4))); let z36:=(8,ii s4)
   unfold F_spec_HostBoot_j4 at hh
   refine Aw.sreg [3,4,7,8,10] [1,2,3,4,5,6] ?_
   let q4:Root:=⟨26,[sw 4 v3.Words,.sref 5 [] 0 (List.length v3.Guests) 17]⟩; let z37:=(3,some q4)
   refine yj 1  (sp 122 [z18,z21,z24,z30,z36,(39,.agg (B_26 x_h))]) [z11,z15,z19,z37,z33,z32] 6 ?_
   obtain ⟨v5,hv5,hh⟩:=bind_some hh
   let z38:=(10,sw 6 v5); let z39:EH:=(6,some ⟨3,(fl (eI .i64) v5)⟩)
   refine ys (.call 62 [(.t 39)]) (some 40) (op_call (r:=.own 3 1 (List.length v5) (fl (eI .i64) v5)) (v:=sw 6 v5) (Hr:=[z39]) (n':=7) (spec_HostFree_fn hv5) (clz_v (vs:=[.agg (B_26 x_h)]) kr (clz_c (clo_same (clean_agg (cl_B_26 _))) clz_n)) (by simp only [AV.noRef,noRefs,Bool.and_self,noRefs_fl nr_eI]) (by simp only [AV.noBor,noBors,Bool.and_self,noBors_fl nb_eI]) kr ?_)
   refine yt (sp 122 [z21,z24,z30,z36,z38]) [z15,z19,z37,z33,z32,z39] 7 (Aw.sregd [3,4,7,8,10,11] [1,2,3,4,5,6,7,8,9,10] [] kr (dc (cs:=[]) (E':=(sp 122 [z21,z24,z30,z36,z38,(41,pp 1),z25])) (H':=[z15,z19,z37,z33,z32,z39]) (n':=7) (fs':=none) (pre:=(List.take 2 Lf19_r12)) (L':=(List.drop 2 Lf19_r12)) kr (fun K=>by kernel_rfl) .nil ?_))
   obtain ⟨v6,hv6,hh⟩:=bind_some hh
   let z40:EV:=(43,.agg (sw 7 v6.Regs::ru28 v6 [])); let q5:Root:=⟨3,(fl (eI .i64) v6.Regs)⟩; let z41:=(6,some q5); let z42:=(7,some q5)
   refine ds (.call 77 [(.t 42)]) (some 43) (ydo_n rfl (op_call (r:=.agg (.own 3 1 (List.length v6.Regs) (fl (eI .i64) v6.Regs)::ru28 v6 [])) (v:=.agg (sw 7 v6.Regs::ru28 v6 [])) (Hr:=[z42]) (n':=8) (spec_l3Core_fn hv6) (clz_v (vs:=[.agg (B_28 x_b.C)]) kr (clz_c (clo_same (clean_agg (cl_B_28 _))) clz_n)) (by simp only [ru28,AV.noRef,noRefs,Bool.and_self,noRefs_fl nr_eI]) (by simp only [ru28,AV.noBor,noBors,Bool.and_self,noBors_fl nb_eI]) kr ⟨⟨agr_name (n:=7) (n0:=7) (r:=.agg (.own 3 1 (List.length v6.Regs) (fl (eI .i64) v6.Regs)::ru28 v6 [])) (v:=.agg (sw 7 v6.Regs::ru28 v6 [])) (Hr:=[z42]) (n':=8) kr dd,Hld.un ?_⟩⟩))
   refine dc (cs:=[]) (E':=(sp 122 [z21,z24,z30,z36,z38,(41,pp 1),z25,z40,(44,.emp),(45,.ptr 1 [] 14),z26])) (H':=[z42,z15,z19,z37,z33,z32,z39]) (n':=8) (fs':=none) (pre:=(List.take 3 (List.drop 3 Lf19_r12))) (L':=(List.drop 6 Lf19_r12)) kr (fun K=>by kernel_rfl) .nil ?_
   obtain ⟨hg576,hh⟩:=grd_some hh
   refine ds (.app 3 1 8 [(ii 0)] (.t 44) (.t 46)) (some 47) (ydo_n rfl (op_app0 (c:=(eI .i64)) (ys:=x_b.In) (rpv kr (rp_bor (c:=(eI .i64)) (xs:=x_b.In) len_eI)) (.inr kr) hg576 ⟨⟨Agr.cons dd,Hld.un ?_⟩⟩))
   let q6:Root:=⟨3,(fl (eI .i64) x_b.In)⟩; let z43:=(8,some q6)
   refine dc (cs:=[]) (E':=(sp 122 [z21,z24,z30,z36,z38,(41,pp 1),z25,z40,(44,.emp),(45,.ptr 1 [] 14),z26,(47,sw 8 x_b.In),(48,.emp),(49,.ptr 1 [] 15),(50,bo (eI .i64) x_b.Out)])) (H':=[z43,z42,z15,z19,z37,z33,z32,z39]) (n':=9) (fs':=none) (pre:=(List.take 3 (List.drop 7 Lf19_r12))) (L':=(List.drop 10 Lf19_r12)) kr (fun K=>by kernel_rfl) .nil ?_
   obtain ⟨hg575,hh⟩:=grd_some hh
   refine ds (.app 3 1 8 [(ii 0)] (.t 48) (.t 50)) (some 51) (ydo_n rfl (op_app0 (c:=(eI .i64)) (ys:=x_b.Out) (rpv kr (rp_bor (c:=(eI .i64)) (xs:=x_b.Out) len_eI)) (.inr kr) hg575 ⟨⟨Agr.cons dd,Hld.un ?_⟩⟩))
   let q7:Root:=⟨3,(fl (eI .i64) x_b.Out)⟩; let z44:=(9,some q7)
   refine dct (cs:=[]) (E':=(sp 122 [z21,z24,z30,z36,z38,(11,pp 10),(41,pp 1),z25,z40,(44,.emp),(45,.ptr 1 [] 14),z26,(47,sw 8 x_b.In),(48,.emp),(49,.ptr 1 [] 15),(50,bo (eI .i64) x_b.Out),(51,sw 9 x_b.Out),(52,.agg (bb true::sw 7 v6.Regs::ru28 v6 [.nil,sw 8 x_b.In,sw 9 x_b.Out]))])) (H':=[(10,some ⟨53,(bb false :: .nil::zru28 [.nil,.nil,.nil])⟩),z44,z43,z42,z15,z19,z37,z33,z32,z39]) (n':=11) (fun K=>by kernel_rfl) .nil ?_
   let q8:Root:=⟨53,(bb true::sw 7 v6.Regs::ru28 v6 [.nil,sw 8 x_b.In,sw 9 x_b.Out])⟩
   refine yt (sp 122 [z21,z24,z30,z36,z38,(11,pp 10)]) [z15,z19,z37,z33,z32,z39,z42,z43,z44,(10,some q8)] 11 ?_
   obtain ⟨j7,hh,hk7⟩:=bind_some hh
   refine Aw.join (S:=(List Int) × (List DSlot)) (fun s7=>sp 122 [(4,pp 0),(7,pp 1),(8,ii s4),(11,pp 4)]) (fun s7=>[(0,some ⟨26,[.nil,.nil]⟩),(1,some ⟨26,[sw 2 s7.1,.sref 3 [] 0 (List.length v3.Guests) 17]⟩),(2,some ⟨3,(fl (eI .i64) s7.1)⟩),(3,some ⟨53,(fl O_53 v3.Guests)⟩),(4,some ⟨53,(bb true::sw 5 v6.Regs::ru28 v6 [.sref 6 [] 0 (List.length s7.2) 3,sw 7 x_b.In,sw 8 x_b.Out])⟩),(5,some ⟨3,(fl (eI .i64) v6.Regs)⟩),(6,some ⟨50,(fl C_50 s7.2)⟩),(7,some ⟨3,(fl (eI .i64) x_b.In)⟩),(8,some ⟨3,(fl (eI .i64) x_b.Out)⟩)]) 9 (fun s7=>F_spec_HostBoot_j7 x_b v3 s4 v6 s7=some R_) ?_ ?_
   · intro s7 hh
     let z45:EH:=(2,some ⟨3,(fl (eI .i64) s7.1)⟩); let z46:EH:=(6,some ⟨50,(fl C_50 s7.2)⟩); let z2:=DGuest.mk true v6 s7.2 x_b.In x_b.Out
     unfold F_spec_HostBoot_j7 at hh
     refine Aw.seq (Aw.sreg [4,7,8,11,113] [0,1,2,3,4,5,6,7,8] ?_)
     let q9:Root:=⟨26,[sw 2 s7.1,.sref 3 [] 0 (List.length v3.Guests) 17]⟩; let q10:Root:=⟨53,(bb true::sw 5 v6.Regs::ru28 v6 [.sref 6 [] 0 (List.length s7.2) 3,sw 7 x_b.In,sw 8 x_b.Out])⟩
     refine yt (sp 122 [z22,(7,pp 1),z36,(11,pp 4),z34]) [z12,(1,some q9),z45,(3,some q1),(4,some q10),(5,some q5),z46,(7,some q6),(8,some q7)] 9 ?_
     rcases cond_some hh with ⟨hb,hh⟩ | ⟨hb,hh⟩
     · refine cT hb (sy [4,5,6] [0] (sp 122 [z22,z27,z28]) [z12] 9 (Aw.ret (then_r ?_)))
       rw [some_some hh]
       exact gives (r':=.tup [.agg [.nil,.nil],ii (-1),bb false]) kr (Ent.list [none,none] rfl rfl (Nat.zero_le _) (rens_1 (ren_tup rz)) (hs_no dd rfl rfl (hs_no dd rfl rfl hs_nil)))
     refine cF hb (Aw.xskip (fun _ _ _ hq=>then_m hq) (Aw.sreg [4,7,8] [0,1,2,3,5,6,7,8] ?_))
     obtain ⟨hg298,hh⟩:=grd_some hh
     refine yjc 5 [(0:Int)≤s4∧s4<(((List.length v3.Guests):Nat):Int)] (sp 122 [z22,(7,pp 1),z36,(11,pp 4),z34,(115,.ptr 1 [] 1),(116,.sref 3 [] 0 (List.length v3.Guests) 17),(117,ii s4),(118,.agg (bb true::sw 5 v6.Regs::ru28 v6 [.sref 6 [] 0 (List.length s7.2) 3,sw 7 x_b.In,sw 8 x_b.Out])),(119,.ptr 3 [] (0+(Int.toNat s4)*17))]) [z12,(1,some q9),z45,(3,some q1),(4,some q10),(5,some q5),z46,(7,some q6),(8,some q7)] 9 (.cons hg298 .nil) (ys (.store 17 (.t 119) (.t 118)) none (op_storeR (c:=O_53) (xs:=v3.Guests) (e:=53) (r:=3) (o:=0+(Int.toNat s4)*17) (i:=(Int.toNat s4)) (off:=0) (vs:=(bb true::sw 5 v6.Regs::ru28 v6 [.sref 6 [] 0 (List.length s7.2) 3,sw 7 x_b.In,sw 8 x_b.Out])) len_O_53 kr kr kr kr ltn ltn dd ?_))
     refine yt (sp 122 [z22,(7,pp 1),z36]) [z12,(1,some q9),z45,(3,some ⟨53,(setCells (fl O_53 v3.Guests) (0+(Int.toNat s4)*17) (bb true::sw 5 v6.Regs::ru28 v6 [.sref 6 [] 0 (List.length s7.2) 3,sw 7 x_b.In,sw 8 x_b.Out]))⟩),(5,some q5),z46,(7,some q6),(8,some q7)] 9 ?_
     let q11:Root:=⟨26,[sw 2 s7.1,.sref 9 [] 0 (List.length v3.Guests) 17]⟩
     refine Aw.ent (Ent.foldP (c:=O_53) (xs:=v3.Guests) (i:=(Int.toNat s4)) (off:=0) (o:=0+(Int.toNat s4)*17) (y:=z2) (R:=3) (e:=53) (us2:=sp 122 [z22,(7,pp 1),z36]) (H2:=[z12,(1,some q11),z45]) (L:=[none,some (some 5),none,none,none,none,none,none,none,none,none,none,none,none,some (some 6),some (some 7),some (some 8)]) (ws:=(bb true :: .own 3 1 (List.length v6.Regs) (fl (eI .i64) v6.Regs)::ru28 v6 [.own 50 3 (List.length s7.2) (fl C_50 s7.2),.own 3 1 (List.length x_b.In) (fl (eI .i64) x_b.In),.own 3 1 (List.length x_b.Out) (fl (eI .i64) x_b.Out)])) len_O_53 kr ltn ltn (Nat.le_of_ble_eq_true rfl) kr (fcs_s (fcs_r kr eqn (fcs_s (fcs_s (fcs_s (fcs_s (fcs_s (fcs_s (fcs_s (fcs_s (fcs_s (fcs_s (fcs_s (fcs_s (fcs_r kr eqn (fcs_r kr eqn (fcs_r kr eqn fcs_n))))))))))))))))) (by rfl) (by rfl) (rds_sp kr (rdl_c (u:=pp 0) kr (.same _) (rdl_c (u:=pp 1) kr (.same _) (rdl_c (u:=ii s4) kr (.same _) rdl_n)))) (hd_c (t:=⟨26,[.nil,.nil]⟩) rfl kr rfl rds_same (hd_c (t:=q9) rfl kr rfl (rds_c (.same _) (rds_c (.sref _ _ _ _ eqn) rds_n)) (hd_c (t:=⟨3,(fl (eI .i64) s7.1)⟩) rfl kr rfl rds_same hd_n)))) (Aw.sreg [4,5,6] [0,2,9] ?_)
     let q12:Root:=⟨53,(fl O_53 (List.set v3.Guests (Int.toNat s4) z2))⟩
     refine yt (sp 122 [z22,(5,ii s4),(6,bb true)]) [(0,some q11),z45,(9,some q12)] 10 (Aw.ret ?_)
     rw [some_some hh]
     exact gives (r':=.tup [.agg [sw 2 s7.1,.sref 9 [] 0 (List.length v3.Guests) 17],ii s4,bb true]) kr (Ent.list [some 2,some 9] rfl rfl (Nat.zero_le _) (rens_1 (ren_tup rz)) (hn nr_O_53 (hn nr_eI hs_nil)))
   intro Q7 hN7 hR7 hE7
   refine sy [3,4,7,8,10,11,12] [1,2,3,4,5,6,7,8,9,10] (sp 122 [z21,z24,z30,z36,z38,(11,pp 10),(12,ii 0)]) [z15,z19,z37,z33,z32,z39,z42,z43,z44,(10,some q8)] 11 (Aw.block ?_)
   obtain ⟨o8,hi8,hk8⟩:=bind_some hh
   refine Aw.iter (fun (s8:(List Int) × (List Int) × (List DSlot) × Int)=>sp 122 [(3,pp 0),(4,pp 1),(7,pp 2),(8,ii s4),(10,bo (eI .i64) s8.2.1),(11,pp 6),(12,ii s8.2.2.2)]) (fun (s8:(List Int) × (List Int) × (List DSlot) × Int)=>[(0,some ⟨30,(B_30 x_b)⟩),(1,some ⟨26,[.nil,.nil]⟩),(2,some ⟨26,[sw 3 s8.1,.sref 4 [] 0 (List.length v3.Guests) 17]⟩),(3,some ⟨3,(fl (eI .i64) s8.1)⟩),(4,some ⟨53,(fl O_53 v3.Guests)⟩),(6,some ⟨53,(bb true::sw 7 v6.Regs::ru28 v6 [.sref 10 [] 0 (List.length s8.2.2.1) 3,sw 8 x_b.In,sw 9 x_b.Out])⟩),(7,some ⟨3,(fl (eI .i64) v6.Regs)⟩),(8,some ⟨3,(fl (eI .i64) x_b.In)⟩),(9,some ⟨3,(fl (eI .i64) x_b.Out)⟩),(10,some ⟨50,(fl C_50 s8.2.2.1)⟩)]) 11 hi8 (Ent.trans (el [some 1,some 2,some 3,some 4,some 5,none,some 10,some 7,some 8,some 9,none] (rens_sp kr (rp 1 (rp 2 (rp 3 (ri (ro nr_eI (rp 10 (ri rl_n)))))))) (hq ⟨30,(B_30 x_b)⟩ (rens_same (nr_B_30 _)) (hq ⟨26,[.nil,.nil]⟩ rz (hq q4 rz (hn nr_eI (hn nr_O_53 (hq q8 rz (hn nr_eI (hn nr_eI (hn nr_eI (hs_no dd rfl rfl hs_nil))))))))))) (Ent.freeze (R:=6) (cs:=(fl (eI .i64) v5)) (e:=3) (xs2:=sp 122 [z21,z24,z30,z36,(10,bo (eI .i64) v5),(11,pp 10),(12,ii 0)]) (H2:=[z15,z19,z37,z33,z32,z42,z43,z44,(10,some q8)]) kr (noOwn_fl no_eI) (frs_sp kr (fl_c (u:=pp 1) kr (.same _) (fl_c (u:=pp 2) kr (.same _) (fl_c (u:=pp 3) kr (.same _) (fl_c (u:=ii s4) kr (.same _) (fl_c (u:=sw 6 v5) kr (fr_all len_eI eqn) (fl_c (u:=pp 10) kr (.same _) (fl_c (u:=ii 0) kr (.same _) fl_n)))))))) (hf_c (t:=⟨30,(B_30 x_b)⟩) rfl kr rfl (frs_c (.same _) (frs_c (.same _) (frs_c (.same _) (frs_c (.same _) (frs_c (.same _) (frs_c (.same _) (frs_c (.same _) (frs_c (.same _) (frs_c (.same _) (frs_c (.same _) (frs_c (.same _) (frs_c (.same _) (frs_c (.same _) (frs_c (.same _) (frs_c (.same _) (frs_c (.same _) frs_n)))))))))))))))) (hf_c (t:=⟨26,[.nil,.nil]⟩) rfl kr rfl (frs_c (.same _) (frs_c (.same _) frs_n)) (hf_c (t:=q4) rfl kr rfl (frs_c (.same _) (frs_c (.same _) frs_n)) (hf_c (t:=q2) rfl kr rfl frs_same (hf_c (t:=q1) rfl kr rfl frs_same (hf_c (t:=q5) rfl kr rfl frs_same (hf_c (t:=q6) rfl kr rfl frs_same (hf_c (t:=q7) rfl kr rfl frs_same (hf_c (t:=q8) rfl kr rfl (frs_c (.same _) (frs_c (.same _) (frs_c (.same _) (frs_c (.same _) (frs_c (.same _) (frs_c (.same _) (frs_c (.same _) (frs_c (.same _) (frs_c (.same _) (frs_c (.same _) (frs_c (.same _) (frs_c (.same _) (frs_c (.same _) (frs_c (.same _) (frs_c (.same _) (frs_c (.same _) (frs_c (.same _) frs_n))))))))))))))))) hf_n))))))))))) ?_
   intro s8 u8 Q8 hh hN8 hX8 hR8
   let z47:=(10,bo (eI .i64) s8.2.1); let z48:EH:=(10,some ⟨50,(fl C_50 s8.2.2.1)⟩); let z49:EV:=(102,.sref 7 [] 0 (List.length s8.2.2.1) 3); let z50:=(12,ii s8.2.2.2); let z51:EH:=(3,some ⟨3,(fl (eI .i64) s8.1)⟩); let z52:EH:=(7,some ⟨50,(fl C_50 s8.2.2.1)⟩); let z53:=(90,bb (decide ((((List.length s8.2.1):Nat):Int)=(0:Int)))); let z54:=(94,bo (eI .i64) s8.2.1); let z55:EV:=(95,.bptr (fl (eI .i64) s8.2.1) (Int.toNat (0:Int)*1)); let z3:=List.drop (Int.toNat (1:Int)) s8.2.1; let z7:=List.take (Int.toNat ((List.length s8.2.1:Nat):Int) - Int.toNat (1:Int)) z3; let z4:=List.drop (Int.toNat (w64 (s8.2.2.2*(8:Int)))) x_b.Mem; let z8:=List.take (Int.toNat (w64 ((w64 (s8.2.2.2+(1:Int)))*(8:Int))) - Int.toNat (w64 (s8.2.2.2*(8:Int)))) z4; let z56:=(13,bo (eI .i64) z8); let z5:=List.getD s8.2.1 (Int.toNat (0:Int)) default; let z57:=(97,ii (w64 (z5*(8:Int)))); let z9:=over s8.1 (Int.toNat (w64 (z5*(8:Int)))) (Int.toNat (((List.length s8.1):Nat):Int) - Int.toNat (w64 (z5*(8:Int)))) z8
   unfold F_spec_HostBoot_l8 at hh
   refine Aw.seq (Aw.sreg [3,4,7,8,10,11,12,58] [0,1,2,3,4,6,7,8,9,10] ?_)
   let q13:Root:=⟨26,[sw 3 s8.1,.sref 4 [] 0 (List.length v3.Guests) 17]⟩; let z58:=(2,some q13); let q14:Root:=⟨53,(bb true::sw 7 v6.Regs::ru28 v6 [.sref 10 [] 0 (List.length s8.2.2.1) 3,sw 8 x_b.In,sw 9 x_b.Out])⟩; let z59:=(6,some q14)
   refine yj 3  (sp 122 [z20,z23,z29,z36,z47,z17,z50,(53,ii s8.2.2.2),(54,bb (decide (s8.2.2.2<(8:Int)))),(55,bb (decide (s8.2.2.2<(8:Int))))]) [z13,z14,z58,z51,z31,z59,z42,z43,z44,z48] 11 ?_
   rcases cond_some hh with ⟨hb,hh⟩ | ⟨hb,hh⟩
   · refine yb 54 hb (yb 55 hb (yt (sp 122 [z20,z23,z29,z36,z47,z17,z50,z35]) [z13,z14,z58,z51,z31,z59,z42,z43,z44,z48] 11 ?_))
     rcases cond_sf hh with ⟨hb,hh⟩ | ⟨hb,hh⟩
     · refine cF hb (Aw.exit (then_x (hX8 _ _ _ _ _ (some_some hh) ?_)))
       intro hout
       rw [hout] at hk8
       refine blk_x ?_
       obtain rfl:=some_some hk8
       exact hN7 (s8.1,s8.2.2.1) _ _ _ hk7 (el [some 1,some 2,some 3,some 4,some 6,some 7,some 10,some 8,some 9] (rens_sp kr (rp 1 (rp 2 (ri (rp 6 rl_n))))) (hq ⟨26,[.nil,.nil]⟩ rz (hq q13 rz (hn nr_eI (hn nr_O_53 (hq q14 rz (hn nr_eI (hn nr_C_50 (hn nr_eI (hn nr_eI hs_nil))))))))))
     refine cT hb (Aw.xskip (fun _ _ _ hq=>then_m hq) ?_)
     obtain ⟨j9,hh,hk9⟩:=bind_some hh
     refine Aw.join (S:=(List Int) × (List Int) × (List DSlot)) (fun s9=>sp 122 [(3,pp 0),(4,pp 1),(7,pp 2),(8,ii s4),(10,bo (eI .i64) s9.2.1),(11,pp 5),(12,ii s8.2.2.2)]) (fun s9=>[(0,some ⟨30,(B_30 x_b)⟩),(1,some ⟨26,[.nil,.nil]⟩),(2,some ⟨26,[sw 3 s9.1,.sref 4 [] 0 (List.length v3.Guests) 17]⟩),(3,some ⟨3,(fl (eI .i64) s9.1)⟩),(4,some ⟨53,(fl O_53 v3.Guests)⟩),(5,some ⟨53,(bb true::sw 6 v6.Regs::ru28 v6 [.sref 7 [] 0 (List.length s9.2.2) 3,sw 8 x_b.In,sw 9 x_b.Out])⟩),(6,some ⟨3,(fl (eI .i64) v6.Regs)⟩),(7,some ⟨50,(fl C_50 s9.2.2)⟩),(8,some ⟨3,(fl (eI .i64) x_b.In)⟩),(9,some ⟨3,(fl (eI .i64) x_b.Out)⟩)]) 10 (fun s9=>F_spec_HostBoot_j9 s8 s9=some u8) ?_ ?_
     · intro s9 hh
       unfold F_spec_HostBoot_j9 at hh
       refine Aw.oreg ?_
       let q15:Root:=⟨26,[sw 3 s9.1,.sref 4 [] 0 (List.length v3.Guests) 17]⟩; let q16:Root:=⟨53,(bb true::sw 6 v6.Regs::ru28 v6 [.sref 7 [] 0 (List.length s9.2.2) 3,sw 8 x_b.In,sw 9 x_b.Out])⟩
       exact ye (sp 122 [z20,z23,z29,z36,(10,bo (eI .i64) s9.2.1),z16,(12,ii (w64 (s8.2.2.2+(1:Int)))),(59,ii s8.2.2.2),(60,ii (w64 (s8.2.2.2+(1:Int))))]) [z13,z14,(2,some q15),(3,some ⟨3,(fl (eI .i64) s9.1)⟩),z31,(5,some q16),z41,(7,some ⟨50,(fl C_50 s9.2.2)⟩),z43,z44] 10 (hN8 (s9.1,s9.2.1,s9.2.2,(w64 (s8.2.2.2+(1:Int)))) _ _ _ (some_some hh) (el [some 0,some 1,some 2,some 3,some 4,none,some 5,some 6,some 8,some 9,some 7] (rens_sp kr (rp 0 (rp 1 (rp 2 (ri (ro nr_eI (rp 5 (ri rl_n)))))))) (hq ⟨30,(B_30 x_b)⟩ (rens_same (nr_B_30 _)) (hq ⟨26,[.nil,.nil]⟩ rz (hq q15 rz (hn nr_eI (hn nr_O_53 (hq q16 rz (hn nr_eI (hn nr_eI (hn nr_eI (hn nr_C_50 hs_nil))))))))))))
     intro Q9 hN9 hR9 hE9
     refine Aw.block (Aw.sreg [3,4,7,8,10,11,12,13] [0,1,2,3,4,6,7,8,9,10] (yj 7  (sp 122 [z20,z23,z29,z36,z47,z17,z50,z35,(61,.ptr 0 [] 13),(62,bo (eI .i64) x_b.Mem),(63,ii s8.2.2.2),(64,ii (w64 (s8.2.2.2*(8:Int)))),(65,ii s8.2.2.2),(66,ii (w64 (s8.2.2.2+(1:Int)))),(67,ii (w64 ((w64 (s8.2.2.2+(1:Int)))*(8:Int))))]) [z13,z14,z58,z51,z31,z59,z42,z43,z44,z48] 11 ?_))
     obtain ⟨hg574,hh⟩:=grd_some hh
     refine ys (.slc 1 (.t 62) (some (.t 64)) (some (.t 67))) (some 68) (op_slc (c:=(eI .i64)) (xs:=x_b.Mem) (l:=(w64 (s8.2.2.2*(8:Int)))) (h:=(w64 ((w64 (s8.2.2.2+(1:Int)))*(8:Int)))) len_eI kr kr kr hg574 ?_)
     refine yt (sp 122 [z20,z23,z29,z36,z47,z17,z50,z56]) [z13,z14,z58,z51,z31,z59,z42,z43,z44,z48] 11 (sy [3,4,7,8,10,11,12,13,14] [0,1,2,3,4,6,7,8,9,10] (sp 122 [z20,z23,z29,z36,z47,z17,z50,z56,(14,bb true)]) [z13,z14,z58,z51,z31,z59,z42,z43,z44,z48] 11 ?_)
     obtain ⟨j10,hh,hk10⟩:=bind_some hh
     refine Aw.join (S:=Bool) (fun s10=>sp 122 [(3,pp 0),(4,pp 1),(7,pp 2),(8,ii s4),(10,bo (eI .i64) s8.2.1),(11,pp 5),(12,ii s8.2.2.2),(13,bo (eI .i64) (List.take (Int.toNat (w64 ((w64 (s8.2.2.2+(1:Int)))*(8:Int))) - Int.toNat (w64 (s8.2.2.2*(8:Int)))) (List.drop (Int.toNat (w64 (s8.2.2.2*(8:Int)))) x_b.Mem))),(14,bb s10)]) (fun s10=>[(0,some ⟨30,(B_30 x_b)⟩),(1,some ⟨26,[.nil,.nil]⟩),(2,some ⟨26,[sw 3 s8.1,.sref 4 [] 0 (List.length v3.Guests) 17]⟩),(3,some ⟨3,(fl (eI .i64) s8.1)⟩),(4,some ⟨53,(fl O_53 v3.Guests)⟩),(5,some ⟨53,(bb true::sw 6 v6.Regs::ru28 v6 [.sref 7 [] 0 (List.length s8.2.2.1) 3,sw 8 x_b.In,sw 9 x_b.Out])⟩),(6,some ⟨3,(fl (eI .i64) v6.Regs)⟩),(7,some ⟨50,(fl C_50 s8.2.2.1)⟩),(8,some ⟨3,(fl (eI .i64) x_b.In)⟩),(9,some ⟨3,(fl (eI .i64) x_b.Out)⟩)]) 10 (fun s10=>F_spec_HostBoot_j10 x_b s8 s10=some j9) ?_ ?_
     · intro s10 hh
       unfold F_spec_HostBoot_j10 at hh
       refine Aw.seq (Aw.sreg [3,4,7,8,10,11,12,13,81] [0,1,2,3,4,5,6,7,8,9] ?_)
       let q17:Root:=⟨53,(bb true::sw 6 v6.Regs::ru28 v6 [.sref 7 [] 0 (List.length s8.2.2.1) 3,sw 8 x_b.In,sw 9 x_b.Out])⟩; let z60:=(5,some q17)
       refine yt (sp 122 [z20,z23,z29,z36,z47,z16,z50,z56,(81,bb s10)]) [z13,z14,z58,z51,z31,z60,z41,z52,z43,z44] 10 ?_
       rcases cond_some hh with ⟨hb,hh⟩ | ⟨hb,hh⟩
       · refine cT hb (Aw.sreg [3,4,7,8,10,11,12] [0,1,2,3,4,5,6,8,9,11] (yu 4 [(82,.ptr 5 [] 14),(83,.sref 7 [] 0 (List.length s8.2.2.1) 3),(84,.agg [ii (-1),bb false,bb false]),(85,.sref 10 [] 0 1 3)] [(10,some ⟨50,[ii (-1),bb false,bb false]⟩),z13,z14,z58,z51,z31,z60,z41,z52,z43,z44] 11 ?_))
         obtain ⟨hg547,hh⟩:=grd_some hh
         refine ys (.app 50 3 16 [(ii 0),(bb false),(bb false)] (.t 83) (.t 85)) (some 86) (op_app (c:=C_50) (xs:=s8.2.2.1) (ys:=([z1]:List DSlot)) (r:=7) (k:=(List.length s8.2.2.1)) (π:=[]) eqn len_C_50 kr kr kr hg547 ?_)
         let q18:Root:=⟨53,(bb true::sw 6 v6.Regs::ru28 v6 [.sref 11 [] 0 (List.length (s8.2.2.1 ++ ([z1]:List DSlot))) 3,sw 8 x_b.In,sw 9 x_b.Out])⟩; let q19:Root:=⟨50,(fl C_50 (s8.2.2.1 ++ ([z1]:List DSlot)))⟩
         refine yt (sp 122 [z20,z23,z29,z36,z47,z16,z50]) [z13,z14,z58,z51,z31,(5,some q18),z41,z43,z44,(11,some q19)] 12 (Aw.exit (then_x (blk_x ?_)))
         obtain rfl:=some_some hh
         exact hN9 (s8.1,s8.2.1,(s8.2.2.1 ++ ([z1]:List DSlot))) _ _ _ hk9 (el [some 0,some 1,some 2,some 3,some 4,some 5,some 6,some 11,some 8,some 9] (rens_sp kr (rp 0 (rp 1 (rp 2 (ri (ro nr_eI (rp 5 (ri rl_n)))))))) (hq ⟨30,(B_30 x_b)⟩ (rens_same (nr_B_30 _)) (hq ⟨26,[.nil,.nil]⟩ rz (hq q13 rz (hn nr_eI (hn nr_O_53 (hq q18 rz (hn nr_eI (hn nr_C_50 (hn nr_eI (hn nr_eI hs_nil)))))))))))
       refine cF hb (Aw.xskip (fun _ _ _ hq=>then_m hq) (Aw.seq (sy [3,4,7,8,10,11,12,13,90] [0,1,2,3,4,5,6,7,8,9] (sp 122 [z20,z23,z29,z36,z47,z16,z50,z56,z53]) [z13,z14,z58,z51,z31,z60,z41,z52,z43,z44] 10 ?_)))
       rcases cond_some hh with ⟨hb,hh⟩ | ⟨hb,hh⟩
       · refine cT hb (sy [4,5,6] [1] (sp 122 [z23,z27,z28]) [z14] 10 (Aw.ret (then_r (blk_r ?_))))
         obtain rfl:=some_some hh
         refine hR9 _ _ _ ((hR8 _ _ _ _ (some_some hk9) ?_))
         intro hout
         rw [hout] at hk8
         refine blk_r ?_
         obtain rfl:=some_some hk8
         refine hR7 _ _ _ ?_
         rw [some_some hk7]
         exact gives (r':=.tup [.agg [.nil,.nil],ii (-1),bb false]) kr (Ent.list [none,none] rfl rfl (Nat.zero_le _) (rens_1 (ren_tup rz)) (hs_no dd rfl rfl (hs_no dd rfl rfl hs_nil)))
       refine cF hb (Aw.xskip (fun _ _ _ hq=>then_m hq) (Aw.sregt [3,4,7,8,10,11,12] [0,1,2,3,4,5,6,7,8,9] (qc (cs:=[]) (E':=(sp 122 [z20,z23,z29,z36,z47,z16,z50,z56,z53,(92,pp 2),(93,sw 3 s8.1),z54])) (pre:=(List.take 3 Lf19_r27)) (L':=(List.drop 3 Lf19_r27)) kr (fun K=>by kernel_rfl) .nil ?_)))
       obtain ⟨hg550,hh⟩:=grd_some hh
       refine qs (.iadr 1 (.t 94) (.c (ii 0))) (some 95) (yq_q rfl (op_iadr (kd:=.i64) (c:=(eI .i64)) (xs:=s8.2.1) len_eI dd kr kr hg550 ?_))
       refine qs (.load false 1 (.t 95)) (some 96) (yq_q rfl (op_loadb (c:=(eI .i64)) (xs:=s8.2.1) (o:=Int.toNat (0:Int)*1) (i:=(Int.toNat (0:Int))) (off:=0) (v:=ii z5) len_eI kr ltn ltn dd kr ?_))
       refine qc (cs:=[]) (E':=(sp 122 [z20,z23,z29,z36,z47,z16,z50,z56,z53,(92,pp 2),(93,sw 3 s8.1),z54,z55,(96,ii z5),z57])) (pre:=(List.take 1 (List.drop 5 Lf19_r27))) (L':=(List.drop 6 Lf19_r27)) kr (fun K=>by kernel_rfl) .nil ?_
       obtain ⟨hg557,hh⟩:=grd_some hh
       refine qs (.slc 1 (.t 93) (some (.t 97)) none) (some 98) (yq_q rfl (op_slo (r:=3) (π:=[]) (o:=0) (k:=(List.length s8.1)) (sz:=1) (l:=(w64 (z5*(8:Int)))) (h:=(((List.length s8.1):Nat):Int)) kr kr kr hg557 ?_))
       refine qtt (cs:=[]) (E':=(sp 122 [z20,z23,z29,z36,z47,z16,z50,z56,z53,(92,pp 2),(93,sw 3 s8.1),z54,z55,(96,ii z5),z57,(98,.sref 3 [] (0+Int.toNat (w64 (z5*(8:Int)))*1) (Int.toNat (((List.length s8.1):Nat):Int) - Int.toNat (w64 (z5*(8:Int)))) 1),(99,bo (eI .i64) z8)])) (fun K=>by kernel_rfl) .nil ?_
       let q20:Root:=⟨3,(fl (eI .i64) z9)⟩; let z61:=(3,some q20)
       refine ys (.cpy 1 (.t 98) (.t 99)) (some 100) (op_cpy (c:=(eI .i64)) (xs:=s8.1) (ys:=z8) (e:=3) (r:=3) (π:=[]) (o:=0+Int.toNat (w64 (z5*(8:Int)))*1) (k:=(Int.toNat (((List.length s8.1):Nat):Int) - Int.toNat (w64 (z5*(8:Int))))) (i:=(Int.toNat (w64 (z5*(8:Int))))) (H':=[z61,z13,z14,z58,z51,z31,z60,z41,z52,z43,z44]) len_eI (rpv kr (rp_bor (c:=(eI .i64)) (xs:=z8) len_eI)) kr kr ltn ltn kr ?_)
       refine yt (sp 122 [z20,z23,z29,z36,z47,z16,z50]) [z13,z14,z58,z61,z31,z60,z41,z52,z43,z44] 10 (Aw.sregd [3,4,7,8,10,11,12] [0,1,2,3,4,5,6,8,9,10] [] kr (dc (cs:=[]) (E':=(sp 122 [z20,z23,z29,z36,z47,z16,z50,(101,.ptr 5 [] 14),z49,(103,bo (eI .i64) s8.2.1)])) (H':=[z13,z14,z58,z61,z31,z60,z41,z52,z43,z44]) (n':=10) (fs':=none) (pre:=(List.take 3 Lf19_r29)) (L':=(List.drop 3 Lf19_r29)) kr (fun K=>by kernel_rfl) .nil ?_))
       obtain ⟨hg553,hh⟩:=grd_some hh
       refine ds (.iadr 1 (.t 103) (.c (ii 0))) (some 104) (ydo_q rfl kr (op_iadr (kd:=.i64) (c:=(eI .i64)) (xs:=s8.2.1) len_eI dd kr kr hg553 ?_))
       refine ds (.load false 1 (.t 104)) (some 105) (ydo_q rfl kr (op_loadb (c:=(eI .i64)) (xs:=s8.2.1) (o:=Int.toNat (0:Int)*1) (i:=(Int.toNat (0:Int))) (off:=0) (v:=ii z5) len_eI kr ltn ltn dd kr ?_))
       refine dct (cs:=[]) (E':=(sp 122 [z20,z23,z29,z36,z47,z16,z50,(101,.ptr 5 [] 14),z49,(103,bo (eI .i64) s8.2.1),(104,.bptr (fl (eI .i64) s8.2.1) (Int.toNat (0:Int)*1)),(105,ii z5),(106,.agg [ii z5,bb true,bb false]),(107,.bor 1 [ii z5,bb true,bb false])])) (H':=[z13,z14,z58,z61,z31,z60,z41,z52,z43,z44]) (n':=10) (fun K=>by kernel_rfl) .nil ?_
       obtain ⟨hg556,hh⟩:=grd_some hh
       refine ys (.app 50 3 16 [(ii 0),(bb false),(bb false)] (.t 102) (.t 107)) (some 108) (op_app (c:=C_50) (xs:=s8.2.2.1) (ys:=([(DSlot.mk z5 true false)]:List DSlot)) (r:=7) (k:=(List.length s8.2.2.1)) (π:=[]) eqn len_C_50 kr kr kr hg556 ?_)
       let q21:Root:=⟨53,(bb true::sw 6 v6.Regs::ru28 v6 [.sref 10 [] 0 (List.length (s8.2.2.1 ++ ([(DSlot.mk z5 true false)]:List DSlot))) 3,sw 8 x_b.In,sw 9 x_b.Out])⟩; let q22:Root:=⟨50,(fl C_50 (s8.2.2.1 ++ ([(DSlot.mk z5 true false)]:List DSlot)))⟩
       refine yt (sp 122 [z20,z23,z29,z36,z47,z16,z50]) [z13,z14,z58,z61,z31,(5,some q21),z41,z43,z44,(10,some q22)] 11 (Aw.oreg (yu 1 [(110,bo (eI .i64) s8.2.1)] [z13,z14,z58,z61,z31,(5,some q21),z41,z43,z44,(10,some q22)] 11 ?_))
       obtain ⟨hg555,hh⟩:=grd_some hh
       refine ys (.slc 1 (.t 110) (some (.c (ii 1))) none) (some 111) (op_slc (c:=(eI .i64)) (xs:=s8.2.1) (l:=(1:Int)) (h:=((List.length s8.2.1:Nat):Int)) len_eI kr kr kr hg555 ?_)
       refine ye (sp 122 [z20,z23,z29,z36,(10,bo (eI .i64) z7),z16,z50,(110,bo (eI .i64) s8.2.1),(111,bo (eI .i64) z7)]) [z13,z14,z58,z61,z31,(5,some q21),z41,z43,z44,(10,some q22)] 11 (blk_m ?_)
       obtain rfl:=some_some hh
       exact hN9 (z9,z7,(s8.2.2.1 ++ ([(DSlot.mk z5 true false)]:List DSlot))) _ _ _ hk9 (el [some 0,some 1,some 2,some 3,some 4,some 5,some 6,some 10,some 8,some 9] (rens_sp kr (rp 0 (rp 1 (rp 2 (ri (ro nr_eI (rp 5 (ri rl_n)))))))) (hq ⟨30,(B_30 x_b)⟩ (rens_same (nr_B_30 _)) (hq ⟨26,[.nil,.nil]⟩ rz (hq q13 rz (hn nr_eI (hn nr_O_53 (hq q21 rz (hn nr_eI (hn nr_C_50 (hn nr_eI (hn nr_eI hs_nil)))))))))))
     intro Q10 hN10 hR10 hE10
     refine sy [3,4,7,8,10,11,12,13,14,15] [0,1,2,3,4,6,7,8,9,10] (sp 122 [z20,z23,z29,z36,z47,z17,z50,z56,(14,bb true),(15,ii 0)]) [z13,z14,z58,z51,z31,z59,z42,z43,z44,z48] 11 (Aw.block ?_)
     obtain ⟨o11,hi11,hk11⟩:=bind_some hh
     refine Aw.iter (fun (s11:Bool × Int)=>sp 122 [(3,pp 0),(4,pp 1),(7,pp 2),(8,ii s4),(10,bo (eI .i64) s8.2.1),(11,pp 5),(12,ii s8.2.2.2),(13,bo (eI .i64) (List.take (Int.toNat (w64 ((w64 (s8.2.2.2+(1:Int)))*(8:Int))) - Int.toNat (w64 (s8.2.2.2*(8:Int)))) (List.drop (Int.toNat (w64 (s8.2.2.2*(8:Int)))) x_b.Mem))),(14,bb s11.1),(15,ii s11.2)]) (fun (s11:Bool × Int)=>[(0,some ⟨30,(B_30 x_b)⟩),(1,some ⟨26,[.nil,.nil]⟩),(2,some ⟨26,[sw 3 s8.1,.sref 4 [] 0 (List.length v3.Guests) 17]⟩),(3,some ⟨3,(fl (eI .i64) s8.1)⟩),(4,some ⟨53,(fl O_53 v3.Guests)⟩),(5,some ⟨53,(bb true::sw 6 v6.Regs::ru28 v6 [.sref 7 [] 0 (List.length s8.2.2.1) 3,sw 8 x_b.In,sw 9 x_b.Out])⟩),(6,some ⟨3,(fl (eI .i64) v6.Regs)⟩),(7,some ⟨50,(fl C_50 s8.2.2.1)⟩),(8,some ⟨3,(fl (eI .i64) x_b.In)⟩),(9,some ⟨3,(fl (eI .i64) x_b.Out)⟩)]) 10 hi11 (el [some 0,some 1,some 2,some 3,some 4,some 6,some 7,some 10,some 8,some 9] (rens_sp kr (rp 0 (rp 1 (rp 2 (ri (ro nr_eI (rp 6 (ri (ro nr_eI (rb (ri rl_n))))))))))) (hq ⟨30,(B_30 x_b)⟩ (rens_same (nr_B_30 _)) (hq ⟨26,[.nil,.nil]⟩ rz (hq q13 rz (hn nr_eI (hn nr_O_53 (hq q14 rz (hn nr_eI (hn nr_C_50 (hn nr_eI (hn nr_eI hs_nil))))))))))) ?_
     intro s11 u11 Q11 hh hN11 hX11 hR11
     let z62:=(70,bb (decide (s11.2<(8:Int)))); let z10:=List.getD z8 (Int.toNat s11.2) default
     unfold F_spec_HostBoot_l11 at hh
     refine Aw.seq (Aw.sreg [3,4,7,8,10,11,12,13,14,15,70] [0,1,2,3,4,5,6,7,8,9] ?_)
     let q23:Root:=⟨53,(bb true::sw 6 v6.Regs::ru28 v6 [.sref 7 [] 0 (List.length s8.2.2.1) 3,sw 8 x_b.In,sw 9 x_b.Out])⟩; let z63:=(5,some q23)
     refine yt (sp 122 [z20,z23,z29,z36,z47,z16,z50,z56,(14,bb s11.1),(15,ii s11.2),z62]) [z13,z14,z58,z51,z31,z63,z41,z52,z43,z44] 10 ?_
     rcases cond_sf hh with ⟨hb,hh⟩ | ⟨hb,hh⟩
     · refine cF hb (Aw.exit (then_x (hX11 _ _ _ _ _ (some_some hh) ?_)))
       intro hout
       rw [hout] at hk11
       refine blk_x ?_
       obtain rfl:=some_some hk11
       exact hN10 s11.1 _ _ _ hk10 (el [some 0,some 1,some 2,some 3,some 4,some 5,some 6,some 7,some 8,some 9] (rens_sp kr (rp 0 (rp 1 (rp 2 (ri (ro nr_eI (rp 5 (ri (ro nr_eI (rb rl_n)))))))))) (hq ⟨30,(B_30 x_b)⟩ (rens_same (nr_B_30 _)) (hq ⟨26,[.nil,.nil]⟩ rz (hq q13 rz (hn nr_eI (hn nr_O_53 (hq q23 rz (hn nr_eI (hn nr_C_50 (hn nr_eI (hn nr_eI hs_nil)))))))))))
     refine cT hb (Aw.xskip (fun _ _ _ hq=>then_m hq) ?_)
     obtain ⟨j12,hh,hk12⟩:=bind_some hh
     refine Aw.join (S:=Bool) (fun s12=>sp 122 [(3,pp 0),(4,pp 1),(7,pp 2),(8,ii s4),(10,bo (eI .i64) s8.2.1),(11,pp 5),(12,ii s8.2.2.2),(13,bo (eI .i64) (List.take (Int.toNat (w64 ((w64 (s8.2.2.2+(1:Int)))*(8:Int))) - Int.toNat (w64 (s8.2.2.2*(8:Int)))) (List.drop (Int.toNat (w64 (s8.2.2.2*(8:Int)))) x_b.Mem))),(14,bb s12),(15,ii s11.2)]) (fun s12=>[(0,some ⟨30,(B_30 x_b)⟩),(1,some ⟨26,[.nil,.nil]⟩),(2,some ⟨26,[sw 3 s8.1,.sref 4 [] 0 (List.length v3.Guests) 17]⟩),(3,some ⟨3,(fl (eI .i64) s8.1)⟩),(4,some ⟨53,(fl O_53 v3.Guests)⟩),(5,some ⟨53,(bb true::sw 6 v6.Regs::ru28 v6 [.sref 7 [] 0 (List.length s8.2.2.1) 3,sw 8 x_b.In,sw 9 x_b.Out])⟩),(6,some ⟨3,(fl (eI .i64) v6.Regs)⟩),(7,some ⟨50,(fl C_50 s8.2.2.1)⟩),(8,some ⟨3,(fl (eI .i64) x_b.In)⟩),(9,some ⟨3,(fl (eI .i64) x_b.Out)⟩)]) 10 (fun s12=>F_spec_HostBoot_j12 s11 s12=some u11) ?_ ?_
     · intro s12 hh
       unfold F_spec_HostBoot_j12 at hh
       exact Aw.oreg (ye (sp 122 [z20,z23,z29,z36,z47,z16,z50,z56,(14,bb s12),(15,ii (w64 (s11.2+(1:Int)))),(71,ii s11.2),(72,ii (w64 (s11.2+(1:Int))))]) [z13,z14,z58,z51,z31,z63,z41,z52,z43,z44] 10 (hN11 (s12,(w64 (s11.2+(1:Int)))) _ _ _ (some_some hh) (el [some 0,some 1,some 2,some 3,some 4,some 5,some 6,some 7,some 8,some 9] (rens_sp kr (rp 0 (rp 1 (rp 2 (ri (ro nr_eI (rp 5 (ri (ro nr_eI (rb (ri rl_n))))))))))) (hq ⟨30,(B_30 x_b)⟩ (rens_same (nr_B_30 _)) (hq ⟨26,[.nil,.nil]⟩ rz (hq q13 rz (hn nr_eI (hn nr_O_53 (hq q23 rz (hn nr_eI (hn nr_C_50 (hn nr_eI (hn nr_eI hs_nil)))))))))))))
     intro Q12 hN12 hR12 hE12
     refine Aw.block (Aw.oreg (yj 2  (sp 122 [z20,z23,z29,z36,z47,z16,z50,z56,(14,bb s11.1),(15,ii s11.2),z62,(73,bb s11.1),(74,bb s11.1)]) [z13,z14,z58,z51,z31,z63,z41,z52,z43,z44] 10 ?_))
     rcases cond_sf hh with ⟨hb,hh⟩ | ⟨hb,hh⟩
     · refine yb 14 hb (yb 73 hb (yb 74 hb (ye (sp 122 [z20,z23,z29,z36,z47,z16,z50,z56,(14,bb false),(15,ii s11.2),z62,(73,bb false),(74,bb false),(75,.und),(76,.und),(77,.und),(78,.und),(79,.und),(80,bb false)]) [z13,z14,z58,z51,z31,z63,z41,z52,z43,z44] 10 (blk_m ?_))))
       obtain rfl:=some_some hh
       exact hN12 false _ _ _ hk12 (el [some 0,some 1,some 2,some 3,some 4,some 5,some 6,some 7,some 8,some 9] (rens_sp kr (rp 0 (rp 1 (rp 2 (ri (ro nr_eI (rp 5 (ri (ro nr_eI (rb (ri rl_n))))))))))) (hq ⟨30,(B_30 x_b)⟩ (rens_same (nr_B_30 _)) (hq ⟨26,[.nil,.nil]⟩ rz (hq q13 rz (hn nr_eI (hn nr_O_53 (hq q23 rz (hn nr_eI (hn nr_C_50 (hn nr_eI (hn nr_eI hs_nil)))))))))))
     refine yb 14 hb (yb 73 hb (yb 74 hb (yu 2 [(14,bb true),(73,bb true),(74,bb true),(75,bo (eI .i64) z8),(76,ii s11.2)] [z13,z14,z58,z51,z31,z63,z41,z52,z43,z44] 10 ?_)))
     obtain ⟨hg573,hh⟩:=grd_some hh
     refine yg (.iadr 1 (.t 75) (.t 76)) (some 77) 74 true (op_iadr (kd:=.i64) (c:=(eI .i64)) (xs:=z8) len_eI dd kr kr hg573 ?_)
     refine yg (.load false 1 (.t 77)) (some 78) 74 true (op_loadb (c:=(eI .i64)) (xs:=z8) (o:=Int.toNat s11.2*1) (i:=(Int.toNat s11.2)) (off:=0) (v:=ii z10) len_eI kr ltn ltn dd kr ?_)
     refine ye (sp 122 [z20,z23,z29,z36,z47,z16,z50,z56,(14,bb (decide (z10=(0:Int)))),(15,ii s11.2),z62,(73,bb true),(74,bb true),(75,bo (eI .i64) z8),(76,ii s11.2),(77,.bptr (fl (eI .i64) z8) (Int.toNat s11.2*1)),(78,ii z10),(79,bb (decide (z10=(0:Int)))),(80,bb (decide (z10=(0:Int))))]) [z13,z14,z58,z51,z31,z63,z41,z52,z43,z44] 10 (blk_m ?_)
     obtain rfl:=some_some hh
     exact hN12 (decide (z10=(0:Int))) _ _ _ hk12 (el [some 0,some 1,some 2,some 3,some 4,some 5,some 6,some 7,some 8,some 9] (rens_sp kr (rp 0 (rp 1 (rp 2 (ri (ro nr_eI (rp 5 (ri (ro nr_eI (rb (ri rl_n))))))))))) (hq ⟨30,(B_30 x_b)⟩ (rens_same (nr_B_30 _)) (hq ⟨26,[.nil,.nil]⟩ rz (hq q13 rz (hn nr_eI (hn nr_O_53 (hq q23 rz (hn nr_eI (hn nr_C_50 (hn nr_eI (hn nr_eI hs_nil)))))))))))
   refine yb 54 hb (yb 55 hb (yt (sp 122 [z20,z23,z29,z36,z47,z17,z50,(58,bb false)]) [z13,z14,z58,z51,z31,z59,z42,z43,z44,z48] 11 (cF rfl (Aw.exit (then_x (hX8 _ _ _ _ _ (some_some hh) ?_))))))
   intro hout
   rw [hout] at hk8
   refine blk_x ?_
   obtain rfl:=some_some hk8
   exact hN7 (s8.1,s8.2.2.1) _ _ _ hk7 (el [some 1,some 2,some 3,some 4,some 6,some 7,some 10,some 8,some 9] (rens_sp kr (rp 1 (rp 2 (ri (rp 6 rl_n))))) (hq ⟨26,[.nil,.nil]⟩ rz (hq q13 rz (hn nr_eI (hn nr_O_53 (hq q14 rz (hn nr_eI (hn nr_C_50 (hn nr_eI (hn nr_eI hs_nil))))))))))
 intro Q4 hN4 hR4 hE4
 refine sy [2,3,4,7,8,9] [0,1,2,3,4,5] (sp 122 [z18,z21,z24,(7,pp 5),(8,ii (-1)),(9,ii 2)]) [z11,z15,z19,(3,some q2),z31,(5,some q3)] 6 (Aw.block ?_)
 obtain ⟨o13,hi13,hk13⟩:=bind_some hh
 refine Aw.iter (fun (s13:Int × Int)=>sp 122 [(2,pp 0),(3,pp 1),(4,pp 2),(7,pp 3),(8,ii s13.1),(9,ii s13.2)]) (fun (s13:Int × Int)=>[(0,some ⟨26,(B_26 x_h)⟩),(1,some ⟨30,(B_30 x_b)⟩),(2,some ⟨26,[.nil,.nil]⟩),(3,some ⟨26,[sw 4 v3.Words,.sref 5 [] 0 (List.length v3.Guests) 17]⟩),(4,some ⟨3,(fl (eI .i64) v3.Words)⟩),(5,some ⟨53,(fl O_53 v3.Guests)⟩)]) 6 hi13 (el [some 0,some 1,some 2,some 5,some 3,some 4] (rens_sp kr (rp 0 (rp 1 (rp 2 (rp 5 (ri (ri rl_n))))))) (hq ⟨26,(B_26 x_h)⟩ (rens_same (nr_B_26 _)) (hq ⟨30,(B_30 x_b)⟩ (rens_same (nr_B_30 _)) (hq ⟨26,[.nil,.nil]⟩ rz (hq q3 rz (hn nr_eI (hn nr_O_53 hs_nil))))))) ?_
 intro s13 u13 Q13 hh hN13 hX13 hR13
 let z64:=(28,bb (decide ((0:Int)≤s13.2))); let z65:=(9,ii s13.2); let z6:=List.getD x_h.Guests (Int.toNat s13.2) default
 unfold F_spec_HostBoot_l13 at hh
 refine Aw.seq (Aw.sreg [2,3,4,7,8,9,28] [0,1,2,3,4,5] ?_)
 let q24:Root:=⟨26,[sw 4 v3.Words,.sref 5 [] 0 (List.length v3.Guests) 17]⟩; let z66:=(3,some q24)
 refine yt (sp 122 [z18,z21,z24,z30,(8,ii s13.1),z65,z64]) [z11,z15,z19,z66,z33,z32] 6 ?_
 rcases cond_sf hh with ⟨hb,hh⟩ | ⟨hb,hh⟩
 · refine cF hb (Aw.exit (then_x (hX13 _ _ _ _ _ (some_some hh) ?_)))
   intro hout
   rw [hout] at hk13
   refine blk_x ?_
   obtain rfl:=some_some hk13
   exact hN4 s13.1 _ _ _ hk4 (el [some 0,some 1,some 2,some 3,some 4,some 5] (rens_sp kr (rp 0 (rp 1 (rp 2 (rp 3 (ri rl_n)))))) (hq ⟨26,(B_26 x_h)⟩ (rens_same (nr_B_26 _)) (hq ⟨30,(B_30 x_b)⟩ (rens_same (nr_B_30 _)) (hq ⟨26,[.nil,.nil]⟩ rz (hq q24 rz (hn nr_eI (hn nr_O_53 hs_nil)))))))
 refine cT hb (Aw.xskip (fun _ _ _ hq=>then_m hq) ?_)
 obtain ⟨j14,hh,hk14⟩:=bind_some hh
 refine Aw.join (S:=Int) (fun s14=>sp 122 [(2,pp 0),(3,pp 1),(4,pp 2),(7,pp 3),(8,ii s14),(9,ii s13.2)]) (fun s14=>[(0,some ⟨26,(B_26 x_h)⟩),(1,some ⟨30,(B_30 x_b)⟩),(2,some ⟨26,[.nil,.nil]⟩),(3,some ⟨26,[sw 4 v3.Words,.sref 5 [] 0 (List.length v3.Guests) 17]⟩),(4,some ⟨3,(fl (eI .i64) v3.Words)⟩),(5,some ⟨53,(fl O_53 v3.Guests)⟩)]) 6 (fun s14=>F_spec_HostBoot_j14 s13 s14=some u13) ?_ ?_
 · intro s14 hh
   unfold F_spec_HostBoot_j14 at hh
   exact Aw.oreg (ye (sp 122 [z18,z21,z24,z30,(8,ii s14),(9,ii (w64 (s13.2 - (1:Int)))),(29,ii s13.2),(30,ii (w64 (s13.2 - (1:Int))))]) [z11,z15,z19,z66,z33,z32] 6 (hN13 (s14,(w64 (s13.2 - (1:Int)))) _ _ _ (some_some hh) (el [some 0,some 1,some 2,some 3,some 4,some 5] (rens_sp kr (rp 0 (rp 1 (rp 2 (rp 3 (ri (ri rl_n))))))) (hq ⟨26,(B_26 x_h)⟩ (rens_same (nr_B_26 _)) (hq ⟨30,(B_30 x_b)⟩ (rens_same (nr_B_30 _)) (hq ⟨26,[.nil,.nil]⟩ rz (hq q24 rz (hn nr_eI (hn nr_O_53 hs_nil)))))))))
 intro Q14 hN14 hR14 hE14
 refine Aw.block (Aw.sreg [2,3,4,7,8,9,37] [0,1,2,3,4,5] (yj 3  (sp 122 [z18,z21,z24,z30,(8,ii s13.1),z65,z64,(31,.ptr 0 [] 1),(32,bo B_53 x_h.Guests),(33,ii s13.2)]) [z11,z15,z19,z66,z33,z32] 6 ?_))
 obtain ⟨hg594,hh⟩:=grd_some hh
 refine ys (.iadr 17 (.t 32) (.t 33)) (some 34) (op_iadr (kd:=.i64) (c:=B_53) (xs:=x_h.Guests) len_B_53 dd kr kr hg594 ?_)
 refine yu 1 [(34,.bptr (fl B_53 x_h.Guests) (Int.toNat s13.2*17)),(35,.bptr (fl B_53 x_h.Guests) (Int.toNat s13.2*17+0))] [z11,z15,z19,z66,z33,z32] 6 (ys (.load false 1 (.t 35)) (some 36) (op_loadb (c:=B_53) (xs:=x_h.Guests) (o:=Int.toNat s13.2*17+0) (i:=(Int.toNat s13.2)) (off:=0) (v:=bb (z6.Live)) len_B_53 kr ltn ltn dd kr ?_))
 refine yt (sp 122 [z18,z21,z24,z30,(8,ii s13.1),z65,(37,bb (!(z6.Live)))]) [z11,z15,z19,z66,z33,z32] 6 ?_
 rcases cond_sf hh with ⟨hb,hh⟩ | ⟨hb,hh⟩
 · refine cF hb (Aw.skip (blk_m ?_))
   obtain rfl:=some_some hh
   exact hN14 s13.1 _ _ _ hk14 (el [some 0,some 1,some 2,some 3,some 4,some 5] (rens_sp kr (rp 0 (rp 1 (rp 2 (rp 3 (ri (ri rl_n))))))) (hq ⟨26,(B_26 x_h)⟩ (rens_same (nr_B_26 _)) (hq ⟨30,(B_30 x_b)⟩ (rens_same (nr_B_30 _)) (hq ⟨26,[.nil,.nil]⟩ rz (hq q24 rz (hn nr_eI (hn nr_O_53 hs_nil)))))))
 refine cT hb (Aw.oreg (ye (sp 122 [z18,z21,z24,z30,(8,ii s13.2),z65,(37,bb (!(z6.Live))),(38,ii s13.2)]) [z11,z15,z19,z66,z33,z32] 6 (blk_m ?_)))
 obtain rfl:=some_some hh
 exact hN14 s13.2 _ _ _ hk14 (el [some 0,some 1,some 2,some 3,some 4,some 5] (rens_sp kr (rp 0 (rp 1 (rp 2 (rp 3 (ri (ri rl_n))))))) (hq ⟨26,(B_26 x_h)⟩ (rens_same (nr_B_26 _)) (hq ⟨30,(B_30 x_b)⟩ (rens_same (nr_B_30 _)) (hq ⟨26,[.nil,.nil]⟩ rz (hq q24 rz (hn nr_eI (hn nr_O_53 hs_nil)))))))
end Go.Proofs.Ytlikfpmbcdlnjaa
