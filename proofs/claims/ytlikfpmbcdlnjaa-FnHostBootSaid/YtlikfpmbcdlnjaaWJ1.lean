/- Plain functions of the program, and that it hands back what they say. Made by program. -/
import Derived.Test.YtlikfpmbcdlnjaaWT
import Derived.Test.YtlikfpmbcdlnjaaProg
import Derived.Test.YtlikfpmbcdlnjaaWI1
namespace Go.Proofs.Ytlikfpmbcdlnjaa
open Go.RowKit
set_option maxRecDepth 100000
set_option linter.all false
set_option maxHeartbeats 0
def Lf78_r0:List LOper:=[oX 2 53 0,oX 3 53 1,oF 4]
def Lf78_r1:List LOper:=[oA 6 0 2,ol 7 6,oA 8 0 3,ol 9 8,oo 10 (.binb true (.t 7) (.t 9)),om 11 10,og 12 (.fadr 1 (.t 2)) 11 false,og 13 (.load true 13 (.t 12)) 11 false,og 14 (.fadr 1 (.t 3)) 11 false,og 15 (.load true 13 (.t 14)) 11 false,og 16 (.call 58 [(.t 13),(.t 15)]) 11 false,og 17 (.un .not (.t 16)) 11 false,oQ 18 11 17,om 19 18,og 20 (.fadr 15 (.t 2)) 19 false,og 21 (.load false 1 (.t 20)) 19 false,og 22 (.fadr 15 (.t 3)) 19 false,og 23 (.load false 1 (.t 22)) 19 false,og 24 (.call 61 [(.t 21),(.t 23)]) 19 false,og 25 (.un .not (.t 24)) 19 false,oQ 26 19 25,om 27 26,og 28 (.fadr 16 (.t 2)) 27 false,og 29 (.load false 1 (.t 28)) 27 false,og 30 (.fadr 16 (.t 3)) 27 false,og 31 (.load false 1 (.t 30)) 27 false,og 32 (.call 61 [(.t 29),(.t 31)]) 27 false,og 33 (.un .not (.t 32)) 27 false,oQ 34 27 33,om 35 34,og 36 (.fadr 14 (.t 2)) 35 false,og 37 (.load false 1 (.t 36)) 35 false,og 38 (.len (.t 37)) 35 false,og 39 (.fadr 14 (.t 3)) 35 false,og 40 (.load false 1 (.t 39)) 35 false,og 41 (.len (.t 40)) 35 false,og 42 (.bin .neq (.t 38) (.t 41)) 35 false,oQ 43 35 42]
def Lf78_r2:List LOper:=[oF 4]
def Lf78_r3:List LOper:=[oN 5 0]
def Lf78_r4:List LOper:=[om 44 5,oA 45 14 2,ol 46 45,oH 47 46,oB 48 .lss 44 47]
def Lf78_r5:List LOper:=[oA 51 14 2,ol 52 51,om 53 5,oi 54 3 52 53,oL 55 3 54,oA 56 14 3,ol 57 56,om 58 5,oi 59 3 57 58,oL 60 3 59,oo 61 (.beq true [(0,false),(1,true),(2,true)] (.t 55) (.t 60))]
def Lf78_r6:List LOper:=[oF 4]
def Lf78_r7:List LOper:=[om 49 5,ob 50 .add 49 1,om 5 50]
def Lf78_l8:LCode:=(.seq (.seq (.reg false Lf78_r4) (.cond (.t 48) .skip (.exit 0))) (.seq (.block 1 (.seq (.reg true Lf78_r5) (.cond (.t 61) (.seq (.reg false Lf78_r6) .ret) .skip))) (.reg false Lf78_r7)))
def Lf78_r9:List LOper:=[oT 4]
def Lf78:LFun:=⟨62,[(.tmp 4)],(.seq (.reg false Lf78_r0) (.seq (.seq (.reg false Lf78_r1) (.cond (.t 43) (.seq (.reg false Lf78_r2) .ret) .skip)) (.seq (.seq (.reg false Lf78_r3) (.block 0 (.loop Lf78_l8))) (.seq (.reg false Lf78_r9) .ret))))⟩
theorem low_laws_sameGuest:lowFun Go.Proofs.Try.prog 78=some Lf78:=by kernel_rfl
noncomputable def F_laws_sameGuest_j4  (s4:Unit):Option Bool :=
 some true
noncomputable def F_laws_sameGuest_l5 (x_a:DGuest) (x_b:DGuest) (s5:Int):Option (LO Int (JO Unit Bool)) :=
 cond (decide (s5<(((List.length x_a.Pages):Nat):Int)))
  (grd ((0:Int)≤s5∧s5<((List.length x_a.Pages:Nat):Int)) (grd ((0:Int)≤s5∧s5<((List.length x_b.Pages:Nat):Int)) (cond (!(decide (((List.getD x_a.Pages (Int.toNat s5) default).Frame)=((List.getD x_b.Pages (Int.toNat s5) default).Frame)) && ((((List.getD x_a.Pages (Int.toNat s5) default).Write) == ((List.getD x_b.Pages (Int.toNat s5) default).Write)) && ((((List.getD x_a.Pages (Int.toNat s5) default).Dirty) == ((List.getD x_b.Pages (Int.toNat s5) default).Dirty)) && true))))
   (some (.ret (.out false)))
   (some (.next (w64 (s5+(1:Int))))))))
  (some (.ret (.go ())))
noncomputable def F_laws_sameGuest (x_a:DGuest) (x_b:DGuest):Option Bool :=
 cond (!(x_a.Live == x_b.Live))
  (some false)
  (Option.bind (F_laws_sameCore x_a.C x_b.C) fun v1 =>
  cond (!v1)
   (some false)
   (Option.bind (F_laws_sameInts x_a.In x_b.In) fun v2 =>
   cond (!v2)
    (some false)
    (Option.bind (F_laws_sameInts x_a.Out x_b.Out) fun v3 =>
    cond (!v3)
     (some false)
     (cond (!decide ((((List.length x_a.Pages):Nat):Int)=(((List.length x_b.Pages):Nat):Int)))
      (some false)
      (Option.bind (Option.bind (iter (F_laws_sameGuest_l5 x_a x_b) (0:Int)) LO.val) fun j4 =>
       JO.run j4 (F_laws_sameGuest_j4))))))
theorem laws_sameGuest_fn {x_a:DGuest} {x_b:DGuest} {R_:Bool} (hh:F_laws_sameGuest x_a x_b=some R_):Fn Try.prog 78 [.agg (B_53 x_a),.agg (B_53 x_b)] (.bool R_):=by
 let z3:EH:=(0,some ⟨53,(B_53 x_a)⟩); let z4:EH:=(1,some ⟨53,(B_53 x_b)⟩); let z5:=(2,pp 0); let z6:=(3,pp 1); let z7:=(4,bb false); let z8:=(43,bb true)
 unfold F_laws_sameGuest at hh
 refine Fn.start low_laws_sameGuest [0,1] (E:=sp 62 [(0,.agg (B_53 x_a)),(1,.agg (B_53 x_b))]) kr (v:=bb R_) (Hr:=[]) (k:=0) kr (sy [2,3] [0,1] (sp 62 [z5,z6]) [z3,z4] 2 (Aw.seq (Aw.sreg [2,3,43] [0,1] (yj 6  (sp 62 [z5,z6,(6,pp 0),(7,bb x_a.Live),(8,pp 1),(9,bb x_b.Live),(10,bb (!(x_a.Live == x_b.Live))),(11,bb (!(x_a.Live == x_b.Live)))]) [z3,z4] 2 ?_))))
 rcases cond_some hh with ⟨hb,hh⟩ | ⟨hb,hh⟩
 · exact yb 10 hb (yb 11 hb (yt (sp 62 [z5,z6,z8]) [z3,z4] 2 (cT rfl (sy [4] [] (sp 62 [z7]) [] 2 (Aw.ret (then_r (gvbs hh)))))))
 refine yb 10 hb (yb 11 hb (yu 4 [(10,bb false),(11,bb false),(12,.ptr 0 [] 1),(13,.agg (B_28 x_a.C)),(14,.ptr 1 [] 1),(15,.agg (B_28 x_b.C))] [z3,z4] 2 ?_))
 obtain ⟨v1,hv1,hh⟩:=bind_some hh
 refine yg (.call 58 [(.t 13),(.t 15)]) (some 16) 11 false (op_call (r:=bb v1) (v:=bb v1) (Hr:=[]) (n':=2) (laws_sameCore_fn hv1) (clz_v (vs:=[.agg (B_28 x_a.C),.agg (B_28 x_b.C)]) kr (clz_c (clo_same (clean_agg (cl_B_28 _))) (clz_c (clo_same (clean_agg (cl_B_28 _))) clz_n))) rfl rfl kr ?_)
 refine yu 3 [(16,bb v1),(17,bb (!v1)),(18,bb (!v1)),(19,bb (!v1))] [z3,z4] 2 ?_
 rcases cond_some hh with ⟨hb,hh⟩ | ⟨hb,hh⟩
 · exact yb 17 hb (yb 18 hb (yb 19 hb (yt (sp 62 [z5,z6,z8]) [z3,z4] 2 (cT rfl (sy [4] [] (sp 62 [z7]) [] 2 (Aw.ret (then_r (gvbs hh))))))))
 refine yb 17 hb (yb 18 hb (yb 19 hb (yu 4 [(17,bb false),(18,bb false),(19,bb false),(20,.ptr 0 [] 15),(21,bo (eI .i64) x_a.In),(22,.ptr 1 [] 15),(23,bo (eI .i64) x_b.In)] [z3,z4] 2 ?_)))
 obtain ⟨v2,hv2,hh⟩:=bind_some hh
 refine yg (.call 61 [(.t 21),(.t 23)]) (some 24) 19 false (oc (laws_sameInts_fn hv2) ?_)
 refine yu 3 [(24,bb v2),(25,bb (!v2)),(26,bb (!v2)),(27,bb (!v2))] [z3,z4] 2 ?_
 rcases cond_some hh with ⟨hb,hh⟩ | ⟨hb,hh⟩
 · exact yb 25 hb (yb 26 hb (yb 27 hb (yt (sp 62 [z5,z6,z8]) [z3,z4] 2 (cT rfl (sy [4] [] (sp 62 [z7]) [] 2 (Aw.ret (then_r (gvbs hh))))))))
 refine yb 25 hb (yb 26 hb (yb 27 hb (yu 4 [(25,bb false),(26,bb false),(27,bb false),(28,.ptr 0 [] 16),(29,bo (eI .i64) x_a.Out),(30,.ptr 1 [] 16),(31,bo (eI .i64) x_b.Out)] [z3,z4] 2 ?_)))
 obtain ⟨v3,hv3,hh⟩:=bind_some hh
 refine yg (.call 61 [(.t 29),(.t 31)]) (some 32) 27 false (oc (laws_sameInts_fn hv3) ?_)
 refine yu 3 [(32,bb v3),(33,bb (!v3)),(34,bb (!v3)),(35,bb (!v3))] [z3,z4] 2 ?_
 rcases cond_some hh with ⟨hb,hh⟩ | ⟨hb,hh⟩
 · exact yb 33 hb (yb 34 hb (yb 35 hb (yt (sp 62 [z5,z6,z8]) [z3,z4] 2 (cT rfl (sy [4] [] (sp 62 [z7]) [] 2 (Aw.ret (then_r (gvbs hh))))))))
 refine yb 33 hb (yb 34 hb (yb 35 hb (yt (sp 62 [z5,z6,(43,bb (!decide ((((List.length x_a.Pages):Nat):Int)=(((List.length x_b.Pages):Nat):Int))))]) [z3,z4] 2 ?_)))
 rcases cond_some hh with ⟨hb,hh⟩ | ⟨hb,hh⟩
 · exact cT hb (sy [4] [] (sp 62 [z7]) [] 2 (Aw.ret (then_r (gvbs hh))))
 refine cF hb (Aw.xskip (fun _ _ _ hq=>then_m hq) ?_)
 obtain ⟨j4,hh,hk4⟩:=bind_some hh
 refine Aw.join (S:=Unit) (fun s4=>sp 62 []) (fun s4=>[]) 0 (fun s4=>F_laws_sameGuest_j4 s4=some R_) ?_ ?_
 · intro s4 hh
   unfold F_laws_sameGuest_j4 at hh
   exact sy [4] [] (sp 62 [(4,bb true)]) [] 0 (Aw.ret (gvbs hh))
 intro Q4 hN4 hR4 hE4
 refine sy [2,3,5] [0,1] (sp 62 [z5,z6,(5,ii 0)]) [z3,z4] 2 (Aw.block ?_)
 obtain ⟨o5,hi5,hk5⟩:=bind_some hh
 refine Aw.iter (fun (s5:Int)=>sp 62 [(2,pp 0),(3,pp 1),(5,ii s5)]) (fun (s5:Int)=>[(0,some ⟨53,(B_53 x_a)⟩),(1,some ⟨53,(B_53 x_b)⟩)]) 2 hi5 (el [some 0,some 1] (rens_sp kr (rp 0 (rp 1 (ri rl_n)))) (hq ⟨53,(B_53 x_a)⟩ (rens_same (nr_B_53 _)) (hq ⟨53,(B_53 x_b)⟩ (rens_same (nr_B_53 _)) hs_nil))) ?_
 intro s5 u5 Q5 hh hN5 hX5 hR5
 let z9:=(48,bb (decide (s5<(((List.length x_a.Pages):Nat):Int)))); let z1:=List.getD x_a.Pages (Int.toNat s5) default; let z2:=List.getD x_b.Pages (Int.toNat s5) default; let z10:=(61,bb (!(decide ((z1.Frame)=(z2.Frame)) && (((z1.Write) == (z2.Write)) && (((z1.Dirty) == (z2.Dirty)) && true)))))
 unfold F_laws_sameGuest_l5 at hh
 refine Aw.seq (sy [2,3,5,48] [0,1] (sp 62 [z5,z6,(5,ii s5),z9]) [z3,z4] 2 ?_)
 rcases cond_sf hh with ⟨hb,hh⟩ | ⟨hb,hh⟩
 · refine cF hb (Aw.exit (then_x (hX5 _ _ _ _ _ (some_some hh) ?_)))
   intro hout
   rw [hout] at hk5
   refine blk_x ?_
   obtain rfl:=some_some hk5
   exact hN4 () _ _ _ hk4 (el [] (rens_sp kr rl_n) hs_nil)
 refine cT hb (Aw.xskip (fun _ _ _ hq=>then_m hq) (Aw.seq (Aw.block (Aw.sregq [2,3,5,61] (qc (cs:=[]) (E':=(sp 62 [z5,z6,(5,ii s5),z9,(51,.ptr 0 [] 14),(52,bo C_50 x_a.Pages),(53,ii s5)])) (pre:=(List.take 3 Lf78_r5)) (L':=(List.drop 3 Lf78_r5)) kr (fun K=>by kernel_rfl) .nil ?_)))))
 obtain ⟨hg47,hh⟩:=grd_some hh
 refine qs (.iadr 3 (.t 52) (.t 53)) (some 54) (yq_q rfl (op_iadr (kd:=.i64) (c:=C_50) (xs:=x_a.Pages) len_C_50 dd kr kr hg47 ?_))
 refine qs (.load true 3 (.t 54)) (some 55) (yq_q rfl (op_loadbA (c:=C_50) (xs:=x_a.Pages) (o:=Int.toNat s5*3) (i:=(Int.toNat s5)) (off:=0) (v:=.agg [ii (z1.Frame),bb (z1.Write),bb (z1.Dirty)]) len_C_50 kr ltn ltn dd kr ?_))
 refine qc (cs:=[]) (E':=(sp 62 [z5,z6,(5,ii s5),z9,(51,.ptr 0 [] 14),(52,bo C_50 x_a.Pages),(53,ii s5),(54,.bptr (fl C_50 x_a.Pages) (Int.toNat s5*3)),(55,.agg [ii (z1.Frame),bb (z1.Write),bb (z1.Dirty)]),(56,.ptr 1 [] 14),(57,bo C_50 x_b.Pages),(58,ii s5)])) (pre:=(List.take 3 (List.drop 5 Lf78_r5))) (L':=(List.drop 8 Lf78_r5)) kr (fun K=>by kernel_rfl) .nil ?_
 obtain ⟨hg48,hh⟩:=grd_some hh
 refine qs (.iadr 3 (.t 57) (.t 58)) (some 59) (yq_q rfl (op_iadr (kd:=.i64) (c:=C_50) (xs:=x_b.Pages) len_C_50 dd kr kr hg48 ?_))
 refine qs (.load true 3 (.t 59)) (some 60) (yq_q rfl (op_loadbA (c:=C_50) (xs:=x_b.Pages) (o:=Int.toNat s5*3) (i:=(Int.toNat s5)) (off:=0) (v:=.agg [ii (z2.Frame),bb (z2.Write),bb (z2.Dirty)]) len_C_50 kr ltn ltn dd kr ?_))
 refine qct (cs:=[]) (E':=(sp 62 [z5,z6,(5,ii s5),z10])) (fun K=>by kernel_rfl) .nil ?_
 rcases cond_some hh with ⟨hb,hh⟩ | ⟨hb,hh⟩
 · refine cT hb (sy [4] [] (sp 62 [z7]) [] 2 (Aw.ret (blk_r (then_r ?_))))
   refine hR5 _ _ _ _ (some_some hh) ?_
   intro hout
   rw [hout] at hk5
   refine blk_r ?_
   obtain rfl:=some_some hk5
   refine hR4 _ _ _ ?_
   rw [some_some hk4]
   exact gvb
 exact cF hb (Aw.xskip (fun _ _ _ hq=>blk_m (then_m hq)) (Aw.oreg (ye (sp 62 [z5,z6,(5,ii (w64 (s5+(1:Int)))),(49,ii s5),(50,ii (w64 (s5+(1:Int)))),z10]) [z3,z4] 2 (hN5 (w64 (s5+(1:Int))) _ _ _ (some_some hh) (el [some 0,some 1] (rens_sp kr (rp 0 (rp 1 (ri rl_n)))) (hq ⟨53,(B_53 x_a)⟩ (rens_same (nr_B_53 _)) (hq ⟨53,(B_53 x_b)⟩ (rens_same (nr_B_53 _)) hs_nil)))))))
def Lf20_r0:List LOper:=[oX 2 26 0,oX 3 26 1,oF 4]
def Lf20_r1:List LOper:=[oA 6 0 2,ol 7 6,oA 8 0 3,ol 9 8,oK 10 61 [7,9],oU 11 10,om 12 11,og 13 (.fadr 1 (.t 2)) 12 false,og 14 (.load false 1 (.t 13)) 12 false,og 15 (.len (.t 14)) 12 false,og 16 (.fadr 1 (.t 3)) 12 false,og 17 (.load false 1 (.t 16)) 12 false,og 18 (.len (.t 17)) 12 false,og 19 (.bin .neq (.t 15) (.t 18)) 12 false,oQ 20 12 19]
def Lf20_r2:List LOper:=[oF 4]
def Lf20_r3:List LOper:=[oN 5 0]
def Lf20_r4:List LOper:=[om 21 5,oA 22 1 2,ol 23 22,oH 24 23,oB 25 .lss 21 24]
def Lf20_r5:List LOper:=[oA 28 1 2,ol 29 28,om 30 5,oi 31 17 29 30,oL 32 17 31,oA 33 1 3,ol 34 33,om 35 5,oi 36 17 34 35,oL 37 17 36]
def Lf20_r5t:List LOper:=[oK 38 78 [32,37],oU 39 38]
def Lf20_r7:List LOper:=[oF 4]
def Lf20_r8:List LOper:=[om 26 5,ob 27 .add 26 1,om 5 27]
def Lf20_l9:LCode:=(.seq (.seq (.reg false Lf20_r4) (.cond (.t 25) .skip (.exit 0))) (.seq (.block 1 (.seq (.regd Lf20_r5 Lf20_r5t) (.cond (.t 39) (.seq (.reg false Lf20_r7) .ret) .skip))) (.reg false Lf20_r8)))
def Lf20_r10:List LOper:=[oT 4]
def Lf20:LFun:=⟨40,[(.tmp 4)],(.seq (.reg false Lf20_r0) (.seq (.seq (.reg false Lf20_r1) (.cond (.t 20) (.seq (.reg false Lf20_r2) .ret) .skip)) (.seq (.seq (.reg false Lf20_r3) (.block 0 (.loop Lf20_l9))) (.seq (.reg false Lf20_r10) .ret))))⟩
theorem low_laws_sameHost:lowFun Go.Proofs.Try.prog 20=some Lf20:=by kernel_rfl
noncomputable def F_laws_sameHost_j2  (s2:Unit):Option Bool :=
 some true
noncomputable def F_laws_sameHost_l3 (x_a:DHost) (x_b:DHost) (s3:Int):Option (LO Int (JO Unit Bool)) :=
 cond (decide (s3<(((List.length x_a.Guests):Nat):Int)))
  (grd ((0:Int)≤s3∧s3<((List.length x_a.Guests:Nat):Int)) (grd ((0:Int)≤s3∧s3<((List.length x_b.Guests:Nat):Int)) (Option.bind (F_laws_sameGuest (DGuest.mk ((List.getD x_a.Guests (Int.toNat s3) default).Live) (DCore.mk (((List.getD x_a.Guests (Int.toNat s3) default).C).Regs) (((List.getD x_a.Guests (Int.toNat s3) default).C).Pc) (((List.getD x_a.Guests (Int.toNat s3) default).C).Root) (((List.getD x_a.Guests (Int.toNat s3) default).C).Vector) (((List.getD x_a.Guests (Int.toNat s3) default).C).Saved) (((List.getD x_a.Guests (Int.toNat s3) default).C).SavedUser) (((List.getD x_a.Guests (Int.toNat s3) default).C).Cause) (((List.getD x_a.Guests (Int.toNat s3) default).C).Bad) (((List.getD x_a.Guests (Int.toNat s3) default).C).Timer) (((List.getD x_a.Guests (Int.toNat s3) default).C).Waits) (((List.getD x_a.Guests (Int.toNat s3) default).C).User) (((List.getD x_a.Guests (Int.toNat s3) default).C).On) (((List.getD x_a.Guests (Int.toNat s3) default).C).Stopped)) ((List.getD x_a.Guests (Int.toNat s3) default).Pages) ((List.getD x_a.Guests (Int.toNat s3) default).In) ((List.getD x_a.Guests (Int.toNat s3) default).Out)) (DGuest.mk ((List.getD x_b.Guests (Int.toNat s3) default).Live) (DCore.mk (((List.getD x_b.Guests (Int.toNat s3) default).C).Regs) (((List.getD x_b.Guests (Int.toNat s3) default).C).Pc) (((List.getD x_b.Guests (Int.toNat s3) default).C).Root) (((List.getD x_b.Guests (Int.toNat s3) default).C).Vector) (((List.getD x_b.Guests (Int.toNat s3) default).C).Saved) (((List.getD x_b.Guests (Int.toNat s3) default).C).SavedUser) (((List.getD x_b.Guests (Int.toNat s3) default).C).Cause) (((List.getD x_b.Guests (Int.toNat s3) default).C).Bad) (((List.getD x_b.Guests (Int.toNat s3) default).C).Timer) (((List.getD x_b.Guests (Int.toNat s3) default).C).Waits) (((List.getD x_b.Guests (Int.toNat s3) default).C).User) (((List.getD x_b.Guests (Int.toNat s3) default).C).On) (((List.getD x_b.Guests (Int.toNat s3) default).C).Stopped)) ((List.getD x_b.Guests (Int.toNat s3) default).Pages) ((List.getD x_b.Guests (Int.toNat s3) default).In) ((List.getD x_b.Guests (Int.toNat s3) default).Out))) fun v4 =>
   cond (!v4)
    (some (.ret (.out false)))
    (some (.next (w64 (s3+(1:Int))))))))
  (some (.ret (.go ())))
noncomputable def F_laws_sameHost (x_a:DHost) (x_b:DHost):Option Bool :=
 Option.bind (F_laws_sameInts x_a.Words x_b.Words) fun v1 =>
 cond (!v1)
  (some false)
  (cond (!decide ((((List.length x_a.Guests):Nat):Int)=(((List.length x_b.Guests):Nat):Int)))
   (some false)
   (Option.bind (Option.bind (iter (F_laws_sameHost_l3 x_a x_b) (0:Int)) LO.val) fun j2 =>
    JO.run j2 (F_laws_sameHost_j2)))
theorem laws_sameHost_fn {x_a:DHost} {x_b:DHost} {R_:Bool} (hh:F_laws_sameHost x_a x_b=some R_):Fn Try.prog 20 [.agg [bo (eI .i64) x_a.Words,bo B_53 x_a.Guests],.agg [bo (eI .i64) x_b.Words,bo B_53 x_b.Guests]] (.bool R_):=by
 let z3:=(2,pp 0); let z4:=(29,bo B_53 x_a.Guests); let z5:=(3,pp 1)
 unfold F_laws_sameHost at hh
 refine Fn.start low_laws_sameHost [0,1] (E:=sp 40 [(0,.agg (B_26 x_a)),(1,.agg (B_26 x_b))]) kr (v:=bb R_) (Hr:=[]) (k:=0) kr (Aw.sreg [2,3] [0,1] ?_)
 let q1:Root:=⟨26,[bo (eI .i64) x_a.Words,bo B_53 x_a.Guests]⟩; let z6:=(0,some q1); let q2:Root:=⟨26,[bo (eI .i64) x_b.Words,bo B_53 x_b.Guests]⟩; let z7:=(1,some q2)
 refine yt (sp 40 [z3,z5]) [z6,z7] 2 (Aw.seq (Aw.sreg [2,3,20] [0,1] (yj 4  (sp 40 [z3,z5,(6,pp 0),(7,bo (eI .i64) x_a.Words),(8,pp 1),(9,bo (eI .i64) x_b.Words)]) [z6,z7] 2 ?_)))
 obtain ⟨v1,hv1,hh⟩:=bind_some hh
 refine ys (.call 61 [(.t 7),(.t 9)]) (some 10) (oc (laws_sameInts_fn hv1) ?_)
 refine yu 2 [(10,bb v1),(11,bb (!v1)),(12,bb (!v1))] [z6,z7] 2 ?_
 rcases cond_some hh with ⟨hb,hh⟩ | ⟨hb,hh⟩
 · exact yb 11 hb (yb 12 hb (yt (sp 40 [z3,z5,(20,bb true)]) [(0,some ⟨26,(B_26 x_a)⟩),(1,some ⟨26,(B_26 x_b)⟩)] 2 (cT rfl (sy [4] [] (sp 40 [(4,bb false)]) [] 2 (Aw.ret (then_r (gvbs hh)))))))
 refine yb 11 hb (yb 12 hb (yt (sp 40 [z3,z5,(20,bb (!decide ((((List.length x_a.Guests):Nat):Int)=(((List.length x_b.Guests):Nat):Int))))]) [z6,z7] 2 ?_))
 rcases cond_some hh with ⟨hb,hh⟩ | ⟨hb,hh⟩
 · exact cT hb (sy [4] [] (sp 40 [(4,bb false)]) [] 2 (Aw.ret (then_r (gvbs hh))))
 refine cF hb (Aw.xskip (fun _ _ _ hq=>then_m hq) ?_)
 obtain ⟨j2,hh,hk2⟩:=bind_some hh
 refine Aw.join (S:=Unit) (fun s2=>sp 40 []) (fun s2=>[]) 0 (fun s2=>F_laws_sameHost_j2 s2=some R_) ?_ ?_
 · intro s2 hh
   unfold F_laws_sameHost_j2 at hh
   exact sy [4] [] (sp 40 [(4,bb true)]) [] 0 (Aw.ret (gvbs hh))
 intro Q2 hN2 hR2 hE2
 refine sy [2,3,5] [0,1] (sp 40 [z3,z5,(5,ii 0)]) [z6,z7] 2 (Aw.block ?_)
 obtain ⟨o3,hi3,hk3⟩:=bind_some hh
 refine Aw.iter (fun (s3:Int)=>sp 40 [(2,pp 0),(3,pp 1),(5,ii s3)]) (fun (s3:Int)=>[(0,some ⟨26,[bo (eI .i64) x_a.Words,bo B_53 x_a.Guests]⟩),(1,some ⟨26,[bo (eI .i64) x_b.Words,bo B_53 x_b.Guests]⟩)]) 2 hi3 (el [some 0,some 1] (rens_sp kr (rp 0 (rp 1 (ri rl_n)))) (hq q1 rz (hq q2 rz hs_nil))) ?_
 intro s3 u3 Q3 hh hN3 hX3 hR3
 let z8:=(25,bb (decide (s3<(((List.length x_a.Guests):Nat):Int)))); let z9:EV:=(31,.bptr (fl B_53 x_a.Guests) (Int.toNat s3*17)); let z1:=List.getD x_a.Guests (Int.toNat s3) default; let z2:=List.getD x_b.Guests (Int.toNat s3) default
 unfold F_laws_sameHost_l3 at hh
 refine Aw.seq (sy [2,3,5,25] [0,1] (sp 40 [z3,z5,(5,ii s3),z8]) [z6,z7] 2 ?_)
 rcases cond_sf hh with ⟨hb,hh⟩ | ⟨hb,hh⟩
 · refine cF hb (Aw.exit (then_x (hX3 _ _ _ _ _ (some_some hh) ?_)))
   intro hout
   rw [hout] at hk3
   refine blk_x ?_
   obtain rfl:=some_some hk3
   exact hN2 () _ _ _ hk2 (el [] (rens_sp kr rl_n) hs_nil)
 refine cT hb (Aw.xskip (fun _ _ _ hq=>then_m hq) (Aw.seq (Aw.block (Aw.sregd [2,3,5,39] [0,1] [] kr (dc (cs:=[]) (E':=(sp 40 [z3,z5,(5,ii s3),z8,(28,.ptr 0 [] 1),z4,(30,ii s3)])) (H':=[z6,z7]) (n':=2) (fs':=none) (pre:=(List.take 3 Lf20_r5)) (L':=(List.drop 3 Lf20_r5)) kr (fun K=>by kernel_rfl) .nil ?_)))))
 obtain ⟨hg47,hh⟩:=grd_some hh
 refine ds (.iadr 17 (.t 29) (.t 30)) (some 31) (ydo_q rfl kr (op_iadr (kd:=.i64) (c:=B_53) (xs:=x_a.Guests) len_B_53 dd kr kr hg47 ?_))
 refine ds (.load true 17 (.t 31)) (some 32) (ydo_q rfl kr (op_loadbA (c:=B_53) (xs:=x_a.Guests) (o:=Int.toNat s3*17) (i:=(Int.toNat s3)) (off:=0) (v:=.agg (B_53 z1)) len_B_53 kr ltn ltn dd kr ?_))
 refine dc (cs:=[]) (E':=(sp 40 [z3,z5,(5,ii s3),z8,(28,.ptr 0 [] 1),z4,(30,ii s3),z9,(32,.agg (B_53 z1)),(33,.ptr 1 [] 1),(34,bo B_53 x_b.Guests),(35,ii s3)])) (H':=[z6,z7]) (n':=2) (fs':=none) (pre:=(List.take 3 (List.drop 5 Lf20_r5))) (L':=(List.drop 8 Lf20_r5)) kr (fun K=>by kernel_rfl) .nil ?_
 obtain ⟨hg48,hh⟩:=grd_some hh
 refine ds (.iadr 17 (.t 34) (.t 35)) (some 36) (ydo_q rfl kr (op_iadr (kd:=.i64) (c:=B_53) (xs:=x_b.Guests) len_B_53 dd kr kr hg48 ?_))
 refine ds (.load true 17 (.t 36)) (some 37) (ydo_q rfl kr (op_loadbA (c:=B_53) (xs:=x_b.Guests) (o:=Int.toNat s3*17) (i:=(Int.toNat s3)) (off:=0) (v:=.agg (B_53 z2)) len_B_53 kr ltn ltn dd kr ?_))
 refine dct (cs:=[]) (E':=(sp 40 [z3,z5,(5,ii s3),z8,(28,.ptr 0 [] 1),z4,(30,ii s3),z9,(32,.agg (B_53 z1)),(33,.ptr 1 [] 1),(34,bo B_53 x_b.Guests),(35,ii s3),(36,.bptr (fl B_53 x_b.Guests) (Int.toNat s3*17)),(37,.agg (B_53 z2))])) (H':=[z6,z7]) (n':=2) (fun K=>by kernel_rfl) .nil ?_
 obtain ⟨v4,hv4,hh⟩:=bind_some hh
 refine ys (.call 78 [(.t 32),(.t 37)]) (some 38) (op_call (r:=bb v4) (v:=bb v4) (Hr:=[]) (n':=2) (laws_sameGuest_fn hv4) (clz_v (vs:=[.agg (B_53 z1),.agg (B_53 z2)]) kr (clz_c (clo_agg cz) (clz_c (clo_agg cz) clz_n))) rfl rfl kr ?_)
 refine yt (sp 40 [z3,z5,(5,ii s3),(39,bb (!v4))]) [z6,z7] 2 ?_
 rcases cond_some hh with ⟨hb,hh⟩ | ⟨hb,hh⟩
 · refine cT hb (sy [4] [] (sp 40 [(4,bb false)]) [] 2 (Aw.ret (blk_r (then_r ?_))))
   refine hR3 _ _ _ _ (some_some hh) ?_
   intro hout
   rw [hout] at hk3
   refine blk_r ?_
   obtain rfl:=some_some hk3
   refine hR2 _ _ _ ?_
   rw [some_some hk2]
   exact gvb
 exact cF hb (Aw.xskip (fun _ _ _ hq=>blk_m (then_m hq)) (Aw.oreg (ye (sp 40 [z3,z5,(5,ii (w64 (s3+(1:Int)))),(26,ii s3),(27,ii (w64 (s3+(1:Int)))),(39,bb (!v4))]) [z6,z7] 2 (hN3 (w64 (s3+(1:Int))) _ _ _ (some_some hh) (el [some 0,some 1] (rens_sp kr (rp 0 (rp 1 (ri rl_n)))) (hq q1 rz (hq q2 rz hs_nil)))))))
end Go.Proofs.Ytlikfpmbcdlnjaa
