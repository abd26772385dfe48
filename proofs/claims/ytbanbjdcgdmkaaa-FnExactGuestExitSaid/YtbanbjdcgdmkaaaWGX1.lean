/- Plain functions of the program, and that it hands back what they say. Made by program. -/
import Derived.Test.YtbanbjdcgdmkaaaWT
import Derived.Test.YtbanbjdcgdmkaaaProg
import Derived.Test.YtbanbjdcgdmkaaaWHC1
import Derived.Test.YtbanbjdcgdmkaaaWKI1
import Derived.Test.YtbanbjdcgdmkaaaWKT1
import Derived.Test.YtbanbjdcgdmkaaaWSO1
import Derived.Test.YtbanbjdcgdmkaaaWSX1
namespace Go.Proofs.Ytbanbjdcgdmkaaa
open Go.RowKit
set_option maxRecDepth 100000
set_option linter.all false
set_option maxHeartbeats 0
theorem low_impl_guestShade:LW 165 ⟨12,[(.cell 6 true 6)],(.seq (.reg false (rg 165 0)) (.seq (.reg false (rg 165 1)) .ret))⟩:=kr
noncomputable def F_impl_guestShade (x_h:DHost) (x_g:Int) (x_addr:Int):Option DShade :=
 Option.bind (F_impl_shadeOf x_h x_g (w64 (Int.tdiv x_addr (8:Int)))) fun v1 =>
 some v1
theorem impl_guestShade_fn {x_h:DHost} {x_g:Int} {x_addr:Int} {R_:DShade} (hh:F_impl_guestShade x_h x_g x_addr=some R_):Fn Try.prog 165 [.agg (B_41 x_h),.int .i64 x_g,.int .i64 x_addr] (.agg (ru147 R_ [])):=by
 unfold F_impl_guestShade at hh
 refine Fn.start low_impl_guestShade [0,1,2] (E:=sp 12 [(0,.agg (B_41 x_h)),(1,ii x_g),(2,ii x_addr)]) kr (v:=.agg (ru147 R_ [])) (Hr:=[]) (k:=0) kr (sy [1,2,3,6] [0,1] (sp 12 [(1,ii x_g),(2,ii x_addr),(3,pp 0),(6,pp 1)]) [(0,some (rB41 x_h)),(1,some ⟨147,(zru147 [])⟩)] 2 (Aw.sreg [6] [1] (yjc 4 [(8:Int)≠0] (sp 12 [(1,ii x_g),(2,ii x_addr),(3,pp 0),(6,pp 1),(7,.agg (B_41 x_h)),(8,ii x_g),(9,ii x_addr),(10,ii (w64 (Int.tdiv x_addr (8:Int))))]) [(0,some (rB41 x_h)),(1,some ⟨147,(zru147 [])⟩)] 2 (.cons dd .nil) ?_)))
 obtain ⟨v1,hv1,hh⟩:=bind_some hh
 refine ys (.call 178 [(.t 7),(.t 8),(.t 10)]) (some 11) (op_call (r:=.agg (C_147 v1)) (v:=.agg (C_147 v1)) (Hr:=[]) (n':=2) (impl_shadeOf_fn hv1) (clz_v (vs:=[.agg (B_41 x_h),ii x_g,ii (w64 (Int.tdiv x_addr (8:Int)))]) kr (clz_c (clo_same (clean_agg (cl_B_41 _))) (cz1 (cz1 clz_n)))) rfl rfl kr ?_)
 refine yt (sp 12 [(6,pp 1)]) [(1,some ⟨147,(C_147 v1)⟩)] 2 (Aw.ret ?_)
 rw [some_some hh]
 exact gives (r':=.agg (C_147 v1)) kr (Ent.list [] rfl rfl (Nat.zero_le _) (rens_1 (ren_agg rz)) hs_nil)
theorem low_impl_guestWalk:LW 134 ⟨26,[(.tmp 8),(.tmp 9)],(.seq (.reg false (rg 134 0)) (.seq (.regd (rg 134 1) (rg 134 2)) .ret))⟩:=kr
noncomputable def F_impl_guestWalk (x_h:DHost) (x_g:Int) (x_addr:Int) (x_write:Bool):Option (Int × Int) :=
 Option.bind (F_impl_guestShade x_h x_g x_addr) fun v1 =>
 grd ((0:Int)≤x_g∧x_g<((List.length x_h.Guests:Nat):Int)) (Option.bind (F_impl_shadeLeads v1 x_addr (((List.getD x_h.Guests (Int.toNat x_g) default).C).User) x_write) fun v2 =>
  some (v2.1,v2.2))
theorem impl_guestWalk_fn {x_h:DHost} {x_g:Int} {x_addr:Int} {x_write:Bool} {R_:Int × Int} (hh:F_impl_guestWalk x_h x_g x_addr x_write=some R_):Fn Try.prog 134 [.agg (B_41 x_h),.int .i64 x_g,.int .i64 x_addr,.bool x_write] (.tup [.int .i64 R_.1,.int .i64 R_.2]):=by
 let z2:EH:=(0,some (rB41 x_h)); let z3:=(1,ii x_g); let z4:EV:=(10,.agg (B_41 x_h)); let z5:=(11,ii x_g); let z6:=(12,ii x_addr); let z7:=(14,ii x_addr); let z8:EV:=(15,.ptr 0 [] 1); let z9:=(16,bo B_55 x_h.Guests); let z10:=(17,ii x_g); let z11:EV:=(18,.bptr (fl B_55 x_h.Guests) (Int.toNat x_g*17)); let z12:EV:=(19,.bptr (fl B_55 x_h.Guests) (Int.toNat x_g*17+1)); let z13:=(2,ii x_addr); let z14:EV:=(20,.bptr (fl B_55 x_h.Guests) (Int.toNat x_g*17+1+10)); let z15:=(3,bb x_write); let z16:=(4,pp 0); let z1:=List.getD x_h.Guests (Int.toNat x_g) default
 unfold F_impl_guestWalk at hh
 refine Fn.start low_impl_guestWalk [0,1,2,3] (E:=sp 26 [(0,.agg (B_41 x_h)),z3,z13,z15]) kr (v:=.tup [ii R_.1,ii R_.2]) (Hr:=[]) (k:=0) kr (sy [1,2,3,4] [0] (sp 26 [z3,z13,z15,z16]) [z2] 1 (Aw.sregd [8,9] [] [] kr (dj 3 (sp 26 [z3,z13,z15,z16,z4,z5,z6]) [z2] 1 ?_)))
 obtain ⟨v1,hv1,hh⟩:=bind_some hh
 let z17:EV:=(13,.agg (C_147 v1))
 refine ds (.call 165 [(.t 10),(.t 11),(.t 12)]) (some 13) (ydo_n rfl (op_call (r:=.agg (C_147 v1)) (v:=.agg (C_147 v1)) (Hr:=[]) (n':=1) (impl_guestShade_fn hv1) (clz_v (vs:=[.agg (B_41 x_h),ii x_g,ii x_addr]) kr (clz_c (clo_same (clean_agg (cl_B_41 _))) (cz1 (cz1 clz_n)))) rfl rfl kr ⟨⟨agr_name (n:=1) (n0:=1) (r:=.agg (C_147 v1)) (v:=.agg (C_147 v1)) (Hr:=[]) (n':=1) kr dd,Hld.un ?_⟩⟩))
 refine dj 4 (sp 26 [z3,z13,z15,z16,z4,z5,z6,z17,z7,z8,z9,z10]) [z2] 1 ?_
 obtain ⟨hg2,hh⟩:=grd_some hh
 refine ds (.iadr 17 (.t 16) (.t 17)) (some 18) (ydo_q rfl kr (op_iadr (kd:=.i64) (c:=B_55) (xs:=x_h.Guests) len_B_55 dd kr kr hg2 ?_))
 refine dj 2 (sp 26 [z3,z13,z15,z16,z4,z5,z6,z17,z7,z8,z9,z10,z11,z12,z14]) [z2] 1 (ds (.load false 1 (.t 20)) (some 21) (ydo_q rfl kr (op_loadb (c:=B_55) (xs:=x_h.Guests) (o:=Int.toNat x_g*17+1+10) (i:=(Int.toNat x_g)) (off:=11) (v:=bb ((z1.C).User)) len_B_55 kr ltn ltn dd kr ?_)))
 refine dj 1 (sp 26 [z3,z13,z15,z16,z4,z5,z6,z17,z7,z8,z9,z10,z11,z12,z14,(21,bb ((z1.C).User)),(22,bb x_write)]) [z2] 1 ?_
 obtain ⟨v2,hv2,hh⟩:=bind_some hh
 refine ds (.call 164 [(.t 13),(.t 14),(.t 21),(.t 22)]) (some 23) (ydo_n rfl (op_call (r:=.tup [ii v2.1,ii v2.2]) (v:=.tup [ii v2.1,ii v2.2]) (Hr:=[]) (n':=1) (impl_shadeLeads_fn hv2) (clz_v (vs:=[.agg (C_147 v1),ii x_addr,bb ((z1.C).User),bb x_write]) kr (cz1 (cz1 (cz1 (cz1 clz_n))))) rfl rfl kr ⟨⟨agr_name (n:=1) (n0:=1) (r:=.tup [ii v2.1,ii v2.2]) (v:=.tup [ii v2.1,ii v2.2]) (Hr:=[]) (n':=1) kr dd,Hld.un ?_⟩⟩))
 refine dt (sp 26 [z3,z13,z15,z16,z4,z5,z6,z17,z7,z8,z9,z10,z11,z12,z14,(21,bb ((z1.C).User)),(22,bb x_write),(23,.tup [ii v2.1,ii v2.2]),(24,ii v2.1),(25,ii v2.2)]) [z2] 1 (yt (sp 26 [(8,ii v2.1),(9,ii v2.2)]) [] 1 (Aw.ret ?_))
 rw [some_some hh]
 exact gives (r':=.tup [ii v2.1,ii v2.2]) kr (Ent.list [] rfl rfl (Nat.zero_le _) (rens_1 (ren_tup rz)) hs_nil)
theorem low_impl_addressExit:LW 135 ⟨25,[(.cell 8 true 5)],(.seq (.reg false (rg 135 0)) (.seq (.reg false (rg 135 1)) (.seq (.seq (.reg false (rg 135 2)) (.block 0 (.seq (.reg false (rg 135 3)) (.cond (.t 16) (.seq (.reg false (rg 135 4)) .ret) (.seq (.reg false (rg 135 5)) (.cond (.t 20) (.seq (.reg false (rg 135 6)) .ret) .skip)))))) (.seq (.reg false (rg 135 7)) .ret))))⟩:=kr
noncomputable def F_impl_addressExit (x_h:DHost) (x_g:Int) (x_addr:Int) (x_why:Int):Option DExit :=
 Option.bind (F_impl_guestShade x_h x_g x_addr) fun v1 =>
 cond (decide (x_why=(2:Int)))
  (some (DExit.mk (2:Int) v1.Page (DIns.mk (0:Int) (0:Int) (0:Int))))
  (cond (decide (x_why=(3:Int)))
   (some (DExit.mk (3:Int) v1.Page (DIns.mk (0:Int) (0:Int) (0:Int))))
   (some (DExit.mk (0:Int) (0:Int) (DIns.mk (0:Int) (0:Int) (0:Int)))))
theorem impl_addressExit_fn {x_h:DHost} {x_g:Int} {x_addr:Int} {x_why:Int} {R_:DExit} (hh:F_impl_addressExit x_h x_g x_addr x_why=some R_):Fn Try.prog 135 [.agg (B_41 x_h),.int .i64 x_g,.int .i64 x_addr,.int .i64 x_why] (.agg [.int .i64 R_.Why,.int .i64 R_.Page,.int .i64 R_.What.Op,.int .i64 R_.What.A,.int .i64 R_.What.N]):=by
 let z1:=(8,pp 1)
 unfold F_impl_addressExit at hh
 refine Fn.start low_impl_addressExit [0,1,2,3] (E:=sp 25 [(0,.agg (B_41 x_h)),(1,ii x_g),(2,ii x_addr),(3,ii x_why)]) kr (v:=.agg [ii R_.Why,ii R_.Page,ii R_.What.Op,ii R_.What.A,ii R_.What.N]) (Hr:=[]) (k:=0) kr (Aw.sreg [1,2,3,4,8] [0,1] ?_)
 let q1:Root:=⟨47,[ii 0,ii 0,ii 0,ii 0,ii 0]⟩; let z2:=(1,some q1)
 refine yt (sp 25 [(1,ii x_g),(2,ii x_addr),(3,ii x_why),(4,pp 0),z1]) [(0,some (rB41 x_h)),z2] 2 (Aw.sreg [3,8,9] [1] (yu 3 [(10,.agg (B_41 x_h)),(11,ii x_g),(12,ii x_addr)] [(0,some (rB41 x_h)),z2] 2 ?_))
 obtain ⟨v1,hv1,hh⟩:=bind_some hh
 let z3:=(9,ii v1.Page)
 refine ys (.call 165 [(.t 10),(.t 11),(.t 12)]) (some 13) (op_call (r:=.agg (C_147 v1)) (v:=.agg (C_147 v1)) (Hr:=[]) (n':=2) (impl_guestShade_fn hv1) (clz_v (vs:=[.agg (B_41 x_h),ii x_g,ii x_addr]) kr (clz_c (clo_same (clean_agg (cl_B_41 _))) (cz1 (cz1 clz_n)))) rfl rfl kr ?_)
 refine yt (sp 25 [(3,ii x_why),z1,z3]) [z2] 2 (Aw.seq (sy [8,9,15] [1] (sp 25 [z1,z3,(15,ii x_why)]) [z2] 2 (Aw.block (sy [8,9,15,16] [1] (sp 25 [z1,z3,(15,ii x_why),(16,bb (decide (x_why=(2:Int))))]) [z2] 2 ?_))))
 rcases cond_some hh with ⟨hb,hh⟩ | ⟨hb,hh⟩
 · refine cT hb (sy [8] [1] (sp 25 [z1]) [(1,some ⟨47,[ii 2,ii v1.Page,ii 0,ii 0,ii 0]⟩)] 2 (Aw.ret (blk_r (then_r ?_))))
   rw [some_some hh]
   exact gives (r':=.agg [ii 2,ii v1.Page,ii 0,ii 0,ii 0]) kr (Ent.list [] rfl rfl (Nat.zero_le _) (rens_1 (ren_agg rz)) hs_nil)
 refine cF hb (sy [8,9,20] [1] (sp 25 [z1,z3,(20,bb (decide (x_why=(3:Int))))]) [z2] 2 ?_)
 rcases cond_sf hh with ⟨hb,hh⟩ | ⟨hb,hh⟩
 · refine cF hb (Aw.xskip (fun _ _ _ hq=>blk_m (then_m hq)) (sy [8] [1] (sp 25 [z1]) [z2] 2 (Aw.ret ?_)))
   rw [some_some hh]
   exact gives (r':=.agg [ii 0,ii 0,ii 0,ii 0,ii 0]) kr (Ent.list [] rfl rfl (Nat.zero_le _) (rens_1 (ren_agg rz)) hs_nil)
 refine cT hb (sy [8] [1] (sp 25 [z1]) [(1,some ⟨47,[ii 3,ii v1.Page,ii 0,ii 0,ii 0]⟩)] 2 (Aw.ret (blk_r (then_r ?_))))
 rw [some_some hh]
 exact gives (r':=.agg [ii 3,ii v1.Page,ii 0,ii 0,ii 0]) kr (Ent.list [] rfl rfl (Nat.zero_le _) (rens_1 (ren_agg rz)) hs_nil)
theorem low_impl_insExit:LW 136 ⟨53,[(.cell 6 true 5)],(.seq (.reg false (rg 136 0)) (.seq (.reg false (rg 136 1)) (.seq (.seq (.reg false (rg 136 2)) (.cond (.t 23) (.seq (.reg false (rg 136 3)) .ret) .skip)) (.seq (.seq (.reg false (rg 136 4)) (.cond (.t 33) (.seq (.reg false (rg 136 5)) .ret) .skip)) (.seq (.reg false (rg 136 6)) (.seq (.reg false (rg 136 7)) (.seq (.reg false (rg 136 8)) .ret)))))))⟩:=kr
noncomputable def F_impl_insExit_j2 (x_h:DHost) (x_g:Int) (x_i:DIns) (s2:Unit):Option DExit :=
 Option.bind (F_impl_addressOf (DCore.mk (((List.getD x_h.Guests (Int.toNat x_g) default).C).Regs) (((List.getD x_h.Guests (Int.toNat x_g) default).C).Pc) (((List.getD x_h.Guests (Int.toNat x_g) default).C).Root) (((List.getD x_h.Guests (Int.toNat x_g) default).C).Vector) (((List.getD x_h.Guests (Int.toNat x_g) default).C).Saved) (((List.getD x_h.Guests (Int.toNat x_g) default).C).SavedUser) (((List.getD x_h.Guests (Int.toNat x_g) default).C).Cause) (((List.getD x_h.Guests (Int.toNat x_g) default).C).Bad) (((List.getD x_h.Guests (Int.toNat x_g) default).C).Timer) (((List.getD x_h.Guests (Int.toNat x_g) default).C).Waits) (((List.getD x_h.Guests (Int.toNat x_g) default).C).User) (((List.getD x_h.Guests (Int.toNat x_g) default).C).On) (((List.getD x_h.Guests (Int.toNat x_g) default).C).Stopped)) x_i) fun v3 =>
 Option.bind (F_impl_guestWalk x_h x_g v3 (decide (x_i.Op=(4:Int)))) fun v4 =>
 Option.bind (F_impl_addressExit x_h x_g v3 v4.2) fun v5 =>
 some v5
noncomputable def F_impl_insExit_j1 (x_h:DHost) (x_g:Int) (x_i:DIns) (s1:Unit):Option DExit :=
 Option.bind (cond (!decide (x_i.Op=(3:Int)))
  (cond (!decide (x_i.Op=(4:Int)))
   (some (.out (DExit.mk (0:Int) (0:Int) (DIns.mk (0:Int) (0:Int) (0:Int)))))
   (some (.go ())))
  (some (.go ()))) fun j2 =>
  JO.run j2 (F_impl_insExit_j2 x_h x_g x_i)
noncomputable def F_impl_insExit (x_h:DHost) (x_g:Int) (x_i:DIns):Option DExit :=
 grd ((0:Int)≤x_g∧x_g<((List.length x_h.Guests:Nat):Int)) (Option.bind (Option.bind (F_impl_InsKernel x_i) fun v6 =>
  cond v6
   (cond (!(((List.getD x_h.Guests (Int.toNat x_g) default).C).User))
    (some (.out (DExit.mk (1:Int) (0:Int) x_i)))
    (some (.go ())))
   (some (.go ()))) fun j1 =>
  JO.run j1 (F_impl_insExit_j1 x_h x_g x_i))
theorem impl_insExit_fn {x_h:DHost} {x_g:Int} {x_i:DIns} {R_:DExit} (hh:F_impl_insExit x_h x_g x_i=some R_):Fn Try.prog 136 [.agg (B_41 x_h),.int .i64 x_g,.agg (C_45 x_i)] (.agg [.int .i64 R_.Why,.int .i64 R_.Page,.int .i64 R_.What.Op,.int .i64 R_.What.A,.int .i64 R_.What.N]):=by
 let z2:EH:=(0,some (rB41 x_h)); let z3:=(1,ii x_g); let z4:EH:=(1,some ⟨45,(C_45 x_i)⟩); let z5:=(3,pp 0); let z6:=(5,pp 1); let z7:=(6,pp 2); let z8:=(7,pp 3); let z1:=List.getD x_h.Guests (Int.toNat x_g) default
 unfold F_impl_insExit at hh
 refine Fn.start low_impl_insExit [0,1,2] (E:=sp 53 [(0,.agg (B_41 x_h)),z3,(2,.agg (C_45 x_i))]) kr (v:=.agg [ii R_.Why,ii R_.Page,ii R_.What.Op,ii R_.What.A,ii R_.What.N]) (Hr:=[]) (k:=0) kr (Aw.sreg [1,3,5,6] [0,1,2] ?_)
 let q1:Root:=⟨47,[ii 0,ii 0,ii 0,ii 0,ii 0]⟩; let z9:=(2,some q1)
 refine yt (sp 53 [z3,z5,z6,z7]) [z2,z4,z9] 3 (Aw.sreg [1,3,5,6,7] [0,1,2,3] (yu 3 [(11,.ptr 0 [] 1),(12,bo B_55 x_h.Guests),(13,ii x_g)] [z2,z4,z9] 3 ?_))
 obtain ⟨hg2,hh⟩:=grd_some hh
 refine ys (.iadr 17 (.t 12) (.t 13)) (some 14) (op_iadr (kd:=.i64) (c:=B_55) (xs:=x_h.Guests) len_B_55 dd kr kr hg2 ?_)
 refine yu 1 [(14,.bptr (fl B_55 x_h.Guests) (Int.toNat x_g*17)),(15,.bptr (fl B_55 x_h.Guests) (Int.toNat x_g*17+1))] [z2,z4,z9] 3 (ys (.load true 13 (.t 15)) (some 16) (op_loadbA (c:=B_55) (xs:=x_h.Guests) (o:=Int.toNat x_g*17+1) (i:=(Int.toNat x_g)) (off:=1) (v:=.agg (B_25 z1.C)) len_B_55 kr ltn ltn dd kr ?_))
 let q2:Root:=(rB25 z1.C); let z10:=(3,some q2)
 refine yt (sp 53 [z3,z5,z6,z7,z8]) [z2,z4,z9,z10] 4 ?_
 obtain ⟨j1,hh,hk1⟩:=bind_some hh
 refine Aw.join (S:=Unit) (fun s1=>sp 53 [(1,ii x_g),(3,pp 0),(5,pp 1),(6,pp 2),(7,pp 3)]) (fun s1=>[(0,some (rB41 x_h)),(1,some ⟨45,(C_45 x_i)⟩),(2,some ⟨47,[ii 0,ii 0,ii 0,ii 0,ii 0]⟩),(3,some (rB25 (List.getD x_h.Guests (Int.toNat x_g) default).C))]) 4 (fun s1=>F_impl_insExit_j1 x_h x_g x_i s1=some R_) ?_ ?_
 · intro s1 hh
   unfold F_impl_insExit_j1 at hh
   obtain ⟨j2,hh,hk2⟩:=bind_some hh
   refine Aw.join (S:=Unit) (fun s2=>sp 53 [(1,ii x_g),(3,pp 0),(5,pp 1),(6,pp 2),(7,pp 3)]) (fun s2=>[(0,some (rB41 x_h)),(1,some ⟨45,(C_45 x_i)⟩),(2,some ⟨47,[ii 0,ii 0,ii 0,ii 0,ii 0]⟩),(3,some (rB25 (List.getD x_h.Guests (Int.toNat x_g) default).C))]) 4 (fun s2=>F_impl_insExit_j2 x_h x_g x_i s2=some R_) ?_ ?_
   · intro s2 hh
     unfold F_impl_insExit_j2 at hh
     refine Aw.sreg [1,3,5,6,8] [0,1,2] (yj 2  (sp 53 [z3,z5,z6,z7,z8,(35,.agg (B_25 z1.C)),(36,.agg (C_45 x_i))]) [z2,z4,z9,z10] 4 ?_)
     obtain ⟨v3,hv3,hh⟩:=bind_some hh
     refine ys (.call 166 [(.t 35),(.t 36)]) (some 37) (op_call (r:=ii v3) (v:=ii v3) (Hr:=[]) (n':=4) (impl_addressOf_fn hv3) (clz_v (vs:=[.agg (B_25 z1.C),.agg (C_45 x_i)]) kr (clz_c (clo_agg cz) (cz1 clz_n))) rfl rfl kr ?_)
     refine yt (sp 53 [z3,z5,z6,z7,(8,ii v3)]) [z2,z4,z9] 4 (Aw.sreg [1,3,6,8,10] [0,2] (yu 6 [(39,.agg (B_41 x_h)),(40,ii x_g),(41,ii v3),(42,pp 1),(43,ii x_i.Op),(44,bb (decide (x_i.Op=(4:Int))))] [z2,z4,z9] 4 ?_))
     obtain ⟨v4,hv4,hh⟩:=bind_some hh
     refine ys (.call 134 [(.t 39),(.t 40),(.t 41),(.t 44)]) (some 45) (op_call (r:=.tup [ii v4.1,ii v4.2]) (v:=.tup [ii v4.1,ii v4.2]) (Hr:=[]) (n':=4) (impl_guestWalk_fn hv4) (clz_v (vs:=[.agg (B_41 x_h),ii x_g,ii v3,bb (decide (x_i.Op=(4:Int)))]) kr (clz_c (clo_same (clean_agg (cl_B_41 _))) (cz1 (cz1 (cz1 clz_n))))) rfl rfl kr ?_)
     refine yt (sp 53 [z3,z5,z7,(8,ii v3),(10,ii v4.2)]) [z2,z9] 4 (Aw.sreg [6] [2] (yu 4 [(48,.agg (B_41 x_h)),(49,ii x_g),(50,ii v3),(51,ii v4.2)] [z2,z9] 4 ?_))
     obtain ⟨v5,hv5,hh⟩:=bind_some hh
     refine ys (.call 135 [(.t 48),(.t 49),(.t 50),(.t 51)]) (some 52) (op_call (r:=.agg (C_47 v5)) (v:=.agg (C_47 v5)) (Hr:=[]) (n':=4) (impl_addressExit_fn hv5) (clz_v (vs:=[.agg (B_41 x_h),ii x_g,ii v3,ii v4.2]) kr (clz_c (clo_same (clean_agg (cl_B_41 _))) (cz1 (cz1 (cz1 clz_n))))) rfl rfl kr ?_)
     refine yt (sp 53 [z7]) [(2,some ⟨47,(C_47 v5)⟩)] 4 (Aw.ret ?_)
     rw [some_some hh]
     exact gives (r':=.agg (C_47 v5)) kr (Ent.list [] rfl rfl (Nat.zero_le _) (rens_1 (ren_agg rz)) hs_nil)
   intro Q2 hN2 hR2 hE2
   refine Aw.sreg [1,3,5,6,7,33] [0,1,2,3] (yj 4  (sp 53 [z3,z5,z6,z7,z8,(26,pp 1),(27,ii x_i.Op),(28,bb (!decide (x_i.Op=(3:Int)))),(29,bb (!decide (x_i.Op=(3:Int))))]) [z2,z4,z9,z10] 4 ?_)
   rcases cond_some hh with ⟨hb,hh⟩ | ⟨hb,hh⟩
   · refine yb 28 hb (yb 29 hb (yt (sp 53 [z3,z5,z6,z7,z8,(33,bb (!decide (x_i.Op=(4:Int))))]) [z2,z4,z9,z10] 4 ?_))
     rcases cond_sf hh with ⟨hb,hh⟩ | ⟨hb,hh⟩
     · refine cF hb (Aw.skip ?_)
       obtain rfl:=some_some hh
       exact hN2 () _ _ _ hk2 (el [some 0,some 1,some 2,some 3] (rens_sp kr (ri (rp 0 (rp 1 (rp 2 (rp 3 rl_n)))))) (hq (rB41 x_h) (rens_same (nr_B_41 _)) (hq ⟨45,(C_45 x_i)⟩ (rens_same (nr_C_45 _)) (hq q1 rz (hq q2 rz hs_nil)))))
     refine cT hb (sy [6] [2] (sp 53 [z7]) [z9] 4 (Aw.ret ?_))
     obtain rfl:=some_some hh
     refine hR2 _ _ _ ?_
     rw [some_some hk2]
     exact gives (r':=.agg [ii 0,ii 0,ii 0,ii 0,ii 0]) kr (Ent.list [] rfl rfl (Nat.zero_le _) (rens_1 (ren_agg rz)) hs_nil)
   refine yb 28 hb (yb 29 hb (yt (sp 53 [z3,z5,z6,z7,z8,(33,bb false)]) [z2,z4,z9,z10] 4 (cF rfl (Aw.skip ?_))))
   obtain rfl:=some_some hh
   exact hN2 () _ _ _ hk2 (el [some 0,some 1,some 2,some 3] (rens_sp kr (ri (rp 0 (rp 1 (rp 2 (rp 3 rl_n)))))) (hq (rB41 x_h) (rens_same (nr_B_41 _)) (hq ⟨45,(C_45 x_i)⟩ (rens_same (nr_C_45 _)) (hq q1 rz (hq q2 rz hs_nil)))))
 intro Q1 hN1 hR1 hE1
 refine Aw.sreg [1,3,5,6,7,23] [0,1,2,3] (yj 1  (sp 53 [z3,z5,z6,z7,z8,(17,.agg (C_45 x_i))]) [z2,z4,z9,z10] 4 ?_)
 obtain ⟨v6,hv6,hh⟩:=bind_some hh
 refine ys (.call 27 [(.t 17)]) (some 18) (oc (impl_InsKernel_fn hv6) ?_)
 refine yu 1 [(18,bb v6),(19,bb v6)] [z2,z4,z9,z10] 4 ?_
 rcases cond_sf hh with ⟨hb,hh⟩ | ⟨hb,hh⟩
 · refine yb 18 hb (yb 19 hb (yt (sp 53 [z3,z5,z6,z7,z8,(23,bb false)]) [z2,z4,z9,z10] 4 (cF rfl (Aw.skip ?_))))
   obtain rfl:=some_some hh
   exact hN1 () _ _ _ hk1 (el [some 0,some 1,some 2,some 3] (rens_sp kr (ri (rp 0 (rp 1 (rp 2 (rp 3 rl_n)))))) (hq (rB41 x_h) (rens_same (nr_B_41 _)) (hq ⟨45,(C_45 x_i)⟩ (rens_same (nr_C_45 _)) (hq q1 rz (hq q2 rz hs_nil)))))
 refine yb 18 hb (yb 19 hb (yt (sp 53 [z3,z5,z6,z7,z8,(23,bb (!((z1.C).User)))]) [z2,z4,z9,z10] 4 ?_))
 rcases cond_sf hh with ⟨hb,hh⟩ | ⟨hb,hh⟩
 · refine cF hb (Aw.skip ?_)
   obtain rfl:=some_some hh
   exact hN1 () _ _ _ hk1 (el [some 0,some 1,some 2,some 3] (rens_sp kr (ri (rp 0 (rp 1 (rp 2 (rp 3 rl_n)))))) (hq (rB41 x_h) (rens_same (nr_B_41 _)) (hq ⟨45,(C_45 x_i)⟩ (rens_same (nr_C_45 _)) (hq q1 rz (hq q2 rz hs_nil)))))
 refine cT hb (sy [6] [2] (sp 53 [z7]) [(2,some ⟨47,[ii 1,ii 0,ii x_i.Op,ii x_i.A,ii x_i.N]⟩)] 4 (Aw.ret ?_))
 obtain rfl:=some_some hh
 refine hR1 _ _ _ ?_
 rw [some_some hk1]
 exact gives (r':=.agg [ii 1,ii 0,ii x_i.Op,ii x_i.A,ii x_i.N]) kr (Ent.list [] rfl rfl (Nat.zero_le _) (rens_1 (ren_agg rz)) hs_nil)
theorem low_impl_exitOf:LW 77 ⟨47,[(.cell 4 true 5)],(.seq (.reg false (rg 77 0)) (.seq (.reg false (rg 77 1)) (.seq (.seq (.reg false (rg 77 2)) (.cond (.t 20) (.seq (.reg false (rg 77 3)) .ret) .skip)) (.seq (.reg false (rg 77 4)) (.seq (.seq (.reg false (rg 77 5)) (.cond (.t 31) (.seq (.reg false (rg 77 6)) .ret) .skip)) (.seq (.regd (rg 77 7) (rg 77 8)) .ret))))))⟩:=kr
noncomputable def F_impl_exitOf (x_h:DHost) (x_g:Int):Option DExit :=
 grd ((0:Int)≤x_g∧x_g<((List.length x_h.Guests:Nat):Int)) (cond (((List.getD x_h.Guests (Int.toNat x_g) default).C).Stopped)
  (some (DExit.mk (0:Int) (0:Int) (DIns.mk (0:Int) (0:Int) (0:Int))))
  (Option.bind (F_impl_ticked (DCore.mk (((List.getD x_h.Guests (Int.toNat x_g) default).C).Regs) (((List.getD x_h.Guests (Int.toNat x_g) default).C).Pc) (((List.getD x_h.Guests (Int.toNat x_g) default).C).Root) (((List.getD x_h.Guests (Int.toNat x_g) default).C).Vector) (((List.getD x_h.Guests (Int.toNat x_g) default).C).Saved) (((List.getD x_h.Guests (Int.toNat x_g) default).C).SavedUser) (((List.getD x_h.Guests (Int.toNat x_g) default).C).Cause) (((List.getD x_h.Guests (Int.toNat x_g) default).C).Bad) (((List.getD x_h.Guests (Int.toNat x_g) default).C).Timer) (((List.getD x_h.Guests (Int.toNat x_g) default).C).Waits) (((List.getD x_h.Guests (Int.toNat x_g) default).C).User) (((List.getD x_h.Guests (Int.toNat x_g) default).C).On) (((List.getD x_h.Guests (Int.toNat x_g) default).C).Stopped))) fun v1 =>
  Option.bind (F_impl_isInterrupted v1) fun v2 =>
  cond v2
   (some (DExit.mk (0:Int) (0:Int) (DIns.mk (0:Int) (0:Int) (0:Int))))
   (Option.bind (F_impl_guestWalk x_h x_g (((List.getD x_h.Guests (Int.toNat x_g) default).C).Pc) false) fun v3 =>
   cond (!decide (v3.2=(0:Int)))
    (Option.bind (F_impl_addressExit x_h x_g (((List.getD x_h.Guests (Int.toNat x_g) default).C).Pc) v3.2) fun v4 =>
    some v4)
    (grd ((0:Int)≤v3.1∧v3.1<((List.length x_h.Words:Nat):Int)) (Option.bind (F_impl_InsFrom (List.getD x_h.Words (Int.toNat v3.1) default)) fun v5 =>
     Option.bind (F_impl_insExit x_h x_g v5) fun v6 =>
     some v6)))))
theorem impl_exitOf_fn {x_h:DHost} {x_g:Int} {R_:DExit} (hh:F_impl_exitOf x_h x_g=some R_):Fn Try.prog 77 [.agg (B_41 x_h),.int .i64 x_g] (.agg [.int .i64 R_.Why,.int .i64 R_.Page,.int .i64 R_.What.Op,.int .i64 R_.What.A,.int .i64 R_.What.N]):=by
 let z3:EH:=(0,some (rB41 x_h)); let z4:=(1,ii x_g); let z5:=(2,pp 0); let z6:=(4,pp 1); let z7:=(41,bo (eI .i64) x_h.Words); let z8:=(5,pp 2); let z1:=List.getD x_h.Guests (Int.toNat x_g) default
 unfold F_impl_exitOf at hh
 refine Fn.start low_impl_exitOf [0,1] (E:=sp 47 [(0,.agg (B_41 x_h)),z4]) kr (v:=.agg [ii R_.Why,ii R_.Page,ii R_.What.Op,ii R_.What.A,ii R_.What.N]) (Hr:=[]) (k:=0) kr (Aw.sreg [1,2,4] [0,1] ?_)
 let q1:Root:=⟨47,[ii 0,ii 0,ii 0,ii 0,ii 0]⟩; let z9:=(1,some q1)
 refine yt (sp 47 [z4,z5,z6]) [z3,z9] 2 (Aw.sreg [1,2,4,5] [0,1,2] (yu 3 [(8,.ptr 0 [] 1),(9,bo B_55 x_h.Guests),(10,ii x_g)] [z3,z9] 2 ?_))
 obtain ⟨hg2,hh⟩:=grd_some hh
 refine ys (.iadr 17 (.t 9) (.t 10)) (some 11) (op_iadr (kd:=.i64) (c:=B_55) (xs:=x_h.Guests) len_B_55 dd kr kr hg2 ?_)
 refine yu 1 [(11,.bptr (fl B_55 x_h.Guests) (Int.toNat x_g*17)),(12,.bptr (fl B_55 x_h.Guests) (Int.toNat x_g*17+1))] [z3,z9] 2 (ys (.load true 13 (.t 12)) (some 13) (op_loadbA (c:=B_55) (xs:=x_h.Guests) (o:=Int.toNat x_g*17+1) (i:=(Int.toNat x_g)) (off:=1) (v:=.agg (B_25 z1.C)) len_B_55 kr ltn ltn dd kr ?_))
 let q2:Root:=(rB25 z1.C); let z10:=(2,some q2)
 refine yt (sp 47 [z4,z5,z6,z8]) [z3,z9,z10] 3 (Aw.seq (Aw.sreg [1,2,4,5,20] [0,1,2] (yj 3  (sp 47 [z4,z5,z6,z8,(14,.ptr 2 [] 12),(15,bb ((z1.C).Stopped)),(16,bb ((z1.C).Stopped))]) [z3,z9,z10] 3 ?_)))
 rcases cond_some hh with ⟨hb,hh⟩ | ⟨hb,hh⟩
 · refine yb 15 hb (yb 16 hb (yt (sp 47 [z4,z5,z6,z8,(20,bb true)]) [z3,z9,z10] 3 (cT rfl (sy [4] [1] (sp 47 [z6]) [z9] 3 (Aw.ret (then_r ?_))))))
   rw [some_some hh]
   exact gives (r':=.agg [ii 0,ii 0,ii 0,ii 0,ii 0]) kr (Ent.list [] rfl rfl (Nat.zero_le _) (rens_1 (ren_agg rz)) hs_nil)
 refine yb 15 hb (yb 16 hb (yu 1 [(15,bb false),(16,bb false),(17,.agg (B_25 z1.C))] [z3,z9,z10] 3 ?_))
 obtain ⟨v1,hv1,hh⟩:=bind_some hh
 refine yg (.call 124 [(.t 17)]) (some 18) 16 false (op_callp (r:=.agg (B_25 v1)) (v:=.agg (B_25 v1)) (Hr:=[]) (n':=3) (impl_ticked_fn hv1) (clz_v (vs:=[.agg (B_25 z1.C)]) kr (clz_c (clo_agg cz) clz_n)) nrr kr ?_)
 obtain ⟨v2,hv2,hh⟩:=bind_some hh
 refine yg (.call 125 [(.t 18)]) (some 19) 16 false (op_call (r:=bb v2) (v:=bb v2) (Hr:=[]) (n':=3) (impl_isInterrupted_fn hv2) (clz_v (vs:=[.agg (B_25 v1)]) kr (clz_c (clo_same (clean_agg (cl_B_25 _))) clz_n)) rfl rfl kr ?_)
 refine yt (sp 47 [z4,z5,z6,z8,(20,bb v2)]) [z3,z9,z10] 3 ?_
 rcases cond_some hh with ⟨hb,hh⟩ | ⟨hb,hh⟩
 · refine cT hb (sy [4] [1] (sp 47 [z6]) [z9] 3 (Aw.ret (then_r ?_)))
   rw [some_some hh]
   exact gives (r':=.agg [ii 0,ii 0,ii 0,ii 0,ii 0]) kr (Ent.list [] rfl rfl (Nat.zero_le _) (rens_1 (ren_agg rz)) hs_nil)
 refine cF hb (Aw.xskip (fun _ _ _ hq=>then_m hq) (Aw.sreg [1,2,4,5,6,7] [0,1,2] (yj 4  (sp 47 [z4,z5,z6,z8,(20,bb v2),(23,.agg (B_41 x_h)),(24,ii x_g),(25,.ptr 2 [] 1),(26,ii ((z1.C).Pc))]) [z3,z9,z10] 3 ?_)))
 obtain ⟨v3,hv3,hh⟩:=bind_some hh
 let z11:=(31,bb (!decide (v3.2=(0:Int)))); let z2:=List.getD x_h.Words (Int.toNat v3.1) default
 refine ys (.call 134 [(.t 23),(.t 24),(.t 26),(.c (bb false))]) (some 27) (op_call (r:=.tup [ii v3.1,ii v3.2]) (v:=.tup [ii v3.1,ii v3.2]) (Hr:=[]) (n':=3) (impl_guestWalk_fn hv3) (clz_v (vs:=[.agg (B_41 x_h),ii x_g,ii ((z1.C).Pc),bb false]) kr (clz_c (clo_same (clean_agg (cl_B_41 _))) (cz1 (cz1 (cz1 clz_n))))) rfl rfl kr ?_)
 refine yt (sp 47 [z4,z5,z6,z8,(6,ii v3.1),(7,ii v3.2)]) [z3,z9,z10] 3 (Aw.seq (sy [1,2,4,5,6,7,31] [0,1,2] (sp 47 [z4,z5,z6,z8,(6,ii v3.1),(7,ii v3.2),z11]) [z3,z9,z10] 3 ?_))
 rcases cond_some hh with ⟨hb,hh⟩ | ⟨hb,hh⟩
 · refine cT hb (Aw.sreg [4] [1] (yu 5 [(32,.agg (B_41 x_h)),(33,ii x_g),(34,.ptr 2 [] 1),(35,ii ((z1.C).Pc)),(36,ii v3.2)] [z3,z9,z10] 3 ?_))
   obtain ⟨v4,hv4,hh⟩:=bind_some hh
   refine ys (.call 135 [(.t 32),(.t 33),(.t 35),(.t 36)]) (some 37) (op_call (r:=.agg (C_47 v4)) (v:=.agg (C_47 v4)) (Hr:=[]) (n':=3) (impl_addressExit_fn hv4) (clz_v (vs:=[.agg (B_41 x_h),ii x_g,ii ((z1.C).Pc),ii v3.2]) kr (clz_c (clo_same (clean_agg (cl_B_41 _))) (cz1 (cz1 (cz1 clz_n))))) rfl rfl kr ?_)
   refine yt (sp 47 [z6]) [(1,some ⟨47,(C_47 v4)⟩)] 3 (Aw.ret (then_r ?_))
   rw [some_some hh]
   exact gives (r':=.agg (C_47 v4)) kr (Ent.list [] rfl rfl (Nat.zero_le _) (rens_1 (ren_agg rz)) hs_nil)
 refine cF hb (Aw.xskip (fun _ _ _ hq=>then_m hq) (Aw.sregd [4] [1] [] kr (dj 5 (sp 47 [z4,z5,z6,z8,(6,ii v3.1),(7,ii v3.2),z11,(38,.agg (B_41 x_h)),(39,ii x_g),(40,pp 0),z7,(42,ii v3.1)]) [z3,z9,z10] 3 ?_)))
 obtain ⟨hg4,hh⟩:=grd_some hh
 refine ds (.iadr 1 (.t 41) (.t 42)) (some 43) (ydo_q rfl kr (op_iadr (kd:=.i64) (c:=(eI .i64)) (xs:=x_h.Words) len_eI dd kr kr hg4 ?_))
 refine ds (.load false 1 (.t 43)) (some 44) (ydo_q rfl kr (op_loadb (c:=(eI .i64)) (xs:=x_h.Words) (o:=Int.toNat v3.1*1) (i:=(Int.toNat v3.1)) (off:=0) (v:=ii z2) len_eI kr ltn ltn dd kr ?_))
 obtain ⟨v5,hv5,hh⟩:=bind_some hh
 refine ds (.call 129 [(.t 44)]) (some 45) (ydo_n rfl (op_call (r:=.agg (C_45 v5)) (v:=.agg (C_45 v5)) (Hr:=[]) (n':=3) (impl_InsFrom_fn hv5) (clz_v (vs:=[ii z2]) kr (cz1 clz_n)) rfl rfl kr ⟨⟨agr_name (n:=3) (n0:=3) (r:=.agg (C_45 v5)) (v:=.agg (C_45 v5)) (Hr:=[]) (n':=3) kr dd,Hld.un ?_⟩⟩))
 refine dt (sp 47 [z4,z5,z6,z8,(6,ii v3.1),(7,ii v3.2),z11,(38,.agg (B_41 x_h)),(39,ii x_g),(40,pp 0),z7,(42,ii v3.1),(43,.bptr (fl (eI .i64) x_h.Words) (Int.toNat v3.1*1)),(44,ii z2),(45,.agg (C_45 v5))]) [z3,z9,z10] 3 ?_
 obtain ⟨v6,hv6,hh⟩:=bind_some hh
 refine ys (.call 136 [(.t 38),(.t 39),(.t 45)]) (some 46) (op_call (r:=.agg (C_47 v6)) (v:=.agg (C_47 v6)) (Hr:=[]) (n':=3) (impl_insExit_fn hv6) (clz_v (vs:=[.agg (B_41 x_h),ii x_g,.agg (C_45 v5)]) kr (clz_c (clo_same (clean_agg (cl_B_41 _))) (cz1 (cz1 clz_n)))) rfl rfl kr ?_)
 refine yt (sp 47 [z6]) [(1,some ⟨47,(C_47 v6)⟩)] 3 (Aw.ret ?_)
 rw [some_some hh]
 exact gives (r':=.agg (C_47 v6)) kr (Ent.list [] rfl rfl (Nat.zero_le _) (rens_1 (ren_agg rz)) hs_nil)
theorem low_impl_GuestExit:LW 23 ⟨13,[(.cell 4 true 5)],(.seq (.reg false (rg 23 0)) (.seq (.seq (.reg false (rg 23 1)) (.cond (.t 8) (.seq (.reg false (rg 23 2)) .ret) .skip)) (.seq (.reg false (rg 23 3)) .ret)))⟩:=kr
noncomputable def F_impl_GuestExit (x_h:DHost) (x_g:Int):Option DExit :=
 Option.bind (F_impl_hasGuest x_h x_g) fun v1 =>
 cond (!v1)
  (some (DExit.mk (0:Int) (0:Int) (DIns.mk (0:Int) (0:Int) (0:Int))))
  (Option.bind (F_impl_exitOf x_h x_g) fun v2 =>
  some v2)
theorem impl_GuestExit_fn {x_h:DHost} {x_g:Int} {R_:DExit} (hh:F_impl_GuestExit x_h x_g=some R_):Fn Try.prog 23 [.agg (B_41 x_h),.int .i64 x_g] (.agg [.int .i64 R_.Why,.int .i64 R_.Page,.int .i64 R_.What.Op,.int .i64 R_.What.A,.int .i64 R_.What.N]):=by
 let z1:EH:=(0,some (rB41 x_h)); let z2:=(1,ii x_g); let z3:=(4,pp 1)
 unfold F_impl_GuestExit at hh
 refine Fn.start low_impl_GuestExit [0,1] (E:=sp 13 [(0,.agg (B_41 x_h)),z2]) kr (v:=.agg [ii R_.Why,ii R_.Page,ii R_.What.Op,ii R_.What.A,ii R_.What.N]) (Hr:=[]) (k:=0) kr (Aw.sreg [1,2,4] [0,1] ?_)
 let q1:Root:=⟨47,[ii 0,ii 0,ii 0,ii 0,ii 0]⟩; let z4:=(1,some q1)
 refine yt (sp 13 [z2,(2,pp 0),z3]) [z1,z4] 2 (Aw.seq (Aw.sreg [1,2,4,8] [0,1] (yj 2  (sp 13 [z2,(2,pp 0),z3,(5,.agg (B_41 x_h)),(6,ii x_g)]) [z1,z4] 2 ?_)))
 obtain ⟨v1,hv1,hh⟩:=bind_some hh
 refine ys (.call 76 [(.t 5),(.t 6)]) (some 7) (op_call (r:=bb v1) (v:=bb v1) (Hr:=[]) (n':=2) (impl_hasGuest_fn hv1) (clz_v (vs:=[.agg (B_41 x_h),ii x_g]) kr (clz_c (clo_same (clean_agg (cl_B_41 _))) (cz1 clz_n))) rfl rfl kr ?_)
 refine yt (sp 13 [z2,(2,pp 0),z3,(8,bb (!v1))]) [z1,z4] 2 ?_
 rcases cond_some hh with ⟨hb,hh⟩ | ⟨hb,hh⟩
 · refine cT hb (sy [4] [1] (sp 13 [z3]) [z4] 2 (Aw.ret (then_r ?_)))
   rw [some_some hh]
   exact gives (r':=.agg [ii 0,ii 0,ii 0,ii 0,ii 0]) kr (Ent.list [] rfl rfl (Nat.zero_le _) (rens_1 (ren_agg rz)) hs_nil)
 refine cF hb (Aw.xskip (fun _ _ _ hq=>then_m hq) (Aw.sreg [4] [1] (yj 2  (sp 13 [z2,(2,pp 0),z3,(8,bb (!v1)),(10,.agg (B_41 x_h)),(11,ii x_g)]) [z1,z4] 2 ?_)))
 obtain ⟨v2,hv2,hh⟩:=bind_some hh
 refine ys (.call 77 [(.t 10),(.t 11)]) (some 12) (op_call (r:=.agg (C_47 v2)) (v:=.agg (C_47 v2)) (Hr:=[]) (n':=2) (impl_exitOf_fn hv2) (clz_v (vs:=[.agg (B_41 x_h),ii x_g]) kr (clz_c (clo_same (clean_agg (cl_B_41 _))) (cz1 clz_n))) rfl rfl kr ?_)
 refine yt (sp 13 [z3]) [(1,some ⟨47,(C_47 v2)⟩)] 2 (Aw.ret ?_)
 rw [some_some hh]
 exact gives (r':=.agg (C_47 v2)) kr (Ent.list [] rfl rfl (Nat.zero_le _) (rens_1 (ren_agg rz)) hs_nil)
theorem low_spec_l6Exit:LW 82 ⟨24,[(.cell 6 true 5)],(.seq (.reg false (rg 82 0)) (.seq (.reg false (rg 82 1)) (.seq (.seq (.reg false (rg 82 2)) (.block 0 (.seq (.reg false (rg 82 3)) (.cond (.t 17) (.reg false (rg 82 4)) (.seq (.reg false (rg 82 5)) (.cond (.t 20) (.reg false (rg 82 6)) (.seq (.reg false (rg 82 7)) .ret))))))) (.seq (.reg false (rg 82 8)) .ret))))⟩:=kr
noncomputable def F_spec_l6Exit_j1 (x_table:List DShade) (x_addr:Int) (s1:Int):Option DExit :=
 some (DExit.mk s1 ((List.getD x_table (Int.toNat (w64 (Int.tdiv x_addr (8:Int)))) default).Page) (DIns.mk (0:Int) (0:Int) (0:Int)))
noncomputable def F_spec_l6Exit (x_table:List DShade) (x_addr:Int) (x_why:Int):Option DExit :=
 grd ((0:Int)≤(w64 (Int.tdiv x_addr (8:Int)))∧(w64 (Int.tdiv x_addr (8:Int)))<((List.length x_table:Nat):Int)) (Option.bind (cond (decide (x_why=(2:Int)))
  (some (.go (2:Int)))
  (cond (decide (x_why=(3:Int)))
   (some (.go (3:Int)))
   (some (.out (DExit.mk (0:Int) (0:Int) (DIns.mk (0:Int) (0:Int) (0:Int))))))) fun j1 =>
  JO.run j1 (F_spec_l6Exit_j1 x_table x_addr))
theorem spec_l6Exit_fn {x_table:List DShade} {x_addr:Int} {x_why:Int} {R_:DExit} (hh:F_spec_l6Exit x_table x_addr x_why=some R_):Fn Try.prog 82 [bo C_147 x_table,.int .i64 x_addr,.int .i64 x_why] (.agg [.int .i64 R_.Why,.int .i64 R_.Page,.int .i64 R_.What.Op,.int .i64 R_.What.A,.int .i64 R_.What.N]):=by
 let z2:=(0,bo C_147 x_table); let z3:=(17,bb (decide (x_why=(2:Int)))); let z4:=(2,ii x_why); let z5:=(20,bb (decide (x_why=(3:Int)))); let z6:=(6,pp 0); let z7:=(7,pp 1); let z1:=List.getD x_table (Int.toNat (w64 (Int.tdiv x_addr (8:Int)))) default
 unfold F_spec_l6Exit at hh
 refine Fn.start low_spec_l6Exit [0,1,2] (E:=sp 24 [z2,(1,ii x_addr),z4]) kr (v:=.agg [ii R_.Why,ii R_.Page,ii R_.What.Op,ii R_.What.A,ii R_.What.N]) (Hr:=[]) (k:=0) kr (Aw.sreg [0,1,2,6] [0] ?_)
 let q1:Root:=⟨47,[ii 0,ii 0,ii 0,ii 0,ii 0]⟩; let z8:=(0,some q1)
 refine yt (sp 24 [z2,(1,ii x_addr),z4,z6]) [z8] 1 (Aw.sreg [2,6,7] [0,1] (yjc 3 [(8:Int)≠0] (sp 24 [z2,(1,ii x_addr),z4,z6,(8,bo C_147 x_table),(9,ii x_addr),(10,ii (w64 (Int.tdiv x_addr (8:Int))))]) [z8] 1 (.cons dd .nil) ?_))
 obtain ⟨hg2,hh⟩:=grd_some hh
 refine ys (.iadr 6 (.t 8) (.t 10)) (some 11) (op_iadr (kd:=.i64) (c:=C_147) (xs:=x_table) len_C_147 dd kr kr hg2 ?_)
 refine yu 1 [(11,.bptr (fl C_147 x_table) (Int.toNat (w64 (Int.tdiv x_addr (8:Int)))*6)),(12,.bptr (fl C_147 x_table) (Int.toNat (w64 (Int.tdiv x_addr (8:Int)))*6+3))] [z8] 1 (ys (.load false 1 (.t 12)) (some 13) (op_loadb (c:=C_147) (xs:=x_table) (o:=Int.toNat (w64 (Int.tdiv x_addr (8:Int)))*6+3) (i:=(Int.toNat (w64 (Int.tdiv x_addr (8:Int))))) (off:=3) (v:=ii (z1.Page)) len_C_147 kr ltn ltn dd kr ?_))
 let q2:Root:=⟨47,[ii 0,ii (z1.Page),ii 0,ii 0,ii 0]⟩; let z9:=(1,some q2)
 refine yt (sp 24 [z4,z6,z7]) [z8,z9] 2 ?_
 obtain ⟨j1,hh,hk1⟩:=bind_some hh
 refine Aw.join (S:=Int) (fun s1=>sp 24 [(6,pp 0),(7,pp 1)]) (fun s1=>[(0,some ⟨47,[ii 0,ii 0,ii 0,ii 0,ii 0]⟩),(1,some ⟨47,[ii s1,ii ((List.getD x_table (Int.toNat (w64 (Int.tdiv x_addr (8:Int)))) default).Page),ii 0,ii 0,ii 0]⟩)]) 2 (fun s1=>F_spec_l6Exit_j1 x_table x_addr s1=some R_) ?_ ?_
 · intro s1 hh
   unfold F_spec_l6Exit_j1 at hh
   refine sy [6] [0] (sp 24 [z6]) [(0,some ⟨47,[ii s1,ii (z1.Page),ii 0,ii 0,ii 0]⟩)] 2 (Aw.ret ?_)
   rw [some_some hh]
   exact gives (r':=.agg [ii s1,ii (z1.Page),ii 0,ii 0,ii 0]) kr (Ent.list [] rfl rfl (Nat.zero_le _) (rens_1 (ren_agg rz)) hs_nil)
 intro Q1 hN1 hR1 hE1
 refine sy [6,7,15] [0,1] (sp 24 [z6,z7,(15,ii x_why)]) [z8,z9] 2 (Aw.block (sy [6,7,15,17] [0,1] (sp 24 [z6,z7,(15,ii x_why),z3]) [z8,z9] 2 ?_))
 rcases cond_some hh with ⟨hb,hh⟩ | ⟨hb,hh⟩
 · refine cT hb (Aw.oreg ?_)
   let q3:Root:=⟨47,[ii 2,ii (z1.Page),ii 0,ii 0,ii 0]⟩
   refine ye (sp 24 [z6,z7,(15,ii x_why),z3,(19,pp 1)]) [(1,some q3),z8,z9] 2 (blk_m ?_)
   obtain rfl:=some_some hh
   exact hN1 (2:Int) _ _ _ hk1 (el [some 0,some 1] (rens_sp kr (rp 0 (rp 1 rl_n))) (hq q1 rz (hq q3 rz hs_nil)))
 refine cF hb (sy [6,7,20] [0,1] (sp 24 [z6,z7,z5]) [z8,z9] 2 ?_)
 rcases cond_sf hh with ⟨hb,hh⟩ | ⟨hb,hh⟩
 · refine cF hb (sy [6] [0] (sp 24 [z6]) [z8] 2 (Aw.ret (blk_r ?_)))
   obtain rfl:=some_some hh
   refine hR1 _ _ _ ?_
   rw [some_some hk1]
   exact gives (r':=.agg [ii 0,ii 0,ii 0,ii 0,ii 0]) kr (Ent.list [] rfl rfl (Nat.zero_le _) (rens_1 (ren_agg rz)) hs_nil)
 refine cT hb (Aw.oreg ?_)
 let q4:Root:=⟨47,[ii 3,ii (z1.Page),ii 0,ii 0,ii 0]⟩
 refine ye (sp 24 [z6,z7,z5,(22,pp 1)]) [(1,some q4),z8,z9] 2 (blk_m ?_)
 obtain rfl:=some_some hh
 exact hN1 (3:Int) _ _ _ hk1 (el [some 0,some 1] (rens_sp kr (rp 0 (rp 1 rl_n))) (hq q1 rz (hq q4 rz hs_nil)))
theorem low_spec_GuestExit:LW 24 ⟨109,[(.cell 4 true 5)],(.seq (.reg false (rg 24 0)) (.seq (.seq (.reg false (rg 24 1)) (.cond (.t 26) (.seq (.reg false (rg 24 2)) .ret) .skip)) (.seq (.reg false (rg 24 3)) (.seq (.seq (.reg false (rg 24 4)) (.cond (.t 39) (.seq (.reg false (rg 24 5)) .ret) .skip)) (.seq (.reg false (rg 24 6)) (.seq (.reg false (rg 24 7)) (.seq (.seq (.reg false (rg 24 8)) (.cond (.t 54) (.seq (.reg false (rg 24 9)) .ret) .skip)) (.seq (.reg false (rg 24 10)) (.seq (.block 0 (.seq (.reg false (rg 24 11)) (.cond (.t 66) (.seq (.reg false (rg 24 12)) .ret) (.seq (.reg false (rg 24 13)) (.cond (.t 76) (.seq (.reg false (rg 24 14)) (.seq (.reg false (rg 24 15)) (.seq (.reg false (rg 24 16)) .ret))) .skip))))) (.seq (.reg false (rg 24 17)) .ret))))))))))⟩:=kr
noncomputable def F_spec_GuestExit_j8  (s8:Unit):Option DExit :=
 some (DExit.mk (0:Int) (0:Int) (DIns.mk (0:Int) (0:Int) (0:Int)))
noncomputable def F_spec_GuestExit (x_h:DHost) (x_g:Int):Option DExit :=
 Option.bind (F_spec_l4Live x_h x_g) fun v1 =>
 cond (!v1)
  (some (DExit.mk (0:Int) (0:Int) (DIns.mk (0:Int) (0:Int) (0:Int))))
  (grd ((0:Int)≤x_g∧x_g<((List.length x_h.Guests:Nat):Int)) (cond (((List.getD x_h.Guests (Int.toNat x_g) default).C).Stopped)
   (some (DExit.mk (0:Int) (0:Int) (DIns.mk (0:Int) (0:Int) (0:Int))))
   (grd ((0:Int)≤x_g∧x_g<((List.length x_h.Guests:Nat):Int)) (Option.bind (F_spec_l3Core (DCore.mk (((List.getD x_h.Guests (Int.toNat x_g) default).C).Regs) (((List.getD x_h.Guests (Int.toNat x_g) default).C).Pc) (((List.getD x_h.Guests (Int.toNat x_g) default).C).Root) (((List.getD x_h.Guests (Int.toNat x_g) default).C).Vector) (((List.getD x_h.Guests (Int.toNat x_g) default).C).Saved) (((List.getD x_h.Guests (Int.toNat x_g) default).C).SavedUser) (((List.getD x_h.Guests (Int.toNat x_g) default).C).Cause) (((List.getD x_h.Guests (Int.toNat x_g) default).C).Bad) (((List.getD x_h.Guests (Int.toNat x_g) default).C).Timer) (((List.getD x_h.Guests (Int.toNat x_g) default).C).Waits) (((List.getD x_h.Guests (Int.toNat x_g) default).C).User) (((List.getD x_h.Guests (Int.toNat x_g) default).C).On) (((List.getD x_h.Guests (Int.toNat x_g) default).C).Stopped))) fun v2 =>
    Option.bind (F_spec_l3Ticked v2) fun v3 =>
    cond v3.2
     (some (DExit.mk (0:Int) (0:Int) (DIns.mk (0:Int) (0:Int) (0:Int))))
     (Option.bind (F_spec_ShadowOf x_h x_g) fun v4 =>
     Option.bind (F_spec_l5Place v4 v3.1.Pc v3.1.User false) fun v5 =>
     cond (!decide (v5.2=(0:Int)))
      (Option.bind (F_spec_l6Exit v4 v3.1.Pc v5.2) fun v6 =>
      some v6)
      (grd ((0:Int)≤v5.1∧v5.1<((List.length x_h.Words:Nat):Int)) (Option.bind (F_spec_InsFrom (List.getD x_h.Words (Int.toNat v5.1) default)) fun v7 =>
       Option.bind (Option.bind (F_spec_InsKernel v7) fun v9 =>
        cond v9
         (cond (!v3.1.User)
          (some (.out (DExit.mk (1:Int) (0:Int) v7)))
          (cond (decide (v7.Op=(3:Int)))
           (grd ((0:Int)≤(Int.tmod v7.N (4:Int))∧(Int.tmod v7.N (4:Int))<(((List.length v3.1.Regs):Nat):Int)) (Option.bind (F_spec_l5Place v4 (Int.tmod (List.getD v3.1.Regs (Int.toNat (Int.tmod v7.N (4:Int))) default) (64:Int)) v3.1.User (decide (v7.Op=(4:Int)))) fun v10 =>
            Option.bind (F_spec_l6Exit v4 (Int.tmod (List.getD v3.1.Regs (Int.toNat (Int.tmod v7.N (4:Int))) default) (64:Int)) v10.2) fun v11 =>
            some (.out v11)))
           (cond (decide (v7.Op=(4:Int)))
            (grd ((0:Int)≤(Int.tmod v7.N (4:Int))∧(Int.tmod v7.N (4:Int))<(((List.length v3.1.Regs):Nat):Int)) (Option.bind (F_spec_l5Place v4 (Int.tmod (List.getD v3.1.Regs (Int.toNat (Int.tmod v7.N (4:Int))) default) (64:Int)) v3.1.User (decide (v7.Op=(4:Int)))) fun v12 =>
             Option.bind (F_spec_l6Exit v4 (Int.tmod (List.getD v3.1.Regs (Int.toNat (Int.tmod v7.N (4:Int))) default) (64:Int)) v12.2) fun v13 =>
             some (.out v13)))
            (some (.go ())))))
         (cond (decide (v7.Op=(3:Int)))
          (grd ((0:Int)≤(Int.tmod v7.N (4:Int))∧(Int.tmod v7.N (4:Int))<(((List.length v3.1.Regs):Nat):Int)) (Option.bind (F_spec_l5Place v4 (Int.tmod (List.getD v3.1.Regs (Int.toNat (Int.tmod v7.N (4:Int))) default) (64:Int)) v3.1.User (decide (v7.Op=(4:Int)))) fun v14 =>
           Option.bind (F_spec_l6Exit v4 (Int.tmod (List.getD v3.1.Regs (Int.toNat (Int.tmod v7.N (4:Int))) default) (64:Int)) v14.2) fun v15 =>
           some (.out v15)))
          (cond (decide (v7.Op=(4:Int)))
           (grd ((0:Int)≤(Int.tmod v7.N (4:Int))∧(Int.tmod v7.N (4:Int))<(((List.length v3.1.Regs):Nat):Int)) (Option.bind (F_spec_l5Place v4 (Int.tmod (List.getD v3.1.Regs (Int.toNat (Int.tmod v7.N (4:Int))) default) (64:Int)) v3.1.User (decide (v7.Op=(4:Int)))) fun v16 =>
            Option.bind (F_spec_l6Exit v4 (Int.tmod (List.getD v3.1.Regs (Int.toNat (Int.tmod v7.N (4:Int))) default) (64:Int)) v16.2) fun v17 =>
            some (.out v17)))
           (some (.go ()))))) fun j8 =>
        JO.run j8 (F_spec_GuestExit_j8))))))))
theorem spec_GuestExit_fn {x_h:DHost} {x_g:Int} {R_:DExit} (hh:F_spec_GuestExit x_h x_g=some R_):Fn Try.prog 24 [.agg (B_41 x_h),.int .i64 x_g] (.agg [.int .i64 R_.Why,.int .i64 R_.Page,.int .i64 R_.What.Op,.int .i64 R_.What.A,.int .i64 R_.What.N]):=by
 let z3:EH:=(0,some (rB41 x_h)); let z4:=(1,ii x_g); let z5:=(10,pp 6); let z6:=(2,pp 0); let z7:=(4,pp 1); let z8:=(5,pp 4); let z9:=(76,bb true); let z10:EV:=(87,.ptr 6 [] 2); let z11:EV:=(96,.ptr 4 [] 10); let z1:=List.getD x_h.Guests (Int.toNat x_g) default
 unfold F_spec_GuestExit at hh
 refine Fn.start low_spec_GuestExit [0,1] (E:=sp 109 [(0,.agg (B_41 x_h)),z4]) kr (v:=.agg [ii R_.Why,ii R_.Page,ii R_.What.Op,ii R_.What.A,ii R_.What.N]) (Hr:=[]) (k:=0) kr (Aw.sreg [1,2,4] [0,1] ?_)
 let q1:Root:=⟨47,[ii 0,ii 0,ii 0,ii 0,ii 0]⟩; let z12:=(1,some q1)
 refine yt (sp 109 [z4,z6,z7]) [z3,z12] 2 (Aw.seq (Aw.sreg [1,2,4,26] [0,1] (yj 2  (sp 109 [z4,z6,z7,(14,.agg (B_41 x_h)),(15,ii x_g)]) [z3,z12] 2 ?_)))
 obtain ⟨v1,hv1,hh⟩:=bind_some hh
 refine ys (.call 78 [(.t 14),(.t 15)]) (some 16) (op_call (r:=bb v1) (v:=bb v1) (Hr:=[]) (n':=2) (spec_l4Live_fn hv1) (clz_v (vs:=[.agg (B_41 x_h),ii x_g]) kr (clz_c (clo_same (clean_agg (cl_B_41 _))) (cz1 clz_n))) rfl rfl kr ?_)
 refine yu 2 [(16,bb v1),(17,bb (!v1)),(18,bb (!v1))] [z3,z12] 2 ?_
 rcases cond_some hh with ⟨hb,hh⟩ | ⟨hb,hh⟩
 · refine yb 17 hb (yb 18 hb (yt (sp 109 [z4,z6,z7,(26,bb true)]) [z3,z12] 2 (cT rfl (sy [4] [1] (sp 109 [z7]) [z12] 2 (Aw.ret (then_r ?_))))))
   rw [some_some hh]
   exact gives (r':=.agg [ii 0,ii 0,ii 0,ii 0,ii 0]) kr (Ent.list [] rfl rfl (Nat.zero_le _) (rens_1 (ren_agg rz)) hs_nil)
 refine yb 17 hb (yb 18 hb (yu 3 [(17,bb false),(18,bb false),(19,.ptr 0 [] 1),(20,bo B_55 x_h.Guests),(21,ii x_g)] [z3,z12] 2 ?_))
 obtain ⟨hg4,hh⟩:=grd_some hh
 refine yg (.iadr 17 (.t 20) (.t 21)) (some 22) 18 false (op_iadr (kd:=.i64) (c:=B_55) (xs:=x_h.Guests) len_B_55 dd kr kr hg4 ?_)
 refine yu 2 [(22,.bptr (fl B_55 x_h.Guests) (Int.toNat x_g*17)),(23,.bptr (fl B_55 x_h.Guests) (Int.toNat x_g*17+1)),(24,.bptr (fl B_55 x_h.Guests) (Int.toNat x_g*17+1+12))] [z3,z12] 2 (yg (.load false 1 (.t 24)) (some 25) 18 false (op_loadb (c:=B_55) (xs:=x_h.Guests) (o:=Int.toNat x_g*17+1+12) (i:=(Int.toNat x_g)) (off:=13) (v:=bb ((z1.C).Stopped)) len_B_55 kr ltn ltn dd kr ?_))
 refine yt (sp 109 [z4,z6,z7,(26,bb ((z1.C).Stopped))]) [z3,z12] 2 ?_
 rcases cond_some hh with ⟨hb,hh⟩ | ⟨hb,hh⟩
 · refine cT hb (sy [4] [1] (sp 109 [z7]) [z12] 2 (Aw.ret (then_r ?_)))
   rw [some_some hh]
   exact gives (r':=.agg [ii 0,ii 0,ii 0,ii 0,ii 0]) kr (Ent.list [] rfl rfl (Nat.zero_le _) (rens_1 (ren_agg rz)) hs_nil)
 refine cF hb (Aw.xskip (fun _ _ _ hq=>then_m hq) (Aw.sreg [1,2,4,5,6] [0,1,3,4] (yj 3  (sp 109 [z4,z6,z7,(26,bb ((z1.C).Stopped)),(29,.ptr 0 [] 1),(30,bo B_55 x_h.Guests),(31,ii x_g)]) [z3,z12] 2 ?_)))
 obtain ⟨hg6,hh⟩:=grd_some hh
 refine ys (.iadr 17 (.t 30) (.t 31)) (some 32) (op_iadr (kd:=.i64) (c:=B_55) (xs:=x_h.Guests) len_B_55 dd kr kr hg6 ?_)
 refine yu 1 [(32,.bptr (fl B_55 x_h.Guests) (Int.toNat x_g*17)),(33,.bptr (fl B_55 x_h.Guests) (Int.toNat x_g*17+1))] [z3,z12] 2 (ys (.load true 13 (.t 33)) (some 34) (op_loadbA (c:=B_55) (xs:=x_h.Guests) (o:=Int.toNat x_g*17+1) (i:=(Int.toNat x_g)) (off:=1) (v:=.agg (B_25 z1.C)) len_B_55 kr ltn ltn dd kr ?_))
 obtain ⟨v2,hv2,hh⟩:=bind_some hh
 let q2:Root:=(rI_3 v2.Regs)
 refine ys (.call 79 [(.t 34)]) (some 35) (op_call (r:=.agg (.own 3 1 (List.length v2.Regs) (fl (eI .i64) v2.Regs)::ru25 v2 [])) (v:=.agg (sw 2 v2.Regs::ru25 v2 [])) (Hr:=[(2,some q2)]) (n':=3) (spec_l3Core_fn hv2) (clz_v (vs:=[.agg (B_25 z1.C)]) kr (clz_c (clo_agg cz) clz_n)) nrr nrr kr ?_)
 obtain ⟨v3,hv3,hh⟩:=bind_some hh
 let z13:=(86,sw 3 v3.1.Regs); let z14:=(97,bb v3.1.User); let q3:Root:=(rI_3 v3.1.Regs); let z15:=(3,some q3)
 refine ys (.call 59 [(.t 35)]) (some 36) (cf (.tup [.agg (sw 3 v3.1.Regs::ru25 v3.1 []),bb v3.2]) [z15] 4 [2] (spec_l3Ticked_fn hv3) [.agg (sw 2 v2.Regs::ru25 v2 [])] rz (hn nr_eI hs_nil) (ren_tup rz) (hn nr_eI hs_nil) ?_)
 let q4:Root:=⟨25,(sw 3 v3.1.Regs::ru25 v3.1 [])⟩; let z16:=(4,some q4)
 refine yt (sp 109 [z4,z6,z7,z8,(6,bb v3.2)]) [z3,z12,z15,z16] 5 (Aw.seq (sy [1,2,4,5,39] [0,1,3,4] (sp 109 [z4,z6,z7,z8,(39,bb v3.2)]) [z3,z12,z15,z16] 5 ?_))
 rcases cond_some hh with ⟨hb,hh⟩ | ⟨hb,hh⟩
 · refine cT hb (sy [4] [1] (sp 109 [z7]) [z12] 5 (Aw.ret (then_r ?_)))
   rw [some_some hh]
   exact gives (r':=.agg [ii 0,ii 0,ii 0,ii 0,ii 0]) kr (Ent.list [] rfl rfl (Nat.zero_le _) (rens_1 (ren_agg rz)) hs_nil)
 refine cF hb (Aw.xskip (fun _ _ _ hq=>then_m hq) (Aw.sreg [2,4,5,7] [0,1,3,4,5] (yj 2  (sp 109 [z4,z6,z7,z8,(39,bb v3.2),(41,.agg (B_41 x_h)),(42,ii x_g)]) [z3,z12,z15,z16] 5 ?_)))
 obtain ⟨v4,hv4,hh⟩:=bind_some hh
 let z17:EV:=(104,.sref 5 [] 0 (List.length v4) 6); let z18:EH:=(5,some (rC147 v4)); let z19:EV:=(7,.sref 5 [] 0 (List.length v4) 6); let z20:EV:=(94,.sref 5 [] 0 (List.length v4) 6)
 refine ys (.call 80 [(.t 41),(.t 42)]) (some 43) (op_call (r:=.own 147 6 (List.length v4) (fl C_147 v4)) (v:=.sref 5 [] 0 (List.length v4) 6) (Hr:=[z18]) (n':=6) (spec_ShadowOf_fn hv4) (clz_v (vs:=[.agg (B_41 x_h),ii x_g]) kr (clz_c (clo_same (clean_agg (cl_B_41 _))) (cz1 clz_n))) nrr nrr kr ?_)
 refine yt (sp 109 [z6,z7,z8,z19]) [z3,z12,z15,z16,z18] 6 (Aw.sreg [2,4,5,7,8,9] [0,1,3,4,5] (yu 5 [(45,.sref 5 [] 0 (List.length v4) 6),(46,.ptr 4 [] 1),(47,ii v3.1.Pc),(48,.ptr 4 [] 10),(49,bb v3.1.User)] [z3,z12,z15,z16,z18] 6 ?_))
 obtain ⟨v5,hv5,hh⟩:=bind_some hh
 let z21:=(54,bb (!decide (v5.2=(0:Int))))
 refine ys (.call 81 [(.t 45),(.t 47),(.t 49),(.c (bb false))]) (some 50) (op_call (r:=.tup [ii v5.1,ii v5.2]) (v:=.tup [ii v5.1,ii v5.2]) (Hr:=[]) (n':=6) (spec_l5Place_fn hv5) (clz_v (vs:=[.sref 5 [] 0 (List.length v4) 6,ii v3.1.Pc,bb v3.1.User,bb false]) kr (clz_c (clo_own (c:=C_147) (xs:=v4) (e:=147) eqn len_C_147 no_C_147 cl_C_147 kr) (cz1 (cz1 (cz1 clz_n))))) rfl rfl kr ?_)
 refine yt (sp 109 [z6,z7,z8,z19,(8,ii v5.1),(9,ii v5.2)]) [z3,z12,z15,z16,z18] 6 (Aw.seq (sy [2,4,5,7,8,9,54] [0,1,3,4,5] (sp 109 [z6,z7,z8,z19,(8,ii v5.1),(9,ii v5.2),z21]) [z3,z12,z15,z16,z18] 6 ?_))
 rcases cond_some hh with ⟨hb,hh⟩ | ⟨hb,hh⟩
 · refine cT hb (Aw.sreg [4] [1] (yu 4 [(55,.sref 5 [] 0 (List.length v4) 6),(56,.ptr 4 [] 1),(57,ii v3.1.Pc),(58,ii v5.2)] [z3,z12,z15,z16,z18] 6 ?_))
   obtain ⟨v6,hv6,hh⟩:=bind_some hh
   refine ys (.call 82 [(.t 55),(.t 57),(.t 58)]) (some 59) (op_call (r:=.agg (C_47 v6)) (v:=.agg (C_47 v6)) (Hr:=[]) (n':=6) (spec_l6Exit_fn hv6) (clz_v (vs:=[.sref 5 [] 0 (List.length v4) 6,ii v3.1.Pc,ii v5.2]) kr (clz_c (clo_own (c:=C_147) (xs:=v4) (e:=147) eqn len_C_147 no_C_147 cl_C_147 kr) (cz1 (cz1 clz_n)))) rfl rfl kr ?_)
   refine yt (sp 109 [z7]) [(1,some ⟨47,(C_47 v6)⟩)] 6 (Aw.ret (then_r ?_))
   rw [some_some hh]
   exact gives (r':=.agg (C_47 v6)) kr (Ent.list [] rfl rfl (Nat.zero_le _) (rens_1 (ren_agg rz)) hs_nil)
 refine cF hb (Aw.xskip (fun _ _ _ hq=>then_m hq) (Aw.sreg [4,5,7,10] [1,3,4,5,6] (yj 3  (sp 109 [z6,z7,z8,z19,(8,ii v5.1),(9,ii v5.2),z21,(60,pp 0),(61,bo (eI .i64) x_h.Words),(62,ii v5.1)]) [z3,z12,z15,z16,z18] 6 ?_)))
 obtain ⟨hg8,hh⟩:=grd_some hh
 refine ys (.iadr 1 (.t 61) (.t 62)) (some 63) (op_iadr (kd:=.i64) (c:=(eI .i64)) (xs:=x_h.Words) len_eI dd kr kr hg8 ?_)
 refine ys (.load false 1 (.t 63)) (some 64) (op_loadb (c:=(eI .i64)) (xs:=x_h.Words) (o:=Int.toNat v5.1*1) (i:=(Int.toNat v5.1)) (off:=0) (v:=ii (List.getD x_h.Words (Int.toNat v5.1) default)) len_eI kr ltn ltn dd kr ?_)
 obtain ⟨v7,hv7,hh⟩:=bind_some hh
 let z22:=(100,bb (decide (v7.Op=(4:Int)))); let z23:EH:=(6,some ⟨45,(C_45 v7)⟩); let z24:=(76,bb (decide (v7.Op=(4:Int)))); let z25:=(79,bb (decide (v7.Op=(3:Int)))); let z26:=(80,bb (decide (v7.Op=(3:Int)))); let z27:=(88,ii v7.N); let z28:=(89,ii (Int.tmod v7.N (4:Int))); let z29:EV:=(90,.ptr 3 [] (0+(Int.toNat (Int.tmod v7.N (4:Int)))*1)); let z30:=(99,ii v7.Op); let z2:=List.getD v3.1.Regs (Int.toNat (Int.tmod v7.N (4:Int))) default; let z31:=(105,ii (Int.tmod z2 (64:Int))); let z32:=(11,ii (Int.tmod z2 (64:Int))); let z33:=(95,ii (Int.tmod z2 (64:Int)))
 refine ys (.call 61 [(.t 64)]) (some 65) (oc (spec_InsFrom_fn hv7) ?_)
 refine yt (sp 109 [z7,z8,z19,z5]) [z12,z15,z16,z18,z23] 7 ?_
 obtain ⟨j8,hh,hk8⟩:=bind_some hh
 refine Aw.join (S:=Unit) (fun s8=>sp 109 [(4,pp 0)]) (fun s8=>[(0,some ⟨47,[ii 0,ii 0,ii 0,ii 0,ii 0]⟩)]) 1 (fun s8=>F_spec_GuestExit_j8 s8=some R_) ?_ ?_
 · intro s8 hh
   unfold F_spec_GuestExit_j8 at hh
   refine sy [4] [0] (sp 109 [(4,pp 0)]) [(0,some q1)] 1 (Aw.ret ?_)
   rw [some_some hh]
   exact gives (r':=.agg [ii 0,ii 0,ii 0,ii 0,ii 0]) kr (Ent.list [] rfl rfl (Nat.zero_le _) (rens_1 (ren_agg rz)) hs_nil)
 intro Q8 hN8 hR8 hE8
 refine Aw.block (Aw.sreg [4,5,7,10,66] [1,3,4,5,6] (yj 1  (sp 109 [z7,z8,z19,z5,(67,.agg (C_45 v7))]) [z12,z15,z16,z18,z23] 7 ?_))
 obtain ⟨v9,hv9,hh⟩:=bind_some hh
 refine ys (.call 62 [(.t 67)]) (some 68) (oc (spec_InsKernel_fn hv9) ?_)
 refine yu 1 [(68,bb v9),(69,bb v9)] [z12,z15,z16,z18,z23] 7 ?_
 rcases cond_sf hh with ⟨hb,hh⟩ | ⟨hb,hh⟩
 · refine yb 68 hb (yb 69 hb (yt (sp 109 [z7,z8,z19,z5,(66,bb false)]) [z12,z15,z16,z18,z23] 7 (cF rfl (Aw.sreg [4,5,7,10,76] [1,3,4,5,6] (yu 4 [(77,pp 6),(78,ii v7.Op),z25,z26] [z12,z15,z16,z18,z23] 7 ?_)))))
   rcases cond_some hh with ⟨hb,hh⟩ | ⟨hb,hh⟩
   · refine yb 79 hb (yb 80 hb (yt (sp 109 [z7,z8,z19,z5,z9]) [z12,z15,z16,z18,z23] 7 (cT rfl (Aw.sreg [4,5,7,10,11] [1,3,4,5,6] ?_))))
     obtain ⟨hg30,hh⟩:=grd_some hh
     refine yjc 6 [(4:Int)≠0,(0:Int)≤(Int.tmod v7.N (4:Int))∧(Int.tmod v7.N (4:Int))<(((List.length v3.1.Regs):Nat):Int)] (sp 109 [z7,z8,z19,z5,z9,(85,pp 4),z13,z10,z27,z28,z29]) [z12,z15,z16,z18,z23] 7 (.cons dd (.cons hg30 .nil)) (ys (.load false 1 (.t 90)) (some 91) (op_load (c:=(eI .i64)) (xs:=v3.1.Regs) (e:=3) (r:=3) (π:=[]) (o:=0+(Int.toNat (Int.tmod v7.N (4:Int)))*1) (i:=(Int.toNat (Int.tmod v7.N (4:Int)))) (off:=0) (v:=ii z2) len_eI kr kr ltn ltn dd kr ?_))
     refine ytc [(64:Int)≠0] (sp 109 [z7,z8,z19,z5,z32]) [z12,z15,z16,z18,z23] 7 (.cons dd .nil) (Aw.sreg [4,7,11,13] [1,5] (yu 7 [z20,z33,z11,z14,(98,pp 6),z30,z22] [z12,z15,z16,z18,z23] 7 ?_))
     obtain ⟨v14,hv14,hh⟩:=bind_some hh
     refine ys (.call 81 [(.t 94),(.t 95),(.t 97),(.t 100)]) (some 101) (op_call (r:=.tup [ii v14.1,ii v14.2]) (v:=.tup [ii v14.1,ii v14.2]) (Hr:=[]) (n':=7) (spec_l5Place_fn hv14) (clz_v (vs:=[.sref 5 [] 0 (List.length v4) 6,ii (Int.tmod z2 (64:Int)),bb v3.1.User,bb (decide (v7.Op=(4:Int)))]) kr (clz_c (clo_own (c:=C_147) (xs:=v4) (e:=147) eqn len_C_147 no_C_147 cl_C_147 kr) (cz1 (cz1 (cz1 clz_n))))) rfl rfl kr ?_)
     refine yt (sp 109 [z7,z19,z32,(13,ii v14.2)]) [z12,z18] 7 (Aw.sreg [4] [1] (yu 3 [z17,z31,(106,ii v14.2)] [z12,z18] 7 ?_))
     obtain ⟨v15,hv15,hh⟩:=bind_some hh
     refine ys (.call 82 [(.t 104),(.t 105),(.t 106)]) (some 107) (op_call (r:=.agg (C_47 v15)) (v:=.agg (C_47 v15)) (Hr:=[]) (n':=7) (spec_l6Exit_fn hv15) (clz_v (vs:=[.sref 5 [] 0 (List.length v4) 6,ii (Int.tmod z2 (64:Int)),ii v14.2]) kr (clz_c (clo_own (c:=C_147) (xs:=v4) (e:=147) eqn len_C_147 no_C_147 cl_C_147 kr) (cz1 (cz1 clz_n)))) rfl rfl kr ?_)
     refine yt (sp 109 [z7]) [(1,some ⟨47,(C_47 v15)⟩)] 7 (Aw.ret (blk_r ?_))
     obtain rfl:=some_some hh
     refine hR8 _ _ _ ?_
     rw [some_some hk8]
     exact gives (r':=.agg (C_47 v15)) kr (Ent.list [] rfl rfl (Nat.zero_le _) (rens_1 (ren_agg rz)) hs_nil)
   refine yb 79 hb (yb 80 hb (yt (sp 109 [z7,z8,z19,z5,z24]) [z12,z15,z16,z18,z23] 7 ?_))
   rcases cond_sf hh with ⟨hb,hh⟩ | ⟨hb,hh⟩
   · refine cF hb (Aw.skip (blk_m ?_))
     obtain rfl:=some_some hh
     exact hN8 () _ _ _ hk8 (el [some 1] (rens_sp kr (rp 1 rl_n)) (hq q1 rz hs_nil))
   refine cT hb (Aw.sreg [4,5,7,10,11] [1,3,4,5,6] ?_)
   obtain ⟨hg32,hh⟩:=grd_some hh
   refine yjc 6 [(4:Int)≠0,(0:Int)≤(Int.tmod v7.N (4:Int))∧(Int.tmod v7.N (4:Int))<(((List.length v3.1.Regs):Nat):Int)] (sp 109 [z7,z8,z19,z5,z24,(85,pp 4),z13,z10,z27,z28,z29]) [z12,z15,z16,z18,z23] 7 (.cons dd (.cons hg32 .nil)) (ys (.load false 1 (.t 90)) (some 91) (op_load (c:=(eI .i64)) (xs:=v3.1.Regs) (e:=3) (r:=3) (π:=[]) (o:=0+(Int.toNat (Int.tmod v7.N (4:Int)))*1) (i:=(Int.toNat (Int.tmod v7.N (4:Int)))) (off:=0) (v:=ii z2) len_eI kr kr ltn ltn dd kr ?_))
   refine ytc [(64:Int)≠0] (sp 109 [z7,z8,z19,z5,z32]) [z12,z15,z16,z18,z23] 7 (.cons dd .nil) (Aw.sreg [4,7,11,13] [1,5] (yu 7 [z20,z33,z11,z14,(98,pp 6),z30,z22] [z12,z15,z16,z18,z23] 7 ?_))
   obtain ⟨v16,hv16,hh⟩:=bind_some hh
   refine ys (.call 81 [(.t 94),(.t 95),(.t 97),(.t 100)]) (some 101) (op_call (r:=.tup [ii v16.1,ii v16.2]) (v:=.tup [ii v16.1,ii v16.2]) (Hr:=[]) (n':=7) (spec_l5Place_fn hv16) (clz_v (vs:=[.sref 5 [] 0 (List.length v4) 6,ii (Int.tmod z2 (64:Int)),bb v3.1.User,bb (decide (v7.Op=(4:Int)))]) kr (clz_c (clo_own (c:=C_147) (xs:=v4) (e:=147) eqn len_C_147 no_C_147 cl_C_147 kr) (cz1 (cz1 (cz1 clz_n))))) rfl rfl kr ?_)
   refine yt (sp 109 [z7,z19,z32,(13,ii v16.2)]) [z12,z18] 7 (Aw.sreg [4] [1] (yu 3 [z17,z31,(106,ii v16.2)] [z12,z18] 7 ?_))
   obtain ⟨v17,hv17,hh⟩:=bind_some hh
   refine ys (.call 82 [(.t 104),(.t 105),(.t 106)]) (some 107) (op_call (r:=.agg (C_47 v17)) (v:=.agg (C_47 v17)) (Hr:=[]) (n':=7) (spec_l6Exit_fn hv17) (clz_v (vs:=[.sref 5 [] 0 (List.length v4) 6,ii (Int.tmod z2 (64:Int)),ii v16.2]) kr (clz_c (clo_own (c:=C_147) (xs:=v4) (e:=147) eqn len_C_147 no_C_147 cl_C_147 kr) (cz1 (cz1 clz_n)))) rfl rfl kr ?_)
   refine yt (sp 109 [z7]) [(1,some ⟨47,(C_47 v17)⟩)] 7 (Aw.ret (blk_r ?_))
   obtain rfl:=some_some hh
   refine hR8 _ _ _ ?_
   rw [some_some hk8]
   exact gives (r':=.agg (C_47 v17)) kr (Ent.list [] rfl rfl (Nat.zero_le _) (rens_1 (ren_agg rz)) hs_nil)
 refine yb 68 hb (yb 69 hb (yt (sp 109 [z7,z8,z19,z5,(66,bb (!v3.1.User))]) [z12,z15,z16,z18,z23] 7 ?_))
 rcases cond_some hh with ⟨hb,hh⟩ | ⟨hb,hh⟩
 · refine cT hb (sy [4] [1] (sp 109 [z7]) [(1,some ⟨47,[ii 1,ii 0,ii v7.Op,ii v7.A,ii v7.N]⟩)] 7 (Aw.ret (blk_r ?_)))
   obtain rfl:=some_some hh
   refine hR8 _ _ _ ?_
   rw [some_some hk8]
   exact gives (r':=.agg [ii 1,ii 0,ii v7.Op,ii v7.A,ii v7.N]) kr (Ent.list [] rfl rfl (Nat.zero_le _) (rens_1 (ren_agg rz)) hs_nil)
 refine cF hb (Aw.sreg [4,5,7,10,76] [1,3,4,5,6] (yu 4 [(77,pp 6),(78,ii v7.Op),z25,z26] [z12,z15,z16,z18,z23] 7 ?_))
 rcases cond_some hh with ⟨hb,hh⟩ | ⟨hb,hh⟩
 · refine yb 79 hb (yb 80 hb (yt (sp 109 [z7,z8,z19,z5,z9]) [z12,z15,z16,z18,z23] 7 (cT rfl (Aw.sreg [4,5,7,10,11] [1,3,4,5,6] ?_))))
   obtain ⟨hg26,hh⟩:=grd_some hh
   refine yjc 6 [(4:Int)≠0,(0:Int)≤(Int.tmod v7.N (4:Int))∧(Int.tmod v7.N (4:Int))<(((List.length v3.1.Regs):Nat):Int)] (sp 109 [z7,z8,z19,z5,z9,(85,pp 4),z13,z10,z27,z28,z29]) [z12,z15,z16,z18,z23] 7 (.cons dd (.cons hg26 .nil)) (ys (.load false 1 (.t 90)) (some 91) (op_load (c:=(eI .i64)) (xs:=v3.1.Regs) (e:=3) (r:=3) (π:=[]) (o:=0+(Int.toNat (Int.tmod v7.N (4:Int)))*1) (i:=(Int.toNat (Int.tmod v7.N (4:Int)))) (off:=0) (v:=ii z2) len_eI kr kr ltn ltn dd kr ?_))
   refine ytc [(64:Int)≠0] (sp 109 [z7,z8,z19,z5,z32]) [z12,z15,z16,z18,z23] 7 (.cons dd .nil) (Aw.sreg [4,7,11,13] [1,5] (yu 7 [z20,z33,z11,z14,(98,pp 6),z30,z22] [z12,z15,z16,z18,z23] 7 ?_))
   obtain ⟨v10,hv10,hh⟩:=bind_some hh
   refine ys (.call 81 [(.t 94),(.t 95),(.t 97),(.t 100)]) (some 101) (op_call (r:=.tup [ii v10.1,ii v10.2]) (v:=.tup [ii v10.1,ii v10.2]) (Hr:=[]) (n':=7) (spec_l5Place_fn hv10) (clz_v (vs:=[.sref 5 [] 0 (List.length v4) 6,ii (Int.tmod z2 (64:Int)),bb v3.1.User,bb (decide (v7.Op=(4:Int)))]) kr (clz_c (clo_own (c:=C_147) (xs:=v4) (e:=147) eqn len_C_147 no_C_147 cl_C_147 kr) (cz1 (cz1 (cz1 clz_n))))) rfl rfl kr ?_)
   refine yt (sp 109 [z7,z19,z32,(13,ii v10.2)]) [z12,z18] 7 (Aw.sreg [4] [1] (yu 3 [z17,z31,(106,ii v10.2)] [z12,z18] 7 ?_))
   obtain ⟨v11,hv11,hh⟩:=bind_some hh
   refine ys (.call 82 [(.t 104),(.t 105),(.t 106)]) (some 107) (op_call (r:=.agg (C_47 v11)) (v:=.agg (C_47 v11)) (Hr:=[]) (n':=7) (spec_l6Exit_fn hv11) (clz_v (vs:=[.sref 5 [] 0 (List.length v4) 6,ii (Int.tmod z2 (64:Int)),ii v10.2]) kr (clz_c (clo_own (c:=C_147) (xs:=v4) (e:=147) eqn len_C_147 no_C_147 cl_C_147 kr) (cz1 (cz1 clz_n)))) rfl rfl kr ?_)
   refine yt (sp 109 [z7]) [(1,some ⟨47,(C_47 v11)⟩)] 7 (Aw.ret (blk_r ?_))
   obtain rfl:=some_some hh
   refine hR8 _ _ _ ?_
   rw [some_some hk8]
   exact gives (r':=.agg (C_47 v11)) kr (Ent.list [] rfl rfl (Nat.zero_le _) (rens_1 (ren_agg rz)) hs_nil)
 refine yb 79 hb (yb 80 hb (yt (sp 109 [z7,z8,z19,z5,z24]) [z12,z15,z16,z18,z23] 7 ?_))
 rcases cond_sf hh with ⟨hb,hh⟩ | ⟨hb,hh⟩
 · refine cF hb (Aw.skip (blk_m ?_))
   obtain rfl:=some_some hh
   exact hN8 () _ _ _ hk8 (el [some 1] (rens_sp kr (rp 1 rl_n)) (hq q1 rz hs_nil))
 refine cT hb (Aw.sreg [4,5,7,10,11] [1,3,4,5,6] ?_)
 obtain ⟨hg28,hh⟩:=grd_some hh
 refine yjc 6 [(4:Int)≠0,(0:Int)≤(Int.tmod v7.N (4:Int))∧(Int.tmod v7.N (4:Int))<(((List.length v3.1.Regs):Nat):Int)] (sp 109 [z7,z8,z19,z5,z24,(85,pp 4),z13,z10,z27,z28,z29]) [z12,z15,z16,z18,z23] 7 (.cons dd (.cons hg28 .nil)) (ys (.load false 1 (.t 90)) (some 91) (op_load (c:=(eI .i64)) (xs:=v3.1.Regs) (e:=3) (r:=3) (π:=[]) (o:=0+(Int.toNat (Int.tmod v7.N (4:Int)))*1) (i:=(Int.toNat (Int.tmod v7.N (4:Int)))) (off:=0) (v:=ii z2) len_eI kr kr ltn ltn dd kr ?_))
 refine ytc [(64:Int)≠0] (sp 109 [z7,z8,z19,z5,z32]) [z12,z15,z16,z18,z23] 7 (.cons dd .nil) (Aw.sreg [4,7,11,13] [1,5] (yu 7 [z20,z33,z11,z14,(98,pp 6),z30,z22] [z12,z15,z16,z18,z23] 7 ?_))
 obtain ⟨v12,hv12,hh⟩:=bind_some hh
 refine ys (.call 81 [(.t 94),(.t 95),(.t 97),(.t 100)]) (some 101) (op_call (r:=.tup [ii v12.1,ii v12.2]) (v:=.tup [ii v12.1,ii v12.2]) (Hr:=[]) (n':=7) (spec_l5Place_fn hv12) (clz_v (vs:=[.sref 5 [] 0 (List.length v4) 6,ii (Int.tmod z2 (64:Int)),bb v3.1.User,bb (decide (v7.Op=(4:Int)))]) kr (clz_c (clo_own (c:=C_147) (xs:=v4) (e:=147) eqn len_C_147 no_C_147 cl_C_147 kr) (cz1 (cz1 (cz1 clz_n))))) rfl rfl kr ?_)
 refine yt (sp 109 [z7,z19,z32,(13,ii v12.2)]) [z12,z18] 7 (Aw.sreg [4] [1] (yu 3 [z17,z31,(106,ii v12.2)] [z12,z18] 7 ?_))
 obtain ⟨v13,hv13,hh⟩:=bind_some hh
 refine ys (.call 82 [(.t 104),(.t 105),(.t 106)]) (some 107) (op_call (r:=.agg (C_47 v13)) (v:=.agg (C_47 v13)) (Hr:=[]) (n':=7) (spec_l6Exit_fn hv13) (clz_v (vs:=[.sref 5 [] 0 (List.length v4) 6,ii (Int.tmod z2 (64:Int)),ii v12.2]) kr (clz_c (clo_own (c:=C_147) (xs:=v4) (e:=147) eqn len_C_147 no_C_147 cl_C_147 kr) (cz1 (cz1 clz_n)))) rfl rfl kr ?_)
 refine yt (sp 109 [z7]) [(1,some ⟨47,(C_47 v13)⟩)] 7 (Aw.ret (blk_r ?_))
 obtain rfl:=some_some hh
 refine hR8 _ _ _ ?_
 rw [some_some hk8]
 exact gives (r':=.agg (C_47 v13)) kr (Ent.list [] rfl rfl (Nat.zero_le _) (rens_1 (ren_agg rz)) hs_nil)
end Go.Proofs.Ytbanbjdcgdmkaaa
