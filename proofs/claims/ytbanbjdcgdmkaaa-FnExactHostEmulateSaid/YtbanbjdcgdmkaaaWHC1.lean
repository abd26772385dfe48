/- Plain functions of the program, and that it hands back what they say. Made by program. -/
import Derived.Test.YtbanbjdcgdmkaaaWT
import Derived.Test.YtbanbjdcgdmkaaaProg
import Derived.Test.YtbanbjdcgdmkaaaWHO1
import Derived.Test.YtbanbjdcgdmkaaaWO1
namespace Go.Proofs.Ytbanbjdcgdmkaaa
open Go.RowKit
set_option maxRecDepth 100000
set_option linter.all false
set_option maxHeartbeats 0
theorem low_impl_copied:LW 123 ⟨11,[(.tmp 2)],(.seq (.reg false (rg 123 0)) (.seq (.reg false (rg 123 1)) (.seq (.reg false (rg 123 2)) (.seq (.reg false (rg 123 3)) .ret))))⟩:=kr
noncomputable def F_impl_copied (x_list:List Int):Option (List Int) :=
 grd ((0:Int)≤(((List.length x_list):Nat):Int)∧(((List.length x_list):Nat):Int)*8≤2 ^ 47∧(((List.length x_list):Nat):Int)≤2 ^ 47) (some (over (List.replicate (Int.toNat (((List.length x_list):Nat):Int)) (0:Int)) 0 (List.length (List.replicate (Int.toNat (((List.length x_list):Nat):Int)) (0:Int))) x_list))
theorem impl_copied_fn {x_list:List Int} {R_:(List Int)} (hh:F_impl_copied x_list=some R_):Fn Try.prog 123 [bo (eI .i64) x_list] (.own 3 1 (List.length R_) (fl (eI .i64) R_)):=by
 let z1:=(0,bo (eI .i64) x_list); let z2:EV:=(3,.sref 0 [] 0 (List.length (List.replicate (Int.toNat (((List.length x_list):Nat):Int)) (0:Int))) 1)
 unfold F_impl_copied at hh
 refine Fn.start low_impl_copied [0] (E:=sp 11 [z1]) kr (v:=sw 0 R_) (Hr:=[(0,some (rI_3 R_))]) (k:=1) kr (sy [0] [] (sp 11 [z1]) [] 0 (Aw.sreg [0,3] [0] (yu 2 [(4,bo (eI .i64) x_list),(5,ii (((List.length x_list):Nat):Int))] [] 0 ?_)))
 obtain ⟨hg2,hh⟩:=grd_some hh
 refine ys (.mk 3 1 8 [(ii 0)] (.t 5)) (some 6) (op_mk (c:=(eI .i64)) (d:=(0:Int)) (k:=(((List.length x_list):Nat):Int)) kr hg2 kr ?_)
 let q1:Root:=(rI_3 (List.replicate (Int.toNat (((List.length x_list):Nat):Int)) (0:Int)))
 refine yt (sp 11 [z1,z2]) [(0,some q1)] 1 (Aw.sreg [3] [0] (yu 2 [(7,.sref 0 [] 0 (List.length (List.replicate (Int.toNat (((List.length x_list):Nat):Int)) (0:Int))) 1),(8,bo (eI .i64) x_list)] [(0,some q1)] 1 ?_))
 let q2:Root:=(rI_3 (over (List.replicate (Int.toNat (((List.length x_list):Nat):Int)) (0:Int)) 0 (List.length (List.replicate (Int.toNat (((List.length x_list):Nat):Int)) (0:Int))) x_list))
 refine ys (.cpy 1 (.t 7) (.t 8)) (some 9) (op_cpy (c:=(eI .i64)) (xs:=(List.replicate (Int.toNat (((List.length x_list):Nat):Int)) (0:Int))) (ys:=x_list) (e:=3) (r:=0) (π:=[]) (o:=0) (k:=(List.length (List.replicate (Int.toNat (((List.length x_list):Nat):Int)) (0:Int)))) (i:=0) (H':=[(0,some q2),(0,some q1)]) len_eI (rpv kr (rp_bor (c:=(eI .i64)) (xs:=x_list) len_eI)) kr kr ltn ltn kr ?_)
 refine yt (sp 11 [z2]) [(0,some q2)] 1 (sy [2] [0] (sp 11 [(2,.sref 0 [] 0 (List.length (List.replicate (Int.toNat (((List.length x_list):Nat):Int)) (0:Int))) 1)]) [(0,some q2)] 1 (Aw.ret ?_))
 rw [some_some hh]
 exact gives (r':=.sref 0 [] 0 (List.length (List.replicate (Int.toNat (((List.length x_list):Nat):Int)) (0:Int))) 1) kr (Ent.list [some 0] rfl rfl (Nat.zero_le _) (rens_1 ren_sy) (hn nr_eI hs_nil))
theorem low_spec_l3Core:LW 79 ⟨9,[(.cell 2 true 13)],(.seq (.reg false (rg 79 0)) (.seq (.reg false (rg 79 1)) (.seq (.reg false (rg 79 2)) .ret)))⟩:=kr
noncomputable def F_spec_l3Core (x_c:DCore):Option DCore :=
 grd ((List.length ([]:List Int)+List.length x_c.Regs)*8≤2 ^ 47∧List.length ([]:List Int)+List.length x_c.Regs≤2 ^ 47) (some (DCore.mk (([]:List Int) ++ x_c.Regs) x_c.Pc x_c.Root x_c.Vector x_c.Saved x_c.SavedUser x_c.Cause x_c.Bad x_c.Timer x_c.Waits x_c.User x_c.On x_c.Stopped))
theorem spec_l3Core_fn {x_c:DCore} {R_:DCore} (hh:F_spec_l3Core x_c=some R_):Fn Try.prog 79 [.agg (B_25 x_c)] (.agg (.own 3 1 (List.length R_.Regs) (fl (eI .i64) R_.Regs)::ru25 R_ [])):=by
 let z1:EH:=(1,some ⟨25,(.nil::zru25 [])⟩)
 unfold F_spec_l3Core at hh
 refine Fn.start low_spec_l3Core [0] (E:=sp 9 [(0,.agg (B_25 x_c))]) kr (v:=.agg (sw 0 R_.Regs::ru25 R_ [])) (Hr:=[(0,some (rI_3 R_.Regs))]) (k:=1) kr (sy [1,2] [0,1] (sp 9 [(1,pp 0),(2,pp 1)]) [(0,some (rB25 x_c)),z1] 2 (Aw.sreg [1,2] [0,1,3] (yu 3 [(3,.sref 2 [] 0 0 1),(4,pp 0),(5,bo (eI .i64) x_c.Regs)] [(2,some ⟨3,[]⟩),(0,some (rB25 x_c)),z1] 3 ?_)))
 obtain ⟨hg2,hh⟩:=grd_some hh
 refine ys (.app 3 1 8 [(ii 0)] (.t 3) (.t 5)) (some 6) (op_app (c:=(eI .i64)) (xs:=([]:List Int)) (ys:=x_c.Regs) (r:=2) (k:=0) (π:=[]) eqn len_eI (rpv kr (rp_bor (c:=(eI .i64)) (xs:=x_c.Regs) len_eI)) kr kr hg2 ?_)
 let q1:Root:=⟨25,(.sref 3 [] 0 (List.length (([]:List Int) ++ x_c.Regs)) 1::ru25 x_c [])⟩; let q2:Root:=(rI_3 (([]:List Int) ++ x_c.Regs))
 refine yt (sp 9 [(1,pp 0),(2,pp 1)]) [(0,some q1),z1,(3,some q2)] 4 (sy [2] [1,3] (sp 9 [(2,pp 1)]) [(1,some q1),(3,some q2)] 4 (Aw.ret ?_))
 rw [some_some hh]
 exact gives (r':=.agg (.sref 3 [] 0 (List.length (([]:List Int) ++ x_c.Regs)) 1::ru25 x_c [])) kr (Ent.list [some 3] rfl rfl (Nat.zero_le _) (rens_1 (ren_agg rz)) (hn nr_eI hs_nil))
theorem low_impl_hasGuest:LW 76 ⟨23,[(.tmp 4)],(.seq (.reg false (rg 76 0)) (.seq (.reg false (rg 76 1)) .ret))⟩:=kr
noncomputable def F_impl_hasGuest (x_h:DHost) (x_g:Int):Option Bool :=
 Option.bind (F_impl_HostOk x_h) fun v1 =>
 cond v1
  (cond (decide ((0:Int)≤x_g))
   (cond (decide (x_g<(3:Int)))
    (grd ((0:Int)≤x_g∧x_g<((List.length x_h.Guests:Nat):Int)) (some ((List.getD x_h.Guests (Int.toNat x_g) default).Live)))
    (some false))
   (some false))
  (some false)
theorem impl_hasGuest_fn {x_h:DHost} {x_g:Int} {R_:Bool} (hh:F_impl_hasGuest x_h x_g=some R_):Fn Try.prog 76 [.agg (B_41 x_h),.int .i64 x_g] (.bool R_):=by
 let z2:EH:=(0,some (rB41 x_h)); let z1:=List.getD x_h.Guests (Int.toNat x_g) default
 unfold F_impl_hasGuest at hh
 refine Fn.start low_impl_hasGuest [0,1] (E:=sp 23 [(0,.agg (B_41 x_h)),(1,ii x_g)]) kr (v:=bb R_) (Hr:=[]) (k:=0) kr (sy [1,2] [0] (sp 23 [(1,ii x_g),(2,pp 0)]) [z2] 1 (Aw.sreg [4] [] (yu 1 [(5,.agg (B_41 x_h))] [z2] 1 ?_)))
 obtain ⟨v1,hv1,hh⟩:=bind_some hh
 refine ys (.call 33 [(.t 5)]) (some 6) (op_call (r:=bb v1) (v:=bb v1) (Hr:=[]) (n':=1) (impl_HostOk_fn hv1) (clz_v (vs:=[.agg (B_41 x_h)]) kr (clz_c (clo_same (clean_agg (cl_B_41 _))) clz_n)) rfl rfl kr ?_)
 refine yu 1 [(6,bb v1),(7,bb v1)] [z2] 1 ?_
 rcases cond_sf hh with ⟨hb,hh⟩ | ⟨hb,hh⟩
 · exact yb 6 hb (yb 7 hb (yt (sp 23 [(4,bb false)]) [] 1 (Aw.ret (gvbs hh))))
 refine yb 6 hb (yb 7 hb (yu 4 [(6,bb true),(7,bb true),(8,ii x_g),(9,bb (decide ((0:Int)≤x_g))),(10,bb (decide ((0:Int)≤x_g))),(11,bb (decide ((0:Int)≤x_g)))] [z2] 1 ?_))
 rcases cond_sf hh with ⟨hb,hh⟩ | ⟨hb,hh⟩
 · exact yb 9 hb (yb 10 hb (yb 11 hb (yt (sp 23 [(4,bb false)]) [] 1 (Aw.ret (gvbs hh)))))
 refine yb 9 hb (yb 10 hb (yb 11 hb (yu 4 [(9,bb true),(10,bb true),(11,bb true),(12,ii x_g),(13,bb (decide (x_g<(3:Int)))),(14,bb (decide (x_g<(3:Int)))),(15,bb (decide (x_g<(3:Int))))] [z2] 1 ?_)))
 rcases cond_sf hh with ⟨hb,hh⟩ | ⟨hb,hh⟩
 · exact yb 13 hb (yb 14 hb (yb 15 hb (yt (sp 23 [(4,bb false)]) [] 1 (Aw.ret (gvbs hh)))))
 refine yb 13 hb (yb 14 hb (yb 15 hb (yu 3 [(13,bb true),(14,bb true),(15,bb true),(16,.ptr 0 [] 1),(17,bo B_55 x_h.Guests),(18,ii x_g)] [z2] 1 ?_)))
 obtain ⟨hg2,hh⟩:=grd_some hh
 refine yg (.iadr 17 (.t 17) (.t 18)) (some 19) 15 true (op_iadr (kd:=.i64) (c:=B_55) (xs:=x_h.Guests) len_B_55 dd kr kr hg2 ?_)
 refine yu 1 [(19,.bptr (fl B_55 x_h.Guests) (Int.toNat x_g*17)),(20,.bptr (fl B_55 x_h.Guests) (Int.toNat x_g*17+0))] [z2] 1 (yg (.load false 1 (.t 20)) (some 21) 15 true (op_loadb (c:=B_55) (xs:=x_h.Guests) (o:=Int.toNat x_g*17+0) (i:=(Int.toNat x_g)) (off:=0) (v:=bb (z1.Live)) len_B_55 kr ltn ltn dd kr ?_))
 exact yt (sp 23 [(4,bb (z1.Live))]) [] 1 (Aw.ret (gvbs hh))
theorem low_spec_l4Live:LW 78 ⟨19,[(.tmp 4)],(.seq (.reg false (rg 78 0)) (.seq (.reg false (rg 78 1)) .ret))⟩:=kr
noncomputable def F_spec_l4Live (x_h:DHost) (x_g:Int):Option Bool :=
 Option.bind (F_spec_HostOk x_h) fun v1 =>
 cond v1
  (Option.bind (F_spec_l1In x_g (0:Int) (2:Int)) fun v2 =>
  cond v2
   (grd ((0:Int)≤x_g∧x_g<((List.length x_h.Guests:Nat):Int)) (some ((List.getD x_h.Guests (Int.toNat x_g) default).Live)))
   (some false))
  (some false)
theorem spec_l4Live_fn {x_h:DHost} {x_g:Int} {R_:Bool} (hh:F_spec_l4Live x_h x_g=some R_):Fn Try.prog 78 [.agg (B_41 x_h),.int .i64 x_g] (.bool R_):=by
 let z2:EH:=(0,some (rB41 x_h)); let z1:=List.getD x_h.Guests (Int.toNat x_g) default
 unfold F_spec_l4Live at hh
 refine Fn.start low_spec_l4Live [0,1] (E:=sp 19 [(0,.agg (B_41 x_h)),(1,ii x_g)]) kr (v:=bb R_) (Hr:=[]) (k:=0) kr (sy [1,2] [0] (sp 19 [(1,ii x_g),(2,pp 0)]) [z2] 1 (Aw.sreg [4] [] (yu 1 [(5,.agg (B_41 x_h))] [z2] 1 ?_)))
 obtain ⟨v1,hv1,hh⟩:=bind_some hh
 refine ys (.call 132 [(.t 5)]) (some 6) (op_call (r:=bb v1) (v:=bb v1) (Hr:=[]) (n':=1) (spec_HostOk_fn hv1) (clz_v (vs:=[.agg (B_41 x_h)]) kr (clz_c (clo_same (clean_agg (cl_B_41 _))) clz_n)) rfl rfl kr ?_)
 refine yu 1 [(6,bb v1),(7,bb v1)] [z2] 1 ?_
 rcases cond_sf hh with ⟨hb,hh⟩ | ⟨hb,hh⟩
 · exact yb 6 hb (yb 7 hb (yt (sp 19 [(4,bb false)]) [] 1 (Aw.ret (gvbs hh))))
 refine yb 6 hb (yb 7 hb (yu 1 [(6,bb true),(7,bb true),(8,ii x_g)] [z2] 1 ?_))
 obtain ⟨v2,hv2,hh⟩:=bind_some hh
 refine yg (.call 73 [(.t 8),(.c (ii 0)),(.c (ii 2))]) (some 9) 7 true (oc (spec_l1In_fn hv2) ?_)
 refine yu 2 [(9,bb v2),(10,bb v2),(11,bb v2)] [z2] 1 ?_
 rcases cond_sf hh with ⟨hb,hh⟩ | ⟨hb,hh⟩
 · exact yb 9 hb (yb 10 hb (yb 11 hb (yt (sp 19 [(4,bb false)]) [] 1 (Aw.ret (gvbs hh)))))
 refine yb 9 hb (yb 10 hb (yb 11 hb (yu 3 [(9,bb true),(10,bb true),(11,bb true),(12,.ptr 0 [] 1),(13,bo B_55 x_h.Guests),(14,ii x_g)] [z2] 1 ?_)))
 obtain ⟨hg2,hh⟩:=grd_some hh
 refine yg (.iadr 17 (.t 13) (.t 14)) (some 15) 11 true (op_iadr (kd:=.i64) (c:=B_55) (xs:=x_h.Guests) len_B_55 dd kr kr hg2 ?_)
 refine yu 1 [(15,.bptr (fl B_55 x_h.Guests) (Int.toNat x_g*17)),(16,.bptr (fl B_55 x_h.Guests) (Int.toNat x_g*17+0))] [z2] 1 (yg (.load false 1 (.t 16)) (some 17) 11 true (op_loadb (c:=B_55) (xs:=x_h.Guests) (o:=Int.toNat x_g*17+0) (i:=(Int.toNat x_g)) (off:=0) (v:=bb (z1.Live)) len_B_55 kr ltn ltn dd kr ?_))
 exact yt (sp 19 [(4,bb (z1.Live))]) [] 1 (Aw.ret (gvbs hh))
end Go.Proofs.Ytbanbjdcgdmkaaa
