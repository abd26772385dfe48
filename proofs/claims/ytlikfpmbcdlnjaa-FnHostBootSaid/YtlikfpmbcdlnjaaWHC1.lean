/- Plain functions of the program, and that it hands back what they say. Made by program. -/
import Derived.Test.YtlikfpmbcdlnjaaWT
import Derived.Test.YtlikfpmbcdlnjaaProg
import Derived.Test.YtlikfpmbcdlnjaaWHO1
import Derived.Test.YtlikfpmbcdlnjaaWO1
namespace Go.Proofs.Ytlikfpmbcdlnjaa
open Go.RowKit
set_option maxRecDepth 100000
set_option linter.all false
set_option maxHeartbeats 0
def Lf124_r0:List LOper:=[oo 2 (.mv (.c .nil))]
def Lf124_r1:List LOper:=[om 4 0,oH 5 4,oo 6 (.mk 3 1 8 [(ii 0)] (.t 5)),om 3 6]
def Lf124_r2:List LOper:=[om 7 3,om 8 0,oo 9 (.cpy 1 (.t 7) (.t 8))]
def Lf124_r3:List LOper:=[om 10 3,om 2 10]
def Lf124:LFun:=⟨11,[(.tmp 2)],(.seq (.reg false Lf124_r0) (.seq (.reg false Lf124_r1) (.seq (.reg false Lf124_r2) (.seq (.reg false Lf124_r3) .ret))))⟩
theorem low_impl_copied:lowFun Go.Proofs.Try.prog 124=some Lf124:=by kernel_rfl
noncomputable def F_impl_copied (x_list:List Int):Option (List Int) :=
 grd ((0:Int)≤(((List.length x_list):Nat):Int)∧(((List.length x_list):Nat):Int)*8≤2 ^ 47∧(((List.length x_list):Nat):Int)≤2 ^ 47) (some (over (List.replicate (Int.toNat (((List.length x_list):Nat):Int)) (0:Int)) 0 (List.length (List.replicate (Int.toNat (((List.length x_list):Nat):Int)) (0:Int))) x_list))
theorem impl_copied_fn {x_list:List Int} {R_:(List Int)} (hh:F_impl_copied x_list=some R_):Fn Try.prog 124 [bo (eI .i64) x_list] (.own 3 1 (List.length R_) (fl (eI .i64) R_)):=by
 let z1:=(0,bo (eI .i64) x_list); let z2:EV:=(3,.sref 0 [] 0 (List.length (List.replicate (Int.toNat (((List.length x_list):Nat):Int)) (0:Int))) 1)
 unfold F_impl_copied at hh
 refine Fn.start low_impl_copied [0] (E:=sp 11 [z1]) kr (v:=sw 0 R_) (Hr:=[(0,some ⟨3,(fl (eI .i64) R_)⟩)]) (k:=1) kr (sy [0] [] (sp 11 [z1]) [] 0 (Aw.sreg [0,3] [0] (yu 2 [(4,bo (eI .i64) x_list),(5,ii (((List.length x_list):Nat):Int))] [] 0 ?_)))
 obtain ⟨hg2,hh⟩:=grd_some hh
 refine ys (.mk 3 1 8 [(ii 0)] (.t 5)) (some 6) (op_mk (c:=(eI .i64)) (d:=(0:Int)) (k:=(((List.length x_list):Nat):Int)) kr hg2 kr ?_)
 let q1:Root:=⟨3,(fl (eI .i64) (List.replicate (Int.toNat (((List.length x_list):Nat):Int)) (0:Int)))⟩
 refine yt (sp 11 [z1,z2]) [(0,some q1)] 1 (Aw.sreg [3] [0] (yu 2 [(7,.sref 0 [] 0 (List.length (List.replicate (Int.toNat (((List.length x_list):Nat):Int)) (0:Int))) 1),(8,bo (eI .i64) x_list)] [(0,some q1)] 1 ?_))
 let q2:Root:=⟨3,(fl (eI .i64) (over (List.replicate (Int.toNat (((List.length x_list):Nat):Int)) (0:Int)) 0 (List.length (List.replicate (Int.toNat (((List.length x_list):Nat):Int)) (0:Int))) x_list))⟩
 refine ys (.cpy 1 (.t 7) (.t 8)) (some 9) (op_cpy (c:=(eI .i64)) (xs:=(List.replicate (Int.toNat (((List.length x_list):Nat):Int)) (0:Int))) (ys:=x_list) (e:=3) (r:=0) (π:=[]) (o:=0) (k:=(List.length (List.replicate (Int.toNat (((List.length x_list):Nat):Int)) (0:Int)))) (i:=0) (H':=[(0,some q2),(0,some q1)]) len_eI (rpv kr (rp_bor (c:=(eI .i64)) (xs:=x_list) len_eI)) kr kr ltn ltn kr ?_)
 refine yt (sp 11 [z2]) [(0,some q2)] 1 (sy [2] [0] (sp 11 [(2,.sref 0 [] 0 (List.length (List.replicate (Int.toNat (((List.length x_list):Nat):Int)) (0:Int))) 1)]) [(0,some q2)] 1 (Aw.ret ?_))
 rw [some_some hh]
 exact gives (r':=.sref 0 [] 0 (List.length (List.replicate (Int.toNat (((List.length x_list):Nat):Int)) (0:Int))) 1) kr (Ent.list [some 0] rfl rfl (Nat.zero_le _) (rens_1 ren_sy) (hn nr_eI hs_nil))
def Lf77_r0:List LOper:=[oX 1 28 0,oo 2 (.fresh 28 zc0)]
def Lf77_r1:List LOper:=[oo 3 (.bsl 3 1 0 [(ii 0)] []),oA 4 0 1,ol 5 4,oo 6 (.app 3 1 8 [(ii 0)] (.t 3) (.t 5)),oA 7 0 1,oS 1 7 6]
def Lf77_r2:List LOper:=[oL 8 13 1,oS 13 2 8]
def Lf77:LFun:=⟨9,[(.cell 2 true 13)],(.seq (.reg false Lf77_r0) (.seq (.reg false Lf77_r1) (.seq (.reg false Lf77_r2) .ret)))⟩
theorem low_spec_l3Core:lowFun Go.Proofs.Try.prog 77=some Lf77:=by kernel_rfl
noncomputable def F_spec_l3Core (x_c:DCore):Option DCore :=
 grd ((List.length ([]:List Int)+List.length x_c.Regs)*8≤2 ^ 47∧List.length ([]:List Int)+List.length x_c.Regs≤2 ^ 47) (some (DCore.mk (([]:List Int) ++ x_c.Regs) x_c.Pc x_c.Root x_c.Vector x_c.Saved x_c.SavedUser x_c.Cause x_c.Bad x_c.Timer x_c.Waits x_c.User x_c.On x_c.Stopped))
theorem spec_l3Core_fn {x_c:DCore} {R_:DCore} (hh:F_spec_l3Core x_c=some R_):Fn Try.prog 77 [.agg (B_28 x_c)] (.agg (.own 3 1 (List.length R_.Regs) (fl (eI .i64) R_.Regs)::ru28 R_ [])):=by
 let z1:EH:=(1,some ⟨28,(.nil::zru28 [])⟩)
 unfold F_spec_l3Core at hh
 refine Fn.start low_spec_l3Core [0] (E:=sp 9 [(0,.agg (B_28 x_c))]) kr (v:=.agg (sw 0 R_.Regs::ru28 R_ [])) (Hr:=[(0,some ⟨3,(fl (eI .i64) R_.Regs)⟩)]) (k:=1) kr (sy [1,2] [0,1] (sp 9 [(1,pp 0),(2,pp 1)]) [(0,some ⟨28,(B_28 x_c)⟩),z1] 2 (Aw.sreg [1,2] [0,1,3] (yu 3 [(3,.sref 2 [] 0 0 1),(4,pp 0),(5,bo (eI .i64) x_c.Regs)] [(2,some ⟨3,[]⟩),(0,some ⟨28,(B_28 x_c)⟩),z1] 3 ?_)))
 obtain ⟨hg2,hh⟩:=grd_some hh
 refine ys (.app 3 1 8 [(ii 0)] (.t 3) (.t 5)) (some 6) (op_app (c:=(eI .i64)) (xs:=([]:List Int)) (ys:=x_c.Regs) (r:=2) (k:=0) (π:=[]) eqn len_eI (rpv kr (rp_bor (c:=(eI .i64)) (xs:=x_c.Regs) len_eI)) kr kr hg2 ?_)
 let q1:Root:=⟨28,(.sref 3 [] 0 (List.length (([]:List Int) ++ x_c.Regs)) 1::ru28 x_c [])⟩; let q2:Root:=⟨3,(fl (eI .i64) (([]:List Int) ++ x_c.Regs))⟩
 refine yt (sp 9 [(1,pp 0),(2,pp 1)]) [(0,some q1),z1,(3,some q2)] 4 (sy [2] [1,3] (sp 9 [(2,pp 1)]) [(1,some q1),(3,some q2)] 4 (Aw.ret ?_))
 rw [some_some hh]
 exact gives (r':=.agg (.sref 3 [] 0 (List.length (([]:List Int) ++ x_c.Regs)) 1::ru28 x_c [])) kr (Ent.list [some 3] rfl rfl (Nat.zero_le _) (rens_1 (ren_agg rz)) (hn nr_eI hs_nil))
def Lf80_r0:List LOper:=[oX 2 26 0,oF 4]
def Lf80_r1:List LOper:=[oL 5 2 2,oK 6 23 [5],om 7 6,og 8 (.mv (.t 1)) 7 true,og 9 (.bin .leq (.c (ii 0)) (.t 8)) 7 true,oP 10 7 9,om 11 10,og 12 (.mv (.t 1)) 11 true,og 13 (.bin .lss (.t 12) (.c (ii 3))) 11 true,oP 14 11 13,om 15 14,og 16 (.fadr 1 (.t 2)) 15 true,og 17 (.load false 1 (.t 16)) 15 true,og 18 (.mv (.t 1)) 15 true,og 19 (.iadr 17 (.t 17) (.t 18)) 15 true,og 20 (.fadr 0 (.t 19)) 15 true,og 21 (.load false 1 (.t 20)) 15 true,oP 22 15 21,om 4 22]
def Lf80:LFun:=⟨23,[(.tmp 4)],(.seq (.reg false Lf80_r0) (.seq (.reg false Lf80_r1) .ret))⟩
theorem low_impl_hasGuest:lowFun Go.Proofs.Try.prog 80=some Lf80:=by kernel_rfl
noncomputable def F_impl_hasGuest (x_h:DHost) (x_g:Int):Option Bool :=
 Option.bind (F_impl_HostOk x_h) fun v1 =>
 cond v1
  (cond (decide ((0:Int)≤x_g))
   (cond (decide (x_g<(3:Int)))
    (grd ((0:Int)≤x_g∧x_g<((List.length x_h.Guests:Nat):Int)) (some ((List.getD x_h.Guests (Int.toNat x_g) default).Live)))
    (some false))
   (some false))
  (some false)
theorem impl_hasGuest_fn {x_h:DHost} {x_g:Int} {R_:Bool} (hh:F_impl_hasGuest x_h x_g=some R_):Fn Try.prog 80 [.agg (B_26 x_h),.int .i64 x_g] (.bool R_):=by
 let z2:EH:=(0,some ⟨26,(B_26 x_h)⟩); let z1:=List.getD x_h.Guests (Int.toNat x_g) default
 unfold F_impl_hasGuest at hh
 refine Fn.start low_impl_hasGuest [0,1] (E:=sp 23 [(0,.agg (B_26 x_h)),(1,ii x_g)]) kr (v:=bb R_) (Hr:=[]) (k:=0) kr (sy [1,2] [0] (sp 23 [(1,ii x_g),(2,pp 0)]) [z2] 1 (Aw.sreg [4] [] (yu 1 [(5,.agg (B_26 x_h))] [z2] 1 ?_)))
 obtain ⟨v1,hv1,hh⟩:=bind_some hh
 refine ys (.call 23 [(.t 5)]) (some 6) (op_call (r:=bb v1) (v:=bb v1) (Hr:=[]) (n':=1) (impl_HostOk_fn hv1) (clz_v (vs:=[.agg (B_26 x_h)]) kr (clz_c (clo_same (clean_agg (cl_B_26 _))) clz_n)) rfl rfl kr ?_)
 refine yu 1 [(6,bb v1),(7,bb v1)] [z2] 1 ?_
 rcases cond_sf hh with ⟨hb,hh⟩ | ⟨hb,hh⟩
 · exact yb 6 hb (yb 7 hb (yt (sp 23 [(4,bb false)]) [] 1 (Aw.ret (gvbs hh))))
 refine yb 6 hb (yb 7 hb (yu 4 [(6,bb true),(7,bb true),(8,ii x_g),(9,bb (decide ((0:Int)≤x_g))),(10,bb (decide ((0:Int)≤x_g))),(11,bb (decide ((0:Int)≤x_g)))] [z2] 1 ?_))
 rcases cond_sf hh with ⟨hb,hh⟩ | ⟨hb,hh⟩
 · exact yb 9 hb (yb 10 hb (yb 11 hb (yt (sp 23 [(4,bb false)]) [] 1 (Aw.ret (gvbs hh)))))
 refine yb 9 hb (yb 10 hb (yb 11 hb (yu 4 [(9,bb true),(10,bb true),(11,bb true),(12,ii x_g),(13,bb (decide (x_g<(3:Int)))),(14,bb (decide (x_g<(3:Int)))),(15,bb (decide (x_g<(3:Int))))] [z2] 1 ?_)))
 rcases cond_sf hh with ⟨hb,hh⟩ | ⟨hb,hh⟩
 · exact yb 13 hb (yb 14 hb (yb 15 hb (yt (sp 23 [(4,bb false)]) [] 1 (Aw.ret (gvbs hh)))))
 refine yb 13 hb (yb 14 hb (yb 15 hb (yu 3 [(13,bb true),(14,bb true),(15,bb true),(16,.ptr 0 [] 1),(17,bo B_53 x_h.Guests),(18,ii x_g)] [z2] 1 ?_)))
 obtain ⟨hg2,hh⟩:=grd_some hh
 refine yg (.iadr 17 (.t 17) (.t 18)) (some 19) 15 true (op_iadr (kd:=.i64) (c:=B_53) (xs:=x_h.Guests) len_B_53 dd kr kr hg2 ?_)
 refine yu 1 [(19,.bptr (fl B_53 x_h.Guests) (Int.toNat x_g*17)),(20,.bptr (fl B_53 x_h.Guests) (Int.toNat x_g*17+0))] [z2] 1 (yg (.load false 1 (.t 20)) (some 21) 15 true (op_loadb (c:=B_53) (xs:=x_h.Guests) (o:=Int.toNat x_g*17+0) (i:=(Int.toNat x_g)) (off:=0) (v:=bb (z1.Live)) len_B_53 kr ltn ltn dd kr ?_))
 exact yt (sp 23 [(4,bb (z1.Live))]) [] 1 (Aw.ret (gvbs hh))
end Go.Proofs.Ytlikfpmbcdlnjaa
