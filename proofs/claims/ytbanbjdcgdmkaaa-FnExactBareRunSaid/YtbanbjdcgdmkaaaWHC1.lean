/- Plain functions of the program, and that it hands back what they say. Made by program. -/
import Derived.Test.YtbanbjdcgdmkaaaWT
import Derived.Test.YtbanbjdcgdmkaaaProg
import Derived.Test.YtbanbjdcgdmkaaaWHO1
import Derived.Test.YtbanbjdcgdmkaaaWO1
namespace Go.Proofs.Ytbanbjdcgdmkaaa
open Go.RowKit
set_option maxRecDepth 100000
set_option linter.all false
set_option maxHeartbeats 0
theorem low_impl_copied:LW 123 ⟨11,[(.tmp 2)],(.seq (.reg false (rg 123 0)) (.seq (.reg false (rg 123 1)) (.seq (.reg false (rg 123 2)) (.seq (.reg false (rg 123 3)) .ret))))⟩:=kr
noncomputable def F_impl_copied (x_list:List Int):Option (List Int) :=
 grd ((0:Int)≤(((List.length x_list):Nat):Int)∧(((List.length x_list):Nat):Int)*8≤2 ^ 47∧(((List.length x_list):Nat):Int)≤2 ^ 47) (some (over (List.replicate (Int.toNat (((List.length x_list):Nat):Int)) (0:Int)) 0 (List.length (List.replicate (Int.toNat (((List.length x_list):Nat):Int)) (0:Int))) x_list))
theorem impl_copied_fn {x_list:List Int} {R_:(List Int)} (hh:F_impl_copied x_list=some R_):Fn Try.prog 123 [bo (eI .i64) x_list] (.own 3 1 (List.length R_) (fl (eI .i64) R_)):=by
 let z1:=(0,bo (eI .i64) x_list); let z2:EV:=(3,.sref 0 [] 0 (List.length (List.replicate (Int.toNat (((List.length x_list):Nat):Int)) (0:Int))) 1)
 unfold F_impl_copied at hh
 refine Fn.start low_impl_copied [0] (E:=sp 11 [z1]) kr (v:=sw 0 R_) (Hr:=[(0,some (rI_3 R_))]) (k:=1) kr (sy [0] [] (sp 11 [z1]) [] 0 (Aw.sreg [0,3] [0] (yu 2 [(4,bo (eI .i64) x_list),(5,ii (((List.length x_list):Nat):Int))] [] 0 ?_)))
 obtain ⟨hg2,hh⟩:=grd_some hh
 refine ys (.mk 3 1 8 [(ii 0)] (.t 5)) (some 6) (op_mk (c:=(eI .i64)) (d:=(0:Int)) (k:=(((List.length x_list):Nat):Int)) kr hg2 kr ?_)
 let q1:Root:=(rI_3 (List.replicate (Int.toNat (((List.length x_list):Nat):Int)) (0:Int)))
 refine yt (sp 11 [z1,z2]) [(0,some q1)] 1 (Aw.sreg [3] [0] (yu 2 [(7,.sref 0 [] 0 (List.length (List.replicate (Int.toNat (((List.length x_list):Nat):Int)) (0:Int))) 1),(8,bo (eI .i64) x_list)] [(0,some q1)] 1 ?_))
 let q2:Root:=(rI_3 (over (List.replicate (Int.toNat (((List.length x_list):Nat):Int)) (0:Int)) 0 (List.length (List.replicate (Int.toNat (((List.length x_list):Nat):Int)) (0:Int))) x_list))
 refine ys (.cpy 1 (.t 7) (.t 8)) (some 9) (op_cpy (c:=(eI .i64)) (xs:=(List.replicate (Int.toNat (((List.length x_list):Nat):Int)) (0:Int))) (ys:=x_list) (e:=3) (r:=0) (π:=[]) (o:=0) (k:=(List.length (List.replicate (Int.toNat (((List.length x_list):Nat):Int)) (0:Int)))) (i:=0) (H':=[(0,some q2),(0,some q1)]) len_eI (rpv kr (rp_bor (c:=(eI .i64)) (xs:=x_list) len_eI)) kr kr ltn ltn kr ?_)
 refine yt (sp 11 [z2]) [(0,some q2)] 1 (sy [2] [0] (sp 11 [(2,.sref 0 [] 0 (List.length (List.replicate (Int.toNat (((List.length x_list):Nat):Int)) (0:Int))) 1)]) [(0,some q2)] 1 (Aw.ret ?_))
 rw [some_some hh]
 exact gives (r':=.sref 0 [] 0 (List.length (List.replicate (Int.toNat (((List.length x_list):Nat):Int)) (0:Int))) 1) kr (Ent.list [some 0] rfl rfl (Nat.zero_le _) (rens_1 ren_sy) (hn nr_eI hs_nil))
theorem low_spec_l3Core:LW 79 ⟨9,[(.cell 2 true 13)],(.seq (.reg false (rg 79 0)) (.seq (.reg false (rg 79 1)) (.seq (.reg false (rg 79 2)) .ret)))⟩:=kr
noncomputable def F_spec_l3Core (x_c:DCore):Option DCore :=
 grd ((List.length ([]:List Int)+List.length x_c.Regs)*8≤2 ^ 47∧List.length ([]:List Int)+List.length x_c.Regs≤2 ^ 47) (some (DCore.mk (([]:List Int) ++ x_c.Regs) x_c.Pc x_c.Root x_c.Vector x_c.Saved x_c.SavedUser x_c.Cause x_c.Bad x_c.Timer x_c.Waits x_c.User x_c.On x_c.Stopped))
theorem spec_l3Core_fn {x_c:DCore} {R_:DCore} (hh:F_spec_l3Core x_c=some R_):Fn Try.prog 79 [.agg (B_25 x_c)] (.agg (.own 3 1 (List.length R_.Regs) (fl (eI .i64) R_.Regs)::ru25 R_ [])):=by
 let z1:EH:=(1,some ⟨25,(.nil::zru25 [])⟩)
 unfold F_spec_l3Core at hh
 refine Fn.start low_spec_l3Core [0] (E:=sp 9 [(0,.agg (B_25 x_c))]) kr (v:=.agg (sw 0 R_.Regs::ru25 R_ [])) (Hr:=[(0,some (rI_3 R_.Regs))]) (k:=1) kr (sy [1,2] [0,1] (sp 9 [(1,pp 0),(2,pp 1)]) [(0,some (rB25 x_c)),z1] 2 (Aw.sreg [1,2] [0,1,3] (yu 3 [(3,.sref 2 [] 0 0 1),(4,pp 0),(5,bo (eI .i64) x_c.Regs)] [(2,some ⟨3,[]⟩),(0,some (rB25 x_c)),z1] 3 ?_)))
 obtain ⟨hg2,hh⟩:=grd_some hh
 refine ys (.app 3 1 8 [(ii 0)] (.t 3) (.t 5)) (some 6) (op_app (c:=(eI .i64)) (xs:=([]:List Int)) (ys:=x_c.Regs) (r:=2) (k:=0) (π:=[]) eqn len_eI (rpv kr (rp_bor (c:=(eI .i64)) (xs:=x_c.Regs) len_eI)) kr kr hg2 ?_)
 let q1:Root:=⟨25,(.sref 3 [] 0 (List.length (([]:List Int) ++ x_c.Regs)) 1::ru25 x_c [])⟩; let q2:Root:=(rI_3 (([]:List Int) ++ x_c.Regs))
 refine yt (sp 9 [(1,pp 0),(2,pp 1)]) [(0,some q1),z1,(3,some q2)] 4 (sy [2] [1,3] (sp 9 [(2,pp 1)]) [(1,some q1),(3,some q2)] 4 (Aw.ret ?_))
 rw [some_some hh]
 exact gives (r':=.agg (.sref 3 [] 0 (List.length (([]:List Int) ++ x_c.Regs)) 1::ru25 x_c [])) kr (Ent.list [some 3] rfl rfl (Nat.zero_le _) (rens_1 (ren_agg rz)) (hn nr_eI hs_nil))
end Go.Proofs.Ytbanbjdcgdmkaaa
