/- Plain functions of the program, and that it hands back what they say. Made by program. -/
import Derived.Test.YtbanbjdcgdmkaaaWT
import Derived.Test.YtbanbjdcgdmkaaaProg
import Derived.Test.YtbanbjdcgdmkaaaWHC1
import Derived.Test.YtbanbjdcgdmkaaaWHD1
import Derived.Test.YtbanbjdcgdmkaaaWHF1
import Derived.Test.YtbanbjdcgdmkaaaWHV1
import Derived.Test.YtbanbjdcgdmkaaaWO1
import Derived.Test.YtbanbjdcgdmkaaaWSO1
namespace Go.Proofs.Ytbanbjdcgdmkaaa
open Go.RowKit
set_option maxRecDepth 100000
set_option linter.all false
set_option maxHeartbeats 0
theorem low_impl_copiedHost:LW 84 ⟨10,[(.cell 2 true 2)],(.seq (.reg false (rg 84 0)) (.seq (.regd (rg 84 1) (rg 84 2)) .ret))⟩:=kr
noncomputable def F_impl_copiedHost (x_h:DHost):Option DHost :=
 Option.bind (F_impl_copied x_h.Words) fun v1 =>
 Option.bind (F_impl_copiedGuests x_h.Guests) fun v2 =>
 some (DHost.mk v1 v2)
theorem impl_copiedHost_fn {x_h:DHost} {R_:DHost} (hh:F_impl_copiedHost x_h=some R_):Fn Try.prog 84 [.agg (B_41 x_h)] (.agg [.own 3 1 (List.length R_.Words) (fl (eI .i64) R_.Words),.own 55 17 (List.length R_.Guests) (fl O_55 R_.Guests)]):=by
 let z1:EH:=(0,some (rB41 x_h)); let z2:EH:=(1,some ⟨41,[.nil,.nil]⟩)
 unfold F_impl_copiedHost at hh
 refine Fn.start low_impl_copiedHost [0] (E:=sp 10 [(0,.agg (B_41 x_h))]) kr (v:=.agg [sw 0 R_.Words,.sref 1 [] 0 (List.length R_.Guests) 17]) (Hr:=[(1,some (rO55 R_.Guests)),(0,some (rI_3 R_.Words))]) (k:=2) kr (sy [1,2] [0,1] (sp 10 [(1,pp 0),(2,pp 1)]) [z1,z2] 2 (Aw.sregd [2] [1,2,3] [] kr (dj 2 (sp 10 [(1,pp 0),(2,pp 1),(3,pp 0),(4,bo (eI .i64) x_h.Words)]) [z1,z2] 2 ?_)))
 obtain ⟨v1,hv1,hh⟩:=bind_some hh
 let z3:EH:=(2,some (rI_3 v1))
 refine ds (.call 123 [(.t 4)]) (some 5) (ydo_n rfl (op_call (r:=.own 3 1 (List.length v1) (fl (eI .i64) v1)) (v:=sw 2 v1) (Hr:=[z3]) (n':=3) (impl_copied_fn hv1) (clz_v (vs:=[bo (eI .i64) x_h.Words]) kr (clz_c (clo_same (clean_bor (cleans_fl cl_eI))) clz_n)) nrr nrr kr ⟨⟨agr_name (n:=2) (n0:=2) (r:=.own 3 1 (List.length v1) (fl (eI .i64) v1)) (v:=sw 2 v1) (Hr:=[z3]) (n':=3) kr dd,Hld.un ?_⟩⟩))
 refine dt (sp 10 [(1,pp 0),(2,pp 1),(3,pp 0),(4,bo (eI .i64) x_h.Words),(5,sw 2 v1),(6,.ptr 0 [] 1),(7,bo B_55 x_h.Guests)]) [z3,z1,z2] 3 ?_
 obtain ⟨v2,hv2,hh⟩:=bind_some hh
 refine ys (.call 138 [(.t 7)]) (some 8) (op_call (r:=.own 55 17 (List.length v2) (fl O_55 v2)) (v:=.sref 3 [] 0 (List.length v2) 17) (Hr:=[(3,some (rO55 v2))]) (n':=4) (impl_copiedGuests_fn hv2) (clz_v (vs:=[bo B_55 x_h.Guests]) kr (clz_c (clo_same (clean_bor (cleans_fl cl_B_55))) clz_n)) nrr nrr kr ?_)
 refine yt (sp 10 [(2,pp 1)]) [(1,some ⟨41,[sw 2 v1,.sref 3 [] 0 (List.length v2) 17]⟩),z3,(3,some (rO55 v2))] 4 (Aw.ret ?_)
 rw [some_some hh]
 exact gives (r':=.agg [sw 2 v1,.sref 3 [] 0 (List.length v2) 17]) kr (Ent.list [some 2,some 3] rfl rfl (Nat.zero_le _) (rens_1 (ren_agg rz)) (hn nr_O_55 (hn nr_eI hs_nil)))
end Go.Proofs.Ytbanbjdcgdmkaaa
