/- Plain functions of the program, and that it hands back what they say. Made by program. -/
import Derived.Test.YtbanbjdcgdmkaaaWT
import Derived.Test.YtbanbjdcgdmkaaaProg
import Derived.Test.YtbanbjdcgdmkaaaWHC1
namespace Go.Proofs.Ytbanbjdcgdmkaaa
open Go.RowKit
set_option maxRecDepth 100000
set_option linter.all false
set_option maxHeartbeats 0
theorem low_impl_copiedBare:LW 54 ⟨22,[(.cell 2 true 16)],(.seq (.reg false (rg 54 0)) (.seq (.reg false (rg 54 1)) (.seq (.reg false (rg 54 2)) (.seq (.reg false (rg 54 3)) (.seq (.reg false (rg 54 4)) (.seq (.reg false (rg 54 5)) .ret))))))⟩:=kr
noncomputable def F_impl_copiedBare (x_b:DBare):Option DBare :=
 Option.bind (F_impl_copied x_b.C.Regs) fun v1 =>
 Option.bind (F_impl_copied x_b.Mem) fun v2 =>
 Option.bind (F_impl_copied x_b.In) fun v3 =>
 Option.bind (F_impl_copied x_b.Out) fun v4 =>
 some (DBare.mk (DCore.mk v1 x_b.C.Pc x_b.C.Root x_b.C.Vector x_b.C.Saved x_b.C.SavedUser x_b.C.Cause x_b.C.Bad x_b.C.Timer x_b.C.Waits x_b.C.User x_b.C.On x_b.C.Stopped) v2 v3 v4)
theorem impl_copiedBare_fn {x_b:DBare} {R_:DBare} (hh:F_impl_copiedBare x_b=some R_):Fn Try.prog 54 [.agg (B_27 x_b)] (.agg (.own 3 1 (List.length R_.C.Regs) (fl (eI .i64) R_.C.Regs)::ru25 R_.C [.own 3 1 (List.length R_.Mem) (fl (eI .i64) R_.Mem),.own 3 1 (List.length R_.In) (fl (eI .i64) R_.In),.own 3 1 (List.length R_.Out) (fl (eI .i64) R_.Out)])):=by
 let z1:=(2,pp 1)
 unfold F_impl_copiedBare at hh
 refine Fn.start low_impl_copiedBare [0] (E:=sp 22 [(0,.agg (B_27 x_b))]) kr (v:=.agg (sw 0 R_.C.Regs::ru25 R_.C [sw 1 R_.Mem,sw 2 R_.In,sw 3 R_.Out])) (Hr:=[(3,some (rI_3 R_.Out)),(2,some (rI_3 R_.In)),(1,some (rI_3 R_.Mem)),(0,some (rI_3 R_.C.Regs))]) (k:=4) kr (Aw.sreg [1,2] [0,1] ?_)
 let q1:Root:=⟨27,(.nil::zru25 [.nil,.nil,.nil])⟩; let z2:=(1,some q1)
 refine yt (sp 22 [(1,pp 0),z1]) [(0,some (rB27 x_b)),z2] 2 (Aw.sreg [1,2] [0,1,2] (yu 3 [(3,pp 0),(4,pp 0),(5,bo (eI .i64) x_b.C.Regs)] [(0,some (rB27 x_b)),z2] 2 ?_))
 obtain ⟨v1,hv1,hh⟩:=bind_some hh
 let z3:EH:=(2,some (rI_3 v1))
 refine ys (.call 123 [(.t 5)]) (some 6) (op_call (r:=.own 3 1 (List.length v1) (fl (eI .i64) v1)) (v:=sw 2 v1) (Hr:=[z3]) (n':=3) (impl_copied_fn hv1) (clz_v (vs:=[bo (eI .i64) x_b.C.Regs]) kr (clz_c (clo_same (clean_bor (cleans_fl cl_eI))) clz_n)) nrr nrr kr ?_)
 let q2:Root:=⟨27,(sw 2 v1::ru25 x_b.C [bo (eI .i64) x_b.Mem,bo (eI .i64) x_b.In,bo (eI .i64) x_b.Out])⟩
 refine yt (sp 22 [(1,pp 0),z1]) [(0,some q2),z2,z3] 3 (Aw.sreg [1,2] [0,1,2,3] (yu 2 [(9,.ptr 0 [] 13),(10,bo (eI .i64) x_b.Mem)] [(0,some q2),z2,z3] 3 ?_))
 obtain ⟨v2,hv2,hh⟩:=bind_some hh
 let z4:EH:=(3,some (rI_3 v2))
 refine ys (.call 123 [(.t 10)]) (some 11) (op_call (r:=.own 3 1 (List.length v2) (fl (eI .i64) v2)) (v:=sw 3 v2) (Hr:=[z4]) (n':=4) (impl_copied_fn hv2) (clz_v (vs:=[bo (eI .i64) x_b.Mem]) kr (clz_c (clo_same (clean_bor (cleans_fl cl_eI))) clz_n)) nrr nrr kr ?_)
 let q3:Root:=⟨27,(sw 2 v1::ru25 x_b.C [sw 3 v2,bo (eI .i64) x_b.In,bo (eI .i64) x_b.Out])⟩
 refine yt (sp 22 [(1,pp 0),z1]) [(0,some q3),z2,z3,z4] 4 (Aw.sreg [1,2] [0,1,2,3,4] (yu 2 [(13,.ptr 0 [] 14),(14,bo (eI .i64) x_b.In)] [(0,some q3),z2,z3,z4] 4 ?_))
 obtain ⟨v3,hv3,hh⟩:=bind_some hh
 let z5:EH:=(4,some (rI_3 v3))
 refine ys (.call 123 [(.t 14)]) (some 15) (op_call (r:=.own 3 1 (List.length v3) (fl (eI .i64) v3)) (v:=sw 4 v3) (Hr:=[z5]) (n':=5) (impl_copied_fn hv3) (clz_v (vs:=[bo (eI .i64) x_b.In]) kr (clz_c (clo_same (clean_bor (cleans_fl cl_eI))) clz_n)) nrr nrr kr ?_)
 let q4:Root:=⟨27,(sw 2 v1::ru25 x_b.C [sw 3 v2,sw 4 v3,bo (eI .i64) x_b.Out])⟩
 refine yt (sp 22 [(1,pp 0),z1]) [(0,some q4),z2,z3,z4,z5] 5 (Aw.sreg [1,2] [0,1,2,3,4,5] (yu 2 [(17,.ptr 0 [] 15),(18,bo (eI .i64) x_b.Out)] [(0,some q4),z2,z3,z4,z5] 5 ?_))
 obtain ⟨v4,hv4,hh⟩:=bind_some hh
 let z6:EH:=(5,some (rI_3 v4))
 refine ys (.call 123 [(.t 18)]) (some 19) (op_call (r:=.own 3 1 (List.length v4) (fl (eI .i64) v4)) (v:=sw 5 v4) (Hr:=[z6]) (n':=6) (impl_copied_fn hv4) (clz_v (vs:=[bo (eI .i64) x_b.Out]) kr (clz_c (clo_same (clean_bor (cleans_fl cl_eI))) clz_n)) nrr nrr kr ?_)
 let q5:Root:=⟨27,(sw 2 v1::ru25 x_b.C [sw 3 v2,sw 4 v3,sw 5 v4])⟩
 refine yt (sp 22 [(1,pp 0),z1]) [(0,some q5),z2,z3,z4,z5,z6] 6 (sy [2] [1,2,3,4,5] (sp 22 [z1]) [(1,some q5),z3,z4,z5,z6] 6 (Aw.ret ?_))
 rw [some_some hh]
 exact gives (r':=.agg (sw 2 v1::ru25 x_b.C [sw 3 v2,sw 4 v3,sw 5 v4])) kr (Ent.list [some 2,some 3,some 4,some 5] rfl rfl (Nat.zero_le _) (rens_1 (ren_agg rz)) (hn nr_eI (hn nr_eI (hn nr_eI (hn nr_eI hs_nil)))))
end Go.Proofs.Ytbanbjdcgdmkaaa
