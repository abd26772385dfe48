/- Plain functions of the program, and that it hands back what they say. Made by program. -/
import Derived.Test.YtbanbjdcgdmkaaaWT
import Derived.Test.YtbanbjdcgdmkaaaProg
namespace Go.Proofs.Ytbanbjdcgdmkaaa
open Go.RowKit
set_option maxRecDepth 100000
set_option linter.all false
set_option maxHeartbeats 0
theorem low_laws_toIns:LW 44 ⟨14,[(.cell 2 true 3)],(.seq (.reg false (rg 44 0)) (.seq (.reg false (rg 44 1)) (.seq (.reg false (rg 44 2)) (.seq (.reg false (rg 44 3)) (.seq (.reg false (rg 44 4)) (.seq (.reg false (rg 44 5)) .ret))))))⟩:=kr
noncomputable def F_laws_toIns (x_a:DIns):Option DIns :=
 some x_a
theorem laws_toIns_fn {x_a:DIns} {R_:DIns} (hh:F_laws_toIns x_a=some R_):Fn Try.prog 44 [.agg (C_45 x_a)] (.agg [.int .i64 R_.Op,.int .i64 R_.A,.int .i64 R_.N]):=by
 let z1:EH:=(0,some ⟨80,(C_45 x_a)⟩); let z2:=(2,pp 1)
 unfold F_laws_toIns at hh
 refine Fn.start low_laws_toIns [0] (E:=sp 14 [(0,.agg (C_45 x_a))]) kr (v:=.agg [ii R_.Op,ii R_.A,ii R_.N]) (Hr:=[]) (k:=0) kr (Aw.sreg [1,2] [0,1] ?_)
 let q1:Root:=⟨45,[ii 0,ii 0,ii 0]⟩; let z3:=(1,some q1)
 refine yt (sp 14 [(1,pp 0),z2]) [z1,z3] 2 (sy [1,2,3] [0,1,2] (sp 14 [(1,pp 0),z2,(3,pp 2)]) [z1,z3,(2,some q1)] 3 (sy [1,2,3] [0,1,2] (sp 14 [(1,pp 0),z2,(3,pp 2)]) [z1,z3,(2,some ⟨45,[ii x_a.Op,ii 0,ii 0]⟩)] 3 (sy [1,2,3] [0,1,2] (sp 14 [(1,pp 0),z2,(3,pp 2)]) [z1,z3,(2,some ⟨45,[ii x_a.Op,ii x_a.A,ii 0]⟩)] 3 (sy [2,3] [1,2] (sp 14 [z2,(3,pp 2)]) [z3,(2,some ⟨45,(C_45 x_a)⟩)] 3 (sy [2] [1] (sp 14 [z2]) [(1,some ⟨45,(C_45 x_a)⟩)] 3 (Aw.ret ?_))))))
 rw [some_some hh]
 exact gives (r':=.agg (C_45 x_a)) kr (Ent.list [] rfl rfl (Nat.zero_le _) (rens_1 (ren_agg rz)) hs_nil)
end Go.Proofs.Ytbanbjdcgdmkaaa
