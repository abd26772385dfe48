/- Plain functions of the program, and that it hands back what they say. Made by program. -/
import Derived.Test.YtbanbjdcgdmkaaaWT
import Derived.Test.YtbanbjdcgdmkaaaProg
import Derived.Test.YtbanbjdcgdmkaaaWO1
namespace Go.Proofs.Ytbanbjdcgdmkaaa
open Go.RowKit
set_option maxRecDepth 100000
set_option linter.all false
set_option maxHeartbeats 0
theorem low_spec_InsOk:LW 122 ⟨16,[(.tmp 2)],(.seq (.reg false (rg 122 0)) (.seq (.reg false (rg 122 1)) .ret))⟩:=kr
noncomputable def F_spec_InsOk (x_i:DIns):Option Bool :=
 Option.bind (F_spec_l1In x_i.Op (0:Int) (15:Int)) fun v1 =>
 cond v1
  (Option.bind (F_spec_l1In x_i.A (0:Int) (3:Int)) fun v2 =>
  cond v2
   (Option.bind (F_spec_l1In x_i.N (0:Int) (63:Int)) fun v3 =>
   some v3)
   (some false))
  (some false)
theorem spec_InsOk_fn {x_i:DIns} {R_:Bool} (hh:F_spec_InsOk x_i=some R_):Fn Try.prog 122 [.agg (C_45 x_i)] (.bool R_):=by
 let z1:EH:=(0,some ⟨45,(C_45 x_i)⟩)
 unfold F_spec_InsOk at hh
 refine Fn.start low_spec_InsOk [0] (E:=sp 16 [(0,.agg (C_45 x_i))]) kr (v:=bb R_) (Hr:=[]) (k:=0) kr (sy [1] [0] (sp 16 [(1,pp 0)]) [z1] 1 (Aw.sreg [2] [] (yu 2 [(3,pp 0),(4,ii x_i.Op)] [z1] 1 ?_)))
 obtain ⟨v1,hv1,hh⟩:=bind_some hh
 refine ys (.call 73 [(.t 4),(.c (ii 0)),(.c (ii 15))]) (some 5) (oc (spec_l1In_fn hv1) ?_)
 refine yu 1 [(5,bb v1),(6,bb v1)] [z1] 1 ?_
 rcases cond_sf hh with ⟨hb,hh⟩ | ⟨hb,hh⟩
 · exact yb 5 hb (yb 6 hb (yt (sp 16 [(2,bb false)]) [] 1 (Aw.ret (gvbs hh))))
 refine yb 5 hb (yb 6 hb (yu 2 [(5,bb true),(6,bb true),(7,.ptr 0 [] 1),(8,ii x_i.A)] [z1] 1 ?_))
 obtain ⟨v2,hv2,hh⟩:=bind_some hh
 refine yg (.call 73 [(.t 8),(.c (ii 0)),(.c (ii 3))]) (some 9) 6 true (oc (spec_l1In_fn hv2) ?_)
 refine yu 2 [(9,bb v2),(10,bb v2),(11,bb v2)] [z1] 1 ?_
 rcases cond_sf hh with ⟨hb,hh⟩ | ⟨hb,hh⟩
 · exact yb 9 hb (yb 10 hb (yb 11 hb (yt (sp 16 [(2,bb false)]) [] 1 (Aw.ret (gvbs hh)))))
 refine yb 9 hb (yb 10 hb (yb 11 hb (yu 2 [(9,bb true),(10,bb true),(11,bb true),(12,.ptr 0 [] 2),(13,ii x_i.N)] [z1] 1 ?_)))
 obtain ⟨v3,hv3,hh⟩:=bind_some hh
 refine yg (.call 73 [(.t 13),(.c (ii 0)),(.c (ii 63))]) (some 14) 11 true (oc (spec_l1In_fn hv3) ?_)
 exact yt (sp 16 [(2,bb v3)]) [] 1 (Aw.ret (gvbs hh))
end Go.Proofs.Ytbanbjdcgdmkaaa
