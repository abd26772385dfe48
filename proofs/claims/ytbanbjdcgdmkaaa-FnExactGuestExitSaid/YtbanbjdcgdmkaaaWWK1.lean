/- Plain functions of the program, and that it hands back what they say. Made by program. -/
import Derived.Test.YtbanbjdcgdmkaaaWT
import Derived.Test.YtbanbjdcgdmkaaaProg
import Derived.Test.YtbanbjdcgdmkaaaWO1
import Derived.Test.YtbanbjdcgdmkaaaWSO1
namespace Go.Proofs.Ytbanbjdcgdmkaaa
open Go.RowKit
set_option maxRecDepth 100000
set_option linter.all false
set_option maxHeartbeats 0
theorem low_impl_entryLets:LW 72 ⟨25,[(.tmp 6)],(.seq (.reg false (rg 72 0)) (.seq (.reg false (rg 72 1)) .ret))⟩:=kr
noncomputable def F_impl_entryLets (x_e:DEntry) (x_user:Bool) (x_write:Bool):Option Bool :=
 cond x_e.There
  (cond x_e.Write
   (cond x_e.User
    (some true)
    (some (!x_user)))
   (cond (!x_write)
    (cond x_e.User
     (some true)
     (some (!x_user)))
    (some false)))
  (some false)
theorem impl_entryLets_fn {x_e:DEntry} {x_user:Bool} {x_write:Bool} {R_:Bool} (hh:F_impl_entryLets x_e x_user x_write=some R_):Fn Try.prog 72 [.agg (C_102 x_e),.bool x_user,.bool x_write] (.bool R_):=by
 let z1:EH:=(0,some ⟨102,(C_102 x_e)⟩)
 unfold F_impl_entryLets at hh
 refine Fn.start low_impl_entryLets [0,1,2] (E:=sp 25 [(0,.agg (C_102 x_e)),(1,bb x_user),(2,bb x_write)]) kr (v:=bb R_) (Hr:=[]) (k:=0) kr (sy [1,2,3] [0] (sp 25 [(1,bb x_user),(2,bb x_write),(3,pp 0)]) [z1] 1 (Aw.sreg [6] [] (yu 3 [(7,pp 0),(8,bb x_e.There),(9,bb x_e.There)] [z1] 1 ?_)))
 rcases cond_sf hh with ⟨hb,hh⟩ | ⟨hb,hh⟩
 · exact yb 8 hb (yb 9 hb (yt (sp 25 [(6,bb false)]) [] 1 (Aw.ret (gvbs hh))))
 refine yb 8 hb (yb 9 hb (yu 3 [(8,bb true),(9,bb true),(10,.ptr 0 [] 1),(11,bb x_e.Write),(12,bb x_e.Write)] [z1] 1 ?_))
 rcases cond_some hh with ⟨hb,hh⟩ | ⟨hb,hh⟩
 · refine yb 11 hb (yb 12 hb (yu 8 [(11,bb true),(12,bb true),(13,.und),(14,.und),(15,bb true),(16,bb true),(17,bb true),(18,.ptr 0 [] 2),(19,bb x_e.User),(20,bb x_e.User)] [z1] 1 ?_))
   rcases cond_sf hh with ⟨hb,hh⟩ | ⟨hb,hh⟩
   · exact yb 19 hb (yb 20 hb (yt (sp 25 [(6,bb (!x_user))]) [] 1 (Aw.ret (gvbs hh))))
   exact yb 19 hb (yb 20 hb (yt (sp 25 [(6,bb true)]) [] 1 (Aw.ret (gvbs hh))))
 refine yb 11 hb (yb 12 hb (yu 5 [(11,bb false),(12,bb false),(13,bb x_write),(14,bb (!x_write)),(15,bb (!x_write)),(16,bb (!x_write)),(17,bb (!x_write))] [z1] 1 ?_))
 rcases cond_sf hh with ⟨hb,hh⟩ | ⟨hb,hh⟩
 · exact yb 14 hb (yb 15 hb (yb 16 hb (yb 17 hb (yt (sp 25 [(6,bb false)]) [] 1 (Aw.ret (gvbs hh))))))
 refine yb 14 hb (yb 15 hb (yb 16 hb (yb 17 hb (yu 3 [(14,bb true),(15,bb true),(16,bb true),(17,bb true),(18,.ptr 0 [] 2),(19,bb x_e.User),(20,bb x_e.User)] [z1] 1 ?_))))
 rcases cond_sf hh with ⟨hb,hh⟩ | ⟨hb,hh⟩
 · exact yb 19 hb (yb 20 hb (yt (sp 25 [(6,bb (!x_user))]) [] 1 (Aw.ret (gvbs hh))))
 exact yb 19 hb (yb 20 hb (yt (sp 25 [(6,bb true)]) [] 1 (Aw.ret (gvbs hh))))
end Go.Proofs.Ytbanbjdcgdmkaaa
