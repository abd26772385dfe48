/- Plain functions of the program, and that it hands back what they say. Made by program. -/
import Derived.Test.YtbanbjdcgdmkaaaWT
import Derived.Test.YtbanbjdcgdmkaaaProg
import Derived.Test.YtbanbjdcgdmkaaaWHC1
import Derived.Test.YtbanbjdcgdmkaaaWHV1
import Derived.Test.YtbanbjdcgdmkaaaWO1
namespace Go.Proofs.Ytbanbjdcgdmkaaa
open Go.RowKit
set_option maxRecDepth 100000
set_option linter.all false
set_option maxHeartbeats 0
theorem low_spec_EntryFrom:LW 121 ⟨22,[(.cell 2 true 4)],(.seq (.reg false (rg 121 0)) (.seq (.seq (.reg false (rg 121 1)) (.cond (.t 5) (.seq (.reg false (rg 121 2)) .ret) .skip)) (.seq (.reg false (rg 121 3)) .ret)))⟩:=kr
noncomputable def F_spec_EntryFrom (x_w:Int):Option DEntry :=
 Option.bind (F_spec_WordOk x_w) fun v1 =>
 cond (!v1)
  (some (DEntry.mk false false false (0:Int)))
  (some (DEntry.mk (decide ((Int.tmod x_w (2:Int))=(1:Int))) (decide ((Int.tmod (w64 (Int.tdiv x_w (2:Int))) (2:Int))=(1:Int))) (decide ((Int.tmod (w64 (Int.tdiv x_w (4:Int))) (2:Int))=(1:Int))) (Int.tmod (w64 (Int.tdiv x_w (8:Int))) (8:Int))))
theorem spec_EntryFrom_fn {x_w:Int} {R_:DEntry} (hh:F_spec_EntryFrom x_w=some R_):Fn Try.prog 121 [.int .i64 x_w] (.agg [.bool R_.There,.bool R_.Write,.bool R_.User,.int .i64 R_.Page]):=by
 unfold F_spec_EntryFrom at hh
 refine Fn.start low_spec_EntryFrom [0] (E:=sp 22 [(0,ii x_w)]) kr (v:=.agg [bb R_.There,bb R_.Write,bb R_.User,ii R_.Page]) (Hr:=[]) (k:=0) kr (Aw.sreg [0,2] [0] ?_)
 let q1:Root:=⟨102,[bb false,bb false,bb false,ii 0]⟩
 refine yt (sp 22 [(0,ii x_w),(2,pp 0)]) [(0,some q1)] 1 (Aw.seq (Aw.sreg [0,2,5] [0] (yj 1  (sp 22 [(0,ii x_w),(2,pp 0),(3,ii x_w)]) [(0,some q1)] 1 ?_)))
 obtain ⟨v1,hv1,hh⟩:=bind_some hh
 refine ys (.call 119 [(.t 3)]) (some 4) (oc (spec_WordOk_fn hv1) ?_)
 refine yt (sp 22 [(0,ii x_w),(2,pp 0),(5,bb (!v1))]) [(0,some q1)] 1 ?_
 rcases cond_some hh with ⟨hb,hh⟩ | ⟨hb,hh⟩
 · refine cT hb (sy [2] [0] (sp 22 [(2,pp 0)]) [(0,some q1)] 1 (Aw.ret (then_r ?_)))
   rw [some_some hh]
   exact gives (r':=.agg [bb false,bb false,bb false,ii 0]) kr (Ent.list [] rfl rfl (Nat.zero_le _) (rens_1 (ren_agg rz)) hs_nil)
 refine cF hb (Aw.xskip (fun _ _ _ hq=>then_m hq) (Aw.sreg [2] [0] (ytc [(2:Int)≠0,(2:Int)≠0,(2:Int)≠0,(4:Int)≠0,(2:Int)≠0,(8:Int)≠0,(8:Int)≠0] (sp 22 [(2,pp 0)]) [(0,some ⟨102,[bb (decide ((Int.tmod x_w (2:Int))=(1:Int))),bb (decide ((Int.tmod (w64 (Int.tdiv x_w (2:Int))) (2:Int))=(1:Int))),bb (decide ((Int.tmod (w64 (Int.tdiv x_w (4:Int))) (2:Int))=(1:Int))),ii (Int.tmod (w64 (Int.tdiv x_w (8:Int))) (8:Int))]⟩)] 1 (.cons dd (.cons dd (.cons dd (.cons dd (.cons dd (.cons dd (.cons dd .nil))))))) (Aw.ret ?_))))
 rw [some_some hh]
 exact gives (r':=.agg [bb (decide ((Int.tmod x_w (2:Int))=(1:Int))),bb (decide ((Int.tmod (w64 (Int.tdiv x_w (2:Int))) (2:Int))=(1:Int))),bb (decide ((Int.tmod (w64 (Int.tdiv x_w (4:Int))) (2:Int))=(1:Int))),ii (Int.tmod (w64 (Int.tdiv x_w (8:Int))) (8:Int))]) kr (Ent.list [] rfl rfl (Nat.zero_le _) (rens_1 (ren_agg rz)) hs_nil)
theorem low_impl_EntryFrom:LW 71 ⟨23,[(.cell 2 true 4)],(.seq (.reg false (rg 71 0)) (.seq (.seq (.reg false (rg 71 1)) (.cond (.t 5) (.seq (.reg false (rg 71 2)) .ret) .skip)) (.seq (.reg false (rg 71 3)) .ret)))⟩:=kr
noncomputable def F_impl_EntryFrom (x_w:Int):Option DEntry :=
 Option.bind (F_impl_WordOk x_w) fun v1 =>
 cond (!v1)
  (some (DEntry.mk false false false (0:Int)))
  (some (DEntry.mk (decide ((Int.tmod (w64 (Int.tdiv x_w (1:Int))) (2:Int))=(1:Int))) (decide ((Int.tmod (w64 (Int.tdiv x_w (2:Int))) (2:Int))=(1:Int))) (decide ((Int.tmod (w64 (Int.tdiv x_w (4:Int))) (2:Int))=(1:Int))) (Int.tmod (w64 (Int.tdiv x_w (8:Int))) (8:Int))))
theorem impl_EntryFrom_fn {x_w:Int} {R_:DEntry} (hh:F_impl_EntryFrom x_w=some R_):Fn Try.prog 71 [.int .i64 x_w] (.agg [.bool R_.There,.bool R_.Write,.bool R_.User,.int .i64 R_.Page]):=by
 unfold F_impl_EntryFrom at hh
 refine Fn.start low_impl_EntryFrom [0] (E:=sp 23 [(0,ii x_w)]) kr (v:=.agg [bb R_.There,bb R_.Write,bb R_.User,ii R_.Page]) (Hr:=[]) (k:=0) kr (Aw.sreg [0,2] [0] ?_)
 let q1:Root:=⟨102,[bb false,bb false,bb false,ii 0]⟩
 refine yt (sp 23 [(0,ii x_w),(2,pp 0)]) [(0,some q1)] 1 (Aw.seq (Aw.sreg [0,2,5] [0] (yj 1  (sp 23 [(0,ii x_w),(2,pp 0),(3,ii x_w)]) [(0,some q1)] 1 ?_)))
 obtain ⟨v1,hv1,hh⟩:=bind_some hh
 refine ys (.call 68 [(.t 3)]) (some 4) (oc (impl_WordOk_fn hv1) ?_)
 refine yt (sp 23 [(0,ii x_w),(2,pp 0),(5,bb (!v1))]) [(0,some q1)] 1 ?_
 rcases cond_some hh with ⟨hb,hh⟩ | ⟨hb,hh⟩
 · refine cT hb (sy [2] [0] (sp 23 [(2,pp 0)]) [(0,some q1)] 1 (Aw.ret (then_r ?_)))
   rw [some_some hh]
   exact gives (r':=.agg [bb false,bb false,bb false,ii 0]) kr (Ent.list [] rfl rfl (Nat.zero_le _) (rens_1 (ren_agg rz)) hs_nil)
 refine cF hb (Aw.xskip (fun _ _ _ hq=>then_m hq) (Aw.sreg [2] [0] (ytc [(1:Int)≠0,(2:Int)≠0,(2:Int)≠0,(2:Int)≠0,(4:Int)≠0,(2:Int)≠0,(8:Int)≠0,(8:Int)≠0] (sp 23 [(2,pp 0)]) [(0,some ⟨102,[bb (decide ((Int.tmod (w64 (Int.tdiv x_w (1:Int))) (2:Int))=(1:Int))),bb (decide ((Int.tmod (w64 (Int.tdiv x_w (2:Int))) (2:Int))=(1:Int))),bb (decide ((Int.tmod (w64 (Int.tdiv x_w (4:Int))) (2:Int))=(1:Int))),ii (Int.tmod (w64 (Int.tdiv x_w (8:Int))) (8:Int))]⟩)] 1 (.cons dd (.cons dd (.cons dd (.cons dd (.cons dd (.cons dd (.cons dd (.cons dd .nil)))))))) (Aw.ret ?_))))
 rw [some_some hh]
 exact gives (r':=.agg [bb (decide ((Int.tmod (w64 (Int.tdiv x_w (1:Int))) (2:Int))=(1:Int))),bb (decide ((Int.tmod (w64 (Int.tdiv x_w (2:Int))) (2:Int))=(1:Int))),bb (decide ((Int.tmod (w64 (Int.tdiv x_w (4:Int))) (2:Int))=(1:Int))),ii (Int.tmod (w64 (Int.tdiv x_w (8:Int))) (8:Int))]) kr (Ent.list [] rfl rfl (Nat.zero_le _) (rens_1 (ren_agg rz)) hs_nil)
end Go.Proofs.Ytbanbjdcgdmkaaa
