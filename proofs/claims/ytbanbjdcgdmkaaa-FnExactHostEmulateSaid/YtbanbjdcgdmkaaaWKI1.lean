/- Plain functions of the program, and that it hands back what they say. Made by program. -/
import Derived.Test.YtbanbjdcgdmkaaaWT
import Derived.Test.YtbanbjdcgdmkaaaProg
import Derived.Test.YtbanbjdcgdmkaaaWO1
import Derived.Test.YtbanbjdcgdmkaaaWU1
namespace Go.Proofs.Ytbanbjdcgdmkaaa
open Go.RowKit
set_option maxRecDepth 100000
set_option linter.all false
set_option maxHeartbeats 0
theorem low_impl_InsOk:LW 88 ⟨37,[(.tmp 2)],(.seq (.reg false (rg 88 0)) (.seq (.reg false (rg 88 1)) (.seq (.reg false (rg 88 2)) (.seq (.reg false (rg 88 3)) (.seq (.reg false (rg 88 4)) .ret)))))⟩:=kr
noncomputable def F_impl_InsOk (x_i:DIns):Option Bool :=
 cond (decide ((0:Int)≤x_i.Op))
  (cond (decide ((0:Int)≤x_i.A))
   (cond (decide ((0:Int)≤x_i.N))
    (cond (decide (x_i.Op≤(15:Int)))
     (cond (decide (x_i.A<(4:Int)))
      (some (decide (x_i.N<(64:Int))))
      (some false))
     (some false))
    (cond (decide (x_i.Op≤(15:Int)))
     (cond (decide (x_i.A<(4:Int)))
      (some false)
      (some false))
     (some false)))
   (cond (decide ((0:Int)≤x_i.N))
    (cond (decide (x_i.Op≤(15:Int)))
     (some false)
     (some false))
    (cond (decide (x_i.Op≤(15:Int)))
     (some false)
     (some false))))
  (cond (decide ((0:Int)≤x_i.A))
   (cond (decide ((0:Int)≤x_i.N))
    (some false)
    (some false))
   (cond (decide ((0:Int)≤x_i.N))
    (some false)
    (some false)))
theorem impl_InsOk_fn {x_i:DIns} {R_:Bool} (hh:F_impl_InsOk x_i=some R_):Fn Try.prog 88 [.agg (C_45 x_i)] (.bool R_):=by
 let z1:EH:=(0,some ⟨45,(C_45 x_i)⟩); let z2:=(1,pp 0); let z3:=(16,bb (decide ((0:Int)≤x_i.A))); let z4:=(17,bb (decide ((0:Int)≤x_i.A))); let z5:=(2,bb false); let z6:EV:=(22,.ptr 0 [] 2); let z7:=(23,ii x_i.N); let z8:=(24,bb (decide ((0:Int)≤x_i.N))); let z9:=(25,bb (decide ((0:Int)≤x_i.N))); let z10:=(3,bb (decide (x_i.Op≤(15:Int)))); let z11:=(3,bb false); let z12:=(30,bb (decide (x_i.Op≤(15:Int)))); let z13:=(31,bb (decide (x_i.Op≤(15:Int)))); let z14:=(32,bb (decide (x_i.A<(4:Int)))); let z15:=(33,bb (decide (x_i.A<(4:Int)))); let z16:=(34,bb (decide (x_i.A<(4:Int)))); let z17:=(4,bb (decide (x_i.A<(4:Int)))); let z18:=(4,bb false); let z19:=(5,bb (decide (x_i.N<(64:Int)))); let z20:=(5,bb false)
 unfold F_impl_InsOk at hh
 refine Fn.start low_impl_InsOk [0] (E:=sp 37 [(0,.agg (C_45 x_i))]) kr (v:=bb R_) (Hr:=[]) (k:=0) kr (sy [1] [0] (sp 37 [z2]) [z1] 1 (Aw.sreg [1,3] [0] (yu 4 [(6,pp 0),(7,ii x_i.Op),(8,bb (decide ((0:Int)≤x_i.Op))),(9,bb (decide ((0:Int)≤x_i.Op)))] [z1] 1 ?_)))
 rcases cond_sf hh with ⟨hb,hh⟩ | ⟨hb,hh⟩
 · refine yb 8 hb (yb 9 hb (yt (sp 37 [z2,z11]) [z1] 1 (Aw.sreg [1,3,4] [0] (yu 4 [(14,.ptr 0 [] 1),(15,ii x_i.A),z3,z4] [z1] 1 ?_))))
   rcases cond_sf hh with ⟨hb,hh⟩ | ⟨hb,hh⟩
   · refine yb 16 hb (yb 17 hb (yt (sp 37 [z2,z11,z18]) [z1] 1 (Aw.sreg [3,4,5] [] (yu 4 [z6,z7,z8,z9] [z1] 1 ?_))))
     rcases cond_sf hh with ⟨hb,hh⟩ | ⟨hb,hh⟩
     · exact yb 24 hb (yb 25 hb (yt (sp 37 [z11,z18,z20]) [] 1 (sy [2] [] (sp 37 [z5]) [] 1 (Aw.ret (gvbs hh)))))
     exact yb 24 hb (yb 25 hb (yt (sp 37 [z11,z18,z19]) [] 1 (sy [2] [] (sp 37 [z5]) [] 1 (Aw.ret (gvbs hh)))))
   refine yb 16 hb (yb 17 hb (yt (sp 37 [z2,z11,z17]) [z1] 1 (Aw.sreg [3,4,5] [] (yu 4 [z6,z7,z8,z9] [z1] 1 ?_))))
   rcases cond_sf hh with ⟨hb,hh⟩ | ⟨hb,hh⟩
   · exact yb 24 hb (yb 25 hb (yt (sp 37 [z11,z17,z20]) [] 1 (sy [2] [] (sp 37 [z5]) [] 1 (Aw.ret (gvbs hh)))))
   exact yb 24 hb (yb 25 hb (yt (sp 37 [z11,z17,z19]) [] 1 (sy [2] [] (sp 37 [z5]) [] 1 (Aw.ret (gvbs hh)))))
 refine yb 8 hb (yb 9 hb (yt (sp 37 [z2,z10]) [z1] 1 (Aw.sreg [1,3,4] [0] (yu 4 [(14,.ptr 0 [] 1),(15,ii x_i.A),z3,z4] [z1] 1 ?_))))
 rcases cond_sf hh with ⟨hb,hh⟩ | ⟨hb,hh⟩
 · refine yb 16 hb (yb 17 hb (yt (sp 37 [z2,z10,z18]) [z1] 1 (Aw.sreg [3,4,5] [] (yu 4 [z6,z7,z8,z9] [z1] 1 ?_))))
   rcases cond_sf hh with ⟨hb,hh⟩ | ⟨hb,hh⟩
   · refine yb 24 hb (yb 25 hb (yt (sp 37 [z10,z18,z20]) [] 1 (Aw.sreg [2] [] (yu 2 [z12,z13] [] 1 ?_))))
     rcases cond_sf hh with ⟨hb,hh⟩ | ⟨hb,hh⟩
     · exact yb 3 hb (yb 30 hb (yb 31 hb (yt (sp 37 [z5]) [] 1 (Aw.ret (gvbs hh)))))
     exact yb 3 hb (yb 30 hb (yb 31 hb (yt (sp 37 [z5]) [] 1 (Aw.ret (gvbs hh)))))
   refine yb 24 hb (yb 25 hb (yt (sp 37 [z10,z18,z19]) [] 1 (Aw.sreg [2] [] (yu 2 [z12,z13] [] 1 ?_))))
   rcases cond_sf hh with ⟨hb,hh⟩ | ⟨hb,hh⟩
   · exact yb 3 hb (yb 30 hb (yb 31 hb (yt (sp 37 [z5]) [] 1 (Aw.ret (gvbs hh)))))
   exact yb 3 hb (yb 30 hb (yb 31 hb (yt (sp 37 [z5]) [] 1 (Aw.ret (gvbs hh)))))
 refine yb 16 hb (yb 17 hb (yt (sp 37 [z2,z10,z17]) [z1] 1 (Aw.sreg [3,4,5] [] (yu 4 [z6,z7,z8,z9] [z1] 1 ?_))))
 rcases cond_sf hh with ⟨hb,hh⟩ | ⟨hb,hh⟩
 · refine yb 24 hb (yb 25 hb (yt (sp 37 [z10,z17,z20]) [] 1 (Aw.sreg [2] [] (yu 2 [z12,z13] [] 1 ?_))))
   rcases cond_sf hh with ⟨hb,hh⟩ | ⟨hb,hh⟩
   · exact yb 3 hb (yb 30 hb (yb 31 hb (yt (sp 37 [z5]) [] 1 (Aw.ret (gvbs hh)))))
   refine yb 3 hb (yb 30 hb (yb 31 hb (yu 3 [(3,bb true),(30,bb true),(31,bb true),z14,z15,z16] [] 1 ?_)))
   rcases cond_sf hh with ⟨hb,hh⟩ | ⟨hb,hh⟩
   · exact yb 4 hb (yb 32 hb (yb 33 hb (yb 34 hb (yt (sp 37 [z5]) [] 1 (Aw.ret (gvbs hh))))))
   exact yb 4 hb (yb 32 hb (yb 33 hb (yb 34 hb (yt (sp 37 [z5]) [] 1 (Aw.ret (gvbs hh))))))
 refine yb 24 hb (yb 25 hb (yt (sp 37 [z10,z17,z19]) [] 1 (Aw.sreg [2] [] (yu 2 [z12,z13] [] 1 ?_))))
 rcases cond_sf hh with ⟨hb,hh⟩ | ⟨hb,hh⟩
 · exact yb 3 hb (yb 30 hb (yb 31 hb (yt (sp 37 [z5]) [] 1 (Aw.ret (gvbs hh)))))
 refine yb 3 hb (yb 30 hb (yb 31 hb (yu 3 [(3,bb true),(30,bb true),(31,bb true),z14,z15,z16] [] 1 ?_)))
 rcases cond_sf hh with ⟨hb,hh⟩ | ⟨hb,hh⟩
 · exact yb 4 hb (yb 32 hb (yb 33 hb (yb 34 hb (yt (sp 37 [z5]) [] 1 (Aw.ret (gvbs hh))))))
 exact yb 4 hb (yb 32 hb (yb 33 hb (yb 34 hb (yt (sp 37 [(2,bb (decide (x_i.N<(64:Int))))]) [] 1 (Aw.ret (gvbs hh))))))
theorem low_impl_InsKernel:LW 27 ⟨17,[(.tmp 2)],(.seq (.reg false (rg 27 0)) (.seq (.seq (.reg false (rg 27 1)) (.cond (.t 5) (.seq (.reg false (rg 27 2)) .ret) .skip)) (.seq (.seq (.reg false (rg 27 3)) (.block 0 (.seq (.seq (.reg false (rg 27 4)) (.cond (.t 8) .skip (.seq (.reg false (rg 27 5)) (.cond (.t 8) .skip (.seq (.reg false (rg 27 6)) (.cond (.t 8) .skip (.seq (.reg false (rg 27 7)) (.cond (.t 8) .skip (.seq (.reg false (rg 27 8)) (.cond (.t 8) .skip (.seq (.reg false (rg 27 9)) (.cond (.t 8) .skip (.seq (.reg false (rg 27 10)) (.cond (.t 8) .skip (.reg false (rg 27 11)))))))))))))))) (.cond (.t 8) (.seq (.reg false (rg 27 12)) .ret) .skip)))) (.seq (.reg false (rg 27 13)) .ret))))⟩:=kr
noncomputable def F_impl_InsKernel_j2  (s2:Bool):Option Bool :=
 cond s2
  (some true)
  (some false)
noncomputable def F_impl_InsKernel (x_i:DIns):Option Bool :=
 Option.bind (F_impl_InsOk x_i) fun v1 =>
 cond (!v1)
  (some false)
  (Option.bind (cond (decide (x_i.Op=(0:Int)))
   (some (.go (decide (x_i.Op=(0:Int)))))
   (cond (decide (x_i.Op=(8:Int)))
    (some (.go (decide (x_i.Op=(8:Int)))))
    (cond (decide (x_i.Op=(9:Int)))
     (some (.go (decide (x_i.Op=(9:Int)))))
     (cond (decide (x_i.Op=(10:Int)))
      (some (.go (decide (x_i.Op=(10:Int)))))
      (cond (decide (x_i.Op=(11:Int)))
       (some (.go (decide (x_i.Op=(11:Int)))))
       (cond (decide (x_i.Op=(12:Int)))
        (some (.go (decide (x_i.Op=(12:Int)))))
        (cond (decide (x_i.Op=(13:Int)))
         (some (.go (decide (x_i.Op=(13:Int)))))
         (some (.go (decide (x_i.Op=(14:Int)))))))))))) fun j2 =>
   JO.run j2 (F_impl_InsKernel_j2))
theorem impl_InsKernel_fn {x_i:DIns} {R_:Bool} (hh:F_impl_InsKernel x_i=some R_):Fn Try.prog 27 [.agg (C_45 x_i)] (.bool R_):=by
 let z1:EH:=(0,some ⟨45,(C_45 x_i)⟩); let z2:=(7,ii x_i.Op)
 unfold F_impl_InsKernel at hh
 refine Fn.start low_impl_InsKernel [0] (E:=sp 17 [(0,.agg (C_45 x_i))]) kr (v:=bb R_) (Hr:=[]) (k:=0) kr (sy [1] [0] (sp 17 [(1,pp 0)]) [z1] 1 (Aw.seq (Aw.sreg [1,5] [0] (yj 1  (sp 17 [(1,pp 0),(3,.agg (C_45 x_i))]) [z1] 1 ?_))))
 obtain ⟨v1,hv1,hh⟩:=bind_some hh
 refine ys (.call 88 [(.t 3)]) (some 4) (oc (impl_InsOk_fn hv1) ?_)
 refine yt (sp 17 [(1,pp 0),(5,bb (!v1))]) [z1] 1 ?_
 rcases cond_some hh with ⟨hb,hh⟩ | ⟨hb,hh⟩
 · exact cT hb (sy [2] [] (sp 17 [(2,bb false)]) [] 1 (Aw.ret (then_r (gvbs hh))))
 refine cF hb (Aw.xskip (fun _ _ _ hq=>then_m hq) (Aw.seq (sy [7] [] (sp 17 [z2]) [] 1 (Aw.block ?_))))
 obtain ⟨j2,hh,hk2⟩:=bind_some hh
 refine Aw.join (S:=Bool) (fun s2=>sp 17 [(8,bb s2)]) (fun s2=>[]) 0 (fun s2=>F_impl_InsKernel_j2 s2=some R_) ?_ ?_
 · intro s2 hh
   unfold F_impl_InsKernel_j2 at hh
   rcases cond_some hh with ⟨hb,hh⟩ | ⟨hb,hh⟩
   · refine cT hb (sy [2] [] (sp 17 [(2,bb true)]) [] 0 (Aw.ret (blk_r (then_r ?_))))
     rw [some_some hh]
     exact gvb
   exact cF hb (Aw.xskip (fun _ _ _ hq=>blk_m (then_m hq)) (sy [2] [] (sp 17 [(2,bb false)]) [] 0 (Aw.ret (gvbs hh))))
 intro Q2 hN2 hR2 hE2
 refine sy [7,8] [] (sp 17 [z2,(8,bb (decide (x_i.Op=(0:Int))))]) [] 1 ?_
 rcases cond_some hh with ⟨hb,hh⟩ | ⟨hb,hh⟩
 · refine cT hb (Aw.skip ?_)
   obtain rfl:=some_some hh
   exact hN2 (decide (x_i.Op=(0:Int))) _ _ _ hk2 (el [] (rens_sp kr (rb rl_n)) hs_nil)
 refine cF hb (sy [7,8] [] (sp 17 [z2,(8,bb (decide (x_i.Op=(8:Int))))]) [] 1 ?_)
 rcases cond_some hh with ⟨hb,hh⟩ | ⟨hb,hh⟩
 · refine cT hb (Aw.skip ?_)
   obtain rfl:=some_some hh
   exact hN2 (decide (x_i.Op=(8:Int))) _ _ _ hk2 (el [] (rens_sp kr (rb rl_n)) hs_nil)
 refine cF hb (sy [7,8] [] (sp 17 [z2,(8,bb (decide (x_i.Op=(9:Int))))]) [] 1 ?_)
 rcases cond_some hh with ⟨hb,hh⟩ | ⟨hb,hh⟩
 · refine cT hb (Aw.skip ?_)
   obtain rfl:=some_some hh
   exact hN2 (decide (x_i.Op=(9:Int))) _ _ _ hk2 (el [] (rens_sp kr (rb rl_n)) hs_nil)
 refine cF hb (sy [7,8] [] (sp 17 [z2,(8,bb (decide (x_i.Op=(10:Int))))]) [] 1 ?_)
 rcases cond_some hh with ⟨hb,hh⟩ | ⟨hb,hh⟩
 · refine cT hb (Aw.skip ?_)
   obtain rfl:=some_some hh
   exact hN2 (decide (x_i.Op=(10:Int))) _ _ _ hk2 (el [] (rens_sp kr (rb rl_n)) hs_nil)
 refine cF hb (sy [7,8] [] (sp 17 [z2,(8,bb (decide (x_i.Op=(11:Int))))]) [] 1 ?_)
 rcases cond_some hh with ⟨hb,hh⟩ | ⟨hb,hh⟩
 · refine cT hb (Aw.skip ?_)
   obtain rfl:=some_some hh
   exact hN2 (decide (x_i.Op=(11:Int))) _ _ _ hk2 (el [] (rens_sp kr (rb rl_n)) hs_nil)
 refine cF hb (sy [7,8] [] (sp 17 [z2,(8,bb (decide (x_i.Op=(12:Int))))]) [] 1 ?_)
 rcases cond_some hh with ⟨hb,hh⟩ | ⟨hb,hh⟩
 · refine cT hb (Aw.skip ?_)
   obtain rfl:=some_some hh
   exact hN2 (decide (x_i.Op=(12:Int))) _ _ _ hk2 (el [] (rens_sp kr (rb rl_n)) hs_nil)
 refine cF hb (sy [7,8] [] (sp 17 [z2,(8,bb (decide (x_i.Op=(13:Int))))]) [] 1 ?_)
 rcases cond_some hh with ⟨hb,hh⟩ | ⟨hb,hh⟩
 · refine cT hb (Aw.skip ?_)
   obtain rfl:=some_some hh
   exact hN2 (decide (x_i.Op=(13:Int))) _ _ _ hk2 (el [] (rens_sp kr (rb rl_n)) hs_nil)
 refine cF hb (Aw.oreg (ye (sp 17 [z2,(8,bb (decide (x_i.Op=(14:Int)))),(16,bb (decide (x_i.Op=(14:Int))))]) [] 1 ?_))
 obtain rfl:=some_some hh
 exact hN2 (decide (x_i.Op=(14:Int))) _ _ _ hk2 (el [] (rens_sp kr (rb rl_n)) hs_nil)
theorem low_spec_InsKernel:LW 62 ⟨15,[(.tmp 2)],(.seq (.reg false (rg 62 0)) (.seq (.reg false (rg 62 1)) .ret))⟩:=kr
noncomputable def F_spec_InsKernel (x_i:DIns):Option Bool :=
 Option.bind (F_spec_InsOk x_i) fun v1 =>
 cond v1
  (cond (decide (x_i.Op=(0:Int)))
   (some true)
   (Option.bind (F_spec_l1In x_i.Op (8:Int) (14:Int)) fun v2 =>
   some v2))
  (some false)
theorem spec_InsKernel_fn {x_i:DIns} {R_:Bool} (hh:F_spec_InsKernel x_i=some R_):Fn Try.prog 62 [.agg (C_45 x_i)] (.bool R_):=by
 let z1:EH:=(0,some ⟨45,(C_45 x_i)⟩)
 unfold F_spec_InsKernel at hh
 refine Fn.start low_spec_InsKernel [0] (E:=sp 15 [(0,.agg (C_45 x_i))]) kr (v:=bb R_) (Hr:=[]) (k:=0) kr (sy [1] [0] (sp 15 [(1,pp 0)]) [z1] 1 (Aw.sreg [2] [] (yu 1 [(3,.agg (C_45 x_i))] [z1] 1 ?_)))
 obtain ⟨v1,hv1,hh⟩:=bind_some hh
 refine ys (.call 122 [(.t 3)]) (some 4) (oc (spec_InsOk_fn hv1) ?_)
 refine yu 1 [(4,bb v1),(5,bb v1)] [z1] 1 ?_
 rcases cond_sf hh with ⟨hb,hh⟩ | ⟨hb,hh⟩
 · exact yb 4 hb (yb 5 hb (yt (sp 15 [(2,bb false)]) [] 1 (Aw.ret (gvbs hh))))
 refine yb 4 hb (yb 5 hb (yu 4 [(4,bb true),(5,bb true),(6,pp 0),(7,ii x_i.Op),(8,bb (decide (x_i.Op=(0:Int)))),(9,bb (decide (x_i.Op=(0:Int))))] [z1] 1 ?_))
 rcases cond_some hh with ⟨hb,hh⟩ | ⟨hb,hh⟩
 · exact yb 8 hb (yb 9 hb (yt (sp 15 [(2,bb true)]) [] 1 (Aw.ret (gvbs hh))))
 refine yb 8 hb (yb 9 hb (yu 2 [(8,bb false),(9,bb false),(10,pp 0),(11,ii x_i.Op)] [z1] 1 ?_))
 obtain ⟨v2,hv2,hh⟩:=bind_some hh
 refine yg (.call 73 [(.t 11),(.c (ii 8)),(.c (ii 14))]) (some 12) 9 false (oc (spec_l1In_fn hv2) ?_)
 exact yt (sp 15 [(2,bb v2)]) [] 1 (Aw.ret (gvbs hh))
end Go.Proofs.Ytbanbjdcgdmkaaa
