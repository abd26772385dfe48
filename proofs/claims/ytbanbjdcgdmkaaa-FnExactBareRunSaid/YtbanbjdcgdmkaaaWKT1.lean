/- Plain functions of the program, and that it hands back what they say. Made by program. -/
import Derived.Test.YtbanbjdcgdmkaaaWT
import Derived.Test.YtbanbjdcgdmkaaaProg
namespace Go.Proofs.Ytbanbjdcgdmkaaa
open Go.RowKit
set_option maxRecDepth 100000
set_option linter.all false
set_option maxHeartbeats 0
theorem low_impl_ticked:LW 124 ⟨16,[(.cell 2 true 13)],(.seq (.reg false (rg 124 0)) (.seq (.seq (.reg false (rg 124 1)) (.cond (.t 5) (.seq (.reg false (rg 124 2)) .ret) .skip)) (.seq (.reg false (rg 124 3)) (.seq (.seq (.reg false (rg 124 4)) (.cond (.t 13) (.reg false (rg 124 5)) .skip)) (.seq (.reg false (rg 124 6)) .ret)))))⟩:=kr
noncomputable def F_impl_ticked_j1 (x_c:DCore) (s1:Bool):Option DCore :=
 some (DCore.mk x_c.Regs x_c.Pc x_c.Root x_c.Vector x_c.Saved x_c.SavedUser x_c.Cause x_c.Bad (w64 (x_c.Timer - (1:Int))) s1 x_c.User x_c.On x_c.Stopped)
noncomputable def F_impl_ticked (x_c:DCore):Option DCore :=
 cond (decide (x_c.Timer=(0:Int)))
  (some x_c)
  (Option.bind (cond (decide ((w64 (x_c.Timer - (1:Int)))=(0:Int)))
   (some (.go true))
   (some (.go x_c.Waits))) fun j1 =>
   JO.run j1 (F_impl_ticked_j1 x_c))
theorem impl_ticked_fn {x_c:DCore} {R_:DCore} (hh:F_impl_ticked x_c=some R_):Fn Try.prog 124 [.agg (B_25 x_c)] (.agg (B_25 R_)):=by
 let z1:EH:=(1,some ⟨25,(.nil::zru25 [])⟩); let z2:=(13,bb (decide ((w64 (x_c.Timer - (1:Int)))=(0:Int)))); let z3:=(2,pp 1)
 unfold F_impl_ticked at hh
 refine Fn.start low_impl_ticked [0] (E:=sp 16 [(0,.agg (B_25 x_c))]) kr (v:=.agg (B_25 R_)) (Hr:=[]) (k:=0) kr (sy [1,2] [0,1] (sp 16 [(1,pp 0),z3]) [(0,some (rB25 x_c)),z1] 2 (Aw.seq (sy [1,2,5] [0,1] (sp 16 [(1,pp 0),z3,(5,bb (decide (x_c.Timer=(0:Int))))]) [(0,some (rB25 x_c)),z1] 2 ?_)))
 rcases cond_some hh with ⟨hb,hh⟩ | ⟨hb,hh⟩
 · refine cT hb (sy [2] [1] (sp 16 [z3]) [(1,some (rB25 x_c))] 2 (Aw.ret (then_r ?_)))
   rw [some_some hh]
   exact gives (r':=.agg (B_25 x_c)) kr (Ent.clov (.one _ _ (clo_same (clean_agg (cl_B_25 _)))))
 refine cF hb (Aw.xskip (fun _ _ _ hq=>then_m hq) (Aw.sreg [1,2] [0,1] ?_))
 let q1:Root:=⟨25,[bo (eI .i64) x_c.Regs,ii x_c.Pc,ii x_c.Root,ii x_c.Vector,ii x_c.Saved,bb x_c.SavedUser,ii x_c.Cause,ii x_c.Bad,ii (w64 (x_c.Timer - (1:Int))),bb x_c.Waits,bb x_c.User,bb x_c.On,bb x_c.Stopped]⟩
 refine yt (sp 16 [(1,pp 0),z3]) [(0,some q1),z1] 2 ?_
 obtain ⟨j1,hh,hk1⟩:=bind_some hh
 refine Aw.join (S:=Bool) (fun s1=>sp 16 [(1,pp 0),(2,pp 1)]) (fun s1=>[(0,some ⟨25,[bo (eI .i64) x_c.Regs,ii x_c.Pc,ii x_c.Root,ii x_c.Vector,ii x_c.Saved,bb x_c.SavedUser,ii x_c.Cause,ii x_c.Bad,ii (w64 (x_c.Timer - (1:Int))),bb s1,bb x_c.User,bb x_c.On,bb x_c.Stopped]⟩),(1,some ⟨25,(.nil::zru25 [])⟩)]) 2 (fun s1=>F_impl_ticked_j1 x_c s1=some R_) ?_ ?_
 · intro s1 hh
   unfold F_impl_ticked_j1 at hh
   refine sy [2] [1] (sp 16 [z3]) [(1,some ⟨25,[bo (eI .i64) x_c.Regs,ii x_c.Pc,ii x_c.Root,ii x_c.Vector,ii x_c.Saved,bb x_c.SavedUser,ii x_c.Cause,ii x_c.Bad,ii (w64 (x_c.Timer - (1:Int))),bb s1,bb x_c.User,bb x_c.On,bb x_c.Stopped]⟩)] 2 (Aw.ret ?_)
   rw [some_some hh]
   exact gives (r':=.agg [bo (eI .i64) x_c.Regs,ii x_c.Pc,ii x_c.Root,ii x_c.Vector,ii x_c.Saved,bb x_c.SavedUser,ii x_c.Cause,ii x_c.Bad,ii (w64 (x_c.Timer - (1:Int))),bb s1,bb x_c.User,bb x_c.On,bb x_c.Stopped]) kr (Ent.clov (.one _ _ (clo_agg cz)))
 intro Q1 hN1 hR1 hE1
 refine sy [1,2,13] [0,1] (sp 16 [(1,pp 0),z3,z2]) [(0,some q1),z1] 2 ?_
 rcases cond_sf hh with ⟨hb,hh⟩ | ⟨hb,hh⟩
 · refine cF hb (Aw.skip ?_)
   obtain rfl:=some_some hh
   exact hN1 x_c.Waits _ _ _ hk1 (el [some 0,some 1] (rens_sp kr (rp 0 (rp 1 rl_n))) (hq q1 rz (hq ⟨25,(.nil::zru25 [])⟩ rz hs_nil)))
 refine cT hb (Aw.oreg ?_)
 let q2:Root:=⟨25,[bo (eI .i64) x_c.Regs,ii x_c.Pc,ii x_c.Root,ii x_c.Vector,ii x_c.Saved,bb x_c.SavedUser,ii x_c.Cause,ii x_c.Bad,ii (w64 (x_c.Timer - (1:Int))),bb true,bb x_c.User,bb x_c.On,bb x_c.Stopped]⟩
 refine ye (sp 16 [(1,pp 0),z3,z2,(14,.ptr 0 [] 9)]) [(0,some q2),(0,some q1),z1] 2 ?_
 obtain rfl:=some_some hh
 exact hN1 true _ _ _ hk1 (el [some 0,some 1] (rens_sp kr (rp 0 (rp 1 rl_n))) (hq q2 rz (hq ⟨25,(.nil::zru25 [])⟩ rz hs_nil)))
theorem low_impl_isInterrupted:LW 125 ⟨9,[(.tmp 2)],(.seq (.reg false (rg 125 0)) (.seq (.reg false (rg 125 1)) .ret))⟩:=kr
noncomputable def F_impl_isInterrupted (x_c:DCore):Option Bool :=
 cond x_c.Waits
  (some x_c.On)
  (some false)
theorem impl_isInterrupted_fn {x_c:DCore} {R_:Bool} (hh:F_impl_isInterrupted x_c=some R_):Fn Try.prog 125 [.agg (B_25 x_c)] (.bool R_):=by
 unfold F_impl_isInterrupted at hh
 refine Fn.start low_impl_isInterrupted [0] (E:=sp 9 [(0,.agg (B_25 x_c))]) kr (v:=bb R_) (Hr:=[]) (k:=0) kr (sy [1] [0] (sp 9 [(1,pp 0)]) [(0,some (rB25 x_c))] 1 (Aw.sreg [2] [] (yu 3 [(3,.ptr 0 [] 9),(4,bb x_c.Waits),(5,bb x_c.Waits)] [(0,some (rB25 x_c))] 1 ?_)))
 rcases cond_sf hh with ⟨hb,hh⟩ | ⟨hb,hh⟩
 · exact yb 4 hb (yb 5 hb (yt (sp 9 [(2,bb false)]) [] 1 (Aw.ret (gvbs hh))))
 exact yb 4 hb (yb 5 hb (yt (sp 9 [(2,bb x_c.On)]) [] 1 (Aw.ret (gvbs hh))))
theorem low_spec_l3Trap:LW 60 ⟨24,[(.cell 8 true 13)],(.seq (.reg false (rg 60 0)) (.seq (.reg false (rg 60 1)) (.seq (.reg false (rg 60 2)) (.seq (.reg false (rg 60 3)) (.seq (.reg false (rg 60 4)) (.seq (.reg false (rg 60 5)) (.seq (.reg false (rg 60 6)) (.seq (.reg false (rg 60 7)) (.seq (.reg false (rg 60 8)) .ret)))))))))⟩:=kr
noncomputable def F_spec_l3Trap (x_c:DCore) (x_from:Int) (x_cause:Int) (x_bad:Int):Option DCore :=
 some (DCore.mk x_c.Regs x_c.Vector x_c.Root x_c.Vector x_from x_c.User x_cause x_bad x_c.Timer x_c.Waits false false x_c.Stopped)
theorem spec_l3Trap_fn {x_c:DCore} {x_from:Int} {x_cause:Int} {x_bad:Int} {R_:DCore} (hh:F_spec_l3Trap x_c x_from x_cause x_bad=some R_):Inl Try.prog 60 [.agg (.sref 0 [] 0 (List.length x_c.Regs) 1::ru25 x_c []),.int .i64 x_from,.int .i64 x_cause,.int .i64 x_bad] [(0,some (rI_3 x_c.Regs))] 1 (.agg (.sref 1 [] 0 (List.length R_.Regs) 1::ru25 R_ [])) [(1,some (rI_3 R_.Regs))] 2:=by
 let z1:=(2,ii x_cause); let z2:EH:=(2,some ⟨25,(.nil::zru25 [])⟩); let z3:=(3,ii x_bad); let z4:=(4,pp 1); let z5:=(8,pp 2)
 unfold F_spec_l3Trap at hh
 let q1:Root:=(rI_3 x_c.Regs); let z6:=(0,some q1)
 refine Inl.start low_spec_l3Trap [0,1,2,3] [0] (E:=sp 24 [(0,.agg (sw 0 x_c.Regs::ru25 x_c [])),(1,ii x_from),z1,z3]) (H1:=[z6]) kr kr (sy [1,2,3,4,8] [0,1,2] (sp 24 [(1,ii x_from),z1,z3,z4,z5]) [z6,(1,some ⟨25,(sw 0 x_c.Regs::ru25 x_c [])⟩),z2] 3 (sy [2,3,4,8] [0,1,2] (sp 24 [z1,z3,z4,z5]) [z6,(1,some ⟨25,[sw 0 x_c.Regs,ii x_c.Pc,ii x_c.Root,ii x_c.Vector,ii x_from,bb x_c.SavedUser,ii x_c.Cause,ii x_c.Bad,ii x_c.Timer,bb x_c.Waits,bb x_c.User,bb x_c.On,bb x_c.Stopped]⟩),z2] 3 (sy [2,3,4,8] [0,1,2] (sp 24 [z1,z3,z4,z5]) [z6,(1,some ⟨25,[sw 0 x_c.Regs,ii x_c.Pc,ii x_c.Root,ii x_c.Vector,ii x_from,bb x_c.User,ii x_c.Cause,ii x_c.Bad,ii x_c.Timer,bb x_c.Waits,bb x_c.User,bb x_c.On,bb x_c.Stopped]⟩),z2] 3 (sy [2,3,4,8] [0,1,2] (sp 24 [z1,z3,z4,z5]) [z6,(1,some ⟨25,[sw 0 x_c.Regs,ii x_c.Pc,ii x_c.Root,ii x_c.Vector,ii x_from,bb x_c.User,ii x_c.Cause,ii x_c.Bad,ii x_c.Timer,bb x_c.Waits,bb false,bb x_c.On,bb x_c.Stopped]⟩),z2] 3 (sy [2,3,4,8] [0,1,2] (sp 24 [z1,z3,z4,z5]) [z6,(1,some ⟨25,[sw 0 x_c.Regs,ii x_c.Pc,ii x_c.Root,ii x_c.Vector,ii x_from,bb x_c.User,ii x_c.Cause,ii x_c.Bad,ii x_c.Timer,bb x_c.Waits,bb false,bb false,bb x_c.Stopped]⟩),z2] 3 (sy [2,3,4,8] [0,1,2] (sp 24 [z1,z3,z4,z5]) [z6,(1,some ⟨25,[sw 0 x_c.Regs,ii x_c.Vector,ii x_c.Root,ii x_c.Vector,ii x_from,bb x_c.User,ii x_c.Cause,ii x_c.Bad,ii x_c.Timer,bb x_c.Waits,bb false,bb false,bb x_c.Stopped]⟩),z2] 3 (sy [3,4,8] [0,1,2] (sp 24 [z3,z4,z5]) [z6,(1,some ⟨25,[sw 0 x_c.Regs,ii x_c.Vector,ii x_c.Root,ii x_c.Vector,ii x_from,bb x_c.User,ii x_cause,ii x_c.Bad,ii x_c.Timer,bb x_c.Waits,bb false,bb false,bb x_c.Stopped]⟩),z2] 3 (Aw.sreg [4,8] [0,1,2] ?_))))))))
 let q2:Root:=⟨25,[sw 0 x_c.Regs,ii x_c.Vector,ii x_c.Root,ii x_c.Vector,ii x_from,bb x_c.User,ii x_cause,ii x_bad,ii x_c.Timer,bb x_c.Waits,bb false,bb false,bb x_c.Stopped]⟩
 refine yt (sp 24 [z4,z5]) [z6,(1,some q2),z2] 3 (sy [8] [0,2] (sp 24 [z5]) [z6,(2,some q2)] 3 (Aw.ret ?_))
 rw [some_some hh]
 exact gives (r':=.agg [sw 0 x_c.Regs,ii x_c.Vector,ii x_c.Root,ii x_c.Vector,ii x_from,bb x_c.User,ii x_cause,ii x_bad,ii x_c.Timer,bb x_c.Waits,bb false,bb false,bb x_c.Stopped]) kr (el [some 0,some 0] (rens_1 (ren_agg rz)) (hn nr_eI hs_nil))
theorem low_spec_l3Ticked:LW 59 ⟨27,[(.cell 2 true 13),(.tmp 3)],(.seq (.reg false (rg 59 0)) (.seq (.seq (.reg false (rg 59 1)) (.cond (.t 6) (.seq (.reg false (rg 59 2)) (.seq (.reg false (rg 59 3)) (.cond (.t 13) (.reg false (rg 59 4)) .skip))) .skip)) (.seq (.seq (.reg false (rg 59 5)) (.cond (.t 20) (.seq (.reg false (rg 59 6)) (.seq (.reg false (rg 59 7)) .ret)) .skip)) (.seq (.reg false (rg 59 8)) .ret))))⟩:=kr
noncomputable def F_spec_l3Ticked_j2 (x_c:DCore) (s1:Bool × Int) (s2:Unit):Option (DCore × Bool) :=
 some ((DCore.mk x_c.Regs x_c.Pc x_c.Root x_c.Vector x_c.Saved x_c.SavedUser x_c.Cause x_c.Bad s1.2 s1.1 x_c.User x_c.On x_c.Stopped),false)
noncomputable def F_spec_l3Ticked_j1 (x_c:DCore) (s1:Bool × Int):Option (DCore × Bool) :=
 Option.bind (cond s1.1
  (cond x_c.On
   (Option.bind (F_spec_l3Trap (DCore.mk x_c.Regs x_c.Pc x_c.Root x_c.Vector x_c.Saved x_c.SavedUser x_c.Cause x_c.Bad s1.2 false x_c.User x_c.On x_c.Stopped) x_c.Pc (4:Int) (0:Int)) fun v3 =>
   some (.out (v3,true)))
   (some (.go ())))
  (some (.go ()))) fun j2 =>
  JO.run j2 (F_spec_l3Ticked_j2 x_c s1)
noncomputable def F_spec_l3Ticked (x_c:DCore):Option (DCore × Bool) :=
 Option.bind (cond (decide ((0:Int)<x_c.Timer))
  (cond (decide ((w64 (x_c.Timer - (1:Int)))=(0:Int)))
   (some (.go (true,(w64 (x_c.Timer - (1:Int))))))
   (some (.go (x_c.Waits,(w64 (x_c.Timer - (1:Int)))))))
  (some (.go (x_c.Waits,x_c.Timer)))) fun j1 =>
  JO.run j1 (F_spec_l3Ticked_j1 x_c)
theorem spec_l3Ticked_fn {x_c:DCore} {R_:DCore × Bool} (hh:F_spec_l3Ticked x_c=some R_):Inl Try.prog 59 [.agg (.sref 0 [] 0 (List.length x_c.Regs) 1::ru25 x_c [])] [(0,some (rI_3 x_c.Regs))] 1 (.tup [.agg (.sref 1 [] 0 (List.length R_.1.Regs) 1::ru25 R_.1 []),.bool R_.2]) [(1,some (rI_3 R_.1.Regs))] 2:=by
 let z1:=(13,bb (decide ((w64 (x_c.Timer - (1:Int)))=(0:Int)))); let z2:EH:=(2,some ⟨25,(.nil::zru25 [])⟩); let z3:EH:=(3,some ⟨25,(.nil::zru25 [])⟩)
 unfold F_spec_l3Ticked at hh
 let q1:Root:=(rI_3 x_c.Regs); let z4:=(0,some q1); let z5:=(1,some q1)
 refine Inl.start low_spec_l3Ticked [0] [0] (E:=sp 27 [(0,.agg (sw 0 x_c.Regs::ru25 x_c []))]) (H1:=[z4]) kr kr (Aw.sreg [1,2] [0,1,2] ?_)
 let q2:Root:=⟨25,(sw 0 x_c.Regs::ru25 x_c [])⟩
 refine yt (sp 27 [(1,pp 1),(2,pp 2)]) [z4,(1,some q2),z2] 3 ?_
 obtain ⟨j1,hh,hk1⟩:=bind_some hh
 refine Aw.join (S:=Bool × Int) (fun s1=>sp 27 [(1,pp 2),(2,pp 3)]) (fun s1=>[(1,some (rI_3 x_c.Regs)),(2,some ⟨25,[sw 1 x_c.Regs,ii x_c.Pc,ii x_c.Root,ii x_c.Vector,ii x_c.Saved,bb x_c.SavedUser,ii x_c.Cause,ii x_c.Bad,ii s1.2,bb s1.1,bb x_c.User,bb x_c.On,bb x_c.Stopped]⟩),(3,some ⟨25,(.nil::zru25 [])⟩)]) 4 (fun s1=>F_spec_l3Ticked_j1 x_c s1=some R_) ?_ ?_
 · intro s1 hh
   unfold F_spec_l3Ticked_j1 at hh
   obtain ⟨j2,hh,hk2⟩:=bind_some hh
   refine Aw.join (S:=Unit) (fun s2=>sp 27 [(1,pp 2),(2,pp 4)]) (fun s2=>[(2,some ⟨25,[sw 3 x_c.Regs,ii x_c.Pc,ii x_c.Root,ii x_c.Vector,ii x_c.Saved,bb x_c.SavedUser,ii x_c.Cause,ii x_c.Bad,ii s1.2,bb s1.1,bb x_c.User,bb x_c.On,bb x_c.Stopped]⟩),(3,some (rI_3 x_c.Regs)),(4,some ⟨25,(.nil::zru25 [])⟩)]) 5 (fun s2=>F_spec_l3Ticked_j2 x_c s1 s2=some R_) ?_ ?_
   · intro s2 hh
     unfold F_spec_l3Ticked_j2 at hh
     refine sy [2,3] [3,4] (sp 27 [(2,pp 4),(3,bb false)]) [(3,some q1),(4,some ⟨25,[sw 3 x_c.Regs,ii x_c.Pc,ii x_c.Root,ii x_c.Vector,ii x_c.Saved,bb x_c.SavedUser,ii x_c.Cause,ii x_c.Bad,ii s1.2,bb s1.1,bb x_c.User,bb x_c.On,bb x_c.Stopped]⟩)] 5 (Aw.ret ?_)
     rw [some_some hh]
     exact gives (r':=.tup [.agg [sw 3 x_c.Regs,ii x_c.Pc,ii x_c.Root,ii x_c.Vector,ii x_c.Saved,bb x_c.SavedUser,ii x_c.Cause,ii x_c.Bad,ii s1.2,bb s1.1,bb x_c.User,bb x_c.On,bb x_c.Stopped],bb false]) kr (el [some 0,some 3] (rens_1 (ren_tup rz)) (hn nr_eI hs_nil))
   intro Q2 hN2 hR2 hE2
   refine Aw.sreg [1,2,20] [1,2,3] ?_
   let q3:Root:=⟨25,[sw 1 x_c.Regs,ii x_c.Pc,ii x_c.Root,ii x_c.Vector,ii x_c.Saved,bb x_c.SavedUser,ii x_c.Cause,ii x_c.Bad,ii s1.2,bb s1.1,bb x_c.User,bb x_c.On,bb x_c.Stopped]⟩
   refine yj 3  (sp 27 [(1,pp 2),(2,pp 3),(15,.ptr 2 [] 9),(16,bb s1.1),(17,bb s1.1)]) [z5,(2,some q3),z3] 4 ?_
   rcases cond_some hh with ⟨hb,hh⟩ | ⟨hb,hh⟩
   · refine yb 16 hb (yb 17 hb (yt (sp 27 [(1,pp 2),(2,pp 3),(20,bb x_c.On)]) [z5,(2,some q3),z3] 4 ?_))
     rcases cond_sf hh with ⟨hb,hh⟩ | ⟨hb,hh⟩
     · refine cF hb (Aw.skip ?_)
       obtain rfl:=some_some hh
       exact hN2 () _ _ _ hk2 (el [some 0,none,some 2,some 1,some 3] (rens_sp kr (rp 2 (rp 3 rl_n))) (hq q3 rz (hn nr_eI (hq ⟨25,(.nil::zru25 [])⟩ rz hs_nil))))
     refine cT hb (Aw.sreg [1,2] [1,2,3] ?_)
     let q4:Root:=⟨25,[sw 1 x_c.Regs,ii x_c.Pc,ii x_c.Root,ii x_c.Vector,ii x_c.Saved,bb x_c.SavedUser,ii x_c.Cause,ii x_c.Bad,ii s1.2,bb false,bb x_c.User,bb x_c.On,bb x_c.Stopped]⟩
     refine yt (sp 27 [(1,pp 2),(2,pp 3)]) [z5,(2,some q4),z3] 4 (Aw.sreg [2,3] [3,4] (yu 3 [(22,.agg [sw 1 x_c.Regs,ii x_c.Pc,ii x_c.Root,ii x_c.Vector,ii x_c.Saved,bb x_c.SavedUser,ii x_c.Cause,ii x_c.Bad,ii s1.2,bb false,bb x_c.User,bb x_c.On,bb x_c.Stopped]),(23,.ptr 2 [] 1),(24,ii x_c.Pc)] [z5,(2,some q4),z3] 4 ?_))
     obtain ⟨v3,hv3,hh⟩:=bind_some hh
     let q5:Root:=(rI_3 v3.Regs)
     refine ys (.call 60 [(.t 22),(.t 24),(.c (ii 4)),(.c (ii 0))]) (some 25) (cf (.agg (sw 4 v3.Regs::ru25 v3 [])) [(4,some q5)] 5 [1] (spec_l3Trap_fn hv3) [.agg [sw 1 x_c.Regs,ii x_c.Pc,ii x_c.Root,ii x_c.Vector,ii x_c.Saved,bb x_c.SavedUser,ii x_c.Cause,ii x_c.Bad,ii s1.2,bb false,bb x_c.User,bb x_c.On,bb x_c.Stopped],ii x_c.Pc,ii 4,ii 0] rz (hn nr_eI hs_nil) (ren_agg rz) (hn nr_eI hs_nil) ?_)
     refine yt (sp 27 [(2,pp 3),(3,bb true)]) [(3,some ⟨25,(sw 4 v3.Regs::ru25 v3 [])⟩),(4,some q5)] 5 (Aw.ret ?_)
     obtain rfl:=some_some hh
     refine hR2 _ _ _ ?_
     rw [some_some hk2]
     exact gives (r':=.tup [.agg (sw 4 v3.Regs::ru25 v3 []),bb true]) kr (el [some 0,some 4] (rens_1 (ren_tup rz)) (hn nr_eI hs_nil))
   refine yb 16 hb (yb 17 hb (yt (sp 27 [(1,pp 2),(2,pp 3),(20,bb false)]) [z5,(2,some q3),z3] 4 (cF rfl (Aw.skip ?_))))
   obtain rfl:=some_some hh
   exact hN2 () _ _ _ hk2 (el [some 0,none,some 2,some 1,some 3] (rens_sp kr (rp 2 (rp 3 rl_n))) (hq q3 rz (hn nr_eI (hq ⟨25,(.nil::zru25 [])⟩ rz hs_nil))))
 intro Q1 hN1 hR1 hE1
 refine sy [1,2,6] [0,1,2] (sp 27 [(1,pp 1),(2,pp 2),(6,bb (decide ((0:Int)<x_c.Timer)))]) [z4,(1,some q2),z2] 3 ?_
 rcases cond_sf hh with ⟨hb,hh⟩ | ⟨hb,hh⟩
 · refine cF hb (Aw.skip ?_)
   obtain rfl:=some_some hh
   exact hN1 (x_c.Waits,x_c.Timer) _ _ _ hk1 (el [some 0,some 0,some 1,some 2] (rens_sp kr (rp 1 (rp 2 rl_n))) (hn nr_eI (hq q2 rz (hq ⟨25,(.nil::zru25 [])⟩ rz hs_nil))))
 refine cT hb (Aw.sreg [1,2] [0,1,2] ?_)
 let q6:Root:=⟨25,[sw 0 x_c.Regs,ii x_c.Pc,ii x_c.Root,ii x_c.Vector,ii x_c.Saved,bb x_c.SavedUser,ii x_c.Cause,ii x_c.Bad,ii (w64 (x_c.Timer - (1:Int))),bb x_c.Waits,bb x_c.User,bb x_c.On,bb x_c.Stopped]⟩
 refine yt (sp 27 [(1,pp 1),(2,pp 2)]) [z4,(1,some q6),z2] 3 (sy [1,2,13] [0,1,2] (sp 27 [(1,pp 1),(2,pp 2),z1]) [z4,(1,some q6),z2] 3 ?_)
 rcases cond_sf hh with ⟨hb,hh⟩ | ⟨hb,hh⟩
 · refine cF hb (Aw.skip ?_)
   obtain rfl:=some_some hh
   exact hN1 (x_c.Waits,(w64 (x_c.Timer - (1:Int)))) _ _ _ hk1 (el [some 0,some 0,some 1,some 2] (rens_sp kr (rp 1 (rp 2 rl_n))) (hn nr_eI (hq q6 rz (hq ⟨25,(.nil::zru25 [])⟩ rz hs_nil))))
 refine cT hb (Aw.oreg ?_)
 let q7:Root:=⟨25,[sw 0 x_c.Regs,ii x_c.Pc,ii x_c.Root,ii x_c.Vector,ii x_c.Saved,bb x_c.SavedUser,ii x_c.Cause,ii x_c.Bad,ii (w64 (x_c.Timer - (1:Int))),bb true,bb x_c.User,bb x_c.On,bb x_c.Stopped]⟩
 refine ye (sp 27 [(1,pp 1),(2,pp 2),z1,(14,.ptr 1 [] 9)]) [(1,some q7),z4,(1,some q6),z2] 3 ?_
 obtain rfl:=some_some hh
 exact hN1 (true,(w64 (x_c.Timer - (1:Int)))) _ _ _ hk1 (el [some 0,some 0,some 1,some 2] (rens_sp kr (rp 1 (rp 2 rl_n))) (hn nr_eI (hq q7 rz (hq ⟨25,(.nil::zru25 [])⟩ rz hs_nil))))
theorem low_impl_addressOf:LW 166 ⟨13,[(.tmp 4)],(.seq (.reg false (rg 166 0)) (.seq (.reg false (rg 166 1)) .ret))⟩:=kr
noncomputable def F_impl_addressOf (x_c:DCore) (x_i:DIns):Option Int :=
 grd ((0:Int)≤(Int.tmod x_i.N (4:Int))∧(Int.tmod x_i.N (4:Int))<((List.length x_c.Regs:Nat):Int)) (some (Int.tmod (List.getD x_c.Regs (Int.toNat (Int.tmod x_i.N (4:Int))) default) (64:Int)))
theorem impl_addressOf_fn {x_c:DCore} {x_i:DIns} {R_:Int} (hh:F_impl_addressOf x_c x_i=some R_):Fn Try.prog 166 [.agg (B_25 x_c),.agg (C_45 x_i)] (.int .i64 R_):=by
 let z1:=List.getD x_c.Regs (Int.toNat (Int.tmod x_i.N (4:Int))) default
 unfold F_impl_addressOf at hh
 refine Fn.start low_impl_addressOf [0,1] (E:=sp 13 [(0,.agg (B_25 x_c)),(1,.agg (C_45 x_i))]) kr (v:=ii R_) (Hr:=[]) (k:=0) kr (sy [2,3] [0,1] (sp 13 [(2,pp 0),(3,pp 1)]) [(0,some (rB25 x_c)),(1,some ⟨45,(C_45 x_i)⟩)] 2 (Aw.sreg [4] [] (yjc 5 [(4:Int)≠0] (sp 13 [(2,pp 0),(3,pp 1),(5,pp 0),(6,bo (eI .i64) x_c.Regs),(7,.ptr 1 [] 2),(8,ii x_i.N),(9,ii (Int.tmod x_i.N (4:Int)))]) [(0,some (rB25 x_c)),(1,some ⟨45,(C_45 x_i)⟩)] 2 (.cons dd .nil) ?_)))
 obtain ⟨hg2,hh⟩:=grd_some hh
 refine ys (.iadr 1 (.t 6) (.t 9)) (some 10) (op_iadr (kd:=.i64) (c:=(eI .i64)) (xs:=x_c.Regs) len_eI dd kr kr hg2 ?_)
 refine ys (.load false 1 (.t 10)) (some 11) (op_loadb (c:=(eI .i64)) (xs:=x_c.Regs) (o:=Int.toNat (Int.tmod x_i.N (4:Int))*1) (i:=(Int.toNat (Int.tmod x_i.N (4:Int)))) (off:=0) (v:=ii z1) len_eI kr ltn ltn dd kr ?_)
 exact ytc [(64:Int)≠0] (sp 13 [(4,ii (Int.tmod z1 (64:Int)))]) [] 2 (.cons dd .nil) (Aw.ret (gvis hh))
end Go.Proofs.Ytbanbjdcgdmkaaa
