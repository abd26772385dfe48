/- Plain functions of the program, and that it hands back what they say. Made by program. -/
import Derived.Test.YtogfcdondojfeaaWTD
import Derived.Test.YtogfcdondojfeaaProg
import Derived.Test.YtogfcdondojfeaaWD1
namespace Go.Proofs.Ytogfcdondojfeaa
open Go.RowKit
set_option maxRecDepth 100000
set_option linter.all false
set_option maxHeartbeats 0
theorem low_spec_DrawFairTurns:LW 26 ⟨34,[(.tmp 2),(.tmp 3)],(.seq (.reg false (rg 26 0)) (.seq (.reg false (rg 26 1)) (.seq (.reg false (rg 26 2)) (.seq (.seq (.reg false (rg 26 3)) (.block 0 (.loop (.seq (.seq (.reg false (rg 26 4)) (.cond (.t 13) .skip (.exit 0))) (.seq (.block 1 (.reg false (rg 26 5))) (.reg false (rg 26 6))))))) (.seq (.reg false (rg 26 8)) .ret)))))⟩:=kr
noncomputable def F_spec_DrawFairTurns_j2  (s2:(List Int) × Int × (List Int)):Option ((List Int) × Int) :=
 Option.bind (F___spec_l20Rd__pick (Dl20Rd.mk s2.1 s2.2.1) (60:Int)) fun v3 =>
 Option.bind (F___spec_l20Rd__pick v3.1 (15:Int)) fun v4 =>
 some (s2.2.2,(w64 (v3.2+(w64 ((w64 (Int.tdiv v4.2 (14:Int)))*(145:Int))))))
noncomputable def F_spec_DrawFairTurns_l6  (s6:(List Int) × Int × (List Int) × Int):Option (LO ((List Int) × Int × (List Int) × Int) (JO ((List Int) × Int × (List Int)) ((List Int) × Int))) :=
 cond (decide ((0:Int)<s6.2.2.2))
  (Option.bind (F___spec_l20Rd__pick (Dl20Rd.mk s6.1 s6.2.1) (6:Int)) fun v7 =>
  Option.bind (F___spec_l20Rd__pick v7.1 (25:Int)) fun v8 =>
  grd ((List.length s6.2.2.1+List.length ([(w64 (v7.2+(w64 ((w64 (Int.tdiv v8.2 (24:Int)))*(9:Int)))))]:List Int))*8≤2 ^ 47∧List.length s6.2.2.1+List.length ([(w64 (v7.2+(w64 ((w64 (Int.tdiv v8.2 (24:Int)))*(9:Int)))))]:List Int)≤2 ^ 47) (some (.next (v8.1.b,v8.1.p,(s6.2.2.1 ++ ([(w64 (v7.2+(w64 ((w64 (Int.tdiv v8.2 (24:Int)))*(9:Int)))))]:List Int)),(w64 (s6.2.2.2 - (1:Int)))))))
  (some (.ret (.go (s6.1,s6.2.1,s6.2.2.1))))
noncomputable def F_spec_DrawFairTurns (x_code:List Int):Option ((List Int) × Int) :=
 Option.bind (F_spec_l20Open x_code) fun v1 =>
 Option.bind (Option.bind (F___spec_l20Rd__pick v1 (4:Int)) fun v5 =>
  Option.bind (iter (F_spec_DrawFairTurns_l6) (v5.1.b,v5.1.p,([]:List Int),v5.2)) LO.val) fun j2 =>
  JO.run j2 (F_spec_DrawFairTurns_j2)
theorem spec_DrawFairTurns_fn {x_code:List Int} {R_:(List Int) × Int} (hh:F_spec_DrawFairTurns x_code=some R_):Fn Try.prog 26 [bo (eI .u8) x_code] (.tup [.own 3 1 (List.length R_.1) (fl (eI .i64) R_.1),.int .i64 R_.2]):=by
 let z1:EH:=(1,some ⟨3,[]⟩); let z2:=(4,pp 0); let z3:EV:=(5,.sref 1 [] 0 0 1)
 unfold F_spec_DrawFairTurns at hh
 refine Fn.start low_spec_DrawFairTurns [0] (E:=sp 34 [(0,bo (eI .u8) x_code)]) kr (v:=.tup [sw 0 R_.1,ii R_.2]) (Hr:=[(0,some (rI_3 R_.1))]) (k:=1) kr (sy [0] [] (sp 34 [(0,bo (eI .u8) x_code)]) [] 0 (Aw.sreg [4] [0] (yu 1 [(7,bo (eI .u8) x_code)] [] 0 ?_)))
 obtain ⟨v1,hv1,hh⟩:=bind_some hh
 let z4:EH:=(0,some (rB79 v1))
 refine ys (.call 34 [(.t 7)]) (some 8) (cf (pp 0) [z4] 1 [] (spec_l20Open_fn hv1) [bo (eI .u8) x_code] rz hs_nil (ren_p dd rfl) (hq (rB79 v1) (rens_same (nr_B_79 _)) hs_nil) ?_)
 refine yt (sp 34 [z2]) [z4] 1 (sy [4,5] [0,1] (sp 34 [z2,z3]) [z4,z1] 2 ?_)
 obtain ⟨j2,hh,hk2⟩:=bind_some hh
 refine Aw.join (S:=(List Int) × Int × (List Int)) (fun s2=>sp 34 [(4,pp 0),(5,sw 1 s2.2.2)]) (fun s2=>[(0,some ⟨79,[bo (eI .u8) s2.1,ii s2.2.1]⟩),(1,some (rI_3 s2.2.2))]) 2 (fun s2=>F_spec_DrawFairTurns_j2 s2=some R_) ?_ ?_
 · intro s2 hh
   unfold F_spec_DrawFairTurns_j2 at hh
   refine Aw.sreg [2,3] [1] ?_
   let q1:Root:=⟨79,[bo (eI .u8) s2.1,ii s2.2.1]⟩; let q2:Root:=(rI_3 s2.2.2)
   refine yj 2  (sp 34 [z2,(5,sw 1 s2.2.2),(26,sw 1 s2.2.2),(27,pp 0)]) [(0,some q1),(1,some q2)] 2 ?_
   obtain ⟨v3,hv3,hh⟩:=bind_some hh
   refine ys (.call 48 [(.t 27),(.c (ii 60))]) (some 28) (cf (ii v3.2) [(0,some (rB79 v3.1))] 2 [0] (__spec_l20Rd__pick_fn hv3) [pp 0,ii 60] rz (hq q1 rz hs_nil) ren_i (hq (rB79 v3.1) (rens_same (nr_B_79 _)) hs_nil) ?_)
   refine yu 1 [(28,ii v3.2),(29,pp 0)] [(0,some (rB79 v3.1)),(0,none),(0,some q1),(1,some q2)] 2 ?_
   obtain ⟨v4,hv4,hh⟩:=bind_some hh
   refine ys (.call 48 [(.t 29),(.c (ii 15))]) (some 30) (cf (ii v4.2) [(0,some (rB79 v4.1))] 2 [0] (__spec_l20Rd__pick_fn hv4) [pp 0,ii 15] rz (hq (rB79 v3.1) (rens_same (nr_B_79 _)) hs_nil) ren_i (hq (rB79 v4.1) (rens_same (nr_B_79 _)) hs_nil) ?_)
   refine ytc [(14:Int)≠0] (sp 34 [(2,sw 1 s2.2.2),(3,ii (w64 (v3.2+(w64 ((w64 (Int.tdiv v4.2 (14:Int)))*(145:Int))))))]) [(1,some q2)] 2 (.cons dd .nil) (Aw.ret ?_)
   rw [some_some hh]
   exact gives (r':=.tup [sw 1 s2.2.2,ii (w64 (v3.2+(w64 ((w64 (Int.tdiv v4.2 (14:Int)))*(145:Int)))))]) kr (Ent.list [some 1] rfl rfl (Nat.zero_le _) (rens_1 (ren_tup rz)) (hn nr_eI hs_nil))
 intro Q2 hN2 hR2 hE2
 refine Aw.sreg [4,5,6] [0,1] (yj 1  (sp 34 [z2,z3,(10,pp 0)]) [z4,z1] 2 ?_)
 obtain ⟨v5,hv5,hh⟩:=bind_some hh
 refine ys (.call 48 [(.t 10),(.c (ii 4))]) (some 11) (cf (ii v5.2) [(0,some (rB79 v5.1))] 2 [0] (__spec_l20Rd__pick_fn hv5) [pp 0,ii 4] rz (hq (rB79 v1) (rens_same (nr_B_79 _)) hs_nil) ren_i (hq (rB79 v5.1) (rens_same (nr_B_79 _)) hs_nil) ?_)
 refine yt (sp 34 [z2,z3,(6,ii v5.2)]) [(0,some (rB79 v5.1)),z1] 2 (Aw.block ?_)
 obtain ⟨o6,hi6,hk6⟩:=bind_some hh
 refine Aw.iter (fun (s6:(List Int) × Int × (List Int) × Int)=>sp 34 [(4,pp 0),(5,sw 1 s6.2.2.1),(6,ii s6.2.2.2)]) (fun (s6:(List Int) × Int × (List Int) × Int)=>[(0,some ⟨79,[bo (eI .u8) s6.1,ii s6.2.1]⟩),(1,some (rI_3 s6.2.2.1))]) 2 hi6 (el [some 0,some 1] (rens_sp kr (rp 0 (rs (.sref 1 [] 0 0 1) (ri rl_n)))) (hq (rB79 v5.1) rz (hn nr_eI hs_nil))) ?_
 intro s6 u6 Q6 hh hN6 hX6 hR6
 let z5:=(13,bb (decide ((0:Int)<s6.2.2.2))); let z6:=(5,sw 1 s6.2.2.1); let z7:=(6,ii s6.2.2.2)
 unfold F_spec_DrawFairTurns_l6 at hh
 refine Aw.seq (Aw.sreg [4,5,6,13] [0,1] ?_)
 let q3:Root:=⟨79,[bo (eI .u8) s6.1,ii s6.2.1]⟩; let q4:Root:=(rI_3 s6.2.2.1)
 refine yt (sp 34 [z2,z6,z7,z5]) [(0,some q3),(1,some q4)] 2 ?_
 rcases cond_sf hh with ⟨hb,hh⟩ | ⟨hb,hh⟩
 · refine cF hb (Aw.exit (then_x (hX6 _ _ _ _ _ (some_some hh) ?_)))
   intro hout
   rw [hout] at hk6
   refine blk_x ?_
   obtain rfl:=some_some hk6
   exact hN2 (s6.1,s6.2.1,s6.2.2.1) _ _ _ hk2 (el [some 0,some 1] (rens_sp kr (rp 0 (rs (sw 1 s6.2.2.1) rl_n))) (hq q3 rz (hn nr_eI hs_nil)))
 refine cT hb (Aw.xskip (fun _ _ _ hq=>then_m hq) (Aw.seq (Aw.block (Aw.xreg [4,5,6] [0,3] (fun _ _ _ hq=>blk_m (then_m hq)) (yj 2  (sp 34 [z2,z6,z7,z5,(16,sw 1 s6.2.2.1),(17,pp 0)]) [(0,some q3),(1,some q4)] 2 ?_)))))
 obtain ⟨v7,hv7,hh⟩:=bind_some hh
 let z8:EH:=(0,some (rB79 v7.1))
 refine ys (.call 48 [(.t 17),(.c (ii 6))]) (some 18) (cf (ii v7.2) [z8] 2 [0] (__spec_l20Rd__pick_fn hv7) [pp 0,ii 6] rz (hq q3 rz hs_nil) ren_i (hq (rB79 v7.1) (rens_same (nr_B_79 _)) hs_nil) ?_)
 refine yu 1 [(18,ii v7.2),(19,pp 0)] [z8,(0,none),(0,some q3),(1,some q4)] 2 ?_
 obtain ⟨v8,hv8,hh⟩:=bind_some hh
 let z9:EH:=(0,some (rB79 v8.1)); let z10:EV:=(5,.sref 3 [] 0 (List.length (s6.2.2.1 ++ ([(w64 (v7.2+(w64 ((w64 (Int.tdiv v8.2 (24:Int)))*(9:Int)))))]:List Int))) 1)
 refine ys (.call 48 [(.t 19),(.c (ii 25))]) (some 20) (cf (ii v8.2) [z9] 2 [0] (__spec_l20Rd__pick_fn hv8) [pp 0,ii 25] rz (hq (rB79 v7.1) (rens_same (nr_B_79 _)) hs_nil) ren_i (hq (rB79 v8.1) (rens_same (nr_B_79 _)) hs_nil) ?_)
 refine yjc 4 [(24:Int)≠0] (sp 34 [z2,z6,z7,z5,(16,sw 1 s6.2.2.1),(17,pp 0),(18,ii v7.2),(19,pp 0),(20,ii v8.2),(21,ii (w64 (Int.tdiv v8.2 (24:Int)))),(22,ii (w64 ((w64 (Int.tdiv v8.2 (24:Int)))*(9:Int)))),(23,ii (w64 (v7.2+(w64 ((w64 (Int.tdiv v8.2 (24:Int)))*(9:Int)))))),(24,.sref 2 [] 0 1 1)]) [(2,some ⟨3,[ii (w64 (v7.2+(w64 ((w64 (Int.tdiv v8.2 (24:Int)))*(9:Int)))))]⟩),z9,(0,none),z8,(0,none),(0,some q3),(1,some q4)] 3 (.cons dd .nil) ?_
 obtain ⟨hg16,hh⟩:=grd_some hh
 refine ys (.app 3 1 8 [(ii 0)] (.t 16) (.t 24)) (some 25) (op_app (c:=(eI .i64)) (xs:=s6.2.2.1) (ys:=([(w64 (v7.2+(w64 ((w64 (Int.tdiv v8.2 (24:Int)))*(9:Int)))))]:List Int)) (r:=1) (k:=(List.length s6.2.2.1)) (π:=[]) eqn len_eI kr kr kr hg16 ?_)
 let q5:Root:=(rI_3 (s6.2.2.1 ++ ([(w64 (v7.2+(w64 ((w64 (Int.tdiv v8.2 (24:Int)))*(9:Int)))))]:List Int)))
 exact yt (sp 34 [z2,z10,z7]) [z9,(3,some q5)] 4 (Aw.oreg (ye (sp 34 [z2,z10,(6,ii (w64 (s6.2.2.2 - (1:Int)))),(14,ii s6.2.2.2),(15,ii (w64 (s6.2.2.2 - (1:Int))))]) [z9,(3,some q5)] 4 (hN6 (v8.1.b,v8.1.p,(s6.2.2.1 ++ ([(w64 (v7.2+(w64 ((w64 (Int.tdiv v8.2 (24:Int)))*(9:Int)))))]:List Int)),(w64 (s6.2.2.2 - (1:Int)))) _ _ _ (some_some hh) (el [some 0,some 3] (rens_sp kr (rp 0 (rs (.sref 3 [] 0 (List.length (s6.2.2.1 ++ ([(w64 (v7.2+(w64 ((w64 (Int.tdiv v8.2 (24:Int)))*(9:Int)))))]:List Int))) 1) (ri rl_n)))) (hq (rB79 v8.1) rz (hn nr_eI hs_nil))))))
noncomputable def g26:Sg tG:=⟨[.row 5],.two (.row 3) (.i .i64),F_spec_DrawFairTurns⟩
theorem s26:Sok 26 g26:=fun x_code R_ hh=>kc (spec_DrawFairTurns_fn (x_code:=x_code) hh)
end Go.Proofs.Ytogfcdondojfeaa
