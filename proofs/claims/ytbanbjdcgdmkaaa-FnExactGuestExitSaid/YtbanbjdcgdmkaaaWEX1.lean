/- Plain functions of the program, and that it hands back what they say. Made by program. -/
import Derived.Test.YtbanbjdcgdmkaaaWT
import Derived.Test.YtbanbjdcgdmkaaaProg
import Derived.Test.YtbanbjdcgdmkaaaWGX1
import Derived.Test.YtbanbjdcgdmkaaaWHT1
namespace Go.Proofs.Ytbanbjdcgdmkaaa
open Go.RowKit
set_option maxRecDepth 100000
set_option linter.all false
set_option maxHeartbeats 0
theorem low_laws_eqIns:LW 110 ⟨20,[(.tmp 4)],(.seq (.reg false (rg 110 0)) (.seq (.seq (.reg false (rg 110 1)) (.cond (.t 9) (.seq (.reg false (rg 110 2)) .ret) .skip)) (.seq (.seq (.reg false (rg 110 3)) (.cond (.t 14) (.seq (.reg false (rg 110 4)) .ret) .skip)) (.seq (.seq (.reg false (rg 110 5)) (.cond (.t 19) (.seq (.reg false (rg 110 6)) .ret) .skip)) (.seq (.reg false (rg 110 7)) .ret)))))⟩:=kr
noncomputable def F_laws_eqIns (x_a:DIns) (x_b:DIns):Option Bool :=
 cond (!decide (x_a.Op=x_b.Op))
  (some false)
  (cond (!decide (x_a.A=x_b.A))
   (some false)
   (cond (!decide (x_a.N=x_b.N))
    (some false)
    (some true)))
theorem laws_eqIns_fn {x_a:DIns} {x_b:DIns} {R_:Bool} (hh:F_laws_eqIns x_a x_b=some R_):Fn Try.prog 110 [.agg (C_45 x_a),.agg (C_45 x_b)] (.bool R_):=by
 let z1:EH:=(0,some ⟨45,(C_45 x_a)⟩); let z2:EH:=(1,some ⟨45,(C_45 x_b)⟩)
 unfold F_laws_eqIns at hh
 refine Fn.start low_laws_eqIns [0,1] (E:=sp 20 [(0,.agg (C_45 x_a)),(1,.agg (C_45 x_b))]) kr (v:=bb R_) (Hr:=[]) (k:=0) kr (sy [2,3] [0,1] (sp 20 [(2,pp 0),(3,pp 1)]) [z1,z2] 2 (Aw.seq (sy [2,3,9] [0,1] (sp 20 [(2,pp 0),(3,pp 1),(9,bb (!decide (x_a.Op=x_b.Op)))]) [z1,z2] 2 ?_)))
 rcases cond_some hh with ⟨hb,hh⟩ | ⟨hb,hh⟩
 · exact cT hb (sy [4] [] (sp 20 [(4,bb false)]) [] 2 (Aw.ret (then_r (gvbs hh))))
 refine cF hb (Aw.xskip (fun _ _ _ hq=>then_m hq) (Aw.seq (sy [2,3,14] [0,1] (sp 20 [(2,pp 0),(3,pp 1),(14,bb (!decide (x_a.A=x_b.A)))]) [z1,z2] 2 ?_)))
 rcases cond_some hh with ⟨hb,hh⟩ | ⟨hb,hh⟩
 · exact cT hb (sy [4] [] (sp 20 [(4,bb false)]) [] 2 (Aw.ret (then_r (gvbs hh))))
 refine cF hb (Aw.xskip (fun _ _ _ hq=>then_m hq) (Aw.seq (sy [19] [] (sp 20 [(19,bb (!decide (x_a.N=x_b.N)))]) [] 2 ?_)))
 rcases cond_some hh with ⟨hb,hh⟩ | ⟨hb,hh⟩
 · exact cT hb (sy [4] [] (sp 20 [(4,bb false)]) [] 2 (Aw.ret (then_r (gvbs hh))))
 exact cF hb (Aw.xskip (fun _ _ _ hq=>then_m hq) (sy [4] [] (sp 20 [(4,bb true)]) [] 2 (Aw.ret (gvbs hh))))
theorem low_laws_eqExit:LW 42 ⟨21,[(.tmp 4)],(.seq (.reg false (rg 42 0)) (.seq (.seq (.reg false (rg 42 1)) (.cond (.t 9) (.seq (.reg false (rg 42 2)) .ret) .skip)) (.seq (.seq (.reg false (rg 42 3)) (.cond (.t 14) (.seq (.reg false (rg 42 4)) .ret) .skip)) (.seq (.seq (.reg false (rg 42 5)) (.cond (.t 20) (.seq (.reg false (rg 42 6)) .ret) .skip)) (.seq (.reg false (rg 42 7)) .ret)))))⟩:=kr
noncomputable def F_laws_eqExit (x_a:DExit) (x_b:DExit):Option Bool :=
 cond (!decide (x_a.Why=x_b.Why))
  (some false)
  (cond (!decide (x_a.Page=x_b.Page))
   (some false)
   (Option.bind (F_laws_eqIns x_a.What x_b.What) fun v1 =>
   cond (!v1)
    (some false)
    (some true)))
theorem laws_eqExit_fn {x_a:DExit} {x_b:DExit} {R_:Bool} (hh:F_laws_eqExit x_a x_b=some R_):Fn Try.prog 42 [.agg [.int .i64 x_a.Why,.int .i64 x_a.Page,.int .i64 x_a.What.Op,.int .i64 x_a.What.A,.int .i64 x_a.What.N],.agg [.int .i64 x_b.Why,.int .i64 x_b.Page,.int .i64 x_b.What.Op,.int .i64 x_b.What.A,.int .i64 x_b.What.N]] (.bool R_):=by
 let z1:=(14,bb (!decide (x_a.Page=x_b.Page)))
 unfold F_laws_eqExit at hh
 refine Fn.start low_laws_eqExit [0,1] (E:=sp 21 [(0,.agg (C_47 x_a)),(1,.agg (C_47 x_b))]) kr (v:=bb R_) (Hr:=[]) (k:=0) kr (Aw.sreg [2,3] [0,1] ?_)
 let q1:Root:=⟨47,[ii x_a.Why,ii x_a.Page,ii x_a.What.Op,ii x_a.What.A,ii x_a.What.N]⟩; let q2:Root:=⟨47,[ii x_b.Why,ii x_b.Page,ii x_b.What.Op,ii x_b.What.A,ii x_b.What.N]⟩
 refine yt (sp 21 [(2,pp 0),(3,pp 1)]) [(0,some q1),(1,some q2)] 2 (Aw.seq (sy [2,3,9] [0,1] (sp 21 [(2,pp 0),(3,pp 1),(9,bb (!decide (x_a.Why=x_b.Why)))]) [(0,some q1),(1,some q2)] 2 ?_))
 rcases cond_some hh with ⟨hb,hh⟩ | ⟨hb,hh⟩
 · exact cT hb (sy [4] [] (sp 21 [(4,bb false)]) [] 2 (Aw.ret (then_r (gvbs hh))))
 refine cF hb (Aw.xskip (fun _ _ _ hq=>then_m hq) (Aw.seq (sy [2,3,14] [0,1] (sp 21 [(2,pp 0),(3,pp 1),z1]) [(0,some q1),(1,some q2)] 2 ?_)))
 rcases cond_some hh with ⟨hb,hh⟩ | ⟨hb,hh⟩
 · exact cT hb (sy [4] [] (sp 21 [(4,bb false)]) [] 2 (Aw.ret (then_r (gvbs hh))))
 refine cF hb (Aw.xskip (fun _ _ _ hq=>then_m hq) (Aw.seq (Aw.sreg [20] [] (yj 4  (sp 21 [(2,pp 0),(3,pp 1),z1,(15,.ptr 0 [] 2),(16,.agg (C_45 x_a.What)),(17,.ptr 1 [] 2),(18,.agg (C_45 x_b.What))]) [(0,some q1),(1,some q2)] 2 ?_))))
 obtain ⟨v1,hv1,hh⟩:=bind_some hh
 refine ys (.call 110 [(.t 16),(.t 18)]) (some 19) (oc (laws_eqIns_fn hv1) ?_)
 refine yt (sp 21 [(20,bb (!v1))]) [] 2 ?_
 rcases cond_some hh with ⟨hb,hh⟩ | ⟨hb,hh⟩
 · exact cT hb (sy [4] [] (sp 21 [(4,bb false)]) [] 2 (Aw.ret (then_r (gvbs hh))))
 exact cF hb (Aw.xskip (fun _ _ _ hq=>then_m hq) (sy [4] [] (sp 21 [(4,bb true)]) [] 2 (Aw.ret (gvbs hh))))
theorem low_laws_FnExactGuestExit:LW 9 ⟨32,[(.tmp 4)],(.seq (.reg false (rg 9 0)) (.seq (.reg false (rg 9 1)) (.seq (.reg false (rg 9 2)) (.seq (.seq (.reg false (rg 9 3)) (.cond (.t 13) (.seq (.reg false (rg 9 4)) .ret) .skip)) (.seq (.reg false (rg 9 5)) (.seq (.reg false (rg 9 6)) (.seq (.reg false (rg 9 7)) (.seq (.seq (.reg false (rg 9 8)) (.cond (.t 26) (.seq (.reg false (rg 9 9)) .ret) .skip)) (.seq (.seq (.regd (rg 9 10) (rg 9 11)) (.cond (.t 31) (.seq (.reg false (rg 9 12)) .ret) .skip)) (.seq (.reg false (rg 9 13)) .ret))))))))))⟩:=kr
noncomputable def F_laws_FnExactGuestExit (x_aH:DHost) (x_aG:Int):Option Bool :=
 Option.bind (F_laws_szHost x_aH (1048576:Int)) fun v1 =>
 cond (decide (v1<(0:Int)))
  (some true)
  (Option.bind (F_laws_toHost x_aH) fun v2 =>
  Option.bind (F_spec_GuestExit v2 x_aG) fun v3 =>
  Option.bind (F_laws_toHost x_aH) fun v4 =>
  Option.bind (F_impl_GuestExit v4 x_aG) fun v5 =>
  Option.bind (F_laws_eqExit v5 v3) fun v6 =>
  cond (!v6)
   (some false)
   (Option.bind (F_laws_toHost x_aH) fun v7 =>
   Option.bind (F_laws_eqHost v4 v7) fun v8 =>
   cond (!v8)
    (some false)
    (some true)))
theorem laws_FnExactGuestExit_fn {x_aH:DHost} {x_aG:Int} {R_:Bool} (hh:F_laws_FnExactGuestExit x_aH x_aG=some R_):Fn Try.prog 9 [.agg [bo (eI .i64) x_aH.Words,bo B_157 x_aH.Guests],.int .i64 x_aG] (.bool R_):=by
 let z1:=(1,ii x_aG); let z2:=(2,pp 0); let z3:EV:=(28,.agg [bo (eI .i64) x_aH.Words,bo B_157 x_aH.Guests]); let z4:=(7,pp 6)
 unfold F_laws_FnExactGuestExit at hh
 refine Fn.start low_laws_FnExactGuestExit [0,1] (E:=sp 32 [(0,.agg [bo (eI .i64) x_aH.Words,bo B_157 x_aH.Guests]),z1]) kr (v:=bb R_) (Hr:=[]) (k:=0) kr (Aw.sreg [1,2] [0] ?_)
 let q1:Root:=⟨75,[bo (eI .i64) x_aH.Words,bo B_157 x_aH.Guests]⟩; let z5:=(0,some q1)
 refine yt (sp 32 [z1,z2]) [z5] 1 (sy [1,2,5] [0] (sp 32 [z1,z2,(5,ii 1048576)]) [z5] 1 (Aw.sreg [1,2,5] [0] (yu 2 [(9,.agg [bo (eI .i64) x_aH.Words,bo B_157 x_aH.Guests]),(10,ii 1048576)] [z5] 1 ?_)))
 obtain ⟨v1,hv1,hh⟩:=bind_some hh
 let z6:=(13,bb (decide (v1<(0:Int))))
 refine ys (.call 40 [(.t 9),(.t 10)]) (some 11) (op_call (r:=ii v1) (v:=ii v1) (Hr:=[]) (n':=1) (laws_szHost_fn hv1) (clz_v (vs:=[.agg [bo (eI .i64) x_aH.Words,bo B_157 x_aH.Guests],ii 1048576]) kr (clz_c (clo_agg cz) (cz1 clz_n))) rfl rfl kr ?_)
 refine yt (sp 32 [z1,z2,(5,ii v1)]) [z5] 1 (Aw.seq (sy [1,2,13] [0] (sp 32 [z1,z2,z6]) [z5] 1 ?_))
 rcases cond_some hh with ⟨hb,hh⟩ | ⟨hb,hh⟩
 · exact cT hb (sy [4] [] (sp 32 [(4,bb true)]) [] 1 (Aw.ret (then_r (gvbs hh))))
 refine cF hb (Aw.xskip (fun _ _ _ hq=>then_m hq) (Aw.sreg [1,2,6] [0,3] (yj 1  (sp 32 [z1,z2,z6,(14,.agg [bo (eI .i64) x_aH.Words,bo B_157 x_aH.Guests])]) [z5] 1 ?_)))
 obtain ⟨v2,hv2,hh⟩:=bind_some hh
 let q2:Root:=(rO55 v2.Guests); let q3:Root:=(rI_3 v2.Words)
 refine ys (.call 41 [(.t 14)]) (some 15) (op_call (r:=.agg [.own 3 1 (List.length v2.Words) (fl (eI .i64) v2.Words),.own 55 17 (List.length v2.Guests) (fl O_55 v2.Guests)]) (v:=.agg [sw 1 v2.Words,.sref 2 [] 0 (List.length v2.Guests) 17]) (Hr:=[(2,some q2),(1,some q3)]) (n':=3) (laws_toHost_fn hv2) (clz_v (vs:=[.agg [bo (eI .i64) x_aH.Words,bo B_157 x_aH.Guests]]) kr (clz_c (clo_agg cz) clz_n)) nrr nrr kr ?_)
 refine yu 1 [(15,.agg [sw 1 v2.Words,.sref 2 [] 0 (List.length v2.Guests) 17]),(16,ii x_aG)] [(2,some q2),(1,some q3),z5] 3 ?_
 obtain ⟨v3,hv3,hh⟩:=bind_some hh
 let z7:EH:=(3,some ⟨47,(C_47 v3)⟩)
 refine ys (.call 24 [(.t 15),(.t 16)]) (some 17) (op_call (r:=.agg (C_47 v3)) (v:=.agg (C_47 v3)) (Hr:=[]) (n':=3) (spec_GuestExit_fn hv3) (clz_v (vs:=[.agg [sw 1 v2.Words,.sref 2 [] 0 (List.length v2.Guests) 17],ii x_aG]) kr (clz_c (clo_agg (clos_c (clo_own (c:=(eI .i64)) (xs:=v2.Words) (e:=3) eqn len_eI no_eI cl_eI kr) (clos_c (clo_flr (B:=B_55) (xs:=v2.Guests) (e:=55) oc_O_55 len_O_55 eqn kr) clos_n))) (cz1 clz_n))) rfl rfl kr ?_)
 refine yt (sp 32 [z1,z2,(6,pp 3)]) [z5,z7] 4 (Aw.sreg [1,2,6,7] [0,3,4,5,6] (yu 1 [(18,.agg [bo (eI .i64) x_aH.Words,bo B_157 x_aH.Guests])] [z5,z7] 4 ?_))
 obtain ⟨v4,hv4,hh⟩:=bind_some hh
 let z8:EV:=(27,.agg [sw 4 v4.Words,.sref 5 [] 0 (List.length v4.Guests) 17]); let q4:Root:=(rO55 v4.Guests); let z9:=(5,some q4); let q5:Root:=(rI_3 v4.Words); let z10:=(4,some q5)
 refine ys (.call 41 [(.t 18)]) (some 19) (op_call (r:=.agg [.own 3 1 (List.length v4.Words) (fl (eI .i64) v4.Words),.own 55 17 (List.length v4.Guests) (fl O_55 v4.Guests)]) (v:=.agg [sw 4 v4.Words,.sref 5 [] 0 (List.length v4.Guests) 17]) (Hr:=[z9,z10]) (n':=6) (laws_toHost_fn hv4) (clz_v (vs:=[.agg [bo (eI .i64) x_aH.Words,bo B_157 x_aH.Guests]]) kr (clz_c (clo_agg cz) clz_n)) nrr nrr kr ?_)
 let q6:Root:=⟨41,[sw 4 v4.Words,.sref 5 [] 0 (List.length v4.Guests) 17]⟩; let z11:=(6,some q6)
 refine yt (sp 32 [z1,z2,(6,pp 3),z4]) [z5,z7,z10,z9,z11] 7 (Aw.sreg [2,6,7,8] [0,3,4,5,6,7] (yu 2 [(20,.agg [sw 4 v4.Words,.sref 5 [] 0 (List.length v4.Guests) 17]),(21,ii x_aG)] [z5,z7,z10,z9,z11] 7 ?_))
 obtain ⟨v5,hv5,hh⟩:=bind_some hh
 refine ys (.call 23 [(.t 20),(.t 21)]) (some 22) (op_call (r:=.agg (C_47 v5)) (v:=.agg (C_47 v5)) (Hr:=[]) (n':=7) (impl_GuestExit_fn hv5) (clz_v (vs:=[.agg [sw 4 v4.Words,.sref 5 [] 0 (List.length v4.Guests) 17],ii x_aG]) kr (clz_c (clo_agg (clos_c (clo_own (c:=(eI .i64)) (xs:=v4.Words) (e:=3) eqn len_eI no_eI cl_eI kr) (clos_c (clo_flr (B:=B_55) (xs:=v4.Guests) (e:=55) oc_O_55 len_O_55 eqn kr) clos_n))) (cz1 clz_n))) rfl rfl kr ?_)
 refine yt (sp 32 [z2,(6,pp 3),z4,(8,pp 7)]) [z5,z7,z10,z9,z11,(7,some ⟨47,(C_47 v5)⟩)] 8 (Aw.seq (Aw.sreg [2,7,26] [0,4,5,6] (yj 2  (sp 32 [z2,(6,pp 3),z4,(8,pp 7),(23,.agg (C_47 v5)),(24,.agg (C_47 v3))]) [z5,z7,z10,z9,z11,(7,some ⟨47,(C_47 v5)⟩)] 8 ?_)))
 obtain ⟨v6,hv6,hh⟩:=bind_some hh
 refine ys (.call 42 [(.t 23),(.t 24)]) (some 25) (oc (laws_eqExit_fn hv6) ?_)
 refine yt (sp 32 [z2,z4,(26,bb (!v6))]) [z5,z10,z9,z11] 8 ?_
 rcases cond_some hh with ⟨hb,hh⟩ | ⟨hb,hh⟩
 · exact cT hb (sy [4] [] (sp 32 [(4,bb false)]) [] 8 (Aw.ret (then_r (gvbs hh))))
 refine cF hb (Aw.xskip (fun _ _ _ hq=>then_m hq) (Aw.seq (Aw.sregd [31] [] [] kr (dj 2 (sp 32 [z2,z4,(26,bb (!v6)),z8,z3]) [z5,z10,z9,z11] 8 ?_))))
 obtain ⟨v7,hv7,hh⟩:=bind_some hh
 let q7:Root:=(rO55 v7.Guests); let q8:Root:=(rI_3 v7.Words)
 refine ds (.call 41 [(.t 28)]) (some 29) (ydo_n rfl (op_call (r:=.agg [.own 3 1 (List.length v7.Words) (fl (eI .i64) v7.Words),.own 55 17 (List.length v7.Guests) (fl O_55 v7.Guests)]) (v:=.agg [sw 8 v7.Words,.sref 9 [] 0 (List.length v7.Guests) 17]) (Hr:=[(9,some q7),(8,some q8)]) (n':=10) (laws_toHost_fn hv7) (clz_v (vs:=[.agg [bo (eI .i64) x_aH.Words,bo B_157 x_aH.Guests]]) kr (clz_c (clo_agg cz) clz_n)) nrr nrr kr ⟨⟨agr_name (n:=8) (n0:=8) (r:=.agg [.own 3 1 (List.length v7.Words) (fl (eI .i64) v7.Words),.own 55 17 (List.length v7.Guests) (fl O_55 v7.Guests)]) (v:=.agg [sw 8 v7.Words,.sref 9 [] 0 (List.length v7.Guests) 17]) (Hr:=[(9,some q7),(8,some q8)]) (n':=10) kr dd,Hld.un ?_⟩⟩))
 refine dt (sp 32 [z2,z4,(26,bb (!v6)),z8,z3,(29,.agg [sw 8 v7.Words,.sref 9 [] 0 (List.length v7.Guests) 17])]) [(9,some q7),(8,some q8),z5,z10,z9,z11] 10 ?_
 obtain ⟨v8,hv8,hh⟩:=bind_some hh
 refine ys (.call 43 [(.t 27),(.t 29)]) (some 30) (op_call (r:=bb v8) (v:=bb v8) (Hr:=[]) (n':=10) (laws_eqHost_fn hv8) (clz_v (vs:=[.agg [sw 4 v4.Words,.sref 5 [] 0 (List.length v4.Guests) 17],.agg [sw 8 v7.Words,.sref 9 [] 0 (List.length v7.Guests) 17]]) kr (clz_c (clo_agg (clos_c (clo_own (c:=(eI .i64)) (xs:=v4.Words) (e:=3) eqn len_eI no_eI cl_eI kr) (clos_c (clo_flr (B:=B_55) (xs:=v4.Guests) (e:=55) oc_O_55 len_O_55 eqn kr) clos_n))) (clz_c (clo_agg (clos_c (clo_own (c:=(eI .i64)) (xs:=v7.Words) (e:=3) eqn len_eI no_eI cl_eI kr) (clos_c (clo_flr (B:=B_55) (xs:=v7.Guests) (e:=55) oc_O_55 len_O_55 eqn kr) clos_n))) clz_n))) rfl rfl kr ?_)
 refine yt (sp 32 [(31,bb (!v8))]) [] 10 ?_
 rcases cond_some hh with ⟨hb,hh⟩ | ⟨hb,hh⟩
 · exact cT hb (sy [4] [] (sp 32 [(4,bb false)]) [] 10 (Aw.ret (then_r (gvbs hh))))
 exact cF hb (Aw.xskip (fun _ _ _ hq=>then_m hq) (sy [4] [] (sp 32 [(4,bb true)]) [] 10 (Aw.ret (gvbs hh))))
end Go.Proofs.Ytbanbjdcgdmkaaa
