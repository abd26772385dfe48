/- Plain functions of the program, and that it hands back what they say. Made by program. -/
import Derived.Test.YtbanbjdcgdmkaaaWT
import Derived.Test.YtbanbjdcgdmkaaaProg
import Derived.Test.YtbanbjdcgdmkaaaWT5
import Derived.Test.YtbanbjdcgdmkaaaWD1
import Derived.Test.YtbanbjdcgdmkaaaWGA1
import Derived.Test.YtbanbjdcgdmkaaaWHE1
import Derived.Test.YtbanbjdcgdmkaaaWHO1
import Derived.Test.YtbanbjdcgdmkaaaWHV1
import Derived.Test.YtbanbjdcgdmkaaaWI1
import Derived.Test.YtbanbjdcgdmkaaaWJ1
import Derived.Test.YtbanbjdcgdmkaaaWK1
namespace Go.Proofs.Ytbanbjdcgdmkaaa
open Go.RowKit
set_option maxRecDepth 100000
set_option linter.all false
set_option maxHeartbeats 0
theorem low_laws_FnHostEmulate:LW 6 ⟨76,[(.tmp 2)],(.seq (.reg false (rg 6 0)) (.seq (.seq (.reg false (rg 6 1)) (.cond (.t 16) (.seq (.reg false (rg 6 2)) .ret) .skip)) (.seq (.reg false (rg 6 3)) (.seq (.reg false (rg 6 4)) (.seq (.reg false (rg 6 5)) (.seq (.seq (.reg false (rg 6 6)) (.cond (.t 45) (.seq (.reg false (rg 6 7)) .ret) .skip)) (.seq (.seq (.reg false (rg 6 8)) (.cond (.t 47) (.seq (.reg false (rg 6 9)) .ret) .skip)) (.seq (.reg false (rg 6 10)) (.seq (.reg false (rg 6 11)) (.seq (.reg false (rg 6 12)) .ret))))))))))⟩:=kr
noncomputable def F_laws_FnHostEmulate (x_code:List Int):Option Bool :=
 cond (decide ((1048576:Int)<(((List.length x_code):Nat):Int)))
  (some true)
  (Option.bind (F_spec_DrawHostEmulate x_code) fun v1 =>
  Option.bind (F_impl_HostEmulate v1.1 v1.2.1 v1.2.2) fun v2 =>
  Option.bind (F_spec_HostEmulate v1.1 v1.2.1 v1.2.2) fun v3 =>
  cond (!(v2.2 == v3.2))
   (some false)
   (Option.bind (F_laws_sameHost v2.1 v3.1) fun v4 =>
   cond (!v4)
    (some false)
    (cond (!v2.2)
     (Option.bind (F_laws_alive ) fun v5 =>
     some v5)
     (Option.bind (F_impl_HostView v1.1 v1.2.1) fun v6 =>
     Option.bind (F_impl_HostView v2.1 v1.2.1) fun v7 =>
     Option.bind (F_impl_HostOk v2.1) fun v8 =>
     cond v8
      (Option.bind (F_laws_sameViews v1.1 v2.1 v1.2.1) fun v9 =>
      cond v9
       (Option.bind (F_laws_sameInts v6.1.Mem v7.1.Mem) fun v10 =>
       some v10)
       (some false))
      (some false)))))
theorem laws_FnHostEmulate_fn {x_code:List Int} {R_:Bool} (hh:F_laws_FnHostEmulate x_code=some R_):Fn Try.prog 6 [bo (eI .u8) x_code] (.bool R_):=by
 let z1:=(0,bo (eI .u8) x_code); let z2:=(16,bb (decide ((1048576:Int)<(((List.length x_code):Nat):Int)))); let z3:=(2,bb false); let z4:=(3,pp 2); let z5:=(6,pp 6)
 unfold F_laws_FnHostEmulate at hh
 refine Fn.start low_laws_FnHostEmulate [0] (E:=sp 76 [z1]) kr (v:=bb R_) (Hr:=[]) (k:=0) kr (sy [0] [] (sp 76 [z1]) [] 0 (Aw.seq (sy [0,16] [] (sp 76 [z1,z2]) [] 0 ?_)))
 rcases cond_some hh with ⟨hb,hh⟩ | ⟨hb,hh⟩
 · exact cT hb (sy [2] [] (sp 76 [(2,bb true)]) [] 0 (Aw.ret (then_r (gvbs hh))))
 refine cF hb (Aw.xskip (fun _ _ _ hq=>then_m hq) (Aw.sreg [3,4,5] [0,1,2,3] (yj 1  (sp 76 [z1,z2,(18,bo (eI .u8) x_code)]) [] 0 ?_)))
 obtain ⟨v1,hv1,hh⟩:=bind_some hh
 let z6:EH:=(2,some (rB41 v1.1)); let z7:EH:=(3,some ⟨45,(C_45 v1.2.2)⟩); let z8:=(4,ii v1.2.1); let q1:Root:=(rO55 v1.1.Guests); let z9:=(1,some q1); let q2:Root:=(rI_3 v1.1.Words)
 refine ys (.call 28 [(.t 18)]) (some 19) (op_call (r:=.tup [.agg [.own 3 1 (List.length v1.1.Words) (fl (eI .i64) v1.1.Words),.own 55 17 (List.length v1.1.Guests) (fl O_55 v1.1.Guests)],ii v1.2.1,.agg (C_45 v1.2.2)]) (v:=.tup [.agg [sw 0 v1.1.Words,.sref 1 [] 0 (List.length v1.1.Guests) 17],ii v1.2.1,.agg (C_45 v1.2.2)]) (Hr:=[z9,(0,some q2)]) (n':=2) (spec_DrawHostEmulate_fn hv1) (clz_v (vs:=[bo (eI .u8) x_code]) kr (clz_c (clo_same (clean_bor (cleans_fl cl_eI))) clz_n)) nrr nrr kr ?_)
 let q3:Root:=⟨41,[sw 0 v1.1.Words,.sref 1 [] 0 (List.length v1.1.Guests) 17]⟩
 refine yt (sp 76 [z4,z8,(5,pp 3)]) [(0,some q2),z9,(2,some q3),z7] 4 (Aw.sreg [3,4,5,6,7] [0,1,2,3,4,5,6] (yu 3 [(24,.agg [sw 0 v1.1.Words,.sref 1 [] 0 (List.length v1.1.Guests) 17]),(25,ii v1.2.1),(26,.agg (C_45 v1.2.2))] [(0,some q2),z9,(2,some q3),z7] 4 ?_))
 obtain ⟨v2,hv2,hh⟩:=bind_some hh
 let z10:=(7,bb v2.2); let q4:Root:=(rO55 v2.1.Guests); let z11:=(5,some q4); let q5:Root:=(rI_3 v2.1.Words); let z12:=(4,some q5)
 refine ys (.call 29 [(.t 24),(.t 25),(.t 26)]) (some 27) (op_call (r:=.tup [.agg [.own 3 1 (List.length v2.1.Words) (fl (eI .i64) v2.1.Words),.own 55 17 (List.length v2.1.Guests) (fl O_55 v2.1.Guests)],bb v2.2]) (v:=.tup [.agg [sw 4 v2.1.Words,.sref 5 [] 0 (List.length v2.1.Guests) 17],bb v2.2]) (Hr:=[z11,z12]) (n':=6) (impl_HostEmulate_fn hv2) (clz_v (vs:=[.agg [sw 0 v1.1.Words,.sref 1 [] 0 (List.length v1.1.Guests) 17],ii v1.2.1,.agg (C_45 v1.2.2)]) kr (clz_c (clo_agg (clos_c (clo_own (c:=(eI .i64)) (xs:=v1.1.Words) (e:=3) eqn len_eI no_eI cl_eI kr) (clos_c (clo_flr (B:=B_55) (xs:=v1.1.Guests) (e:=55) oc_O_55 len_O_55 eqn kr) clos_n))) (cz1 (cz1 clz_n)))) nrr nrr kr ?_)
 let q6:Root:=⟨41,[sw 4 v2.1.Words,.sref 5 [] 0 (List.length v2.1.Guests) 17]⟩; let z13:=(6,some q6)
 refine yt (sp 76 [z4,z8,(5,pp 3),z5,z10]) [(0,some q2),z9,(2,some q3),z7,z12,z11,z13] 7 ?_
 let q7:Root:=⟨41,[bo (eI .i64) v1.1.Words,.sref 1 [] 0 (List.length v1.1.Guests) 17]⟩
 refine Aw.freeze 0 (cs:=(fl (eI .i64) v1.1.Words)) (e:=3) (env2:=sp 76 [z4,z8,(5,pp 3),z5,z10]) (H2:=[z9,(2,some q7),z7,z12,z11,z13]) kr (noOwn_fl no_eI) (frs_sp kr (fl_c (u:=pp 2) kr (.same _) (fl_c (u:=ii v1.2.1) kr (.same _) (fl_c (u:=pp 3) kr (.same _) (fl_c (u:=pp 6) kr (.same _) (fl_c (u:=bb v2.2) kr (.same _) fl_n)))))) (hf_c (t:=q1) rfl kr rfl frs_same (hf_c (t:=q3) rfl kr rfl (frs_c (fr_all len_eI eqn) (frs_c (.same _) frs_n)) (hf_c (t:=⟨45,(C_45 v1.2.2)⟩) rfl kr rfl (frs_c (.same _) (frs_c (.same _) (frs_c (.same _) frs_n))) (hf_c (t:=q5) rfl kr rfl frs_same (hf_c (t:=q4) rfl kr rfl frs_same (hf_c (t:=q6) rfl kr rfl (frs_c (.same _) (frs_c (.same _) frs_n)) hf_n)))))) (Aw.ent (Ent.freezeO (R:=1) (O:=O_55) (B:=B_55) (xs:=v1.1.Guests) (e:=55) (us2:=sp 76 [z4,z8,(5,pp 3),z5,z10]) (H2:=[z6,z7,z12,z11,z13]) kr th_O_55 sh_O_55 (frs_sp kr (fl_c (u:=pp 2) kr (.same _) (fl_c (u:=ii v1.2.1) kr (.same _) (fl_c (u:=pp 3) kr (.same _) (fl_c (u:=pp 6) kr (.same _) (fl_c (u:=bb v2.2) kr (.same _) fl_n)))))) (hf_c (t:=q7) rfl kr rfl (frs_c (.same _) (frs_c (fr_all len_B_55 eqn) frs_n)) (hf_c (t:=⟨45,(C_45 v1.2.2)⟩) rfl kr rfl (frs_c (.same _) (frs_c (.same _) (frs_c (.same _) frs_n))) (hf_c (t:=q5) rfl kr rfl frs_same (hf_c (t:=q4) rfl kr rfl frs_same (hf_c (t:=q6) rfl kr rfl (frs_c (.same _) (frs_c (.same _) frs_n)) hf_n)))))) (Aw.sreg [3,4,6,7,8,9] [2,4,5,6,7] (yj 3  (sp 76 [z4,z8,(5,pp 3),z5,z10,(31,.agg (B_41 v1.1)),(32,ii v1.2.1),(33,.agg (C_45 v1.2.2))]) [z6,z7,z12,z11,z13] 7 ?_)))
 obtain ⟨v3,hv3,hh⟩:=bind_some hh
 let z14:EH:=(7,some (rB41 v3.1))
 refine ys (.call 30 [(.t 31),(.t 32),(.t 33)]) (some 34) (op_callp (r:=.tup [.agg (B_41 v3.1),bb v3.2]) (v:=.tup [.agg (B_41 v3.1),bb v3.2]) (Hr:=[]) (n':=7) (spec_HostEmulate_fn hv3) (clz_v (vs:=[.agg (B_41 v1.1),ii v1.2.1,.agg (C_45 v1.2.2)]) kr (clz_c (clo_same (clean_agg (cl_B_41 _))) (cz1 (cz1 clz_n)))) nrr kr ?_)
 refine yt (sp 76 [z4,z8,z5,z10,(8,pp 7),(9,bb v3.2)]) [z6,z12,z11,z13,z14] 8 (Aw.seq (Aw.sreg [3,4,6,7,45] [2,4,5,6] (yj 4  (sp 76 [z4,z8,z5,z10,(8,pp 7),(9,bb v3.2),(37,bb v2.2),(38,bb v3.2),(39,bb (!(v2.2 == v3.2))),(40,bb (!(v2.2 == v3.2)))]) [z6,z12,z11,z13,z14] 8 ?_)))
 rcases cond_some hh with ⟨hb,hh⟩ | ⟨hb,hh⟩
 · exact yb 39 hb (yb 40 hb (yt (sp 76 [z4,z8,z5,z10,(45,bb true)]) [z6,z12,z11,z13] 8 (cT rfl (sy [2] [] (sp 76 [z3]) [] 8 (Aw.ret (then_r (gvbs hh)))))))
 refine yb 39 hb (yb 40 hb (yu 2 [(39,bb false),(40,bb false),(41,.agg [sw 4 v2.1.Words,.sref 5 [] 0 (List.length v2.1.Guests) 17]),(42,.agg (B_41 v3.1))] [z6,z12,z11,z13,z14] 8 ?_))
 obtain ⟨v4,hv4,hh⟩:=bind_some hh
 refine yg (.call 31 [(.t 41),(.t 42)]) (some 43) 40 false (op_call (r:=bb v4) (v:=bb v4) (Hr:=[]) (n':=8) (laws_sameHost_fn hv4) (clz_v (vs:=[.agg [sw 4 v2.1.Words,.sref 5 [] 0 (List.length v2.1.Guests) 17],.agg (B_41 v3.1)]) kr (clz_c (clo_agg (clos_c (clo_own (c:=(eI .i64)) (xs:=v2.1.Words) (e:=3) eqn len_eI no_eI cl_eI kr) (clos_c (clo_flr (B:=B_55) (xs:=v2.1.Guests) (e:=55) oc_O_55 len_O_55 eqn kr) clos_n))) (clz_c (clo_same (clean_agg (cl_B_41 _))) clz_n))) rfl rfl kr ?_)
 refine yt (sp 76 [z4,z8,z5,z10,(45,bb (!v4))]) [z6,z12,z11,z13] 8 ?_
 rcases cond_some hh with ⟨hb,hh⟩ | ⟨hb,hh⟩
 · exact cT hb (sy [2] [] (sp 76 [z3]) [] 8 (Aw.ret (then_r (gvbs hh))))
 refine cF hb (Aw.xskip (fun _ _ _ hq=>then_m hq) (Aw.seq (sy [3,4,6,47] [2,4,5,6] (sp 76 [z4,z8,z5,(47,bb (!v2.2))]) [z6,z12,z11,z13] 8 ?_)))
 rcases cond_some hh with ⟨hb,hh⟩ | ⟨hb,hh⟩
 · refine cT hb (Aw.sreg [2] [] ?_)
   obtain ⟨v5,hv5,hh⟩:=bind_some hh
   refine ys (.call 16 []) (some 48) (oc (laws_alive_fn hv5) ?_)
   exact yt (sp 76 [(2,bb v5)]) [] 8 (Aw.ret (then_r (gvbs hh)))
 refine cF hb (Aw.xskip (fun _ _ _ hq=>then_m hq) (Aw.sreg [3,4,6,10] [2,4,5,6,8,9,10,11,12] (yj 2  (sp 76 [z4,z8,z5,(47,bb (!v2.2)),(50,.agg (B_41 v1.1)),(51,ii v1.2.1)]) [z6,z12,z11,z13] 8 ?_)))
 obtain ⟨v6,hv6,hh⟩:=bind_some hh
 let q8:Root:=(rI_3 v6.1.Out); let z15:=(11,some q8); let q9:Root:=(rI_3 v6.1.In); let z16:=(10,some q9); let q10:Root:=(rI_3 v6.1.Mem); let z17:=(9,some q10); let q11:Root:=(rI_3 v6.1.C.Regs); let z18:=(8,some q11)
 refine ys (.call 32 [(.t 50),(.t 51)]) (some 52) (op_call (r:=.tup [.agg (.own 3 1 (List.length v6.1.C.Regs) (fl (eI .i64) v6.1.C.Regs)::ru25 v6.1.C [.own 3 1 (List.length v6.1.Mem) (fl (eI .i64) v6.1.Mem),.own 3 1 (List.length v6.1.In) (fl (eI .i64) v6.1.In),.own 3 1 (List.length v6.1.Out) (fl (eI .i64) v6.1.Out)]),bb v6.2]) (v:=.tup [.agg (sw 8 v6.1.C.Regs::ru25 v6.1.C [sw 9 v6.1.Mem,sw 10 v6.1.In,sw 11 v6.1.Out]),bb v6.2]) (Hr:=[z15,z16,z17,z18]) (n':=12) (impl_HostView_fn hv6) (clz_v (vs:=[.agg (B_41 v1.1),ii v1.2.1]) kr (clz_c (clo_same (clean_agg (cl_B_41 _))) (cz1 clz_n))) nrr nrr kr ?_)
 let q12:Root:=⟨27,(sw 8 v6.1.C.Regs::ru25 v6.1.C [sw 9 v6.1.Mem,sw 10 v6.1.In,sw 11 v6.1.Out])⟩; let z19:=(12,some q12)
 refine yt (sp 76 [z4,z8,z5,(10,pp 12)]) [z6,z12,z11,z13,z18,z17,z16,z15,z19] 13 (Aw.sreg [3,4,6,10,12] [2,4,5,6,8,9,10,11,12,13,14,15,16,17] (yu 2 [(56,.agg [sw 4 v2.1.Words,.sref 5 [] 0 (List.length v2.1.Guests) 17]),(57,ii v1.2.1)] [z6,z12,z11,z13,z18,z17,z16,z15,z19] 13 ?_))
 obtain ⟨v7,hv7,hh⟩:=bind_some hh
 let q13:Root:=(rI_3 v7.1.Out); let z20:=(16,some q13); let q14:Root:=(rI_3 v7.1.In); let z21:=(15,some q14); let q15:Root:=(rI_3 v7.1.Mem); let z22:=(14,some q15); let q16:Root:=(rI_3 v7.1.C.Regs); let z23:=(13,some q16)
 refine ys (.call 32 [(.t 56),(.t 57)]) (some 58) (op_call (r:=.tup [.agg (.own 3 1 (List.length v7.1.C.Regs) (fl (eI .i64) v7.1.C.Regs)::ru25 v7.1.C [.own 3 1 (List.length v7.1.Mem) (fl (eI .i64) v7.1.Mem),.own 3 1 (List.length v7.1.In) (fl (eI .i64) v7.1.In),.own 3 1 (List.length v7.1.Out) (fl (eI .i64) v7.1.Out)]),bb v7.2]) (v:=.tup [.agg (sw 13 v7.1.C.Regs::ru25 v7.1.C [sw 14 v7.1.Mem,sw 15 v7.1.In,sw 16 v7.1.Out]),bb v7.2]) (Hr:=[z20,z21,z22,z23]) (n':=17) (impl_HostView_fn hv7) (clz_v (vs:=[.agg [sw 4 v2.1.Words,.sref 5 [] 0 (List.length v2.1.Guests) 17],ii v1.2.1]) kr (clz_c (clo_agg (clos_c (clo_own (c:=(eI .i64)) (xs:=v2.1.Words) (e:=3) eqn len_eI no_eI cl_eI kr) (clos_c (clo_flr (B:=B_55) (xs:=v2.1.Guests) (e:=55) oc_O_55 len_O_55 eqn kr) clos_n))) (cz1 clz_n))) nrr nrr kr ?_)
 let q17:Root:=⟨27,(sw 13 v7.1.C.Regs::ru25 v7.1.C [sw 14 v7.1.Mem,sw 15 v7.1.In,sw 16 v7.1.Out])⟩; let z24:=(17,some q17)
 refine yt (sp 76 [z4,z8,z5,(10,pp 12),(12,pp 17)]) [z6,z12,z11,z13,z18,z17,z16,z15,z19,z23,z22,z21,z20,z24] 18 (Aw.sreg [2] [] (yu 1 [(61,.agg [sw 4 v2.1.Words,.sref 5 [] 0 (List.length v2.1.Guests) 17])] [z6,z12,z11,z13,z18,z17,z16,z15,z19,z23,z22,z21,z20,z24] 18 ?_))
 obtain ⟨v8,hv8,hh⟩:=bind_some hh
 refine ys (.call 33 [(.t 61)]) (some 62) (op_call (r:=bb v8) (v:=bb v8) (Hr:=[]) (n':=18) (impl_HostOk_fn hv8) (clz_v (vs:=[.agg [sw 4 v2.1.Words,.sref 5 [] 0 (List.length v2.1.Guests) 17]]) kr (clz_c (clo_agg (clos_c (clo_own (c:=(eI .i64)) (xs:=v2.1.Words) (e:=3) eqn len_eI no_eI cl_eI kr) (clos_c (clo_flr (B:=B_55) (xs:=v2.1.Guests) (e:=55) oc_O_55 len_O_55 eqn kr) clos_n))) clz_n)) rfl rfl kr ?_)
 refine yu 1 [(62,bb v8),(63,bb v8)] [z6,z12,z11,z13,z18,z17,z16,z15,z19,z23,z22,z21,z20,z24] 18 ?_
 rcases cond_sf hh with ⟨hb,hh⟩ | ⟨hb,hh⟩
 · exact yb 62 hb (yb 63 hb (yt (sp 76 [z3]) [] 18 (Aw.ret (gvbs hh))))
 refine yb 62 hb (yb 63 hb (yu 3 [(62,bb true),(63,bb true),(64,.agg (B_41 v1.1)),(65,.agg [sw 4 v2.1.Words,.sref 5 [] 0 (List.length v2.1.Guests) 17]),(66,ii v1.2.1)] [z6,z12,z11,z13,z18,z17,z16,z15,z19,z23,z22,z21,z20,z24] 18 ?_))
 obtain ⟨v9,hv9,hh⟩:=bind_some hh
 refine yg (.call 34 [(.t 64),(.t 65),(.t 66)]) (some 67) 63 true (op_call (r:=bb v9) (v:=bb v9) (Hr:=[]) (n':=18) (laws_sameViews_fn hv9) (clz_v (vs:=[.agg (B_41 v1.1),.agg [sw 4 v2.1.Words,.sref 5 [] 0 (List.length v2.1.Guests) 17],ii v1.2.1]) kr (clz_c (clo_same (clean_agg (cl_B_41 _))) (clz_c (clo_agg (clos_c (clo_own (c:=(eI .i64)) (xs:=v2.1.Words) (e:=3) eqn len_eI no_eI cl_eI kr) (clos_c (clo_flr (B:=B_55) (xs:=v2.1.Guests) (e:=55) oc_O_55 len_O_55 eqn kr) clos_n))) (cz1 clz_n)))) rfl rfl kr ?_)
 refine yu 2 [(67,bb v9),(68,bb v9),(69,bb v9)] [z6,z12,z11,z13,z18,z17,z16,z15,z19,z23,z22,z21,z20,z24] 18 ?_
 rcases cond_sf hh with ⟨hb,hh⟩ | ⟨hb,hh⟩
 · exact yb 67 hb (yb 68 hb (yb 69 hb (yt (sp 76 [z3]) [] 18 (Aw.ret (gvbs hh)))))
 refine yb 67 hb (yb 68 hb (yb 69 hb (yu 4 [(67,bb true),(68,bb true),(69,bb true),(70,.ptr 12 [] 13),(71,sw 9 v6.1.Mem),(72,.ptr 17 [] 13),(73,sw 14 v7.1.Mem)] [z6,z12,z11,z13,z18,z17,z16,z15,z19,z23,z22,z21,z20,z24] 18 ?_)))
 obtain ⟨v10,hv10,hh⟩:=bind_some hh
 refine yg (.call 17 [(.t 71),(.t 73)]) (some 74) 69 true (op_call (r:=bb v10) (v:=bb v10) (Hr:=[]) (n':=18) (laws_sameInts_fn hv10) (clz_v (vs:=[sw 9 v6.1.Mem,sw 14 v7.1.Mem]) kr (clz_c (clo_own (c:=(eI .i64)) (xs:=v6.1.Mem) (e:=3) eqn len_eI no_eI cl_eI kr) (clz_c (clo_own (c:=(eI .i64)) (xs:=v7.1.Mem) (e:=3) eqn len_eI no_eI cl_eI kr) clz_n))) rfl rfl kr ?_)
 exact yt (sp 76 [(2,bb v10)]) [] 18 (Aw.ret (gvbs hh))
end Go.Proofs.Ytbanbjdcgdmkaaa
