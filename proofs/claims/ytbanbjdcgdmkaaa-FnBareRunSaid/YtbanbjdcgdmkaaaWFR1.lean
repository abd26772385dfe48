/- Plain functions of the program, and that it hands back what they say. Made by program. -/
import Derived.Test.YtbanbjdcgdmkaaaWT
import Derived.Test.YtbanbjdcgdmkaaaProg
import Derived.Test.YtbanbjdcgdmkaaaWBR1
import Derived.Test.YtbanbjdcgdmkaaaWBS1
import Derived.Test.YtbanbjdcgdmkaaaWD1
import Derived.Test.YtbanbjdcgdmkaaaWGB1
import Derived.Test.YtbanbjdcgdmkaaaWI1
import Derived.Test.YtbanbjdcgdmkaaaWO1
namespace Go.Proofs.Ytbanbjdcgdmkaaa
open Go.RowKit
set_option maxRecDepth 100000
set_option linter.all false
set_option maxHeartbeats 0
theorem low_laws_FnBareRun:LW 4 ⟨64,[(.tmp 2)],(.seq (.reg false (rg 4 0)) (.seq (.seq (.reg false (rg 4 1)) (.cond (.t 9) (.seq (.reg false (rg 4 2)) .ret) .skip)) (.seq (.reg false (rg 4 3)) (.seq (.reg false (rg 4 4)) (.seq (.seq (.regd (rg 4 5) (rg 4 6)) (.cond (.t 23) (.seq (.reg false (rg 4 7)) .ret) .skip)) (.seq (.seq (.reg false (rg 4 8)) (.cond (.t 30) (.seq (.reg false (rg 4 9)) .ret) .skip)) (.seq (.reg false (rg 4 10)) (.seq (.regd (rg 4 11) (rg 4 12)) .ret))))))))⟩:=kr
noncomputable def F_laws_FnBareRun (x_code:List Int):Option Bool :=
 cond (decide ((1048576:Int)<(((List.length x_code):Nat):Int)))
  (some true)
  (Option.bind (F_spec_DrawBareRun x_code) fun v1 =>
  Option.bind (F_impl_BareRun v1.1 v1.2) fun v2 =>
  Option.bind (F_spec_BareRun v1.1 v1.2) fun v3 =>
  Option.bind (F_laws_sameBare v2 v3) fun v4 =>
  cond (!v4)
   (some false)
   (Option.bind (F_impl_BareOk v1.1) fun v5 =>
   cond (!v5)
    (cond (decide ((((List.length v2.Mem):Nat):Int)=(0:Int)))
     (Option.bind (F_laws_alive ) fun v6 =>
     some v6)
     (some false))
    (cond (decide (v1.2<(0:Int)))
     (cond (decide ((((List.length v2.Mem):Nat):Int)=(0:Int)))
      (Option.bind (F_laws_alive ) fun v7 =>
      some v7)
      (some false))
     (Option.bind (F_impl_BareRun v1.1 (w64 (Int.tdiv v1.2 (2:Int)))) fun v8 =>
     Option.bind (F_impl_BareRun v8 (w64 (v1.2 - (w64 (Int.tdiv v1.2 (2:Int)))))) fun v9 =>
     Option.bind (F_laws_sameBare v9 v2) fun v10 =>
     cond v10
      (cond (!v2.C.Stopped)
       (Option.bind (F_laws_alive ) fun v11 =>
       some v11)
       (Option.bind (F_impl_BareStep v2) fun v12 =>
       Option.bind (F_laws_sameBare v12 v2) fun v13 =>
       cond v13
        (Option.bind (F_laws_alive ) fun v14 =>
        some v14)
        (some false)))
      (some false)))))
theorem laws_FnBareRun_fn {x_code:List Int} {R_:Bool} (hh:F_laws_FnBareRun x_code=some R_):Fn Try.prog 4 [bo (eI .u8) x_code] (.bool R_):=by
 let z1:=(0,bo (eI .u8) x_code); let z2:=(2,bb false); let z3:=(3,pp 4); let z4:=(48,bb true); let z5:=(49,bb true); let z6:=(5,pp 9); let z7:=(50,pp 9); let z8:EV:=(51,.ptr 9 [] 12); let z9:=(9,bb (decide ((1048576:Int)<(((List.length x_code):Nat):Int))))
 unfold F_laws_FnBareRun at hh
 refine Fn.start low_laws_FnBareRun [0] (E:=sp 64 [z1]) kr (v:=bb R_) (Hr:=[]) (k:=0) kr (sy [0] [] (sp 64 [z1]) [] 0 (Aw.seq (sy [0,9] [] (sp 64 [z1,z9]) [] 0 ?_)))
 rcases cond_some hh with ⟨hb,hh⟩ | ⟨hb,hh⟩
 · exact cT hb (sy [2] [] (sp 64 [(2,bb true)]) [] 0 (Aw.ret (then_r (gvbs hh))))
 refine cF hb (Aw.xskip (fun _ _ _ hq=>then_m hq) (Aw.sreg [3,4] [0,1,2,3,4] (yj 1  (sp 64 [z1,z9,(11,bo (eI .u8) x_code)]) [] 0 ?_)))
 obtain ⟨v1,hv1,hh⟩:=bind_some hh
 let z10:=(4,ii v1.2); let z11:EH:=(4,some (rB27 v1.1)); let z12:EV:=(40,.agg (B_27 v1.1)); let z13:=(41,ii (w64 (Int.tdiv v1.2 (2:Int)))); let z14:=(43,ii v1.2); let z15:=(44,ii (w64 (Int.tdiv v1.2 (2:Int)))); let z16:=(45,ii (w64 (v1.2 - (w64 (Int.tdiv v1.2 (2:Int)))))); let z17:=(6,ii (w64 (Int.tdiv v1.2 (2:Int)))); let q1:Root:=(rI_3 v1.1.Out); let z18:=(3,some q1); let q2:Root:=(rI_3 v1.1.In); let z19:=(2,some q2); let q3:Root:=(rI_3 v1.1.Mem); let z20:=(1,some q3); let q4:Root:=(rI_3 v1.1.C.Regs)
 refine ys (.call 19 [(.t 11)]) (some 12) (op_call (r:=.tup [.agg (.own 3 1 (List.length v1.1.C.Regs) (fl (eI .i64) v1.1.C.Regs)::ru25 v1.1.C [.own 3 1 (List.length v1.1.Mem) (fl (eI .i64) v1.1.Mem),.own 3 1 (List.length v1.1.In) (fl (eI .i64) v1.1.In),.own 3 1 (List.length v1.1.Out) (fl (eI .i64) v1.1.Out)]),ii v1.2]) (v:=.tup [.agg (sw 0 v1.1.C.Regs::ru25 v1.1.C [sw 1 v1.1.Mem,sw 2 v1.1.In,sw 3 v1.1.Out]),ii v1.2]) (Hr:=[z18,z19,z20,(0,some q4)]) (n':=4) (spec_DrawBareRun_fn hv1) (clz_v (vs:=[bo (eI .u8) x_code]) kr (clz_c (clo_same (clean_bor (cleans_fl cl_eI))) clz_n)) nrr nrr kr ?_)
 let q5:Root:=⟨27,(sw 0 v1.1.C.Regs::ru25 v1.1.C [sw 1 v1.1.Mem,sw 2 v1.1.In,sw 3 v1.1.Out])⟩
 refine yt (sp 64 [z3,z10]) [(0,some q4),z20,z19,z18,(4,some q5)] 5 (Aw.sreg [3,4,5] [0,1,2,3,4,5,6,7,8,9] (yu 2 [(15,.agg (sw 0 v1.1.C.Regs::ru25 v1.1.C [sw 1 v1.1.Mem,sw 2 v1.1.In,sw 3 v1.1.Out])),(16,ii v1.2)] [(0,some q4),z20,z19,z18,(4,some q5)] 5 ?_))
 obtain ⟨v2,hv2,hh⟩:=bind_some hh
 let z21:EV:=(18,.agg (sw 5 v2.C.Regs::ru25 v2.C [sw 6 v2.Mem,sw 7 v2.In,sw 8 v2.Out])); let z22:=(33,ii (((List.length v2.Mem):Nat):Int)); let z23:=(34,bb (decide ((((List.length v2.Mem):Nat):Int)=(0:Int)))); let z24:=(35,bb (decide ((((List.length v2.Mem):Nat):Int)=(0:Int)))); let z25:EV:=(47,.agg (sw 5 v2.C.Regs::ru25 v2.C [sw 6 v2.Mem,sw 7 v2.In,sw 8 v2.Out])); let z26:=(52,bb v2.C.Stopped); let z27:EV:=(55,.agg (sw 5 v2.C.Regs::ru25 v2.C [sw 6 v2.Mem,sw 7 v2.In,sw 8 v2.Out])); let z28:EV:=(57,.agg (sw 5 v2.C.Regs::ru25 v2.C [sw 6 v2.Mem,sw 7 v2.In,sw 8 v2.Out])); let q6:Root:=(rI_3 v2.Out); let z29:=(8,some q6); let q7:Root:=(rI_3 v2.In); let z30:=(7,some q7); let q8:Root:=(rI_3 v2.Mem); let z31:=(6,some q8); let q9:Root:=(rI_3 v2.C.Regs); let z32:=(5,some q9)
 refine ys (.call 20 [(.t 15),(.t 16)]) (some 17) (op_call (r:=.agg (.own 3 1 (List.length v2.C.Regs) (fl (eI .i64) v2.C.Regs)::ru25 v2.C [.own 3 1 (List.length v2.Mem) (fl (eI .i64) v2.Mem),.own 3 1 (List.length v2.In) (fl (eI .i64) v2.In),.own 3 1 (List.length v2.Out) (fl (eI .i64) v2.Out)])) (v:=.agg (sw 5 v2.C.Regs::ru25 v2.C [sw 6 v2.Mem,sw 7 v2.In,sw 8 v2.Out])) (Hr:=[z29,z30,z31,z32]) (n':=9) (impl_BareRun_fn hv2) (clz_v (vs:=[.agg (sw 0 v1.1.C.Regs::ru25 v1.1.C [sw 1 v1.1.Mem,sw 2 v1.1.In,sw 3 v1.1.Out]),ii v1.2]) kr (clz_c (clo_agg (clos_c (clo_own (c:=(eI .i64)) (xs:=v1.1.C.Regs) (e:=3) eqn len_eI no_eI cl_eI kr) (cs1 (cs1 (cs1 (cs1 (cs1 (cs1 (cs1 (cs1 (cs1 (cs1 (cs1 (cs1 (clos_c (clo_own (c:=(eI .i64)) (xs:=v1.1.Mem) (e:=3) eqn len_eI no_eI cl_eI kr) (clos_c (clo_own (c:=(eI .i64)) (xs:=v1.1.In) (e:=3) eqn len_eI no_eI cl_eI kr) (clos_c (clo_own (c:=(eI .i64)) (xs:=v1.1.Out) (e:=3) eqn len_eI no_eI cl_eI kr) clos_n))))))))))))))))) (cz1 clz_n))) nrr nrr kr ?_)
 let q10:Root:=⟨27,(sw 5 v2.C.Regs::ru25 v2.C [sw 6 v2.Mem,sw 7 v2.In,sw 8 v2.Out])⟩; let z33:=(9,some q10)
 refine yt (sp 64 [z3,z10,z6]) [(0,some q4),z20,z19,z18,(4,some q5),z32,z31,z30,z29,z33] 10 (Aw.seq ?_)
 let q11:Root:=⟨27,(bo (eI .i64) v1.1.C.Regs::ru25 v1.1.C [sw 1 v1.1.Mem,sw 2 v1.1.In,sw 3 v1.1.Out])⟩
 refine Aw.freeze 0 (cs:=(fl (eI .i64) v1.1.C.Regs)) (e:=3) (env2:=sp 64 [z3,z10,z6]) (H2:=[z20,z19,z18,(4,some q11),z32,z31,z30,z29,z33]) kr (noOwn_fl no_eI) (frs_sp kr (fl_c (u:=pp 4) kr (.same _) (fl_c (u:=ii v1.2) kr (.same _) (fl_c (u:=pp 9) kr (.same _) fl_n)))) (hf_c (t:=q3) rfl kr rfl frs_same (hf_c (t:=q2) rfl kr rfl frs_same (hf_c (t:=q1) rfl kr rfl frs_same (hf_c (t:=q5) rfl kr rfl (frs_c (fr_all len_eI eqn) (frs_c (.same _) (frs_c (.same _) (frs_c (.same _) (frs_c (.same _) (frs_c (.same _) (frs_c (.same _) (frs_c (.same _) (frs_c (.same _) (frs_c (.same _) (frs_c (.same _) (frs_c (.same _) (frs_c (.same _) (frs_c (.same _) (frs_c (.same _) (frs_c (.same _) frs_n)))))))))))))))) (hf_c (t:=q9) rfl kr rfl frs_same (hf_c (t:=q8) rfl kr rfl frs_same (hf_c (t:=q7) rfl kr rfl frs_same (hf_c (t:=q6) rfl kr rfl frs_same (hf_c (t:=q10) rfl kr rfl (frs_c (.same _) (frs_c (.same _) (frs_c (.same _) (frs_c (.same _) (frs_c (.same _) (frs_c (.same _) (frs_c (.same _) (frs_c (.same _) (frs_c (.same _) (frs_c (.same _) (frs_c (.same _) (frs_c (.same _) (frs_c (.same _) (frs_c (.same _) (frs_c (.same _) (frs_c (.same _) frs_n)))))))))))))))) hf_n))))))))) ?_
 let q12:Root:=⟨27,(bo (eI .i64) v1.1.C.Regs::ru25 v1.1.C [bo (eI .i64) v1.1.Mem,sw 2 v1.1.In,sw 3 v1.1.Out])⟩
 refine Aw.freeze 1 (cs:=(fl (eI .i64) v1.1.Mem)) (e:=3) (env2:=sp 64 [z3,z10,z6]) (H2:=[z19,z18,(4,some q12),z32,z31,z30,z29,z33]) kr (noOwn_fl no_eI) (frs_sp kr (fl_c (u:=pp 4) kr (.same _) (fl_c (u:=ii v1.2) kr (.same _) (fl_c (u:=pp 9) kr (.same _) fl_n)))) (hf_c (t:=q2) rfl kr rfl frs_same (hf_c (t:=q1) rfl kr rfl frs_same (hf_c (t:=q11) rfl kr rfl (frs_c (.same _) (frs_c (.same _) (frs_c (.same _) (frs_c (.same _) (frs_c (.same _) (frs_c (.same _) (frs_c (.same _) (frs_c (.same _) (frs_c (.same _) (frs_c (.same _) (frs_c (.same _) (frs_c (.same _) (frs_c (.same _) (frs_c (fr_all len_eI eqn) (frs_c (.same _) (frs_c (.same _) frs_n)))))))))))))))) (hf_c (t:=q9) rfl kr rfl frs_same (hf_c (t:=q8) rfl kr rfl frs_same (hf_c (t:=q7) rfl kr rfl frs_same (hf_c (t:=q6) rfl kr rfl frs_same (hf_c (t:=q10) rfl kr rfl (frs_c (.same _) (frs_c (.same _) (frs_c (.same _) (frs_c (.same _) (frs_c (.same _) (frs_c (.same _) (frs_c (.same _) (frs_c (.same _) (frs_c (.same _) (frs_c (.same _) (frs_c (.same _) (frs_c (.same _) (frs_c (.same _) (frs_c (.same _) (frs_c (.same _) (frs_c (.same _) frs_n)))))))))))))))) hf_n)))))))) ?_
 let q13:Root:=⟨27,(bo (eI .i64) v1.1.C.Regs::ru25 v1.1.C [bo (eI .i64) v1.1.Mem,bo (eI .i64) v1.1.In,sw 3 v1.1.Out])⟩
 refine Aw.freeze 2 (cs:=(fl (eI .i64) v1.1.In)) (e:=3) (env2:=sp 64 [z3,z10,z6]) (H2:=[z18,(4,some q13),z32,z31,z30,z29,z33]) kr (noOwn_fl no_eI) (frs_sp kr (fl_c (u:=pp 4) kr (.same _) (fl_c (u:=ii v1.2) kr (.same _) (fl_c (u:=pp 9) kr (.same _) fl_n)))) (hf_c (t:=q1) rfl kr rfl frs_same (hf_c (t:=q12) rfl kr rfl (frs_c (.same _) (frs_c (.same _) (frs_c (.same _) (frs_c (.same _) (frs_c (.same _) (frs_c (.same _) (frs_c (.same _) (frs_c (.same _) (frs_c (.same _) (frs_c (.same _) (frs_c (.same _) (frs_c (.same _) (frs_c (.same _) (frs_c (.same _) (frs_c (fr_all len_eI eqn) (frs_c (.same _) frs_n)))))))))))))))) (hf_c (t:=q9) rfl kr rfl frs_same (hf_c (t:=q8) rfl kr rfl frs_same (hf_c (t:=q7) rfl kr rfl frs_same (hf_c (t:=q6) rfl kr rfl frs_same (hf_c (t:=q10) rfl kr rfl (frs_c (.same _) (frs_c (.same _) (frs_c (.same _) (frs_c (.same _) (frs_c (.same _) (frs_c (.same _) (frs_c (.same _) (frs_c (.same _) (frs_c (.same _) (frs_c (.same _) (frs_c (.same _) (frs_c (.same _) (frs_c (.same _) (frs_c (.same _) (frs_c (.same _) (frs_c (.same _) frs_n)))))))))))))))) hf_n))))))) (Aw.freeze 3 (cs:=(fl (eI .i64) v1.1.Out)) (e:=3) (env2:=sp 64 [z3,z10,z6]) (H2:=[z11,z32,z31,z30,z29,z33]) kr (noOwn_fl no_eI) (frs_sp kr (fl_c (u:=pp 4) kr (.same _) (fl_c (u:=ii v1.2) kr (.same _) (fl_c (u:=pp 9) kr (.same _) fl_n)))) (hf_c (t:=q13) rfl kr rfl (frs_c (.same _) (frs_c (.same _) (frs_c (.same _) (frs_c (.same _) (frs_c (.same _) (frs_c (.same _) (frs_c (.same _) (frs_c (.same _) (frs_c (.same _) (frs_c (.same _) (frs_c (.same _) (frs_c (.same _) (frs_c (.same _) (frs_c (.same _) (frs_c (.same _) (frs_c (fr_all len_eI eqn) frs_n)))))))))))))))) (hf_c (t:=q9) rfl kr rfl frs_same (hf_c (t:=q8) rfl kr rfl frs_same (hf_c (t:=q7) rfl kr rfl frs_same (hf_c (t:=q6) rfl kr rfl frs_same (hf_c (t:=q10) rfl kr rfl (frs_c (.same _) (frs_c (.same _) (frs_c (.same _) (frs_c (.same _) (frs_c (.same _) (frs_c (.same _) (frs_c (.same _) (frs_c (.same _) (frs_c (.same _) (frs_c (.same _) (frs_c (.same _) (frs_c (.same _) (frs_c (.same _) (frs_c (.same _) (frs_c (.same _) (frs_c (.same _) frs_n)))))))))))))))) hf_n)))))) (Aw.sregd [3,4,5,23] [4,5,6,7,8,9] [] kr (dj 3 (sp 64 [z3,z10,z6,z21,(19,.agg (B_27 v1.1)),(20,ii v1.2)]) [z11,z32,z31,z30,z29,z33] 10 ?_)))
 obtain ⟨v3,hv3,hh⟩:=bind_some hh
 refine ds (.call 21 [(.t 19),(.t 20)]) (some 21) (ydo_n rfl (op_callp (r:=.agg (B_27 v3)) (v:=.agg (B_27 v3)) (Hr:=[]) (n':=10) (spec_BareRun_fn hv3) (clz_v (vs:=[.agg (B_27 v1.1),ii v1.2]) kr (clz_c (clo_same (clean_agg (cl_B_27 _))) (cz1 clz_n))) nrr kr ⟨⟨agr_name (n:=10) (n0:=10) (r:=.agg (B_27 v3)) (v:=.agg (B_27 v3)) (Hr:=[]) (n':=10) kr dd,Hld.un ?_⟩⟩))
 refine dt (sp 64 [z3,z10,z6,z21,(19,.agg (B_27 v1.1)),(20,ii v1.2),(21,.agg (B_27 v3))]) [z11,z32,z31,z30,z29,z33] 10 ?_
 obtain ⟨v4,hv4,hh⟩:=bind_some hh
 refine ys (.call 13 [(.t 18),(.t 21)]) (some 22) (op_call (r:=bb v4) (v:=bb v4) (Hr:=[]) (n':=10) (laws_sameBare_fn hv4) (clz_v (vs:=[.agg (sw 5 v2.C.Regs::ru25 v2.C [sw 6 v2.Mem,sw 7 v2.In,sw 8 v2.Out]),.agg (B_27 v3)]) kr (clz_c (clo_agg (clos_c (clo_own (c:=(eI .i64)) (xs:=v2.C.Regs) (e:=3) eqn len_eI no_eI cl_eI kr) (cs1 (cs1 (cs1 (cs1 (cs1 (cs1 (cs1 (cs1 (cs1 (cs1 (cs1 (cs1 (clos_c (clo_own (c:=(eI .i64)) (xs:=v2.Mem) (e:=3) eqn len_eI no_eI cl_eI kr) (clos_c (clo_own (c:=(eI .i64)) (xs:=v2.In) (e:=3) eqn len_eI no_eI cl_eI kr) (clos_c (clo_own (c:=(eI .i64)) (xs:=v2.Out) (e:=3) eqn len_eI no_eI cl_eI kr) clos_n))))))))))))))))) (clz_c (clo_same (clean_agg (cl_B_27 _))) clz_n))) rfl rfl kr ?_)
 refine yt (sp 64 [z3,z10,z6,(23,bb (!v4))]) [z11,z32,z31,z30,z29,z33] 10 ?_
 rcases cond_some hh with ⟨hb,hh⟩ | ⟨hb,hh⟩
 · exact cT hb (sy [2] [] (sp 64 [z2]) [] 10 (Aw.ret (then_r (gvbs hh))))
 refine cF hb (Aw.xskip (fun _ _ _ hq=>then_m hq) (Aw.seq (Aw.sreg [3,4,5,30] [4,5,6,7,8,9] (yj 1  (sp 64 [z3,z10,z6,(23,bb (!v4)),(24,.agg (B_27 v1.1))]) [z11,z32,z31,z30,z29,z33] 10 ?_))))
 obtain ⟨v5,hv5,hh⟩:=bind_some hh
 refine ys (.call 15 [(.t 24)]) (some 25) (op_call (r:=bb v5) (v:=bb v5) (Hr:=[]) (n':=10) (impl_BareOk_fn hv5) (clz_v (vs:=[.agg (B_27 v1.1)]) kr (clz_c (clo_same (clean_agg (cl_B_27 _))) clz_n)) rfl rfl kr ?_)
 refine yu 2 [(25,bb v5),(26,bb (!v5)),(27,bb (!v5))] [z11,z32,z31,z30,z29,z33] 10 ?_
 rcases cond_some hh with ⟨hb,hh⟩ | ⟨hb,hh⟩
 · refine yb 26 hb (yb 27 hb (yt (sp 64 [z3,z10,z6,(30,bb true)]) [z11,z32,z31,z30,z29,z33] 10 (cT rfl (Aw.sreg [2] [] (yu 5 [(31,.ptr 9 [] 13),(32,sw 6 v2.Mem),z22,z23,z24] [z11,z32,z31,z30,z29,z33] 10 ?_)))))
   rcases cond_sf hh with ⟨hb,hh⟩ | ⟨hb,hh⟩
   · exact yb 34 hb (yb 35 hb (yt (sp 64 [z2]) [] 10 (Aw.ret (then_r (gvbs hh)))))
   refine yb 34 hb (yb 35 hb ?_)
   obtain ⟨v6,hv6,hh⟩:=bind_some hh
   refine yg (.call 16 []) (some 36) 35 true (oc (laws_alive_fn hv6) ?_)
   exact yt (sp 64 [(2,bb v6)]) [] 10 (Aw.ret (then_r (gvbs hh)))
 refine yb 26 hb (yb 27 hb (yt (sp 64 [z3,z10,z6,(30,bb (decide (v1.2<(0:Int))))]) [z11,z32,z31,z30,z29,z33] 10 ?_))
 rcases cond_some hh with ⟨hb,hh⟩ | ⟨hb,hh⟩
 · refine cT hb (Aw.sreg [2] [] (yu 5 [(31,.ptr 9 [] 13),(32,sw 6 v2.Mem),z22,z23,z24] [z11,z32,z31,z30,z29,z33] 10 ?_))
   rcases cond_sf hh with ⟨hb,hh⟩ | ⟨hb,hh⟩
   · exact yb 34 hb (yb 35 hb (yt (sp 64 [z2]) [] 10 (Aw.ret (then_r (gvbs hh)))))
   refine yb 34 hb (yb 35 hb ?_)
   obtain ⟨v7,hv7,hh⟩:=bind_some hh
   refine yg (.call 16 []) (some 36) 35 true (oc (laws_alive_fn hv7) ?_)
   exact yt (sp 64 [(2,bb v7)]) [] 10 (Aw.ret (then_r (gvbs hh)))
 refine cF hb (Aw.xskip (fun _ _ _ hq=>then_m hq) (Aw.sreg [3,4,5,6] [4,5,6,7,8,9] (ytc [(2:Int)≠0] (sp 64 [z3,z10,z6,z17]) [z11,z32,z31,z30,z29,z33] 10 (.cons dd .nil) (Aw.sregd [2] [] [] kr (dj 2 (sp 64 [z3,z10,z6,z17,z12,z13]) [z11,z32,z31,z30,z29,z33] 10 ?_)))))
 obtain ⟨v8,hv8,hh⟩:=bind_some hh
 let z34:EV:=(42,.agg (sw 10 v8.C.Regs::ru25 v8.C [sw 11 v8.Mem,sw 12 v8.In,sw 13 v8.Out])); let q14:Root:=(rI_3 v8.Out); let z35:=(13,some q14); let q15:Root:=(rI_3 v8.In); let z36:=(12,some q15); let q16:Root:=(rI_3 v8.Mem); let z37:=(11,some q16); let q17:Root:=(rI_3 v8.C.Regs); let z38:=(10,some q17)
 refine ds (.call 20 [(.t 40),(.t 41)]) (some 42) (ydo_n rfl (op_call (r:=.agg (.own 3 1 (List.length v8.C.Regs) (fl (eI .i64) v8.C.Regs)::ru25 v8.C [.own 3 1 (List.length v8.Mem) (fl (eI .i64) v8.Mem),.own 3 1 (List.length v8.In) (fl (eI .i64) v8.In),.own 3 1 (List.length v8.Out) (fl (eI .i64) v8.Out)])) (v:=.agg (sw 10 v8.C.Regs::ru25 v8.C [sw 11 v8.Mem,sw 12 v8.In,sw 13 v8.Out])) (Hr:=[z35,z36,z37,z38]) (n':=14) (impl_BareRun_fn hv8) (clz_v (vs:=[.agg (B_27 v1.1),ii (w64 (Int.tdiv v1.2 (2:Int)))]) kr (clz_c (clo_same (clean_agg (cl_B_27 _))) (cz1 clz_n))) nrr nrr kr ⟨⟨agr_name (n:=10) (n0:=10) (r:=.agg (.own 3 1 (List.length v8.C.Regs) (fl (eI .i64) v8.C.Regs)::ru25 v8.C [.own 3 1 (List.length v8.Mem) (fl (eI .i64) v8.Mem),.own 3 1 (List.length v8.In) (fl (eI .i64) v8.In),.own 3 1 (List.length v8.Out) (fl (eI .i64) v8.Out)])) (v:=.agg (sw 10 v8.C.Regs::ru25 v8.C [sw 11 v8.Mem,sw 12 v8.In,sw 13 v8.Out])) (Hr:=[z35,z36,z37,z38]) (n':=14) kr dd,Hld.un ?_⟩⟩))
 refine dj 3 (sp 64 [z3,z10,z6,z17,z12,z13,z34,z14,z15,z16]) [z35,z36,z37,z38,z11,z32,z31,z30,z29,z33] 14 ?_
 obtain ⟨v9,hv9,hh⟩:=bind_some hh
 let z39:EV:=(46,.agg (sw 14 v9.C.Regs::ru25 v9.C [sw 15 v9.Mem,sw 16 v9.In,sw 17 v9.Out])); let q18:Root:=(rI_3 v9.Out); let z40:=(17,some q18); let q19:Root:=(rI_3 v9.In); let z41:=(16,some q19); let q20:Root:=(rI_3 v9.Mem); let z42:=(15,some q20); let q21:Root:=(rI_3 v9.C.Regs); let z43:=(14,some q21)
 refine ds (.call 20 [(.t 42),(.t 45)]) (some 46) (ydo_n rfl (op_call (r:=.agg (.own 3 1 (List.length v9.C.Regs) (fl (eI .i64) v9.C.Regs)::ru25 v9.C [.own 3 1 (List.length v9.Mem) (fl (eI .i64) v9.Mem),.own 3 1 (List.length v9.In) (fl (eI .i64) v9.In),.own 3 1 (List.length v9.Out) (fl (eI .i64) v9.Out)])) (v:=.agg (sw 14 v9.C.Regs::ru25 v9.C [sw 15 v9.Mem,sw 16 v9.In,sw 17 v9.Out])) (Hr:=[z40,z41,z42,z43]) (n':=18) (impl_BareRun_fn hv9) (clz_v (vs:=[.agg (sw 10 v8.C.Regs::ru25 v8.C [sw 11 v8.Mem,sw 12 v8.In,sw 13 v8.Out]),ii (w64 (v1.2 - (w64 (Int.tdiv v1.2 (2:Int)))))]) kr (clz_c (clo_agg (clos_c (clo_own (c:=(eI .i64)) (xs:=v8.C.Regs) (e:=3) eqn len_eI no_eI cl_eI kr) (cs1 (cs1 (cs1 (cs1 (cs1 (cs1 (cs1 (cs1 (cs1 (cs1 (cs1 (cs1 (clos_c (clo_own (c:=(eI .i64)) (xs:=v8.Mem) (e:=3) eqn len_eI no_eI cl_eI kr) (clos_c (clo_own (c:=(eI .i64)) (xs:=v8.In) (e:=3) eqn len_eI no_eI cl_eI kr) (clos_c (clo_own (c:=(eI .i64)) (xs:=v8.Out) (e:=3) eqn len_eI no_eI cl_eI kr) clos_n))))))))))))))))) (cz1 clz_n))) nrr nrr kr ⟨⟨agr_name (n:=14) (n0:=10) (r:=.agg (.own 3 1 (List.length v9.C.Regs) (fl (eI .i64) v9.C.Regs)::ru25 v9.C [.own 3 1 (List.length v9.Mem) (fl (eI .i64) v9.Mem),.own 3 1 (List.length v9.In) (fl (eI .i64) v9.In),.own 3 1 (List.length v9.Out) (fl (eI .i64) v9.Out)])) (v:=.agg (sw 14 v9.C.Regs::ru25 v9.C [sw 15 v9.Mem,sw 16 v9.In,sw 17 v9.Out])) (Hr:=[z40,z41,z42,z43]) (n':=18) kr dd,Hld.un ?_⟩⟩))
 refine dj 1 (sp 64 [z3,z10,z6,z17,z12,z13,z34,z14,z15,z16,z39,z25]) [z40,z41,z42,z43,z35,z36,z37,z38,z11,z32,z31,z30,z29,z33] 18 ?_
 obtain ⟨v10,hv10,hh⟩:=bind_some hh
 refine ds (.call 13 [(.t 46),(.t 47)]) (some 48) (ydo_n rfl (op_call (r:=bb v10) (v:=bb v10) (Hr:=[]) (n':=18) (laws_sameBare_fn hv10) (clz_v (vs:=[.agg (sw 14 v9.C.Regs::ru25 v9.C [sw 15 v9.Mem,sw 16 v9.In,sw 17 v9.Out]),.agg (sw 5 v2.C.Regs::ru25 v2.C [sw 6 v2.Mem,sw 7 v2.In,sw 8 v2.Out])]) kr (clz_c (clo_agg (clos_c (clo_own (c:=(eI .i64)) (xs:=v9.C.Regs) (e:=3) eqn len_eI no_eI cl_eI kr) (cs1 (cs1 (cs1 (cs1 (cs1 (cs1 (cs1 (cs1 (cs1 (cs1 (cs1 (cs1 (clos_c (clo_own (c:=(eI .i64)) (xs:=v9.Mem) (e:=3) eqn len_eI no_eI cl_eI kr) (clos_c (clo_own (c:=(eI .i64)) (xs:=v9.In) (e:=3) eqn len_eI no_eI cl_eI kr) (clos_c (clo_own (c:=(eI .i64)) (xs:=v9.Out) (e:=3) eqn len_eI no_eI cl_eI kr) clos_n))))))))))))))))) (clz_c (clo_agg (clos_c (clo_own (c:=(eI .i64)) (xs:=v2.C.Regs) (e:=3) eqn len_eI no_eI cl_eI kr) (cs1 (cs1 (cs1 (cs1 (cs1 (cs1 (cs1 (cs1 (cs1 (cs1 (cs1 (cs1 (clos_c (clo_own (c:=(eI .i64)) (xs:=v2.Mem) (e:=3) eqn len_eI no_eI cl_eI kr) (clos_c (clo_own (c:=(eI .i64)) (xs:=v2.In) (e:=3) eqn len_eI no_eI cl_eI kr) (clos_c (clo_own (c:=(eI .i64)) (xs:=v2.Out) (e:=3) eqn len_eI no_eI cl_eI kr) clos_n))))))))))))))))) clz_n))) rfl rfl kr ⟨⟨agr_name (n:=18) (n0:=10) (r:=bb v10) (v:=bb v10) (Hr:=[]) (n':=18) kr dd,Hld.un ?_⟩⟩))
 refine dj 1 (sp 64 [z3,z10,z6,z17,z12,z13,z34,z14,z15,z16,z39,z25,(48,bb v10),(49,bb v10)]) [z40,z41,z42,z43,z35,z36,z37,z38,z11,z32,z31,z30,z29,z33] 18 ?_
 rcases cond_sf hh with ⟨hb,hh⟩ | ⟨hb,hh⟩
 · exact dbs (t:=48) hb kr (dbs (t:=49) hb kr (dt (sp 64 [z3,z10,z6,z17,z12,z13,z34,z14,z15,z16,z39,z25,(48,bb false),(49,bb false),(50,.und),(51,.und),(52,.und),(53,.und),(54,.und),(55,.und),(56,.und),(57,.und)]) [z40,z41,z42,z43,z35,z36,z37,z38,z11,z32,z31,z30,z29,z33] 18 (yt (sp 64 [z2]) [] 18 (Aw.ret (gvbs hh)))))
 refine dbs (t:=48) hb kr (dbs (t:=49) hb kr (dj 5 (sp 64 [z3,z10,z6,z17,z12,z13,z34,z14,z15,z16,z39,z25,z4,z5,z7,z8,z26,(53,bb (!v2.C.Stopped)),(54,bb (!v2.C.Stopped))]) [z40,z41,z42,z43,z35,z36,z37,z38,z11,z32,z31,z30,z29,z33] 18 ?_))
 rcases cond_some hh with ⟨hb,hh⟩ | ⟨hb,hh⟩
 · refine dbs (t:=53) hb kr (dbs (t:=54) hb kr (dt (sp 64 [z3,z10,z6,z17,z12,z13,z34,z14,z15,z16,z39,z25,z4,z5,z7,z8,z26,(53,bb true),(54,bb true),(55,.und),(56,.und),(57,.und)]) [z40,z41,z42,z43,z35,z36,z37,z38,z11,z32,z31,z30,z29,z33] 18 (yj 4  (sp 64 [z3,z10,z6,z17,z12,z13,z34,z14,z15,z16,z39,z25,z4,z5,z7,z8,z26,(53,bb true),(54,bb true),(55,.und),(56,.und),(57,.und),(58,.und),(59,bb true),(60,bb true),(61,bb true)]) [z40,z41,z42,z43,z35,z36,z37,z38,z11,z32,z31,z30,z29,z33] 18 ?_)))
   obtain ⟨v11,hv11,hh⟩:=bind_some hh
   refine yg (.call 16 []) (some 62) 61 true (oc (laws_alive_fn hv11) ?_)
   exact yt (sp 64 [(2,bb v11)]) [] 18 (Aw.ret (gvbs hh))
 refine dbs (t:=53) hb kr (dbs (t:=54) hb kr (dj 1 (sp 64 [z3,z10,z6,z17,z12,z13,z34,z14,z15,z16,z39,z25,z4,z5,z7,z8,z26,(53,bb false),(54,bb false),z27]) [z40,z41,z42,z43,z35,z36,z37,z38,z11,z32,z31,z30,z29,z33] 18 ?_))
 obtain ⟨v12,hv12,hh⟩:=bind_some hh
 let z44:EV:=(56,.agg (sw 18 v12.C.Regs::ru25 v12.C [sw 19 v12.Mem,sw 20 v12.In,sw 21 v12.Out])); let q22:Root:=(rI_3 v12.Out); let z45:=(21,some q22); let q23:Root:=(rI_3 v12.In); let z46:=(20,some q23); let q24:Root:=(rI_3 v12.Mem); let z47:=(19,some q24); let q25:Root:=(rI_3 v12.C.Regs); let z48:=(18,some q25)
 refine dsg (op:=(.call 12 [(.t 55)])) (d:=(some 56)) (t:=54) (want:=false) (os:=(List.drop 17 (rg 4 11))) kr kr rfl (ydo_n rfl (op_call (r:=.agg (.own 3 1 (List.length v12.C.Regs) (fl (eI .i64) v12.C.Regs)::ru25 v12.C [.own 3 1 (List.length v12.Mem) (fl (eI .i64) v12.Mem),.own 3 1 (List.length v12.In) (fl (eI .i64) v12.In),.own 3 1 (List.length v12.Out) (fl (eI .i64) v12.Out)])) (v:=.agg (sw 18 v12.C.Regs::ru25 v12.C [sw 19 v12.Mem,sw 20 v12.In,sw 21 v12.Out])) (Hr:=[z45,z46,z47,z48]) (n':=22) (impl_BareStep_fn hv12) (clz_v (vs:=[.agg (sw 5 v2.C.Regs::ru25 v2.C [sw 6 v2.Mem,sw 7 v2.In,sw 8 v2.Out])]) kr (clz_c (clo_agg (clos_c (clo_own (c:=(eI .i64)) (xs:=v2.C.Regs) (e:=3) eqn len_eI no_eI cl_eI kr) (cs1 (cs1 (cs1 (cs1 (cs1 (cs1 (cs1 (cs1 (cs1 (cs1 (cs1 (cs1 (clos_c (clo_own (c:=(eI .i64)) (xs:=v2.Mem) (e:=3) eqn len_eI no_eI cl_eI kr) (clos_c (clo_own (c:=(eI .i64)) (xs:=v2.In) (e:=3) eqn len_eI no_eI cl_eI kr) (clos_c (clo_own (c:=(eI .i64)) (xs:=v2.Out) (e:=3) eqn len_eI no_eI cl_eI kr) clos_n))))))))))))))))) clz_n)) nrr nrr kr ⟨⟨agr_name (n:=18) (n0:=10) (r:=.agg (.own 3 1 (List.length v12.C.Regs) (fl (eI .i64) v12.C.Regs)::ru25 v12.C [.own 3 1 (List.length v12.Mem) (fl (eI .i64) v12.Mem),.own 3 1 (List.length v12.In) (fl (eI .i64) v12.In),.own 3 1 (List.length v12.Out) (fl (eI .i64) v12.Out)])) (v:=.agg (sw 18 v12.C.Regs::ru25 v12.C [sw 19 v12.Mem,sw 20 v12.In,sw 21 v12.Out])) (Hr:=[z45,z46,z47,z48]) (n':=22) kr dd,Hld.un ?_⟩⟩))
 refine dt (sp 64 [z3,z10,z6,z17,z12,z13,z34,z14,z15,z16,z39,z25,z4,z5,z7,z8,z26,(53,bb false),(54,bb false),z27,z44,z28]) [z45,z46,z47,z48,z40,z41,z42,z43,z35,z36,z37,z38,z11,z32,z31,z30,z29,z33] 22 ?_
 obtain ⟨v13,hv13,hh⟩:=bind_some hh
 refine yg (.call 13 [(.t 56),(.t 57)]) (some 58) 54 false (op_call (r:=bb v13) (v:=bb v13) (Hr:=[]) (n':=22) (laws_sameBare_fn hv13) (clz_v (vs:=[.agg (sw 18 v12.C.Regs::ru25 v12.C [sw 19 v12.Mem,sw 20 v12.In,sw 21 v12.Out]),.agg (sw 5 v2.C.Regs::ru25 v2.C [sw 6 v2.Mem,sw 7 v2.In,sw 8 v2.Out])]) kr (clz_c (clo_agg (clos_c (clo_own (c:=(eI .i64)) (xs:=v12.C.Regs) (e:=3) eqn len_eI no_eI cl_eI kr) (cs1 (cs1 (cs1 (cs1 (cs1 (cs1 (cs1 (cs1 (cs1 (cs1 (cs1 (cs1 (clos_c (clo_own (c:=(eI .i64)) (xs:=v12.Mem) (e:=3) eqn len_eI no_eI cl_eI kr) (clos_c (clo_own (c:=(eI .i64)) (xs:=v12.In) (e:=3) eqn len_eI no_eI cl_eI kr) (clos_c (clo_own (c:=(eI .i64)) (xs:=v12.Out) (e:=3) eqn len_eI no_eI cl_eI kr) clos_n))))))))))))))))) (clz_c (clo_agg (clos_c (clo_own (c:=(eI .i64)) (xs:=v2.C.Regs) (e:=3) eqn len_eI no_eI cl_eI kr) (cs1 (cs1 (cs1 (cs1 (cs1 (cs1 (cs1 (cs1 (cs1 (cs1 (cs1 (cs1 (clos_c (clo_own (c:=(eI .i64)) (xs:=v2.Mem) (e:=3) eqn len_eI no_eI cl_eI kr) (clos_c (clo_own (c:=(eI .i64)) (xs:=v2.In) (e:=3) eqn len_eI no_eI cl_eI kr) (clos_c (clo_own (c:=(eI .i64)) (xs:=v2.Out) (e:=3) eqn len_eI no_eI cl_eI kr) clos_n))))))))))))))))) clz_n))) rfl rfl kr ?_)
 refine yj 3  (sp 64 [z3,z10,z6,z17,z12,z13,z34,z14,z15,z16,z39,z25,z4,z5,z7,z8,z26,(53,bb false),(54,bb false),z27,z44,z28,(58,bb v13),(59,bb v13),(60,bb v13),(61,bb v13)]) [z45,z46,z47,z48,z40,z41,z42,z43,z35,z36,z37,z38,z11,z32,z31,z30,z29,z33] 22 ?_
 rcases cond_sf hh with ⟨hb,hh⟩ | ⟨hb,hh⟩
 · exact yb 58 hb (yb 59 hb (yb 60 hb (yb 61 hb (yt (sp 64 [z2]) [] 22 (Aw.ret (gvbs hh))))))
 refine yb 58 hb (yb 59 hb (yb 60 hb (yb 61 hb ?_)))
 obtain ⟨v14,hv14,hh⟩:=bind_some hh
 refine yg (.call 16 []) (some 62) 61 true (oc (laws_alive_fn hv14) ?_)
 exact yt (sp 64 [(2,bb v14)]) [] 22 (Aw.ret (gvbs hh))
end Go.Proofs.Ytbanbjdcgdmkaaa
