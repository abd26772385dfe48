/- Plain functions of the program, and that it hands back what they say. Made by program. -/
import Derived.Test.YtbanbjdcgdmkaaaWT
import Derived.Test.YtbanbjdcgdmkaaaProg
import Derived.Test.YtbanbjdcgdmkaaaWBR1
import Derived.Test.YtbanbjdcgdmkaaaWHX1
namespace Go.Proofs.Ytbanbjdcgdmkaaa
open Go.RowKit
set_option maxRecDepth 100000
set_option linter.all false
set_option maxHeartbeats 0
theorem low_laws_FnExactBareRun:LW 8 ⟨74,[(.tmp 4)],(.seq (.reg false (rg 8 0)) (.seq (.reg false (rg 8 1)) (.seq (.reg false (rg 8 2)) (.seq (.seq (.reg false (rg 8 3)) (.cond (.t 17) (.seq (.reg false (rg 8 4)) .ret) .skip)) (.seq (.reg false (rg 8 5)) (.seq (.reg false (rg 8 6)) (.seq (.reg false (rg 8 7)) (.seq (.seq (.reg false (rg 8 8)) (.cond (.t 30) (.seq (.reg false (rg 8 9)) .ret) .skip)) (.seq (.seq (.regd (rg 8 10) (rg 8 11)) (.cond (.t 35) (.seq (.reg false (rg 8 12)) .ret) .skip)) (.seq (.reg false (rg 8 13)) (.seq (.reg false (rg 8 14)) (.seq (.seq (.reg false (rg 8 15)) (.cond (.t 46) (.seq (.reg false (rg 8 16)) .ret) .skip)) (.seq (.reg false (rg 8 17)) (.seq (.reg false (rg 8 18)) (.seq (.reg false (rg 8 19)) (.seq (.reg false (rg 8 20)) (.seq (.seq (.reg false (rg 8 21)) (.cond (.t 54) (.seq (.reg false (rg 8 22)) .ret) .skip)) (.seq (.seq (.reg false (rg 8 23)) (.cond (.t 57) (.seq (.reg false (rg 8 24)) .ret) .skip)) (.seq (.reg false (rg 8 25)) (.seq (.seq (.reg false (rg 8 26)) (.cond (.t 65) (.seq (.reg false (rg 8 27)) .ret) .skip)) (.seq (.reg false (rg 8 28)) (.seq (.reg false (rg 8 29)) (.seq (.seq (.reg false (rg 8 30)) (.cond (.t 70) (.seq (.reg false (rg 8 31)) .ret) .skip)) (.seq (.seq (.reg false (rg 8 32)) (.cond (.t 73) (.seq (.reg false (rg 8 33)) .ret) .skip)) (.seq (.reg false (rg 8 34)) .ret)))))))))))))))))))))))))⟩:=kr
noncomputable def F_laws_FnExactBareRun (x_aB:DBare) (x_aSteps:Int):Option Bool :=
 Option.bind (F_laws_szBare x_aB (1048576:Int)) fun v1 =>
 cond (decide (v1<(0:Int)))
  (some true)
  (Option.bind (F_laws_toBare x_aB) fun v2 =>
  Option.bind (F_spec_BareRun v2 x_aSteps) fun v3 =>
  Option.bind (F_laws_toBare x_aB) fun v4 =>
  Option.bind (F_impl_BareRun v4 x_aSteps) fun v5 =>
  Option.bind (F_laws_eqBare v5 v3) fun v6 =>
  cond (!v6)
   (some false)
   (Option.bind (F_laws_toBare x_aB) fun v7 =>
   Option.bind (F_laws_eqBare v4 v7) fun v8 =>
   cond (!v8)
    (some false)
    (Option.bind (F_laws_markBare v4 (1:Int)) fun v9 =>
    grd (List.length v9.1=(List.length v4.C.Regs)) (grd (List.length v9.2.1=(List.length v4.Mem)) (grd (List.length v9.2.2.1=(List.length v4.In)) (grd (List.length v9.2.2.2.1=(List.length v4.Out)) (cond (decide (v9.2.2.2.2<(0:Int)))
     (some false)
     (Option.bind (F_laws_eqBare v5 v3) fun v10 =>
     cond (!v10)
      (some false)
      (Option.bind (F_laws_markBare v5 (1:Int)) fun v11 =>
      grd (List.length v11.1=(List.length v5.C.Regs)) (grd (List.length v11.2.1=(List.length v5.Mem)) (grd (List.length v11.2.2.1=(List.length v5.In)) (grd (List.length v11.2.2.2.1=(List.length v5.Out)) (Option.bind (F_laws_heldBare (DBare.mk (DCore.mk v11.1 v5.C.Pc v5.C.Root v5.C.Vector v5.C.Saved v5.C.SavedUser v5.C.Cause v5.C.Bad v5.C.Timer v5.C.Waits v5.C.User v5.C.On v5.C.Stopped) v11.2.1 v11.2.2.1 v11.2.2.2.1) (1:Int)) fun v12 =>
       cond (decide (v12<(0:Int)))
        (some false)
        (cond (!decide (v12=v11.2.2.2.2))
         (some false)
         (Option.bind (F_laws_toBare x_aB) fun v13 =>
         Option.bind (F_impl_BareRun v13 x_aSteps) fun v14 =>
         Option.bind (F_laws_eqBare v14 v3) fun v15 =>
         cond (!v15)
          (some false)
          (Option.bind (F_laws_heldBare (DBare.mk (DCore.mk v11.1 v5.C.Pc v5.C.Root v5.C.Vector v5.C.Saved v5.C.SavedUser v5.C.Cause v5.C.Bad v5.C.Timer v5.C.Waits v5.C.User v5.C.On v5.C.Stopped) v11.2.1 v11.2.2.1 v11.2.2.2.1) (1:Int)) fun v16 =>
          cond (decide (v16<(0:Int)))
           (some false)
           (cond (!decide (v16=v11.2.2.2.2))
            (some false)
            (some true))))))))))))))))))
theorem laws_FnExactBareRun_fn {x_aB:DBare} {x_aSteps:Int} {R_:Bool} (hh:F_laws_FnExactBareRun x_aB x_aSteps=some R_):Fn Try.prog 8 [.agg (B_27 x_aB),.int .i64 x_aSteps] (.bool R_):=by
 let z1:EH:=(0,some (rB27_67 x_aB)); let z2:=(1,ii x_aSteps); let z3:=(2,pp 0); let z4:=(4,bb false); let z5:=(6,pp 5); let z6:=(7,pp 10); let z7:=(8,pp 15)
 unfold F_laws_FnExactBareRun at hh
 refine Fn.start low_laws_FnExactBareRun [0,1] (E:=sp 74 [(0,.agg (B_27 x_aB)),z2]) kr (v:=bb R_) (Hr:=[]) (k:=0) kr (sy [1,2] [0] (sp 74 [z2,z3]) [z1] 1 (sy [1,2,5] [0] (sp 74 [z2,z3,(5,ii 1048576)]) [z1] 1 (Aw.sreg [1,2,5] [0] (yu 2 [(13,.agg (B_27 x_aB)),(14,ii 1048576)] [z1] 1 ?_))))
 obtain ⟨v1,hv1,hh⟩:=bind_some hh
 let z8:=(17,bb (decide (v1<(0:Int))))
 refine ys (.call 35 [(.t 13),(.t 14)]) (some 15) (op_call (r:=ii v1) (v:=ii v1) (Hr:=[]) (n':=1) (laws_szBare_fn hv1) (clz_v (vs:=[.agg (B_27 x_aB),ii 1048576]) kr (clz_c (clo_same (clean_agg (cl_B_27 _))) (cz1 clz_n))) rfl rfl kr ?_)
 refine yt (sp 74 [z2,z3,(5,ii v1)]) [z1] 1 (Aw.seq (sy [1,2,17] [0] (sp 74 [z2,z3,z8]) [z1] 1 ?_))
 rcases cond_some hh with ⟨hb,hh⟩ | ⟨hb,hh⟩
 · exact cT hb (sy [4] [] (sp 74 [(4,bb true)]) [] 1 (Aw.ret (then_r (gvbs hh))))
 refine cF hb (Aw.xskip (fun _ _ _ hq=>then_m hq) (Aw.sreg [1,2,6] [0,5] (yj 1  (sp 74 [z2,z3,z8,(18,.agg (B_27 x_aB))]) [z1] 1 ?_)))
 obtain ⟨v2,hv2,hh⟩:=bind_some hh
 let q1:Root:=(rI_3 v2.Out); let q2:Root:=(rI_3 v2.In); let q3:Root:=(rI_3 v2.Mem); let q4:Root:=(rI_3 v2.C.Regs)
 refine ys (.call 36 [(.t 18)]) (some 19) (op_call (r:=.agg (.own 3 1 (List.length v2.C.Regs) (fl (eI .i64) v2.C.Regs)::ru25 v2.C [.own 3 1 (List.length v2.Mem) (fl (eI .i64) v2.Mem),.own 3 1 (List.length v2.In) (fl (eI .i64) v2.In),.own 3 1 (List.length v2.Out) (fl (eI .i64) v2.Out)])) (v:=.agg (sw 1 v2.C.Regs::ru25 v2.C [sw 2 v2.Mem,sw 3 v2.In,sw 4 v2.Out])) (Hr:=[(4,some q1),(3,some q2),(2,some q3),(1,some q4)]) (n':=5) (laws_toBare_fn hv2) (clz_v (vs:=[.agg (B_27 x_aB)]) kr (clz_c (clo_same (clean_agg (cl_B_27 _))) clz_n)) nrr nrr kr ?_)
 refine yu 1 [(19,.agg (sw 1 v2.C.Regs::ru25 v2.C [sw 2 v2.Mem,sw 3 v2.In,sw 4 v2.Out])),(20,ii x_aSteps)] [(4,some q1),(3,some q2),(2,some q3),(1,some q4),z1] 5 ?_
 obtain ⟨v3,hv3,hh⟩:=bind_some hh
 let z9:EH:=(5,some (rB27 v3))
 refine ys (.call 21 [(.t 19),(.t 20)]) (some 21) (op_callz (args:=[.agg (sw 1 v2.C.Regs::ru25 v2.C [sw 2 v2.Mem,sw 3 v2.In,sw 4 v2.Out]),ii x_aSteps]) (args2:=[.agg (B_27 v2),ii x_aSteps]) (H2:=[(4,none),(3,none),(2,none),(1,none),(4,some q1),(3,some q2),(2,some q3),(1,some q4),z1]) (r:=.agg (B_27 v3)) (v:=.agg (B_27 v3)) (Hr:=[]) (n':=5) kr (Ent.trans (Ent.freezeK (R:=4) (cs:=(fl (eI .i64) v2.Out)) (e:=3) (xs2:=[.agg (B_27 v2),ii x_aSteps]) kr (noOwn_fl no_eI) (frs_c (.agg _ _ (frs_c (.same _) (frs_c (.same _) (frs_c (.same _) (frs_c (.same _) (frs_c (.same _) (frs_c (.same _) (frs_c (.same _) (frs_c (.same _) (frs_c (.same _) (frs_c (.same _) (frs_c (.same _) (frs_c (.same _) (frs_c (.same _) (frs_c (.same _) (frs_c (.same _) (frs_c (fr_all len_eI eqn) frs_n))))))))))))))))) (frs_c (.same _) frs_n))) (Ent.trans (Ent.freezeK (R:=3) (cs:=(fl (eI .i64) v2.In)) (e:=3) (xs2:=[.agg (bo (eI .i64) v2.C.Regs::ru25 v2.C [bo (eI .i64) v2.Mem,bo (eI .i64) v2.In,sw 4 v2.Out]),ii x_aSteps]) kr (noOwn_fl no_eI) (frs_c (.agg _ _ (frs_c (.same _) (frs_c (.same _) (frs_c (.same _) (frs_c (.same _) (frs_c (.same _) (frs_c (.same _) (frs_c (.same _) (frs_c (.same _) (frs_c (.same _) (frs_c (.same _) (frs_c (.same _) (frs_c (.same _) (frs_c (.same _) (frs_c (.same _) (frs_c (fr_all len_eI eqn) (frs_c (.same _) frs_n))))))))))))))))) (frs_c (.same _) frs_n))) (Ent.trans (Ent.freezeK (R:=2) (cs:=(fl (eI .i64) v2.Mem)) (e:=3) (xs2:=[.agg (bo (eI .i64) v2.C.Regs::ru25 v2.C [bo (eI .i64) v2.Mem,sw 3 v2.In,sw 4 v2.Out]),ii x_aSteps]) kr (noOwn_fl no_eI) (frs_c (.agg _ _ (frs_c (.same _) (frs_c (.same _) (frs_c (.same _) (frs_c (.same _) (frs_c (.same _) (frs_c (.same _) (frs_c (.same _) (frs_c (.same _) (frs_c (.same _) (frs_c (.same _) (frs_c (.same _) (frs_c (.same _) (frs_c (.same _) (frs_c (fr_all len_eI eqn) (frs_c (.same _) (frs_c (.same _) frs_n))))))))))))))))) (frs_c (.same _) frs_n))) (Ent.freezeK (R:=1) (cs:=(fl (eI .i64) v2.C.Regs)) (e:=3) (xs2:=[.agg (bo (eI .i64) v2.C.Regs::ru25 v2.C [sw 2 v2.Mem,sw 3 v2.In,sw 4 v2.Out]),ii x_aSteps]) kr (noOwn_fl no_eI) (frs_c (.agg _ _ (frs_c (fr_all len_eI eqn) (frs_c (.same _) (frs_c (.same _) (frs_c (.same _) (frs_c (.same _) (frs_c (.same _) (frs_c (.same _) (frs_c (.same _) (frs_c (.same _) (frs_c (.same _) (frs_c (.same _) (frs_c (.same _) (frs_c (.same _) (frs_c (.same _) (frs_c (.same _) (frs_c (.same _) frs_n))))))))))))))))) (frs_c (.same _) frs_n)))))) (spec_BareRun_fn hv3) (clz_c (clo_same (clean_agg (cl_B_27 _))) (cz1 clz_n)) nrr kr ?_)
 refine yt (sp 74 [z2,z3,z5]) [z1,z9] 6 (Aw.sreg [1,2,6,7] [0,5,6,7,8,9,10] (yu 1 [(22,.agg (B_27 x_aB))] [z1,z9] 6 ?_))
 obtain ⟨v4,hv4,hh⟩:=bind_some hh
 let z10:EV:=(31,.agg (sw 6 v4.C.Regs::ru25 v4.C [sw 7 v4.Mem,sw 8 v4.In,sw 9 v4.Out])); let q5:Root:=(rI_3 v4.Out); let z11:=(9,some q5); let q6:Root:=(rI_3 v4.In); let z12:=(8,some q6); let q7:Root:=(rI_3 v4.Mem); let z13:=(7,some q7); let q8:Root:=(rI_3 v4.C.Regs); let z14:=(6,some q8)
 refine ys (.call 36 [(.t 22)]) (some 23) (op_call (r:=.agg (.own 3 1 (List.length v4.C.Regs) (fl (eI .i64) v4.C.Regs)::ru25 v4.C [.own 3 1 (List.length v4.Mem) (fl (eI .i64) v4.Mem),.own 3 1 (List.length v4.In) (fl (eI .i64) v4.In),.own 3 1 (List.length v4.Out) (fl (eI .i64) v4.Out)])) (v:=.agg (sw 6 v4.C.Regs::ru25 v4.C [sw 7 v4.Mem,sw 8 v4.In,sw 9 v4.Out])) (Hr:=[z11,z12,z13,z14]) (n':=10) (laws_toBare_fn hv4) (clz_v (vs:=[.agg (B_27 x_aB)]) kr (clz_c (clo_same (clean_agg (cl_B_27 _))) clz_n)) nrr nrr kr ?_)
 let q9:Root:=⟨27,(sw 6 v4.C.Regs::ru25 v4.C [sw 7 v4.Mem,sw 8 v4.In,sw 9 v4.Out])⟩; let z15:=(10,some q9)
 refine yt (sp 74 [z2,z3,z5,z6]) [z1,z9,z14,z13,z12,z11,z15] 11 (Aw.sreg [1,2,6,7,8] [0,5,6,7,8,9,10,11,12,13,14,15] (yu 2 [(24,.agg (sw 6 v4.C.Regs::ru25 v4.C [sw 7 v4.Mem,sw 8 v4.In,sw 9 v4.Out])),(25,ii x_aSteps)] [z1,z9,z14,z13,z12,z11,z15] 11 ?_))
 obtain ⟨v5,hv5,hh⟩:=bind_some hh
 let q10:Root:=(rI_3 v5.Out); let z16:=(14,some q10); let q11:Root:=(rI_3 v5.In); let z17:=(13,some q11); let q12:Root:=(rI_3 v5.Mem); let z18:=(12,some q12); let q13:Root:=(rI_3 v5.C.Regs); let z19:=(11,some q13)
 refine ys (.call 20 [(.t 24),(.t 25)]) (some 26) (op_call (r:=.agg (.own 3 1 (List.length v5.C.Regs) (fl (eI .i64) v5.C.Regs)::ru25 v5.C [.own 3 1 (List.length v5.Mem) (fl (eI .i64) v5.Mem),.own 3 1 (List.length v5.In) (fl (eI .i64) v5.In),.own 3 1 (List.length v5.Out) (fl (eI .i64) v5.Out)])) (v:=.agg (sw 11 v5.C.Regs::ru25 v5.C [sw 12 v5.Mem,sw 13 v5.In,sw 14 v5.Out])) (Hr:=[z16,z17,z18,z19]) (n':=15) (impl_BareRun_fn hv5) (clz_v (vs:=[.agg (sw 6 v4.C.Regs::ru25 v4.C [sw 7 v4.Mem,sw 8 v4.In,sw 9 v4.Out]),ii x_aSteps]) kr (clz_c (clo_agg (clos_c (clo_own (c:=(eI .i64)) (xs:=v4.C.Regs) (e:=3) eqn len_eI no_eI cl_eI kr) (cs1 (cs1 (cs1 (cs1 (cs1 (cs1 (cs1 (cs1 (cs1 (cs1 (cs1 (cs1 (clos_c (clo_own (c:=(eI .i64)) (xs:=v4.Mem) (e:=3) eqn len_eI no_eI cl_eI kr) (clos_c (clo_own (c:=(eI .i64)) (xs:=v4.In) (e:=3) eqn len_eI no_eI cl_eI kr) (clos_c (clo_own (c:=(eI .i64)) (xs:=v4.Out) (e:=3) eqn len_eI no_eI cl_eI kr) clos_n))))))))))))))))) (cz1 clz_n))) nrr nrr kr ?_)
 let q14:Root:=⟨27,(sw 11 v5.C.Regs::ru25 v5.C [sw 12 v5.Mem,sw 13 v5.In,sw 14 v5.Out])⟩; let z20:=(15,some q14)
 refine yt (sp 74 [z2,z3,z5,z6,z7]) [z1,z9,z14,z13,z12,z11,z15,z19,z18,z17,z16,z20] 16 (Aw.seq (Aw.sreg [1,2,6,7,8,30] [0,5,6,7,8,9,10,11,12,13,14,15] (yj 2  (sp 74 [z2,z3,z5,z6,z7,(27,.agg (sw 11 v5.C.Regs::ru25 v5.C [sw 12 v5.Mem,sw 13 v5.In,sw 14 v5.Out])),(28,.agg (B_27 v3))]) [z1,z9,z14,z13,z12,z11,z15,z19,z18,z17,z16,z20] 16 ?_)))
 obtain ⟨v6,hv6,hh⟩:=bind_some hh
 refine ys (.call 37 [(.t 27),(.t 28)]) (some 29) (op_call (r:=bb v6) (v:=bb v6) (Hr:=[]) (n':=16) (laws_eqBare_fn hv6) (clz_v (vs:=[.agg (sw 11 v5.C.Regs::ru25 v5.C [sw 12 v5.Mem,sw 13 v5.In,sw 14 v5.Out]),.agg (B_27 v3)]) kr (clz_c (clo_agg (clos_c (clo_own (c:=(eI .i64)) (xs:=v5.C.Regs) (e:=3) eqn len_eI no_eI cl_eI kr) (cs1 (cs1 (cs1 (cs1 (cs1 (cs1 (cs1 (cs1 (cs1 (cs1 (cs1 (cs1 (clos_c (clo_own (c:=(eI .i64)) (xs:=v5.Mem) (e:=3) eqn len_eI no_eI cl_eI kr) (clos_c (clo_own (c:=(eI .i64)) (xs:=v5.In) (e:=3) eqn len_eI no_eI cl_eI kr) (clos_c (clo_own (c:=(eI .i64)) (xs:=v5.Out) (e:=3) eqn len_eI no_eI cl_eI kr) clos_n))))))))))))))))) (clz_c (clo_same (clean_agg (cl_B_27 _))) clz_n))) rfl rfl kr ?_)
 refine yt (sp 74 [z2,z3,z5,z6,z7,(30,bb (!v6))]) [z1,z9,z14,z13,z12,z11,z15,z19,z18,z17,z16,z20] 16 ?_
 rcases cond_some hh with ⟨hb,hh⟩ | ⟨hb,hh⟩
 · exact cT hb (sy [4] [] (sp 74 [z4]) [] 16 (Aw.ret (then_r (gvbs hh))))
 refine cF hb (Aw.xskip (fun _ _ _ hq=>then_m hq) (Aw.seq (Aw.sregd [1,2,6,7,8,35] [0,5,6,7,8,9,10,11,12,13,14,15] [] kr (dj 2 (sp 74 [z2,z3,z5,z6,z7,(30,bb (!v6)),z10,(32,.agg (B_27 x_aB))]) [z1,z9,z14,z13,z12,z11,z15,z19,z18,z17,z16,z20] 16 ?_))))
 obtain ⟨v7,hv7,hh⟩:=bind_some hh
 let q15:Root:=(rI_3 v7.Out); let q16:Root:=(rI_3 v7.In); let q17:Root:=(rI_3 v7.Mem); let q18:Root:=(rI_3 v7.C.Regs)
 refine ds (.call 36 [(.t 32)]) (some 33) (ydo_n rfl (op_call (r:=.agg (.own 3 1 (List.length v7.C.Regs) (fl (eI .i64) v7.C.Regs)::ru25 v7.C [.own 3 1 (List.length v7.Mem) (fl (eI .i64) v7.Mem),.own 3 1 (List.length v7.In) (fl (eI .i64) v7.In),.own 3 1 (List.length v7.Out) (fl (eI .i64) v7.Out)])) (v:=.agg (sw 16 v7.C.Regs::ru25 v7.C [sw 17 v7.Mem,sw 18 v7.In,sw 19 v7.Out])) (Hr:=[(19,some q15),(18,some q16),(17,some q17),(16,some q18)]) (n':=20) (laws_toBare_fn hv7) (clz_v (vs:=[.agg (B_27 x_aB)]) kr (clz_c (clo_same (clean_agg (cl_B_27 _))) clz_n)) nrr nrr kr ⟨⟨agr_name (n:=16) (n0:=16) (r:=.agg (.own 3 1 (List.length v7.C.Regs) (fl (eI .i64) v7.C.Regs)::ru25 v7.C [.own 3 1 (List.length v7.Mem) (fl (eI .i64) v7.Mem),.own 3 1 (List.length v7.In) (fl (eI .i64) v7.In),.own 3 1 (List.length v7.Out) (fl (eI .i64) v7.Out)])) (v:=.agg (sw 16 v7.C.Regs::ru25 v7.C [sw 17 v7.Mem,sw 18 v7.In,sw 19 v7.Out])) (Hr:=[(19,some q15),(18,some q16),(17,some q17),(16,some q18)]) (n':=20) kr dd,Hld.un ?_⟩⟩))
 refine dt (sp 74 [z2,z3,z5,z6,z7,(30,bb (!v6)),z10,(32,.agg (B_27 x_aB)),(33,.agg (sw 16 v7.C.Regs::ru25 v7.C [sw 17 v7.Mem,sw 18 v7.In,sw 19 v7.Out]))]) [(19,some q15),(18,some q16),(17,some q17),(16,some q18),z1,z9,z14,z13,z12,z11,z15,z19,z18,z17,z16,z20] 20 ?_
 obtain ⟨v8,hv8,hh⟩:=bind_some hh
 refine ys (.call 37 [(.t 31),(.t 33)]) (some 34) (op_call (r:=bb v8) (v:=bb v8) (Hr:=[]) (n':=20) (laws_eqBare_fn hv8) (clz_v (vs:=[.agg (sw 6 v4.C.Regs::ru25 v4.C [sw 7 v4.Mem,sw 8 v4.In,sw 9 v4.Out]),.agg (sw 16 v7.C.Regs::ru25 v7.C [sw 17 v7.Mem,sw 18 v7.In,sw 19 v7.Out])]) kr (clz_c (clo_agg (clos_c (clo_own (c:=(eI .i64)) (xs:=v4.C.Regs) (e:=3) eqn len_eI no_eI cl_eI kr) (cs1 (cs1 (cs1 (cs1 (cs1 (cs1 (cs1 (cs1 (cs1 (cs1 (cs1 (cs1 (clos_c (clo_own (c:=(eI .i64)) (xs:=v4.Mem) (e:=3) eqn len_eI no_eI cl_eI kr) (clos_c (clo_own (c:=(eI .i64)) (xs:=v4.In) (e:=3) eqn len_eI no_eI cl_eI kr) (clos_c (clo_own (c:=(eI .i64)) (xs:=v4.Out) (e:=3) eqn len_eI no_eI cl_eI kr) clos_n))))))))))))))))) (clz_c (clo_agg (clos_c (clo_own (c:=(eI .i64)) (xs:=v7.C.Regs) (e:=3) eqn len_eI no_eI cl_eI kr) (cs1 (cs1 (cs1 (cs1 (cs1 (cs1 (cs1 (cs1 (cs1 (cs1 (cs1 (cs1 (clos_c (clo_own (c:=(eI .i64)) (xs:=v7.Mem) (e:=3) eqn len_eI no_eI cl_eI kr) (clos_c (clo_own (c:=(eI .i64)) (xs:=v7.In) (e:=3) eqn len_eI no_eI cl_eI kr) (clos_c (clo_own (c:=(eI .i64)) (xs:=v7.Out) (e:=3) eqn len_eI no_eI cl_eI kr) clos_n))))))))))))))))) clz_n))) rfl rfl kr ?_)
 refine yt (sp 74 [z2,z3,z5,z6,z7,(35,bb (!v8))]) [z1,z9,z14,z13,z12,z11,z15,z19,z18,z17,z16,z20] 20 ?_
 rcases cond_some hh with ⟨hb,hh⟩ | ⟨hb,hh⟩
 · exact cT hb (sy [4] [] (sp 74 [z4]) [] 20 (Aw.ret (then_r (gvbs hh))))
 refine cF hb (Aw.xskip (fun _ _ _ hq=>then_m hq) (sy [1,2,6,7,8,9] [0,5,6,7,8,9,10,11,12,13,14,15] (sp 74 [z2,z3,z5,z6,z7,(9,ii 1)]) [z1,z9,z14,z13,z12,z11,z15,z19,z18,z17,z16,z20] 20 (Aw.sreg [1,2,6,8,9] [0,5,11,12,13,14,15] (yu 2 [(36,.agg (sw 6 v4.C.Regs::ru25 v4.C [sw 7 v4.Mem,sw 8 v4.In,sw 9 v4.Out])),(37,ii 1)] [z1,z9,z14,z13,z12,z11,z15,z19,z18,z17,z16,z20] 20 ?_))))
 obtain ⟨v9,hv9,hh⟩:=bind_some hh
 obtain ⟨hg5,hh⟩:=grd_some hh
 obtain ⟨hg6,hh⟩:=grd_some hh
 obtain ⟨hg7,hh⟩:=grd_some hh
 obtain ⟨hg8,hh⟩:=grd_some hh
 let q19:Root:=(rI_3 v9.2.1); let q20:Root:=(rI_3 v9.2.2.1); let q21:Root:=(rI_3 v9.2.2.2.1)
 refine ys (.call 38 [(.t 36),(.t 37)]) (some 38) (cf (ii v9.2.2.2.2) [(6,some (rI_3 v9.1)),(7,some q19),(8,some q20),(9,some q21)] 20 [6,7,8,9] (laws_markBare_fn hv9) [.agg (sw 6 v4.C.Regs::ru25 v4.C [sw 7 v4.Mem,sw 8 v4.In,sw 9 v4.Out]),ii 1] rz (hn nr_eI (hn nr_eI (hn nr_eI (hn nr_eI hs_nil)))) ren_i (hn nr_eI (hn nr_eI (hn nr_eI (hn nr_eI hs_nil)))) ?_)
 refine yt (sp 74 [z2,z3,z5,z7,(9,ii v9.2.2.2.2)]) [z1,z9,z19,z18,z17,z16,z20] 20 (Aw.seq (Aw.sreg [1,2,6,8,46] [0,5,11,12,13,14,15] (yj 3  (sp 74 [z2,z3,z5,z7,(9,ii v9.2.2.2.2),(39,ii v9.2.2.2.2),(40,bb (decide (v9.2.2.2.2<(0:Int)))),(41,bb (decide (v9.2.2.2.2<(0:Int))))]) [z1,z9,z19,z18,z17,z16,z20] 20 ?_)))
 rcases cond_some hh with ⟨hb,hh⟩ | ⟨hb,hh⟩
 · exact yb 40 hb (yb 41 hb (yt (sp 74 [z2,z3,z5,z7,(46,bb true)]) [z1,z9,z19,z18,z17,z16,z20] 20 (cT rfl (sy [4] [] (sp 74 [z4]) [] 20 (Aw.ret (then_r (gvbs hh)))))))
 refine yb 40 hb (yb 41 hb (yu 2 [(40,bb false),(41,bb false),(42,.agg (sw 11 v5.C.Regs::ru25 v5.C [sw 12 v5.Mem,sw 13 v5.In,sw 14 v5.Out])),(43,.agg (B_27 v3))] [z1,z9,z19,z18,z17,z16,z20] 20 ?_))
 obtain ⟨v10,hv10,hh⟩:=bind_some hh
 refine yg (.call 37 [(.t 42),(.t 43)]) (some 44) 41 false (op_call (r:=bb v10) (v:=bb v10) (Hr:=[]) (n':=20) (laws_eqBare_fn hv10) (clz_v (vs:=[.agg (sw 11 v5.C.Regs::ru25 v5.C [sw 12 v5.Mem,sw 13 v5.In,sw 14 v5.Out]),.agg (B_27 v3)]) kr (clz_c (clo_agg (clos_c (clo_own (c:=(eI .i64)) (xs:=v5.C.Regs) (e:=3) eqn len_eI no_eI cl_eI kr) (cs1 (cs1 (cs1 (cs1 (cs1 (cs1 (cs1 (cs1 (cs1 (cs1 (cs1 (cs1 (clos_c (clo_own (c:=(eI .i64)) (xs:=v5.Mem) (e:=3) eqn len_eI no_eI cl_eI kr) (clos_c (clo_own (c:=(eI .i64)) (xs:=v5.In) (e:=3) eqn len_eI no_eI cl_eI kr) (clos_c (clo_own (c:=(eI .i64)) (xs:=v5.Out) (e:=3) eqn len_eI no_eI cl_eI kr) clos_n))))))))))))))))) (clz_c (clo_same (clean_agg (cl_B_27 _))) clz_n))) rfl rfl kr ?_)
 refine yt (sp 74 [z2,z3,z5,z7,(46,bb (!v10))]) [z1,z9,z19,z18,z17,z16,z20] 20 ?_
 rcases cond_some hh with ⟨hb,hh⟩ | ⟨hb,hh⟩
 · exact cT hb (sy [4] [] (sp 74 [z4]) [] 20 (Aw.ret (then_r (gvbs hh))))
 refine cF hb (Aw.xskip (fun _ _ _ hq=>then_m hq) (sy [1,2,6,8,10] [0,5,11,12,13,14,15] (sp 74 [z2,z3,z5,z7,(10,ii 1)]) [z1,z9,z19,z18,z17,z16,z20] 20 (Aw.sreg [1,2,6,8,10] [0,5,11,12,13,14,15] (yu 2 [(47,.agg (sw 11 v5.C.Regs::ru25 v5.C [sw 12 v5.Mem,sw 13 v5.In,sw 14 v5.Out])),(48,ii 1)] [z1,z9,z19,z18,z17,z16,z20] 20 ?_))))
 obtain ⟨v11,hv11,hh⟩:=bind_some hh
 let z21:=(10,ii v11.2.2.2.2)
 obtain ⟨hg13,hh⟩:=grd_some hh
 obtain ⟨hg14,hh⟩:=grd_some hh
 obtain ⟨hg15,hh⟩:=grd_some hh
 obtain ⟨hg16,hh⟩:=grd_some hh
 let q22:Root:=(rI_3 v11.1); let z22:=(11,some q22); let q23:Root:=(rI_3 v11.2.1); let z23:=(12,some q23); let q24:Root:=(rI_3 v11.2.2.1); let z24:=(13,some q24); let q25:Root:=(rI_3 v11.2.2.2.1); let z25:=(14,some q25)
 refine ys (.call 38 [(.t 47),(.t 48)]) (some 49) (cf (ii v11.2.2.2.2) [z22,z23,z24,z25] 20 [11,12,13,14] (laws_markBare_fn hv11) [.agg (sw 11 v5.C.Regs::ru25 v5.C [sw 12 v5.Mem,sw 13 v5.In,sw 14 v5.Out]),ii 1] rz (hn nr_eI (hn nr_eI (hn nr_eI (hn nr_eI hs_nil)))) ren_i (hn nr_eI (hn nr_eI (hn nr_eI (hn nr_eI hs_nil)))) ?_)
 refine yt (sp 74 [z2,z3,z5,z7,z21]) [z1,z9,z22,z23,z24,z25,z20] 20 (sy [1,2,6,8,10,11] [0,5,11,12,13,14,15] (sp 74 [z2,z3,z5,z7,z21,(11,ii 1)]) [z1,z9,z22,z23,z24,z25,z20] 20 (Aw.sreg [1,2,6,8,10,11] [0,5,11,12,13,14,15] (yu 2 [(50,.agg (sw 11 v5.C.Regs::ru25 v5.C [sw 12 v5.Mem,sw 13 v5.In,sw 14 v5.Out])),(51,ii 1)] [z1,z9,z22,z23,z24,z25,z20] 20 ?_)))
 obtain ⟨v12,hv12,hh⟩:=bind_some hh
 let z26:=(57,bb (!decide (v12=v11.2.2.2.2)))
 refine ys (.call 39 [(.t 50),(.t 51)]) (some 52) (op_call (r:=ii v12) (v:=ii v12) (Hr:=[]) (n':=20) (laws_heldBare_fn hv12) (clz_v (vs:=[.agg (sw 11 v5.C.Regs::ru25 v5.C [sw 12 v5.Mem,sw 13 v5.In,sw 14 v5.Out]),ii 1]) kr (clz_c (clo_agg (clos_c (clo_own (c:=(eI .i64)) (xs:=v11.1) (e:=3) eqn len_eI no_eI cl_eI kr) (cs1 (cs1 (cs1 (cs1 (cs1 (cs1 (cs1 (cs1 (cs1 (cs1 (cs1 (cs1 (clos_c (clo_own (c:=(eI .i64)) (xs:=v11.2.1) (e:=3) eqn len_eI no_eI cl_eI kr) (clos_c (clo_own (c:=(eI .i64)) (xs:=v11.2.2.1) (e:=3) eqn len_eI no_eI cl_eI kr) (clos_c (clo_own (c:=(eI .i64)) (xs:=v11.2.2.2.1) (e:=3) eqn len_eI no_eI cl_eI kr) clos_n))))))))))))))))) (cz1 clz_n))) rfl rfl kr ?_)
 refine yt (sp 74 [z2,z3,z5,z7,z21,(11,ii v12)]) [z1,z9,z22,z23,z24,z25,z20] 20 (Aw.seq (sy [1,2,6,8,10,11,54] [0,5,11,12,13,14,15] (sp 74 [z2,z3,z5,z7,z21,(11,ii v12),(54,bb (decide (v12<(0:Int))))]) [z1,z9,z22,z23,z24,z25,z20] 20 ?_))
 rcases cond_some hh with ⟨hb,hh⟩ | ⟨hb,hh⟩
 · exact cT hb (sy [4] [] (sp 74 [z4]) [] 20 (Aw.ret (then_r (gvbs hh))))
 refine cF hb (Aw.xskip (fun _ _ _ hq=>then_m hq) (Aw.seq (sy [1,2,6,8,10,57] [0,5,11,12,13,14,15] (sp 74 [z2,z3,z5,z7,z21,z26]) [z1,z9,z22,z23,z24,z25,z20] 20 ?_)))
 rcases cond_some hh with ⟨hb,hh⟩ | ⟨hb,hh⟩
 · exact cT hb (sy [4] [] (sp 74 [z4]) [] 20 (Aw.ret (then_r (gvbs hh))))
 refine cF hb (Aw.xskip (fun _ _ _ hq=>then_m hq) (Aw.sreg [6,8,10,12] [5,11,12,13,14,15,24,25,26,27,28] (yj 1  (sp 74 [z2,z3,z5,z7,z21,z26,(58,.agg (B_27 x_aB))]) [z1,z9,z22,z23,z24,z25,z20] 20 ?_)))
 obtain ⟨v13,hv13,hh⟩:=bind_some hh
 let q26:Root:=(rI_3 v13.Out); let q27:Root:=(rI_3 v13.In); let q28:Root:=(rI_3 v13.Mem); let q29:Root:=(rI_3 v13.C.Regs)
 refine ys (.call 36 [(.t 58)]) (some 59) (op_call (r:=.agg (.own 3 1 (List.length v13.C.Regs) (fl (eI .i64) v13.C.Regs)::ru25 v13.C [.own 3 1 (List.length v13.Mem) (fl (eI .i64) v13.Mem),.own 3 1 (List.length v13.In) (fl (eI .i64) v13.In),.own 3 1 (List.length v13.Out) (fl (eI .i64) v13.Out)])) (v:=.agg (sw 20 v13.C.Regs::ru25 v13.C [sw 21 v13.Mem,sw 22 v13.In,sw 23 v13.Out])) (Hr:=[(23,some q26),(22,some q27),(21,some q28),(20,some q29)]) (n':=24) (laws_toBare_fn hv13) (clz_v (vs:=[.agg (B_27 x_aB)]) kr (clz_c (clo_same (clean_agg (cl_B_27 _))) clz_n)) nrr nrr kr ?_)
 refine yu 1 [(59,.agg (sw 20 v13.C.Regs::ru25 v13.C [sw 21 v13.Mem,sw 22 v13.In,sw 23 v13.Out])),(60,ii x_aSteps)] [(23,some q26),(22,some q27),(21,some q28),(20,some q29),z1,z9,z22,z23,z24,z25,z20] 24 ?_
 obtain ⟨v14,hv14,hh⟩:=bind_some hh
 let q30:Root:=(rI_3 v14.Out); let q31:Root:=(rI_3 v14.In); let q32:Root:=(rI_3 v14.Mem); let q33:Root:=(rI_3 v14.C.Regs)
 refine ys (.call 20 [(.t 59),(.t 60)]) (some 61) (op_call (r:=.agg (.own 3 1 (List.length v14.C.Regs) (fl (eI .i64) v14.C.Regs)::ru25 v14.C [.own 3 1 (List.length v14.Mem) (fl (eI .i64) v14.Mem),.own 3 1 (List.length v14.In) (fl (eI .i64) v14.In),.own 3 1 (List.length v14.Out) (fl (eI .i64) v14.Out)])) (v:=.agg (sw 24 v14.C.Regs::ru25 v14.C [sw 25 v14.Mem,sw 26 v14.In,sw 27 v14.Out])) (Hr:=[(27,some q30),(26,some q31),(25,some q32),(24,some q33)]) (n':=28) (impl_BareRun_fn hv14) (clz_v (vs:=[.agg (sw 20 v13.C.Regs::ru25 v13.C [sw 21 v13.Mem,sw 22 v13.In,sw 23 v13.Out]),ii x_aSteps]) kr (clz_c (clo_agg (clos_c (clo_own (c:=(eI .i64)) (xs:=v13.C.Regs) (e:=3) eqn len_eI no_eI cl_eI kr) (cs1 (cs1 (cs1 (cs1 (cs1 (cs1 (cs1 (cs1 (cs1 (cs1 (cs1 (cs1 (clos_c (clo_own (c:=(eI .i64)) (xs:=v13.Mem) (e:=3) eqn len_eI no_eI cl_eI kr) (clos_c (clo_own (c:=(eI .i64)) (xs:=v13.In) (e:=3) eqn len_eI no_eI cl_eI kr) (clos_c (clo_own (c:=(eI .i64)) (xs:=v13.Out) (e:=3) eqn len_eI no_eI cl_eI kr) clos_n))))))))))))))))) (cz1 clz_n))) nrr nrr kr ?_)
 let q34:Root:=⟨27,(sw 24 v14.C.Regs::ru25 v14.C [sw 25 v14.Mem,sw 26 v14.In,sw 27 v14.Out])⟩
 refine yt (sp 74 [z5,z7,z21,(12,pp 28)]) [z9,z22,z23,z24,z25,z20,(24,some q33),(25,some q32),(26,some q31),(27,some q30),(28,some q34)] 29 (Aw.seq (Aw.sreg [8,10,65] [11,12,13,14,15] (yj 2  (sp 74 [z5,z7,z21,(12,pp 28),(62,.agg (sw 24 v14.C.Regs::ru25 v14.C [sw 25 v14.Mem,sw 26 v14.In,sw 27 v14.Out])),(63,.agg (B_27 v3))]) [z9,z22,z23,z24,z25,z20,(24,some q33),(25,some q32),(26,some q31),(27,some q30),(28,some q34)] 29 ?_)))
 obtain ⟨v15,hv15,hh⟩:=bind_some hh
 refine ys (.call 37 [(.t 62),(.t 63)]) (some 64) (op_call (r:=bb v15) (v:=bb v15) (Hr:=[]) (n':=29) (laws_eqBare_fn hv15) (clz_v (vs:=[.agg (sw 24 v14.C.Regs::ru25 v14.C [sw 25 v14.Mem,sw 26 v14.In,sw 27 v14.Out]),.agg (B_27 v3)]) kr (clz_c (clo_agg (clos_c (clo_own (c:=(eI .i64)) (xs:=v14.C.Regs) (e:=3) eqn len_eI no_eI cl_eI kr) (cs1 (cs1 (cs1 (cs1 (cs1 (cs1 (cs1 (cs1 (cs1 (cs1 (cs1 (cs1 (clos_c (clo_own (c:=(eI .i64)) (xs:=v14.Mem) (e:=3) eqn len_eI no_eI cl_eI kr) (clos_c (clo_own (c:=(eI .i64)) (xs:=v14.In) (e:=3) eqn len_eI no_eI cl_eI kr) (clos_c (clo_own (c:=(eI .i64)) (xs:=v14.Out) (e:=3) eqn len_eI no_eI cl_eI kr) clos_n))))))))))))))))) (clz_c (clo_same (clean_agg (cl_B_27 _))) clz_n))) rfl rfl kr ?_)
 refine yt (sp 74 [z7,z21,(65,bb (!v15))]) [z22,z23,z24,z25,z20] 29 ?_
 rcases cond_some hh with ⟨hb,hh⟩ | ⟨hb,hh⟩
 · exact cT hb (sy [4] [] (sp 74 [z4]) [] 29 (Aw.ret (then_r (gvbs hh))))
 refine cF hb (Aw.xskip (fun _ _ _ hq=>then_m hq) (sy [8,10,11] [11,12,13,14,15] (sp 74 [z7,z21,(11,ii 1)]) [z22,z23,z24,z25,z20] 29 (Aw.sreg [10,11] [] (yu 2 [(66,.agg (sw 11 v5.C.Regs::ru25 v5.C [sw 12 v5.Mem,sw 13 v5.In,sw 14 v5.Out])),(67,ii 1)] [z22,z23,z24,z25,z20] 29 ?_))))
 obtain ⟨v16,hv16,hh⟩:=bind_some hh
 refine ys (.call 39 [(.t 66),(.t 67)]) (some 68) (op_call (r:=ii v16) (v:=ii v16) (Hr:=[]) (n':=29) (laws_heldBare_fn hv16) (clz_v (vs:=[.agg (sw 11 v5.C.Regs::ru25 v5.C [sw 12 v5.Mem,sw 13 v5.In,sw 14 v5.Out]),ii 1]) kr (clz_c (clo_agg (clos_c (clo_own (c:=(eI .i64)) (xs:=v11.1) (e:=3) eqn len_eI no_eI cl_eI kr) (cs1 (cs1 (cs1 (cs1 (cs1 (cs1 (cs1 (cs1 (cs1 (cs1 (cs1 (cs1 (clos_c (clo_own (c:=(eI .i64)) (xs:=v11.2.1) (e:=3) eqn len_eI no_eI cl_eI kr) (clos_c (clo_own (c:=(eI .i64)) (xs:=v11.2.2.1) (e:=3) eqn len_eI no_eI cl_eI kr) (clos_c (clo_own (c:=(eI .i64)) (xs:=v11.2.2.2.1) (e:=3) eqn len_eI no_eI cl_eI kr) clos_n))))))))))))))))) (cz1 clz_n))) rfl rfl kr ?_)
 refine yt (sp 74 [z21,(11,ii v16)]) [] 29 (Aw.seq (sy [10,11,70] [] (sp 74 [z21,(11,ii v16),(70,bb (decide (v16<(0:Int))))]) [] 29 ?_))
 rcases cond_some hh with ⟨hb,hh⟩ | ⟨hb,hh⟩
 · exact cT hb (sy [4] [] (sp 74 [z4]) [] 29 (Aw.ret (then_r (gvbs hh))))
 refine cF hb (Aw.xskip (fun _ _ _ hq=>then_m hq) (Aw.seq (sy [73] [] (sp 74 [(73,bb (!decide (v16=v11.2.2.2.2)))]) [] 29 ?_)))
 rcases cond_some hh with ⟨hb,hh⟩ | ⟨hb,hh⟩
 · exact cT hb (sy [4] [] (sp 74 [z4]) [] 29 (Aw.ret (then_r (gvbs hh))))
 exact cF hb (Aw.xskip (fun _ _ _ hq=>then_m hq) (sy [4] [] (sp 74 [(4,bb true)]) [] 29 (Aw.ret (gvbs hh))))
end Go.Proofs.Ytbanbjdcgdmkaaa
