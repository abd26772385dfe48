/- Plain functions of the program, and that it hands back what they say. Made by program. -/
import Derived.Test.YtbanbjdcgdmkaaaWT
import Derived.Test.YtbanbjdcgdmkaaaProg
import Derived.Test.YtbanbjdcgdmkaaaWBS1
import Derived.Test.YtbanbjdcgdmkaaaWBT1
import Derived.Test.YtbanbjdcgdmkaaaWHX1
namespace Go.Proofs.Ytbanbjdcgdmkaaa
open Go.RowKit
set_option maxRecDepth 100000
set_option linter.all false
set_option maxHeartbeats 0
theorem low_laws_FnExactBareStep:LW 7 ⟨69,[(.tmp 2)],(.seq (.reg false (rg 7 0)) (.seq (.reg false (rg 7 1)) (.seq (.reg false (rg 7 2)) (.seq (.seq (.reg false (rg 7 3)) (.cond (.t 15) (.seq (.reg false (rg 7 4)) .ret) .skip)) (.seq (.reg false (rg 7 5)) (.seq (.reg false (rg 7 6)) (.seq (.reg false (rg 7 7)) (.seq (.seq (.reg false (rg 7 8)) (.cond (.t 26) (.seq (.reg false (rg 7 9)) .ret) .skip)) (.seq (.seq (.regd (rg 7 10) (rg 7 11)) (.cond (.t 31) (.seq (.reg false (rg 7 12)) .ret) .skip)) (.seq (.reg false (rg 7 13)) (.seq (.reg false (rg 7 14)) (.seq (.seq (.reg false (rg 7 15)) (.cond (.t 42) (.seq (.reg false (rg 7 16)) .ret) .skip)) (.seq (.reg false (rg 7 17)) (.seq (.reg false (rg 7 18)) (.seq (.reg false (rg 7 19)) (.seq (.reg false (rg 7 20)) (.seq (.seq (.reg false (rg 7 21)) (.cond (.t 50) (.seq (.reg false (rg 7 22)) .ret) .skip)) (.seq (.seq (.reg false (rg 7 23)) (.cond (.t 53) (.seq (.reg false (rg 7 24)) .ret) .skip)) (.seq (.reg false (rg 7 25)) (.seq (.seq (.reg false (rg 7 26)) (.cond (.t 60) (.seq (.reg false (rg 7 27)) .ret) .skip)) (.seq (.reg false (rg 7 28)) (.seq (.reg false (rg 7 29)) (.seq (.seq (.reg false (rg 7 30)) (.cond (.t 65) (.seq (.reg false (rg 7 31)) .ret) .skip)) (.seq (.seq (.reg false (rg 7 32)) (.cond (.t 68) (.seq (.reg false (rg 7 33)) .ret) .skip)) (.seq (.reg false (rg 7 34)) .ret)))))))))))))))))))))))))⟩:=kr
noncomputable def F_laws_FnExactBareStep (x_aB:DBare):Option Bool :=
 Option.bind (F_laws_szBare x_aB (1048576:Int)) fun v1 =>
 cond (decide (v1<(0:Int)))
  (some true)
  (Option.bind (F_laws_toBare x_aB) fun v2 =>
  Option.bind (F_spec_BareStep v2) fun v3 =>
  Option.bind (F_laws_toBare x_aB) fun v4 =>
  Option.bind (F_impl_BareStep v4) fun v5 =>
  Option.bind (F_laws_eqBare v5 v3) fun v6 =>
  cond (!v6)
   (some false)
   (Option.bind (F_laws_toBare x_aB) fun v7 =>
   Option.bind (F_laws_eqBare v4 v7) fun v8 =>
   cond (!v8)
    (some false)
    (Option.bind (F_laws_markBare v4 (1:Int)) fun v9 =>
    grd (List.length v9.1=(List.length v4.C.Regs)) (grd (List.length v9.2.1=(List.length v4.Mem)) (grd (List.length v9.2.2.1=(List.length v4.In)) (grd (List.length v9.2.2.2.1=(List.length v4.Out)) (cond (decide (v9.2.2.2.2<(0:Int)))
     (some false)
     (Option.bind (F_laws_eqBare v5 v3) fun v10 =>
     cond (!v10)
      (some false)
      (Option.bind (F_laws_markBare v5 (1:Int)) fun v11 =>
      grd (List.length v11.1=(List.length v5.C.Regs)) (grd (List.length v11.2.1=(List.length v5.Mem)) (grd (List.length v11.2.2.1=(List.length v5.In)) (grd (List.length v11.2.2.2.1=(List.length v5.Out)) (Option.bind (F_laws_heldBare (DBare.mk (DCore.mk v11.1 v5.C.Pc v5.C.Root v5.C.Vector v5.C.Saved v5.C.SavedUser v5.C.Cause v5.C.Bad v5.C.Timer v5.C.Waits v5.C.User v5.C.On v5.C.Stopped) v11.2.1 v11.2.2.1 v11.2.2.2.1) (1:Int)) fun v12 =>
       cond (decide (v12<(0:Int)))
        (some false)
        (cond (!decide (v12=v11.2.2.2.2))
         (some false)
         (Option.bind (F_laws_toBare x_aB) fun v13 =>
         Option.bind (F_impl_BareStep v13) fun v14 =>
         Option.bind (F_laws_eqBare v14 v3) fun v15 =>
         cond (!v15)
          (some false)
          (Option.bind (F_laws_heldBare (DBare.mk (DCore.mk v11.1 v5.C.Pc v5.C.Root v5.C.Vector v5.C.Saved v5.C.SavedUser v5.C.Cause v5.C.Bad v5.C.Timer v5.C.Waits v5.C.User v5.C.On v5.C.Stopped) v11.2.1 v11.2.2.1 v11.2.2.2.1) (1:Int)) fun v16 =>
          cond (decide (v16<(0:Int)))
           (some false)
           (cond (!decide (v16=v11.2.2.2.2))
            (some false)
            (some true))))))))))))))))))
theorem laws_FnExactBareStep_fn {x_aB:DBare} {R_:Bool} (hh:F_laws_FnExactBareStep x_aB=some R_):Fn Try.prog 7 [.agg (B_27 x_aB)] (.bool R_):=by
 let z1:EH:=(0,some (rB27_67 x_aB)); let z2:=(1,pp 0); let z3:=(2,bb false); let z4:=(4,pp 5); let z5:=(5,pp 10); let z6:=(6,pp 15)
 unfold F_laws_FnExactBareStep at hh
 refine Fn.start low_laws_FnExactBareStep [0] (E:=sp 69 [(0,.agg (B_27 x_aB))]) kr (v:=bb R_) (Hr:=[]) (k:=0) kr (sy [1] [0] (sp 69 [z2]) [z1] 1 (sy [1,3] [0] (sp 69 [z2,(3,ii 1048576)]) [z1] 1 (Aw.sreg [1,3] [0] (yu 2 [(11,.agg (B_27 x_aB)),(12,ii 1048576)] [z1] 1 ?_))))
 obtain ⟨v1,hv1,hh⟩:=bind_some hh
 let z7:=(15,bb (decide (v1<(0:Int))))
 refine ys (.call 35 [(.t 11),(.t 12)]) (some 13) (op_call (r:=ii v1) (v:=ii v1) (Hr:=[]) (n':=1) (laws_szBare_fn hv1) (clz_v (vs:=[.agg (B_27 x_aB),ii 1048576]) kr (clz_c (clo_same (clean_agg (cl_B_27 _))) (cz1 clz_n))) rfl rfl kr ?_)
 refine yt (sp 69 [z2,(3,ii v1)]) [z1] 1 (Aw.seq (sy [1,15] [0] (sp 69 [z2,z7]) [z1] 1 ?_))
 rcases cond_some hh with ⟨hb,hh⟩ | ⟨hb,hh⟩
 · exact cT hb (sy [2] [] (sp 69 [(2,bb true)]) [] 1 (Aw.ret (then_r (gvbs hh))))
 refine cF hb (Aw.xskip (fun _ _ _ hq=>then_m hq) (Aw.sreg [1,4] [0,5] (yj 1  (sp 69 [z2,z7,(16,.agg (B_27 x_aB))]) [z1] 1 ?_)))
 obtain ⟨v2,hv2,hh⟩:=bind_some hh
 let q1:Root:=(rI_3 v2.Out); let q2:Root:=(rI_3 v2.In); let q3:Root:=(rI_3 v2.Mem); let q4:Root:=(rI_3 v2.C.Regs)
 refine ys (.call 36 [(.t 16)]) (some 17) (op_call (r:=.agg (.own 3 1 (List.length v2.C.Regs) (fl (eI .i64) v2.C.Regs)::ru25 v2.C [.own 3 1 (List.length v2.Mem) (fl (eI .i64) v2.Mem),.own 3 1 (List.length v2.In) (fl (eI .i64) v2.In),.own 3 1 (List.length v2.Out) (fl (eI .i64) v2.Out)])) (v:=.agg (sw 1 v2.C.Regs::ru25 v2.C [sw 2 v2.Mem,sw 3 v2.In,sw 4 v2.Out])) (Hr:=[(4,some q1),(3,some q2),(2,some q3),(1,some q4)]) (n':=5) (laws_toBare_fn hv2) (clz_v (vs:=[.agg (B_27 x_aB)]) kr (clz_c (clo_same (clean_agg (cl_B_27 _))) clz_n)) nrr nrr kr ?_)
 obtain ⟨v3,hv3,hh⟩:=bind_some hh
 let z8:EH:=(5,some (rB27 v3))
 refine ys (.call 14 [(.t 17)]) (some 18) (op_callz (args:=[.agg (sw 1 v2.C.Regs::ru25 v2.C [sw 2 v2.Mem,sw 3 v2.In,sw 4 v2.Out])]) (args2:=[.agg (B_27 v2)]) (H2:=[(4,none),(3,none),(2,none),(1,none),(4,some q1),(3,some q2),(2,some q3),(1,some q4),z1]) (r:=.agg (B_27 v3)) (v:=.agg (B_27 v3)) (Hr:=[]) (n':=5) kr (Ent.trans (Ent.freezeK (R:=4) (cs:=(fl (eI .i64) v2.Out)) (e:=3) (xs2:=[.agg (B_27 v2)]) kr (noOwn_fl no_eI) (frs_c (.agg _ _ (frs_c (.same _) (frs_c (.same _) (frs_c (.same _) (frs_c (.same _) (frs_c (.same _) (frs_c (.same _) (frs_c (.same _) (frs_c (.same _) (frs_c (.same _) (frs_c (.same _) (frs_c (.same _) (frs_c (.same _) (frs_c (.same _) (frs_c (.same _) (frs_c (.same _) (frs_c (fr_all len_eI eqn) frs_n))))))))))))))))) frs_n)) (Ent.trans (Ent.freezeK (R:=3) (cs:=(fl (eI .i64) v2.In)) (e:=3) (xs2:=[.agg (bo (eI .i64) v2.C.Regs::ru25 v2.C [bo (eI .i64) v2.Mem,bo (eI .i64) v2.In,sw 4 v2.Out])]) kr (noOwn_fl no_eI) (frs_c (.agg _ _ (frs_c (.same _) (frs_c (.same _) (frs_c (.same _) (frs_c (.same _) (frs_c (.same _) (frs_c (.same _) (frs_c (.same _) (frs_c (.same _) (frs_c (.same _) (frs_c (.same _) (frs_c (.same _) (frs_c (.same _) (frs_c (.same _) (frs_c (.same _) (frs_c (fr_all len_eI eqn) (frs_c (.same _) frs_n))))))))))))))))) frs_n)) (Ent.trans (Ent.freezeK (R:=2) (cs:=(fl (eI .i64) v2.Mem)) (e:=3) (xs2:=[.agg (bo (eI .i64) v2.C.Regs::ru25 v2.C [bo (eI .i64) v2.Mem,sw 3 v2.In,sw 4 v2.Out])]) kr (noOwn_fl no_eI) (frs_c (.agg _ _ (frs_c (.same _) (frs_c (.same _) (frs_c (.same _) (frs_c (.same _) (frs_c (.same _) (frs_c (.same _) (frs_c (.same _) (frs_c (.same _) (frs_c (.same _) (frs_c (.same _) (frs_c (.same _) (frs_c (.same _) (frs_c (.same _) (frs_c (fr_all len_eI eqn) (frs_c (.same _) (frs_c (.same _) frs_n))))))))))))))))) frs_n)) (Ent.freezeK (R:=1) (cs:=(fl (eI .i64) v2.C.Regs)) (e:=3) (xs2:=[.agg (bo (eI .i64) v2.C.Regs::ru25 v2.C [sw 2 v2.Mem,sw 3 v2.In,sw 4 v2.Out])]) kr (noOwn_fl no_eI) (frs_c (.agg _ _ (frs_c (fr_all len_eI eqn) (frs_c (.same _) (frs_c (.same _) (frs_c (.same _) (frs_c (.same _) (frs_c (.same _) (frs_c (.same _) (frs_c (.same _) (frs_c (.same _) (frs_c (.same _) (frs_c (.same _) (frs_c (.same _) (frs_c (.same _) (frs_c (.same _) (frs_c (.same _) (frs_c (.same _) frs_n))))))))))))))))) frs_n))))) (spec_BareStep_fn hv3) (clz_c (clo_same (clean_agg (cl_B_27 _))) clz_n) nrr kr ?_)
 refine yt (sp 69 [z2,z4]) [z1,z8] 6 (Aw.sreg [1,4,5] [0,5,6,7,8,9,10] (yu 1 [(19,.agg (B_27 x_aB))] [z1,z8] 6 ?_))
 obtain ⟨v4,hv4,hh⟩:=bind_some hh
 let z9:EV:=(27,.agg (sw 6 v4.C.Regs::ru25 v4.C [sw 7 v4.Mem,sw 8 v4.In,sw 9 v4.Out])); let q5:Root:=(rI_3 v4.Out); let z10:=(9,some q5); let q6:Root:=(rI_3 v4.In); let z11:=(8,some q6); let q7:Root:=(rI_3 v4.Mem); let z12:=(7,some q7); let q8:Root:=(rI_3 v4.C.Regs); let z13:=(6,some q8)
 refine ys (.call 36 [(.t 19)]) (some 20) (op_call (r:=.agg (.own 3 1 (List.length v4.C.Regs) (fl (eI .i64) v4.C.Regs)::ru25 v4.C [.own 3 1 (List.length v4.Mem) (fl (eI .i64) v4.Mem),.own 3 1 (List.length v4.In) (fl (eI .i64) v4.In),.own 3 1 (List.length v4.Out) (fl (eI .i64) v4.Out)])) (v:=.agg (sw 6 v4.C.Regs::ru25 v4.C [sw 7 v4.Mem,sw 8 v4.In,sw 9 v4.Out])) (Hr:=[z10,z11,z12,z13]) (n':=10) (laws_toBare_fn hv4) (clz_v (vs:=[.agg (B_27 x_aB)]) kr (clz_c (clo_same (clean_agg (cl_B_27 _))) clz_n)) nrr nrr kr ?_)
 let q9:Root:=⟨27,(sw 6 v4.C.Regs::ru25 v4.C [sw 7 v4.Mem,sw 8 v4.In,sw 9 v4.Out])⟩; let z14:=(10,some q9)
 refine yt (sp 69 [z2,z4,z5]) [z1,z8,z13,z12,z11,z10,z14] 11 (Aw.sreg [1,4,5,6] [0,5,6,7,8,9,10,11,12,13,14,15] (yu 1 [(21,.agg (sw 6 v4.C.Regs::ru25 v4.C [sw 7 v4.Mem,sw 8 v4.In,sw 9 v4.Out]))] [z1,z8,z13,z12,z11,z10,z14] 11 ?_))
 obtain ⟨v5,hv5,hh⟩:=bind_some hh
 let q10:Root:=(rI_3 v5.Out); let z15:=(14,some q10); let q11:Root:=(rI_3 v5.In); let z16:=(13,some q11); let q12:Root:=(rI_3 v5.Mem); let z17:=(12,some q12); let q13:Root:=(rI_3 v5.C.Regs); let z18:=(11,some q13)
 refine ys (.call 12 [(.t 21)]) (some 22) (op_call (r:=.agg (.own 3 1 (List.length v5.C.Regs) (fl (eI .i64) v5.C.Regs)::ru25 v5.C [.own 3 1 (List.length v5.Mem) (fl (eI .i64) v5.Mem),.own 3 1 (List.length v5.In) (fl (eI .i64) v5.In),.own 3 1 (List.length v5.Out) (fl (eI .i64) v5.Out)])) (v:=.agg (sw 11 v5.C.Regs::ru25 v5.C [sw 12 v5.Mem,sw 13 v5.In,sw 14 v5.Out])) (Hr:=[z15,z16,z17,z18]) (n':=15) (impl_BareStep_fn hv5) (clz_v (vs:=[.agg (sw 6 v4.C.Regs::ru25 v4.C [sw 7 v4.Mem,sw 8 v4.In,sw 9 v4.Out])]) kr (clz_c (clo_agg (clos_c (clo_own (c:=(eI .i64)) (xs:=v4.C.Regs) (e:=3) eqn len_eI no_eI cl_eI kr) (cs1 (cs1 (cs1 (cs1 (cs1 (cs1 (cs1 (cs1 (cs1 (cs1 (cs1 (cs1 (clos_c (clo_own (c:=(eI .i64)) (xs:=v4.Mem) (e:=3) eqn len_eI no_eI cl_eI kr) (clos_c (clo_own (c:=(eI .i64)) (xs:=v4.In) (e:=3) eqn len_eI no_eI cl_eI kr) (clos_c (clo_own (c:=(eI .i64)) (xs:=v4.Out) (e:=3) eqn len_eI no_eI cl_eI kr) clos_n))))))))))))))))) clz_n)) nrr nrr kr ?_)
 let q14:Root:=⟨27,(sw 11 v5.C.Regs::ru25 v5.C [sw 12 v5.Mem,sw 13 v5.In,sw 14 v5.Out])⟩; let z19:=(15,some q14)
 refine yt (sp 69 [z2,z4,z5,z6]) [z1,z8,z13,z12,z11,z10,z14,z18,z17,z16,z15,z19] 16 (Aw.seq (Aw.sreg [1,4,5,6,26] [0,5,6,7,8,9,10,11,12,13,14,15] (yj 2  (sp 69 [z2,z4,z5,z6,(23,.agg (sw 11 v5.C.Regs::ru25 v5.C [sw 12 v5.Mem,sw 13 v5.In,sw 14 v5.Out])),(24,.agg (B_27 v3))]) [z1,z8,z13,z12,z11,z10,z14,z18,z17,z16,z15,z19] 16 ?_)))
 obtain ⟨v6,hv6,hh⟩:=bind_some hh
 refine ys (.call 37 [(.t 23),(.t 24)]) (some 25) (op_call (r:=bb v6) (v:=bb v6) (Hr:=[]) (n':=16) (laws_eqBare_fn hv6) (clz_v (vs:=[.agg (sw 11 v5.C.Regs::ru25 v5.C [sw 12 v5.Mem,sw 13 v5.In,sw 14 v5.Out]),.agg (B_27 v3)]) kr (clz_c (clo_agg (clos_c (clo_own (c:=(eI .i64)) (xs:=v5.C.Regs) (e:=3) eqn len_eI no_eI cl_eI kr) (cs1 (cs1 (cs1 (cs1 (cs1 (cs1 (cs1 (cs1 (cs1 (cs1 (cs1 (cs1 (clos_c (clo_own (c:=(eI .i64)) (xs:=v5.Mem) (e:=3) eqn len_eI no_eI cl_eI kr) (clos_c (clo_own (c:=(eI .i64)) (xs:=v5.In) (e:=3) eqn len_eI no_eI cl_eI kr) (clos_c (clo_own (c:=(eI .i64)) (xs:=v5.Out) (e:=3) eqn len_eI no_eI cl_eI kr) clos_n))))))))))))))))) (clz_c (clo_same (clean_agg (cl_B_27 _))) clz_n))) rfl rfl kr ?_)
 refine yt (sp 69 [z2,z4,z5,z6,(26,bb (!v6))]) [z1,z8,z13,z12,z11,z10,z14,z18,z17,z16,z15,z19] 16 ?_
 rcases cond_some hh with ⟨hb,hh⟩ | ⟨hb,hh⟩
 · exact cT hb (sy [2] [] (sp 69 [z3]) [] 16 (Aw.ret (then_r (gvbs hh))))
 refine cF hb (Aw.xskip (fun _ _ _ hq=>then_m hq) (Aw.seq (Aw.sregd [1,4,5,6,31] [0,5,6,7,8,9,10,11,12,13,14,15] [] kr (dj 2 (sp 69 [z2,z4,z5,z6,(26,bb (!v6)),z9,(28,.agg (B_27 x_aB))]) [z1,z8,z13,z12,z11,z10,z14,z18,z17,z16,z15,z19] 16 ?_))))
 obtain ⟨v7,hv7,hh⟩:=bind_some hh
 let q15:Root:=(rI_3 v7.Out); let q16:Root:=(rI_3 v7.In); let q17:Root:=(rI_3 v7.Mem); let q18:Root:=(rI_3 v7.C.Regs)
 refine ds (.call 36 [(.t 28)]) (some 29) (ydo_n rfl (op_call (r:=.agg (.own 3 1 (List.length v7.C.Regs) (fl (eI .i64) v7.C.Regs)::ru25 v7.C [.own 3 1 (List.length v7.Mem) (fl (eI .i64) v7.Mem),.own 3 1 (List.length v7.In) (fl (eI .i64) v7.In),.own 3 1 (List.length v7.Out) (fl (eI .i64) v7.Out)])) (v:=.agg (sw 16 v7.C.Regs::ru25 v7.C [sw 17 v7.Mem,sw 18 v7.In,sw 19 v7.Out])) (Hr:=[(19,some q15),(18,some q16),(17,some q17),(16,some q18)]) (n':=20) (laws_toBare_fn hv7) (clz_v (vs:=[.agg (B_27 x_aB)]) kr (clz_c (clo_same (clean_agg (cl_B_27 _))) clz_n)) nrr nrr kr ⟨⟨agr_name (n:=16) (n0:=16) (r:=.agg (.own 3 1 (List.length v7.C.Regs) (fl (eI .i64) v7.C.Regs)::ru25 v7.C [.own 3 1 (List.length v7.Mem) (fl (eI .i64) v7.Mem),.own 3 1 (List.length v7.In) (fl (eI .i64) v7.In),.own 3 1 (List.length v7.Out) (fl (eI .i64) v7.Out)])) (v:=.agg (sw 16 v7.C.Regs::ru25 v7.C [sw 17 v7.Mem,sw 18 v7.In,sw 19 v7.Out])) (Hr:=[(19,some q15),(18,some q16),(17,some q17),(16,some q18)]) (n':=20) kr dd,Hld.un ?_⟩⟩))
 refine dt (sp 69 [z2,z4,z5,z6,(26,bb (!v6)),z9,(28,.agg (B_27 x_aB)),(29,.agg (sw 16 v7.C.Regs::ru25 v7.C [sw 17 v7.Mem,sw 18 v7.In,sw 19 v7.Out]))]) [(19,some q15),(18,some q16),(17,some q17),(16,some q18),z1,z8,z13,z12,z11,z10,z14,z18,z17,z16,z15,z19] 20 ?_
 obtain ⟨v8,hv8,hh⟩:=bind_some hh
 refine ys (.call 37 [(.t 27),(.t 29)]) (some 30) (op_call (r:=bb v8) (v:=bb v8) (Hr:=[]) (n':=20) (laws_eqBare_fn hv8) (clz_v (vs:=[.agg (sw 6 v4.C.Regs::ru25 v4.C [sw 7 v4.Mem,sw 8 v4.In,sw 9 v4.Out]),.agg (sw 16 v7.C.Regs::ru25 v7.C [sw 17 v7.Mem,sw 18 v7.In,sw 19 v7.Out])]) kr (clz_c (clo_agg (clos_c (clo_own (c:=(eI .i64)) (xs:=v4.C.Regs) (e:=3) eqn len_eI no_eI cl_eI kr) (cs1 (cs1 (cs1 (cs1 (cs1 (cs1 (cs1 (cs1 (cs1 (cs1 (cs1 (cs1 (clos_c (clo_own (c:=(eI .i64)) (xs:=v4.Mem) (e:=3) eqn len_eI no_eI cl_eI kr) (clos_c (clo_own (c:=(eI .i64)) (xs:=v4.In) (e:=3) eqn len_eI no_eI cl_eI kr) (clos_c (clo_own (c:=(eI .i64)) (xs:=v4.Out) (e:=3) eqn len_eI no_eI cl_eI kr) clos_n))))))))))))))))) (clz_c (clo_agg (clos_c (clo_own (c:=(eI .i64)) (xs:=v7.C.Regs) (e:=3) eqn len_eI no_eI cl_eI kr) (cs1 (cs1 (cs1 (cs1 (cs1 (cs1 (cs1 (cs1 (cs1 (cs1 (cs1 (cs1 (clos_c (clo_own (c:=(eI .i64)) (xs:=v7.Mem) (e:=3) eqn len_eI no_eI cl_eI kr) (clos_c (clo_own (c:=(eI .i64)) (xs:=v7.In) (e:=3) eqn len_eI no_eI cl_eI kr) (clos_c (clo_own (c:=(eI .i64)) (xs:=v7.Out) (e:=3) eqn len_eI no_eI cl_eI kr) clos_n))))))))))))))))) clz_n))) rfl rfl kr ?_)
 refine yt (sp 69 [z2,z4,z5,z6,(31,bb (!v8))]) [z1,z8,z13,z12,z11,z10,z14,z18,z17,z16,z15,z19] 20 ?_
 rcases cond_some hh with ⟨hb,hh⟩ | ⟨hb,hh⟩
 · exact cT hb (sy [2] [] (sp 69 [z3]) [] 20 (Aw.ret (then_r (gvbs hh))))
 refine cF hb (Aw.xskip (fun _ _ _ hq=>then_m hq) (sy [1,4,5,6,7] [0,5,6,7,8,9,10,11,12,13,14,15] (sp 69 [z2,z4,z5,z6,(7,ii 1)]) [z1,z8,z13,z12,z11,z10,z14,z18,z17,z16,z15,z19] 20 (Aw.sreg [1,4,6,7] [0,5,11,12,13,14,15] (yu 2 [(32,.agg (sw 6 v4.C.Regs::ru25 v4.C [sw 7 v4.Mem,sw 8 v4.In,sw 9 v4.Out])),(33,ii 1)] [z1,z8,z13,z12,z11,z10,z14,z18,z17,z16,z15,z19] 20 ?_))))
 obtain ⟨v9,hv9,hh⟩:=bind_some hh
 obtain ⟨hg5,hh⟩:=grd_some hh
 obtain ⟨hg6,hh⟩:=grd_some hh
 obtain ⟨hg7,hh⟩:=grd_some hh
 obtain ⟨hg8,hh⟩:=grd_some hh
 let q19:Root:=(rI_3 v9.2.1); let q20:Root:=(rI_3 v9.2.2.1); let q21:Root:=(rI_3 v9.2.2.2.1)
 refine ys (.call 38 [(.t 32),(.t 33)]) (some 34) (cf (ii v9.2.2.2.2) [(6,some (rI_3 v9.1)),(7,some q19),(8,some q20),(9,some q21)] 20 [6,7,8,9] (laws_markBare_fn hv9) [.agg (sw 6 v4.C.Regs::ru25 v4.C [sw 7 v4.Mem,sw 8 v4.In,sw 9 v4.Out]),ii 1] rz (hn nr_eI (hn nr_eI (hn nr_eI (hn nr_eI hs_nil)))) ren_i (hn nr_eI (hn nr_eI (hn nr_eI (hn nr_eI hs_nil)))) ?_)
 refine yt (sp 69 [z2,z4,z6,(7,ii v9.2.2.2.2)]) [z1,z8,z18,z17,z16,z15,z19] 20 (Aw.seq (Aw.sreg [1,4,6,42] [0,5,11,12,13,14,15] (yj 3  (sp 69 [z2,z4,z6,(7,ii v9.2.2.2.2),(35,ii v9.2.2.2.2),(36,bb (decide (v9.2.2.2.2<(0:Int)))),(37,bb (decide (v9.2.2.2.2<(0:Int))))]) [z1,z8,z18,z17,z16,z15,z19] 20 ?_)))
 rcases cond_some hh with ⟨hb,hh⟩ | ⟨hb,hh⟩
 · exact yb 36 hb (yb 37 hb (yt (sp 69 [z2,z4,z6,(42,bb true)]) [z1,z8,z18,z17,z16,z15,z19] 20 (cT rfl (sy [2] [] (sp 69 [z3]) [] 20 (Aw.ret (then_r (gvbs hh)))))))
 refine yb 36 hb (yb 37 hb (yu 2 [(36,bb false),(37,bb false),(38,.agg (sw 11 v5.C.Regs::ru25 v5.C [sw 12 v5.Mem,sw 13 v5.In,sw 14 v5.Out])),(39,.agg (B_27 v3))] [z1,z8,z18,z17,z16,z15,z19] 20 ?_))
 obtain ⟨v10,hv10,hh⟩:=bind_some hh
 refine yg (.call 37 [(.t 38),(.t 39)]) (some 40) 37 false (op_call (r:=bb v10) (v:=bb v10) (Hr:=[]) (n':=20) (laws_eqBare_fn hv10) (clz_v (vs:=[.agg (sw 11 v5.C.Regs::ru25 v5.C [sw 12 v5.Mem,sw 13 v5.In,sw 14 v5.Out]),.agg (B_27 v3)]) kr (clz_c (clo_agg (clos_c (clo_own (c:=(eI .i64)) (xs:=v5.C.Regs) (e:=3) eqn len_eI no_eI cl_eI kr) (cs1 (cs1 (cs1 (cs1 (cs1 (cs1 (cs1 (cs1 (cs1 (cs1 (cs1 (cs1 (clos_c (clo_own (c:=(eI .i64)) (xs:=v5.Mem) (e:=3) eqn len_eI no_eI cl_eI kr) (clos_c (clo_own (c:=(eI .i64)) (xs:=v5.In) (e:=3) eqn len_eI no_eI cl_eI kr) (clos_c (clo_own (c:=(eI .i64)) (xs:=v5.Out) (e:=3) eqn len_eI no_eI cl_eI kr) clos_n))))))))))))))))) (clz_c (clo_same (clean_agg (cl_B_27 _))) clz_n))) rfl rfl kr ?_)
 refine yt (sp 69 [z2,z4,z6,(42,bb (!v10))]) [z1,z8,z18,z17,z16,z15,z19] 20 ?_
 rcases cond_some hh with ⟨hb,hh⟩ | ⟨hb,hh⟩
 · exact cT hb (sy [2] [] (sp 69 [z3]) [] 20 (Aw.ret (then_r (gvbs hh))))
 refine cF hb (Aw.xskip (fun _ _ _ hq=>then_m hq) (sy [1,4,6,8] [0,5,11,12,13,14,15] (sp 69 [z2,z4,z6,(8,ii 1)]) [z1,z8,z18,z17,z16,z15,z19] 20 (Aw.sreg [1,4,6,8] [0,5,11,12,13,14,15] (yu 2 [(43,.agg (sw 11 v5.C.Regs::ru25 v5.C [sw 12 v5.Mem,sw 13 v5.In,sw 14 v5.Out])),(44,ii 1)] [z1,z8,z18,z17,z16,z15,z19] 20 ?_))))
 obtain ⟨v11,hv11,hh⟩:=bind_some hh
 let z20:=(8,ii v11.2.2.2.2)
 obtain ⟨hg13,hh⟩:=grd_some hh
 obtain ⟨hg14,hh⟩:=grd_some hh
 obtain ⟨hg15,hh⟩:=grd_some hh
 obtain ⟨hg16,hh⟩:=grd_some hh
 let q22:Root:=(rI_3 v11.1); let z21:=(11,some q22); let q23:Root:=(rI_3 v11.2.1); let z22:=(12,some q23); let q24:Root:=(rI_3 v11.2.2.1); let z23:=(13,some q24); let q25:Root:=(rI_3 v11.2.2.2.1); let z24:=(14,some q25)
 refine ys (.call 38 [(.t 43),(.t 44)]) (some 45) (cf (ii v11.2.2.2.2) [z21,z22,z23,z24] 20 [11,12,13,14] (laws_markBare_fn hv11) [.agg (sw 11 v5.C.Regs::ru25 v5.C [sw 12 v5.Mem,sw 13 v5.In,sw 14 v5.Out]),ii 1] rz (hn nr_eI (hn nr_eI (hn nr_eI (hn nr_eI hs_nil)))) ren_i (hn nr_eI (hn nr_eI (hn nr_eI (hn nr_eI hs_nil)))) ?_)
 refine yt (sp 69 [z2,z4,z6,z20]) [z1,z8,z21,z22,z23,z24,z19] 20 (sy [1,4,6,8,9] [0,5,11,12,13,14,15] (sp 69 [z2,z4,z6,z20,(9,ii 1)]) [z1,z8,z21,z22,z23,z24,z19] 20 (Aw.sreg [1,4,6,8,9] [0,5,11,12,13,14,15] (yu 2 [(46,.agg (sw 11 v5.C.Regs::ru25 v5.C [sw 12 v5.Mem,sw 13 v5.In,sw 14 v5.Out])),(47,ii 1)] [z1,z8,z21,z22,z23,z24,z19] 20 ?_)))
 obtain ⟨v12,hv12,hh⟩:=bind_some hh
 let z25:=(53,bb (!decide (v12=v11.2.2.2.2)))
 refine ys (.call 39 [(.t 46),(.t 47)]) (some 48) (op_call (r:=ii v12) (v:=ii v12) (Hr:=[]) (n':=20) (laws_heldBare_fn hv12) (clz_v (vs:=[.agg (sw 11 v5.C.Regs::ru25 v5.C [sw 12 v5.Mem,sw 13 v5.In,sw 14 v5.Out]),ii 1]) kr (clz_c (clo_agg (clos_c (clo_own (c:=(eI .i64)) (xs:=v11.1) (e:=3) eqn len_eI no_eI cl_eI kr) (cs1 (cs1 (cs1 (cs1 (cs1 (cs1 (cs1 (cs1 (cs1 (cs1 (cs1 (cs1 (clos_c (clo_own (c:=(eI .i64)) (xs:=v11.2.1) (e:=3) eqn len_eI no_eI cl_eI kr) (clos_c (clo_own (c:=(eI .i64)) (xs:=v11.2.2.1) (e:=3) eqn len_eI no_eI cl_eI kr) (clos_c (clo_own (c:=(eI .i64)) (xs:=v11.2.2.2.1) (e:=3) eqn len_eI no_eI cl_eI kr) clos_n))))))))))))))))) (cz1 clz_n))) rfl rfl kr ?_)
 refine yt (sp 69 [z2,z4,z6,z20,(9,ii v12)]) [z1,z8,z21,z22,z23,z24,z19] 20 (Aw.seq (sy [1,4,6,8,9,50] [0,5,11,12,13,14,15] (sp 69 [z2,z4,z6,z20,(9,ii v12),(50,bb (decide (v12<(0:Int))))]) [z1,z8,z21,z22,z23,z24,z19] 20 ?_))
 rcases cond_some hh with ⟨hb,hh⟩ | ⟨hb,hh⟩
 · exact cT hb (sy [2] [] (sp 69 [z3]) [] 20 (Aw.ret (then_r (gvbs hh))))
 refine cF hb (Aw.xskip (fun _ _ _ hq=>then_m hq) (Aw.seq (sy [1,4,6,8,53] [0,5,11,12,13,14,15] (sp 69 [z2,z4,z6,z20,z25]) [z1,z8,z21,z22,z23,z24,z19] 20 ?_)))
 rcases cond_some hh with ⟨hb,hh⟩ | ⟨hb,hh⟩
 · exact cT hb (sy [2] [] (sp 69 [z3]) [] 20 (Aw.ret (then_r (gvbs hh))))
 refine cF hb (Aw.xskip (fun _ _ _ hq=>then_m hq) (Aw.sreg [4,6,8,10] [5,11,12,13,14,15,24,25,26,27,28] (yj 1  (sp 69 [z2,z4,z6,z20,z25,(54,.agg (B_27 x_aB))]) [z1,z8,z21,z22,z23,z24,z19] 20 ?_)))
 obtain ⟨v13,hv13,hh⟩:=bind_some hh
 refine ys (.call 36 [(.t 54)]) (some 55) (op_call (r:=.agg (.own 3 1 (List.length v13.C.Regs) (fl (eI .i64) v13.C.Regs)::ru25 v13.C [.own 3 1 (List.length v13.Mem) (fl (eI .i64) v13.Mem),.own 3 1 (List.length v13.In) (fl (eI .i64) v13.In),.own 3 1 (List.length v13.Out) (fl (eI .i64) v13.Out)])) (v:=.agg (sw 20 v13.C.Regs::ru25 v13.C [sw 21 v13.Mem,sw 22 v13.In,sw 23 v13.Out])) (Hr:=[(23,some (rI_3 v13.Out)),(22,some (rI_3 v13.In)),(21,some (rI_3 v13.Mem)),(20,some (rI_3 v13.C.Regs))]) (n':=24) (laws_toBare_fn hv13) (clz_v (vs:=[.agg (B_27 x_aB)]) kr (clz_c (clo_same (clean_agg (cl_B_27 _))) clz_n)) nrr nrr kr ?_)
 obtain ⟨v14,hv14,hh⟩:=bind_some hh
 let q26:Root:=(rI_3 v14.Out); let q27:Root:=(rI_3 v14.In); let q28:Root:=(rI_3 v14.Mem); let q29:Root:=(rI_3 v14.C.Regs)
 refine ys (.call 12 [(.t 55)]) (some 56) (op_call (r:=.agg (.own 3 1 (List.length v14.C.Regs) (fl (eI .i64) v14.C.Regs)::ru25 v14.C [.own 3 1 (List.length v14.Mem) (fl (eI .i64) v14.Mem),.own 3 1 (List.length v14.In) (fl (eI .i64) v14.In),.own 3 1 (List.length v14.Out) (fl (eI .i64) v14.Out)])) (v:=.agg (sw 24 v14.C.Regs::ru25 v14.C [sw 25 v14.Mem,sw 26 v14.In,sw 27 v14.Out])) (Hr:=[(27,some q26),(26,some q27),(25,some q28),(24,some q29)]) (n':=28) (impl_BareStep_fn hv14) (clz_v (vs:=[.agg (sw 20 v13.C.Regs::ru25 v13.C [sw 21 v13.Mem,sw 22 v13.In,sw 23 v13.Out])]) kr (clz_c (clo_agg (clos_c (clo_own (c:=(eI .i64)) (xs:=v13.C.Regs) (e:=3) eqn len_eI no_eI cl_eI kr) (cs1 (cs1 (cs1 (cs1 (cs1 (cs1 (cs1 (cs1 (cs1 (cs1 (cs1 (cs1 (clos_c (clo_own (c:=(eI .i64)) (xs:=v13.Mem) (e:=3) eqn len_eI no_eI cl_eI kr) (clos_c (clo_own (c:=(eI .i64)) (xs:=v13.In) (e:=3) eqn len_eI no_eI cl_eI kr) (clos_c (clo_own (c:=(eI .i64)) (xs:=v13.Out) (e:=3) eqn len_eI no_eI cl_eI kr) clos_n))))))))))))))))) clz_n)) nrr nrr kr ?_)
 let q30:Root:=⟨27,(sw 24 v14.C.Regs::ru25 v14.C [sw 25 v14.Mem,sw 26 v14.In,sw 27 v14.Out])⟩
 refine yt (sp 69 [z4,z6,z20,(10,pp 28)]) [z8,z21,z22,z23,z24,z19,(24,some q29),(25,some q28),(26,some q27),(27,some q26),(28,some q30)] 29 (Aw.seq (Aw.sreg [6,8,60] [11,12,13,14,15] (yj 2  (sp 69 [z4,z6,z20,(10,pp 28),(57,.agg (sw 24 v14.C.Regs::ru25 v14.C [sw 25 v14.Mem,sw 26 v14.In,sw 27 v14.Out])),(58,.agg (B_27 v3))]) [z8,z21,z22,z23,z24,z19,(24,some q29),(25,some q28),(26,some q27),(27,some q26),(28,some q30)] 29 ?_)))
 obtain ⟨v15,hv15,hh⟩:=bind_some hh
 refine ys (.call 37 [(.t 57),(.t 58)]) (some 59) (op_call (r:=bb v15) (v:=bb v15) (Hr:=[]) (n':=29) (laws_eqBare_fn hv15) (clz_v (vs:=[.agg (sw 24 v14.C.Regs::ru25 v14.C [sw 25 v14.Mem,sw 26 v14.In,sw 27 v14.Out]),.agg (B_27 v3)]) kr (clz_c (clo_agg (clos_c (clo_own (c:=(eI .i64)) (xs:=v14.C.Regs) (e:=3) eqn len_eI no_eI cl_eI kr) (cs1 (cs1 (cs1 (cs1 (cs1 (cs1 (cs1 (cs1 (cs1 (cs1 (cs1 (cs1 (clos_c (clo_own (c:=(eI .i64)) (xs:=v14.Mem) (e:=3) eqn len_eI no_eI cl_eI kr) (clos_c (clo_own (c:=(eI .i64)) (xs:=v14.In) (e:=3) eqn len_eI no_eI cl_eI kr) (clos_c (clo_own (c:=(eI .i64)) (xs:=v14.Out) (e:=3) eqn len_eI no_eI cl_eI kr) clos_n))))))))))))))))) (clz_c (clo_same (clean_agg (cl_B_27 _))) clz_n))) rfl rfl kr ?_)
 refine yt (sp 69 [z6,z20,(60,bb (!v15))]) [z21,z22,z23,z24,z19] 29 ?_
 rcases cond_some hh with ⟨hb,hh⟩ | ⟨hb,hh⟩
 · exact cT hb (sy [2] [] (sp 69 [z3]) [] 29 (Aw.ret (then_r (gvbs hh))))
 refine cF hb (Aw.xskip (fun _ _ _ hq=>then_m hq) (sy [6,8,9] [11,12,13,14,15] (sp 69 [z6,z20,(9,ii 1)]) [z21,z22,z23,z24,z19] 29 (Aw.sreg [8,9] [] (yu 2 [(61,.agg (sw 11 v5.C.Regs::ru25 v5.C [sw 12 v5.Mem,sw 13 v5.In,sw 14 v5.Out])),(62,ii 1)] [z21,z22,z23,z24,z19] 29 ?_))))
 obtain ⟨v16,hv16,hh⟩:=bind_some hh
 refine ys (.call 39 [(.t 61),(.t 62)]) (some 63) (op_call (r:=ii v16) (v:=ii v16) (Hr:=[]) (n':=29) (laws_heldBare_fn hv16) (clz_v (vs:=[.agg (sw 11 v5.C.Regs::ru25 v5.C [sw 12 v5.Mem,sw 13 v5.In,sw 14 v5.Out]),ii 1]) kr (clz_c (clo_agg (clos_c (clo_own (c:=(eI .i64)) (xs:=v11.1) (e:=3) eqn len_eI no_eI cl_eI kr) (cs1 (cs1 (cs1 (cs1 (cs1 (cs1 (cs1 (cs1 (cs1 (cs1 (cs1 (cs1 (clos_c (clo_own (c:=(eI .i64)) (xs:=v11.2.1) (e:=3) eqn len_eI no_eI cl_eI kr) (clos_c (clo_own (c:=(eI .i64)) (xs:=v11.2.2.1) (e:=3) eqn len_eI no_eI cl_eI kr) (clos_c (clo_own (c:=(eI .i64)) (xs:=v11.2.2.2.1) (e:=3) eqn len_eI no_eI cl_eI kr) clos_n))))))))))))))))) (cz1 clz_n))) rfl rfl kr ?_)
 refine yt (sp 69 [z20,(9,ii v16)]) [] 29 (Aw.seq (sy [8,9,65] [] (sp 69 [z20,(9,ii v16),(65,bb (decide (v16<(0:Int))))]) [] 29 ?_))
 rcases cond_some hh with ⟨hb,hh⟩ | ⟨hb,hh⟩
 · exact cT hb (sy [2] [] (sp 69 [z3]) [] 29 (Aw.ret (then_r (gvbs hh))))
 refine cF hb (Aw.xskip (fun _ _ _ hq=>then_m hq) (Aw.seq (sy [68] [] (sp 69 [(68,bb (!decide (v16=v11.2.2.2.2)))]) [] 29 ?_)))
 rcases cond_some hh with ⟨hb,hh⟩ | ⟨hb,hh⟩
 · exact cT hb (sy [2] [] (sp 69 [z3]) [] 29 (Aw.ret (then_r (gvbs hh))))
 exact cF hb (Aw.xskip (fun _ _ _ hq=>then_m hq) (sy [2] [] (sp 69 [(2,bb true)]) [] 29 (Aw.ret (gvbs hh))))
end Go.Proofs.Ytbanbjdcgdmkaaa
