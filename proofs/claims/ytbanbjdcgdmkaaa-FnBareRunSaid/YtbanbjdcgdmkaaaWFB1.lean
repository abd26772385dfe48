/- Plain functions of the program, and that it hands back what they say. Made by program. -/
import Derived.Test.YtbanbjdcgdmkaaaWT
import Derived.Test.YtbanbjdcgdmkaaaProg
import Derived.Test.YtbanbjdcgdmkaaaWBS1
import Derived.Test.YtbanbjdcgdmkaaaWBT1
import Derived.Test.YtbanbjdcgdmkaaaWD1
import Derived.Test.YtbanbjdcgdmkaaaWGB1
import Derived.Test.YtbanbjdcgdmkaaaWI1
import Derived.Test.YtbanbjdcgdmkaaaWO1
import Derived.Test.YtbanbjdcgdmkaaaWWK1
namespace Go.Proofs.Ytbanbjdcgdmkaaa
open Go.RowKit
set_option maxRecDepth 100000
set_option linter.all false
set_option maxHeartbeats 0
theorem low_laws_FnBareStep:LW 3 ⟨141,[(.tmp 2)],(.seq (.reg false (rg 3 0)) (.seq (.seq (.reg false (rg 3 1)) (.cond (.t 11) (.seq (.reg false (rg 3 2)) .ret) .skip)) (.seq (.reg false (rg 3 3)) (.seq (.reg false (rg 3 4)) (.seq (.seq (.regd (rg 3 5) (rg 3 6)) (.cond (.t 20) (.seq (.reg false (rg 3 7)) .ret) .skip)) (.seq (.seq (.reg false (rg 3 8)) (.cond (.t 23) (.seq (.reg false (rg 3 9)) .ret) .skip)) (.seq (.seq (.reg false (rg 3 10)) (.cond (.t 44) (.seq (.reg false (rg 3 11)) .ret) .skip)) (.seq (.seq (.reg false (rg 3 12)) (.cond (.t 53) (.seq (.reg false (rg 3 13)) .ret) .skip)) (.seq (.seq (.reg false (rg 3 14)) (.cond (.t 97) (.seq (.reg false (rg 3 15)) .ret) .skip)) (.seq (.reg false (rg 3 16)) (.seq (.seq (.reg false (rg 3 17)) (.block 0 (.loop (.seq (.seq (.reg false (rg 3 18)) (.cond (.t 102) .skip (.exit 0))) (.seq (.block 1 (.seq (.seq (.reg true (rg 3 19)) (.cond (.t 115) (.exit 1) .skip)) (.seq (.reg false (rg 3 20)) (.seq (.reg false (rg 3 21)) (.seq (.seq (.reg false (rg 3 22)) (.block 2 (.loop (.seq (.seq (.reg false (rg 3 23)) (.cond (.t 119) .skip (.exit 2))) (.seq (.block 3 (.reg false (rg 3 24))) (.reg false (rg 3 25))))))) (.seq (.reg false (rg 3 27)) (.cond (.t 135) (.seq (.reg false (rg 3 28)) .ret) .skip))))))) (.reg false (rg 3 29))))))) (.seq (.reg false (rg 3 31)) .ret))))))))))))⟩:=kr
noncomputable def F_laws_FnBareStep_j12  (s12:Int):Option Bool :=
 cond (decide (s12≤(1:Int)))
  (Option.bind (F_laws_alive ) fun v13 =>
  some v13)
  (some false)
noncomputable def F_laws_FnBareStep_j15 (s14:Int × Int) (s15:Int):Option (LO (Int × Int) (JO Int Bool)) :=
 some (.next (s15,(w64 (s14.2+(1:Int)))))
noncomputable def F_laws_FnBareStep_j16 (s14:Int × Int) (s16:Bool):Option (JO Int (LO (Int × Int) (JO Int Bool))) :=
 cond (!s16)
  (some (.out (.ret (.out false))))
  (some (.go (w64 (s14.1+(1:Int)))))
noncomputable def F_laws_FnBareStep_j18 (s17:Bool × Int) (s18:Bool):Option (LO (Bool × Int) (JO Bool (JO Int (LO (Int × Int) (JO Int Bool))))) :=
 some (.next (s18,(w64 (s17.2+(1:Int)))))
noncomputable def F_laws_FnBareStep_l17 (v1:DBare) (s14:Int × Int) (s17:Bool × Int):Option (LO (Bool × Int) (JO Bool (JO Int (LO (Int × Int) (JO Int Bool))))) :=
 cond (decide (s17.2<(64:Int)))
  (Option.bind (cond s17.1
   (some (.go true))
   (Option.bind (F_impl_Walk v1.Mem v1.C.Root s17.2 true true) fun v19 =>
   some (.go (decide (v19=s14.2))))) fun j18 =>
   JO.run j18 (F_laws_FnBareStep_j18 s17))
  (some (.ret (.go s17.1)))
noncomputable def F_laws_FnBareStep_l14 (v1:DBare) (v2:DBare) (s14:Int × Int):Option (LO (Int × Int) (JO Int Bool)) :=
 cond (decide (s14.2<(((List.length v1.Mem):Nat):Int)))
  (Option.bind (grd ((0:Int)≤s14.2∧s14.2<(((List.length v2.Mem):Nat):Int)) (grd ((0:Int)≤s14.2∧s14.2<((List.length v1.Mem:Nat):Int)) (cond (decide ((List.getD v2.Mem (Int.toNat s14.2) default)=(List.getD v1.Mem (Int.toNat s14.2) default)))
   (some (.go s14.1))
   (Option.bind (Option.bind (iter (F_laws_FnBareStep_l17 v1 s14) (false,(0:Int))) LO.val) fun j16 =>
    JO.run j16 (F_laws_FnBareStep_j16 s14))))) fun j15 =>
   JO.run j15 (F_laws_FnBareStep_j15 s14))
  (some (.ret (.go s14.1)))
noncomputable def F_laws_FnBareStep_j7 (v1:DBare) (v2:DBare) (s7:Unit):Option Bool :=
 cond (!v1.C.User)
  (Option.bind (F_laws_alive ) fun v8 =>
  some v8)
  (cond v1.C.Stopped
   (Option.bind (F_laws_alive ) fun v9 =>
   some v9)
   (cond (!decide (v2.C.Root=v1.C.Root))
    (some false)
    (cond (!decide (v2.C.Vector=v1.C.Vector))
     (some false)
     (cond (!decide (v2.C.Timer=(max (w64 (v1.C.Timer - (1:Int))) (0:Int))))
      (some false)
      (Option.bind (F_laws_sameInts v2.In v1.In) fun v10 =>
      cond (!v10)
       (some false)
       (Option.bind (F_laws_sameInts v2.Out v1.Out) fun v11 =>
       cond (!v11)
        (some false)
        (Option.bind (Option.bind (iter (F_laws_FnBareStep_l14 v1 v2) ((0:Int),(0:Int))) LO.val) fun j12 =>
         JO.run j12 (F_laws_FnBareStep_j12))))))))
noncomputable def F_laws_FnBareStep (x_code:List Int):Option Bool :=
 cond (decide ((1048576:Int)<(((List.length x_code):Nat):Int)))
  (some true)
  (Option.bind (F_spec_DrawBareStep x_code) fun v1 =>
  Option.bind (F_impl_BareStep v1) fun v2 =>
  Option.bind (F_spec_BareStep v1) fun v3 =>
  Option.bind (F_laws_sameBare v2 v3) fun v4 =>
  cond (!v4)
   (some false)
   (Option.bind (F_impl_BareOk v1) fun v5 =>
   cond (!v5)
    (cond (decide ((((List.length v2.Mem):Nat):Int)=(0:Int)))
     (Option.bind (F_laws_alive ) fun v6 =>
     some v6)
     (some false))
    (Option.bind (Option.bind (F_impl_BareOk v2) fun v20 =>
     cond (!v20)
      (some (.out false))
      (cond v1.C.Stopped
       (Option.bind (F_laws_sameBare v2 v1) fun v21 =>
       cond (!v21)
        (some (.out false))
        (some (.go ())))
       (some (.go ())))) fun j7 =>
     JO.run j7 (F_laws_FnBareStep_j7 v1 v2))))
theorem laws_FnBareStep_fn {x_code:List Int} {R_:Bool} (hh:F_laws_FnBareStep x_code=some R_):Fn Try.prog 3 [bo (eI .u8) x_code] (.bool R_):=by
 let z3:=(0,bo (eI .u8) x_code); let z4:=(11,bb (decide ((1048576:Int)<(((List.length x_code):Nat):Int)))); let z5:=(2,bb false); let z6:=(3,pp 0); let z7:=(3,pp 4); let z8:=(4,pp 1); let z9:=(4,pp 9); let z10:=(97,bb true)
 unfold F_laws_FnBareStep at hh
 refine Fn.start low_laws_FnBareStep [0] (E:=sp 141 [z3]) kr (v:=bb R_) (Hr:=[]) (k:=0) kr (sy [0] [] (sp 141 [z3]) [] 0 (Aw.seq (sy [0,11] [] (sp 141 [z3,z4]) [] 0 ?_)))
 rcases cond_some hh with ⟨hb,hh⟩ | ⟨hb,hh⟩
 · exact cT hb (sy [2] [] (sp 141 [(2,bb true)]) [] 0 (Aw.ret (then_r (gvbs hh))))
 refine cF hb (Aw.xskip (fun _ _ _ hq=>then_m hq) (Aw.sreg [3] [0,1,2,3,4] (yj 1  (sp 141 [z3,z4,(12,bo (eI .u8) x_code)]) [] 0 ?_)))
 obtain ⟨v1,hv1,hh⟩:=bind_some hh
 let z11:EH:=(0,some (rB27 v1)); let z12:EH:=(4,some (rB27 v1)); let q1:Root:=(rI_3 v1.Out); let z13:=(3,some q1); let q2:Root:=(rI_3 v1.In); let z14:=(2,some q2); let q3:Root:=(rI_3 v1.Mem); let z15:=(1,some q3); let q4:Root:=(rI_3 v1.C.Regs)
 refine ys (.call 11 [(.t 12)]) (some 13) (op_call (r:=.agg (.own 3 1 (List.length v1.C.Regs) (fl (eI .i64) v1.C.Regs)::ru25 v1.C [.own 3 1 (List.length v1.Mem) (fl (eI .i64) v1.Mem),.own 3 1 (List.length v1.In) (fl (eI .i64) v1.In),.own 3 1 (List.length v1.Out) (fl (eI .i64) v1.Out)])) (v:=.agg (sw 0 v1.C.Regs::ru25 v1.C [sw 1 v1.Mem,sw 2 v1.In,sw 3 v1.Out])) (Hr:=[z13,z14,z15,(0,some q4)]) (n':=4) (spec_DrawBareStep_fn hv1) (clz_v (vs:=[bo (eI .u8) x_code]) kr (clz_c (clo_same (clean_bor (cleans_fl cl_eI))) clz_n)) nrr nrr kr ?_)
 let q5:Root:=⟨27,(sw 0 v1.C.Regs::ru25 v1.C [sw 1 v1.Mem,sw 2 v1.In,sw 3 v1.Out])⟩
 refine yt (sp 141 [z7]) [(0,some q4),z15,z14,z13,(4,some q5)] 5 (Aw.sreg [3,4] [0,1,2,3,4,5,6,7,8,9] (yu 1 [(14,.agg (sw 0 v1.C.Regs::ru25 v1.C [sw 1 v1.Mem,sw 2 v1.In,sw 3 v1.Out]))] [(0,some q4),z15,z14,z13,(4,some q5)] 5 ?_))
 obtain ⟨v2,hv2,hh⟩:=bind_some hh
 let z16:EV:=(16,.agg (sw 5 v2.C.Regs::ru25 v2.C [sw 6 v2.Mem,sw 7 v2.In,sw 8 v2.Out])); let q6:Root:=(rI_3 v2.Out); let z17:=(5,some q6); let z18:=(8,some q6); let q7:Root:=(rI_3 v2.In); let z19:=(4,some q7); let z20:=(7,some q7); let q8:Root:=(rI_3 v2.Mem); let z21:=(3,some q8); let z22:=(6,some q8); let q9:Root:=(rI_3 v2.C.Regs); let z23:=(2,some q9); let z24:=(5,some q9)
 refine ys (.call 12 [(.t 14)]) (some 15) (op_call (r:=.agg (.own 3 1 (List.length v2.C.Regs) (fl (eI .i64) v2.C.Regs)::ru25 v2.C [.own 3 1 (List.length v2.Mem) (fl (eI .i64) v2.Mem),.own 3 1 (List.length v2.In) (fl (eI .i64) v2.In),.own 3 1 (List.length v2.Out) (fl (eI .i64) v2.Out)])) (v:=.agg (sw 5 v2.C.Regs::ru25 v2.C [sw 6 v2.Mem,sw 7 v2.In,sw 8 v2.Out])) (Hr:=[z18,z20,z22,z24]) (n':=9) (impl_BareStep_fn hv2) (clz_v (vs:=[.agg (sw 0 v1.C.Regs::ru25 v1.C [sw 1 v1.Mem,sw 2 v1.In,sw 3 v1.Out])]) kr (clz_c (clo_agg (clos_c (clo_own (c:=(eI .i64)) (xs:=v1.C.Regs) (e:=3) eqn len_eI no_eI cl_eI kr) (cs1 (cs1 (cs1 (cs1 (cs1 (cs1 (cs1 (cs1 (cs1 (cs1 (cs1 (cs1 (clos_c (clo_own (c:=(eI .i64)) (xs:=v1.Mem) (e:=3) eqn len_eI no_eI cl_eI kr) (clos_c (clo_own (c:=(eI .i64)) (xs:=v1.In) (e:=3) eqn len_eI no_eI cl_eI kr) (clos_c (clo_own (c:=(eI .i64)) (xs:=v1.Out) (e:=3) eqn len_eI no_eI cl_eI kr) clos_n))))))))))))))))) clz_n)) nrr nrr kr ?_)
 let q10:Root:=⟨27,(sw 5 v2.C.Regs::ru25 v2.C [sw 6 v2.Mem,sw 7 v2.In,sw 8 v2.Out])⟩; let z25:=(9,some q10)
 refine yt (sp 141 [z7,z9]) [(0,some q4),z15,z14,z13,(4,some q5),z24,z22,z20,z18,z25] 10 (Aw.seq ?_)
 let q11:Root:=⟨27,(bo (eI .i64) v1.C.Regs::ru25 v1.C [sw 1 v1.Mem,sw 2 v1.In,sw 3 v1.Out])⟩
 refine Aw.freeze 0 (cs:=(fl (eI .i64) v1.C.Regs)) (e:=3) (env2:=sp 141 [z7,z9]) (H2:=[z15,z14,z13,(4,some q11),z24,z22,z20,z18,z25]) kr (noOwn_fl no_eI) (frs_sp kr (fl_c (u:=pp 4) kr (.same _) (fl_c (u:=pp 9) kr (.same _) fl_n))) (hf_c (t:=q3) rfl kr rfl frs_same (hf_c (t:=q2) rfl kr rfl frs_same (hf_c (t:=q1) rfl kr rfl frs_same (hf_c (t:=q5) rfl kr rfl (frs_c (fr_all len_eI eqn) (frs_c (.same _) (frs_c (.same _) (frs_c (.same _) (frs_c (.same _) (frs_c (.same _) (frs_c (.same _) (frs_c (.same _) (frs_c (.same _) (frs_c (.same _) (frs_c (.same _) (frs_c (.same _) (frs_c (.same _) (frs_c (.same _) (frs_c (.same _) (frs_c (.same _) frs_n)))))))))))))))) (hf_c (t:=q9) rfl kr rfl frs_same (hf_c (t:=q8) rfl kr rfl frs_same (hf_c (t:=q7) rfl kr rfl frs_same (hf_c (t:=q6) rfl kr rfl frs_same (hf_c (t:=q10) rfl kr rfl (frs_c (.same _) (frs_c (.same _) (frs_c (.same _) (frs_c (.same _) (frs_c (.same _) (frs_c (.same _) (frs_c (.same _) (frs_c (.same _) (frs_c (.same _) (frs_c (.same _) (frs_c (.same _) (frs_c (.same _) (frs_c (.same _) (frs_c (.same _) (frs_c (.same _) (frs_c (.same _) frs_n)))))))))))))))) hf_n))))))))) ?_
 let q12:Root:=⟨27,(bo (eI .i64) v1.C.Regs::ru25 v1.C [bo (eI .i64) v1.Mem,sw 2 v1.In,sw 3 v1.Out])⟩
 refine Aw.freeze 1 (cs:=(fl (eI .i64) v1.Mem)) (e:=3) (env2:=sp 141 [z7,z9]) (H2:=[z14,z13,(4,some q12),z24,z22,z20,z18,z25]) kr (noOwn_fl no_eI) (frs_sp kr (fl_c (u:=pp 4) kr (.same _) (fl_c (u:=pp 9) kr (.same _) fl_n))) (hf_c (t:=q2) rfl kr rfl frs_same (hf_c (t:=q1) rfl kr rfl frs_same (hf_c (t:=q11) rfl kr rfl (frs_c (.same _) (frs_c (.same _) (frs_c (.same _) (frs_c (.same _) (frs_c (.same _) (frs_c (.same _) (frs_c (.same _) (frs_c (.same _) (frs_c (.same _) (frs_c (.same _) (frs_c (.same _) (frs_c (.same _) (frs_c (.same _) (frs_c (fr_all len_eI eqn) (frs_c (.same _) (frs_c (.same _) frs_n)))))))))))))))) (hf_c (t:=q9) rfl kr rfl frs_same (hf_c (t:=q8) rfl kr rfl frs_same (hf_c (t:=q7) rfl kr rfl frs_same (hf_c (t:=q6) rfl kr rfl frs_same (hf_c (t:=q10) rfl kr rfl (frs_c (.same _) (frs_c (.same _) (frs_c (.same _) (frs_c (.same _) (frs_c (.same _) (frs_c (.same _) (frs_c (.same _) (frs_c (.same _) (frs_c (.same _) (frs_c (.same _) (frs_c (.same _) (frs_c (.same _) (frs_c (.same _) (frs_c (.same _) (frs_c (.same _) (frs_c (.same _) frs_n)))))))))))))))) hf_n)))))))) ?_
 let q13:Root:=⟨27,(bo (eI .i64) v1.C.Regs::ru25 v1.C [bo (eI .i64) v1.Mem,bo (eI .i64) v1.In,sw 3 v1.Out])⟩
 refine Aw.freeze 2 (cs:=(fl (eI .i64) v1.In)) (e:=3) (env2:=sp 141 [z7,z9]) (H2:=[z13,(4,some q13),z24,z22,z20,z18,z25]) kr (noOwn_fl no_eI) (frs_sp kr (fl_c (u:=pp 4) kr (.same _) (fl_c (u:=pp 9) kr (.same _) fl_n))) (hf_c (t:=q1) rfl kr rfl frs_same (hf_c (t:=q12) rfl kr rfl (frs_c (.same _) (frs_c (.same _) (frs_c (.same _) (frs_c (.same _) (frs_c (.same _) (frs_c (.same _) (frs_c (.same _) (frs_c (.same _) (frs_c (.same _) (frs_c (.same _) (frs_c (.same _) (frs_c (.same _) (frs_c (.same _) (frs_c (.same _) (frs_c (fr_all len_eI eqn) (frs_c (.same _) frs_n)))))))))))))))) (hf_c (t:=q9) rfl kr rfl frs_same (hf_c (t:=q8) rfl kr rfl frs_same (hf_c (t:=q7) rfl kr rfl frs_same (hf_c (t:=q6) rfl kr rfl frs_same (hf_c (t:=q10) rfl kr rfl (frs_c (.same _) (frs_c (.same _) (frs_c (.same _) (frs_c (.same _) (frs_c (.same _) (frs_c (.same _) (frs_c (.same _) (frs_c (.same _) (frs_c (.same _) (frs_c (.same _) (frs_c (.same _) (frs_c (.same _) (frs_c (.same _) (frs_c (.same _) (frs_c (.same _) (frs_c (.same _) frs_n)))))))))))))))) hf_n))))))) (Aw.freeze 3 (cs:=(fl (eI .i64) v1.Out)) (e:=3) (env2:=sp 141 [z7,z9]) (H2:=[z12,z24,z22,z20,z18,z25]) kr (noOwn_fl no_eI) (frs_sp kr (fl_c (u:=pp 4) kr (.same _) (fl_c (u:=pp 9) kr (.same _) fl_n))) (hf_c (t:=q13) rfl kr rfl (frs_c (.same _) (frs_c (.same _) (frs_c (.same _) (frs_c (.same _) (frs_c (.same _) (frs_c (.same _) (frs_c (.same _) (frs_c (.same _) (frs_c (.same _) (frs_c (.same _) (frs_c (.same _) (frs_c (.same _) (frs_c (.same _) (frs_c (.same _) (frs_c (.same _) (frs_c (fr_all len_eI eqn) frs_n)))))))))))))))) (hf_c (t:=q9) rfl kr rfl frs_same (hf_c (t:=q8) rfl kr rfl frs_same (hf_c (t:=q7) rfl kr rfl frs_same (hf_c (t:=q6) rfl kr rfl frs_same (hf_c (t:=q10) rfl kr rfl (frs_c (.same _) (frs_c (.same _) (frs_c (.same _) (frs_c (.same _) (frs_c (.same _) (frs_c (.same _) (frs_c (.same _) (frs_c (.same _) (frs_c (.same _) (frs_c (.same _) (frs_c (.same _) (frs_c (.same _) (frs_c (.same _) (frs_c (.same _) (frs_c (.same _) (frs_c (.same _) frs_n)))))))))))))))) hf_n)))))) (Aw.sregd [3,4,20] [4,5,6,7,8,9] [] kr (dj 2 (sp 141 [z7,z9,z16,(17,.agg (B_27 v1))]) [z12,z24,z22,z20,z18,z25] 10 ?_)))
 obtain ⟨v3,hv3,hh⟩:=bind_some hh
 refine ds (.call 14 [(.t 17)]) (some 18) (ydo_n rfl (op_callp (r:=.agg (B_27 v3)) (v:=.agg (B_27 v3)) (Hr:=[]) (n':=10) (spec_BareStep_fn hv3) (clz_v (vs:=[.agg (B_27 v1)]) kr (clz_c (clo_same (clean_agg (cl_B_27 _))) clz_n)) nrr kr ⟨⟨agr_name (n:=10) (n0:=10) (r:=.agg (B_27 v3)) (v:=.agg (B_27 v3)) (Hr:=[]) (n':=10) kr dd,Hld.un ?_⟩⟩))
 refine dt (sp 141 [z7,z9,z16,(17,.agg (B_27 v1)),(18,.agg (B_27 v3))]) [z12,z24,z22,z20,z18,z25] 10 ?_
 obtain ⟨v4,hv4,hh⟩:=bind_some hh
 refine ys (.call 13 [(.t 16),(.t 18)]) (some 19) (op_call (r:=bb v4) (v:=bb v4) (Hr:=[]) (n':=10) (laws_sameBare_fn hv4) (clz_v (vs:=[.agg (sw 5 v2.C.Regs::ru25 v2.C [sw 6 v2.Mem,sw 7 v2.In,sw 8 v2.Out]),.agg (B_27 v3)]) kr (clz_c (clo_agg (clos_c (clo_own (c:=(eI .i64)) (xs:=v2.C.Regs) (e:=3) eqn len_eI no_eI cl_eI kr) (cs1 (cs1 (cs1 (cs1 (cs1 (cs1 (cs1 (cs1 (cs1 (cs1 (cs1 (cs1 (clos_c (clo_own (c:=(eI .i64)) (xs:=v2.Mem) (e:=3) eqn len_eI no_eI cl_eI kr) (clos_c (clo_own (c:=(eI .i64)) (xs:=v2.In) (e:=3) eqn len_eI no_eI cl_eI kr) (clos_c (clo_own (c:=(eI .i64)) (xs:=v2.Out) (e:=3) eqn len_eI no_eI cl_eI kr) clos_n))))))))))))))))) (clz_c (clo_same (clean_agg (cl_B_27 _))) clz_n))) rfl rfl kr ?_)
 refine yt (sp 141 [z7,z9,(20,bb (!v4))]) [z12,z24,z22,z20,z18,z25] 10 ?_
 rcases cond_some hh with ⟨hb,hh⟩ | ⟨hb,hh⟩
 · exact cT hb (sy [2] [] (sp 141 [z5]) [] 10 (Aw.ret (then_r (gvbs hh))))
 refine cF hb (Aw.xskip (fun _ _ _ hq=>then_m hq) (Aw.seq (Aw.sreg [3,4,23] [4,5,6,7,8,9] (yj 1  (sp 141 [z7,z9,(20,bb (!v4)),(21,.agg (B_27 v1))]) [z12,z24,z22,z20,z18,z25] 10 ?_))))
 obtain ⟨v5,hv5,hh⟩:=bind_some hh
 refine ys (.call 15 [(.t 21)]) (some 22) (op_call (r:=bb v5) (v:=bb v5) (Hr:=[]) (n':=10) (impl_BareOk_fn hv5) (clz_v (vs:=[.agg (B_27 v1)]) kr (clz_c (clo_same (clean_agg (cl_B_27 _))) clz_n)) rfl rfl kr ?_)
 refine yt (sp 141 [z7,z9,(23,bb (!v5))]) [z12,z24,z22,z20,z18,z25] 10 ?_
 rcases cond_some hh with ⟨hb,hh⟩ | ⟨hb,hh⟩
 · refine cT hb (Aw.sreg [2] [] (yu 5 [(24,.ptr 9 [] 13),(25,sw 6 v2.Mem),(26,ii (((List.length v2.Mem):Nat):Int)),(27,bb (decide ((((List.length v2.Mem):Nat):Int)=(0:Int)))),(28,bb (decide ((((List.length v2.Mem):Nat):Int)=(0:Int))))] [z12,z24,z22,z20,z18,z25] 10 ?_))
   rcases cond_sf hh with ⟨hb,hh⟩ | ⟨hb,hh⟩
   · exact yb 27 hb (yb 28 hb (yt (sp 141 [z5]) [] 10 (Aw.ret (then_r (gvbs hh)))))
   refine yb 27 hb (yb 28 hb ?_)
   obtain ⟨v6,hv6,hh⟩:=bind_some hh
   refine yg (.call 16 []) (some 29) 28 true (oc (laws_alive_fn hv6) ?_)
   exact yt (sp 141 [(2,bb v6)]) [] 10 (Aw.ret (then_r (gvbs hh)))
 refine cF hb (Aw.xskip (fun _ _ _ hq=>then_m hq) ?_)
 obtain ⟨j7,hh,hk7⟩:=bind_some hh
 refine Aw.join (S:=Unit) (fun s7=>sp 141 [(3,pp 0),(4,pp 1)]) (fun s7=>[(0,some (rB27 v1)),(1,some ⟨27,(sw 2 v2.C.Regs::ru25 v2.C [sw 3 v2.Mem,sw 4 v2.In,sw 5 v2.Out])⟩),(2,some (rI_3 v2.C.Regs)),(3,some (rI_3 v2.Mem)),(4,some (rI_3 v2.In)),(5,some (rI_3 v2.Out))]) 6 (fun s7=>F_laws_FnBareStep_j7 v1 v2 s7=some R_) ?_ ?_
 · intro s7 hh
   unfold F_laws_FnBareStep_j7 at hh
   refine Aw.seq (Aw.sreg [3,4,53] [0,1,2,3,4,5] ?_)
   let q14:Root:=⟨27,(sw 2 v2.C.Regs::ru25 v2.C [sw 3 v2.Mem,sw 4 v2.In,sw 5 v2.Out])⟩; let z26:=(1,some q14)
   refine yj 5  (sp 141 [z6,z8,(45,pp 0),(46,.ptr 0 [] 10),(47,bb v1.C.User),(48,bb (!v1.C.User)),(49,bb (!v1.C.User))]) [z11,z26,z23,z21,z19,z17] 6 ?_
   rcases cond_some hh with ⟨hb,hh⟩ | ⟨hb,hh⟩
   · refine yb 48 hb (yb 49 hb (yt (sp 141 [z6,z8,(53,bb true)]) [z11,z26,z23,z21,z19,z17] 6 (cT rfl (Aw.sreg [2] [] ?_))))
     obtain ⟨v8,hv8,hh⟩:=bind_some hh
     refine ys (.call 16 []) (some 54) (oc (laws_alive_fn hv8) ?_)
     exact yt (sp 141 [(2,bb v8)]) [] 6 (Aw.ret (then_r (gvbs hh)))
   refine yb 48 hb (yb 49 hb (yt (sp 141 [z6,z8,(53,bb v1.C.Stopped)]) [z11,z26,z23,z21,z19,z17] 6 ?_))
   rcases cond_some hh with ⟨hb,hh⟩ | ⟨hb,hh⟩
   · refine cT hb (Aw.sreg [2] [] ?_)
     obtain ⟨v9,hv9,hh⟩:=bind_some hh
     refine ys (.call 16 []) (some 54) (oc (laws_alive_fn hv9) ?_)
     exact yt (sp 141 [(2,bb v9)]) [] 6 (Aw.ret (then_r (gvbs hh)))
   refine cF hb (Aw.xskip (fun _ _ _ hq=>then_m hq) (Aw.seq (Aw.sreg [3,4,97] [0,1,2,3,4,5] (yj 8  (sp 141 [z6,z8,(53,bb v1.C.Stopped),(55,pp 1),(56,.ptr 1 [] 2),(57,ii v2.C.Root),(58,pp 0),(59,.ptr 0 [] 2),(60,ii v1.C.Root),(61,bb (!decide (v2.C.Root=v1.C.Root))),(62,bb (!decide (v2.C.Root=v1.C.Root)))]) [z11,z26,z23,z21,z19,z17] 6 ?_))))
   rcases cond_some hh with ⟨hb,hh⟩ | ⟨hb,hh⟩
   · exact yb 61 hb (yb 62 hb (yt (sp 141 [z6,z8,z10]) [z11,z26,z23,z21,z19,z17] 6 (cT rfl (sy [2] [] (sp 141 [z5]) [] 6 (Aw.ret (then_r (gvbs hh)))))))
   refine yb 61 hb (yb 62 hb (yu 9 [(61,bb false),(62,bb false),(63,pp 1),(64,.ptr 1 [] 3),(65,ii v2.C.Vector),(66,pp 0),(67,.ptr 0 [] 3),(68,ii v1.C.Vector),(69,bb (!decide (v2.C.Vector=v1.C.Vector))),(70,bb (!decide (v2.C.Vector=v1.C.Vector))),(71,bb (!decide (v2.C.Vector=v1.C.Vector)))] [z11,z26,z23,z21,z19,z17] 6 ?_))
   rcases cond_some hh with ⟨hb,hh⟩ | ⟨hb,hh⟩
   · exact yb 69 hb (yb 70 hb (yb 71 hb (yt (sp 141 [z6,z8,z10]) [z11,z26,z23,z21,z19,z17] 6 (cT rfl (sy [2] [] (sp 141 [z5]) [] 6 (Aw.ret (then_r (gvbs hh))))))))
   refine yb 69 hb (yb 70 hb (yb 71 hb (yu 11 [(69,bb false),(70,bb false),(71,bb false),(72,pp 1),(73,.ptr 1 [] 8),(74,ii v2.C.Timer),(75,pp 0),(76,.ptr 0 [] 8),(77,ii v1.C.Timer),(78,ii (w64 (v1.C.Timer - (1:Int)))),(79,ii (max (w64 (v1.C.Timer - (1:Int))) (0:Int))),(80,bb (!decide (v2.C.Timer=(max (w64 (v1.C.Timer - (1:Int))) (0:Int))))),(81,bb (!decide (v2.C.Timer=(max (w64 (v1.C.Timer - (1:Int))) (0:Int))))),(82,bb (!decide (v2.C.Timer=(max (w64 (v1.C.Timer - (1:Int))) (0:Int)))))] [z11,z26,z23,z21,z19,z17] 6 ?_)))
   rcases cond_some hh with ⟨hb,hh⟩ | ⟨hb,hh⟩
   · exact yb 80 hb (yb 81 hb (yb 82 hb (yt (sp 141 [z6,z8,z10]) [z11,z26,z23,z21,z19,z17] 6 (cT rfl (sy [2] [] (sp 141 [z5]) [] 6 (Aw.ret (then_r (gvbs hh))))))))
   refine yb 80 hb (yb 81 hb (yb 82 hb (yu 4 [(80,bb false),(81,bb false),(82,bb false),(83,.ptr 1 [] 14),(84,sw 4 v2.In),(85,.ptr 0 [] 14),(86,bo (eI .i64) v1.In)] [z11,z26,z23,z21,z19,z17] 6 ?_)))
   obtain ⟨v10,hv10,hh⟩:=bind_some hh
   refine yg (.call 17 [(.t 84),(.t 86)]) (some 87) 82 false (op_call (r:=bb v10) (v:=bb v10) (Hr:=[]) (n':=6) (laws_sameInts_fn hv10) (clz_v (vs:=[sw 4 v2.In,bo (eI .i64) v1.In]) kr (clz_c (clo_own (c:=(eI .i64)) (xs:=v2.In) (e:=3) eqn len_eI no_eI cl_eI kr) (clz_c (clo_same (clean_bor (cleans_fl cl_eI))) clz_n))) rfl rfl kr ?_)
   refine yu 3 [(87,bb v10),(88,bb (!v10)),(89,bb (!v10)),(90,bb (!v10))] [z11,z26,z23,z21,z19,z17] 6 ?_
   rcases cond_some hh with ⟨hb,hh⟩ | ⟨hb,hh⟩
   · exact yb 88 hb (yb 89 hb (yb 90 hb (yt (sp 141 [z6,z8,z10]) [z11,z26,z23,z21,z19,z17] 6 (cT rfl (sy [2] [] (sp 141 [z5]) [] 6 (Aw.ret (then_r (gvbs hh))))))))
   refine yb 88 hb (yb 89 hb (yb 90 hb (yu 4 [(88,bb false),(89,bb false),(90,bb false),(91,.ptr 1 [] 15),(92,sw 5 v2.Out),(93,.ptr 0 [] 15),(94,bo (eI .i64) v1.Out)] [z11,z26,z23,z21,z19,z17] 6 ?_)))
   obtain ⟨v11,hv11,hh⟩:=bind_some hh
   refine yg (.call 17 [(.t 92),(.t 94)]) (some 95) 90 false (op_call (r:=bb v11) (v:=bb v11) (Hr:=[]) (n':=6) (laws_sameInts_fn hv11) (clz_v (vs:=[sw 5 v2.Out,bo (eI .i64) v1.Out]) kr (clz_c (clo_own (c:=(eI .i64)) (xs:=v2.Out) (e:=3) eqn len_eI no_eI cl_eI kr) (clz_c (clo_same (clean_bor (cleans_fl cl_eI))) clz_n))) rfl rfl kr ?_)
   refine yt (sp 141 [z6,z8,(97,bb (!v11))]) [z11,z26,z23,z21,z19,z17] 6 ?_
   rcases cond_some hh with ⟨hb,hh⟩ | ⟨hb,hh⟩
   · exact cT hb (sy [2] [] (sp 141 [z5]) [] 6 (Aw.ret (then_r (gvbs hh))))
   refine cF hb (Aw.xskip (fun _ _ _ hq=>then_m hq) (sy [3,4,5] [0,1,2,3,4,5] (sp 141 [z6,z8,(5,ii 0)]) [z11,z26,z23,z21,z19,z17] 6 ?_))
   obtain ⟨j12,hh,hk12⟩:=bind_some hh
   refine Aw.join (S:=Int) (fun s12=>sp 141 [(5,ii s12)]) (fun s12=>[]) 0 (fun s12=>F_laws_FnBareStep_j12 s12=some R_) ?_ ?_
   · intro s12 hh
     unfold F_laws_FnBareStep_j12 at hh
     refine Aw.sreg [2] [] (yj 3  (sp 141 [(5,ii s12),(136,ii s12),(137,bb (decide (s12≤(1:Int)))),(138,bb (decide (s12≤(1:Int))))]) [] 0 ?_)
     rcases cond_some hh with ⟨hb,hh⟩ | ⟨hb,hh⟩
     · refine yb 137 hb (yb 138 hb ?_)
       obtain ⟨v13,hv13,hh⟩:=bind_some hh
       refine yg (.call 16 []) (some 139) 138 true (oc (laws_alive_fn hv13) ?_)
       exact yt (sp 141 [(2,bb v13)]) [] 0 (Aw.ret (gvbs hh))
     exact yb 137 hb (yb 138 hb (yt (sp 141 [z5]) [] 0 (Aw.ret (gvbs hh))))
   intro Q12 hN12 hR12 hE12
   refine sy [3,4,5,6] [0,1,2,3,4,5] (sp 141 [z6,z8,(5,ii 0),(6,ii 0)]) [z11,z26,z23,z21,z19,z17] 6 (Aw.block ?_)
   obtain ⟨o14,hi14,hk14⟩:=bind_some hh
   refine Aw.iter (fun (s14:Int × Int)=>sp 141 [(3,pp 0),(4,pp 1),(5,ii s14.1),(6,ii s14.2)]) (fun (s14:Int × Int)=>[(0,some (rB27 v1)),(1,some ⟨27,(sw 2 v2.C.Regs::ru25 v2.C [sw 3 v2.Mem,sw 4 v2.In,sw 5 v2.Out])⟩),(2,some (rI_3 v2.C.Regs)),(3,some (rI_3 v2.Mem)),(4,some (rI_3 v2.In)),(5,some (rI_3 v2.Out))]) 6 hi14 (el [some 0,some 1,some 2,some 3,some 4,some 5] (rens_sp kr (rp 0 (rp 1 (ri (ri rl_n))))) (hq (rB27 v1) (rens_same (nr_B_27 _)) (hq q14 rz (hn nr_eI (hn nr_eI (hn nr_eI (hn nr_eI hs_nil))))))) ?_
   intro s14 u14 Q14 hh hN14 hX14 hR14
   let z27:=(102,bb (decide (s14.2<(((List.length v1.Mem):Nat):Int)))); let z28:EV:=(108,.ptr 3 [] (0+(Int.toNat s14.2)*1)); let z29:=(5,ii (w64 (s14.1+(1:Int)))); let z30:=(5,ii s14.1); let z31:=(6,ii s14.2); let z1:=List.getD v1.Mem (Int.toNat s14.2) default; let z2:=List.getD v2.Mem (Int.toNat s14.2) default
   unfold F_laws_FnBareStep_l14 at hh
   refine Aw.seq (sy [3,4,5,6,102] [0,1,2,3,4,5] (sp 141 [z6,z8,z30,z31,z27]) [z11,z26,z23,z21,z19,z17] 6 ?_)
   rcases cond_some hh with ⟨hb,hh⟩ | ⟨hb,hh⟩
   · refine cT hb (Aw.xskip (fun _ _ _ hq=>then_m hq) ?_)
     obtain ⟨j15,hh,hk15⟩:=bind_some hh
     refine Aw.join (S:=Int) (fun s15=>sp 141 [(3,pp 0),(4,pp 1),(5,ii s15),(6,ii s14.2)]) (fun s15=>[(0,some (rB27 v1)),(1,some ⟨27,(sw 2 v2.C.Regs::ru25 v2.C [sw 3 v2.Mem,sw 4 v2.In,sw 5 v2.Out])⟩),(2,some (rI_3 v2.C.Regs)),(3,some (rI_3 v2.Mem)),(4,some (rI_3 v2.In)),(5,some (rI_3 v2.Out))]) 6 (fun s15=>F_laws_FnBareStep_j15 s14 s15=some u14) ?_ ?_
     · intro s15 hh
       unfold F_laws_FnBareStep_j15 at hh
       exact Aw.oreg (ye (sp 141 [z6,z8,(5,ii s15),(6,ii (w64 (s14.2+(1:Int)))),(103,ii s14.2),(104,ii (w64 (s14.2+(1:Int))))]) [z11,z26,z23,z21,z19,z17] 6 (hN14 (s15,(w64 (s14.2+(1:Int)))) _ _ _ (some_some hh) (el [some 0,some 1,some 2,some 3,some 4,some 5] (rens_sp kr (rp 0 (rp 1 (ri (ri rl_n))))) (hq (rB27 v1) (rens_same (nr_B_27 _)) (hq q14 rz (hn nr_eI (hn nr_eI (hn nr_eI (hn nr_eI hs_nil)))))))))
     intro Q15 hN15 hR15 hE15
     refine Aw.block (Aw.seq (Aw.sregq [3,4,5,6,115] ?_))
     obtain ⟨hg96,hh⟩:=grd_some hh
     refine qc (cs:=[(0:Int)≤s14.2∧s14.2<(((List.length v2.Mem):Nat):Int)]) (E':=(sp 141 [z6,z8,z30,z31,z27,(105,.ptr 1 [] 13),(106,sw 3 v2.Mem),(107,ii s14.2),z28])) (pre:=(List.take 4 (rg 3 19))) (L':=(List.drop 4 (rg 3 19))) kr (fun K=>by kernel_rfl) (.cons hg96 .nil) (qs (.load false 1 (.t 108)) (some 109) (yq_q rfl (op_load (c:=(eI .i64)) (xs:=v2.Mem) (e:=3) (r:=3) (π:=[]) (o:=0+(Int.toNat s14.2)*1) (i:=(Int.toNat s14.2)) (off:=0) (v:=ii z2) len_eI kr kr ltn ltn dd kr ?_)))
     refine qc (cs:=[]) (E':=(sp 141 [z6,z8,z30,z31,z27,(105,.ptr 1 [] 13),(106,sw 3 v2.Mem),(107,ii s14.2),z28,(109,ii z2),(110,.ptr 0 [] 13),(111,bo (eI .i64) v1.Mem),(112,ii s14.2)])) (pre:=(List.take 3 (List.drop 5 (rg 3 19)))) (L':=(List.drop 8 (rg 3 19))) kr (fun K=>by kernel_rfl) .nil ?_
     obtain ⟨hg95,hh⟩:=grd_some hh
     refine qs (.iadr 1 (.t 111) (.t 112)) (some 113) (yq_q rfl (op_iadr (kd:=.i64) (c:=(eI .i64)) (xs:=v1.Mem) len_eI dd kr kr hg95 ?_))
     refine qs (.load false 1 (.t 113)) (some 114) (yq_q rfl (op_loadb (c:=(eI .i64)) (xs:=v1.Mem) (o:=Int.toNat s14.2*1) (i:=(Int.toNat s14.2)) (off:=0) (v:=ii z1) len_eI kr ltn ltn dd kr ?_))
     refine qct (cs:=[]) (E':=(sp 141 [z6,z8,z30,z31,(115,bb (decide (z2=z1)))])) (fun K=>by kernel_rfl) .nil ?_
     rcases cond_some hh with ⟨hb,hh⟩ | ⟨hb,hh⟩
     · refine cT hb (Aw.exit (then_x (blk_x ?_)))
       obtain rfl:=some_some hh
       exact hN15 s14.1 _ _ _ hk15 (el [some 0,some 1,some 2,some 3,some 4,some 5] (rens_sp kr (rp 0 (rp 1 (ri (ri rl_n))))) (hq (rB27 v1) (rens_same (nr_B_27 _)) (hq q14 rz (hn nr_eI (hn nr_eI (hn nr_eI (hn nr_eI hs_nil)))))))
     refine cF hb (Aw.xskip (fun _ _ _ hq=>then_m hq) (sy [3,4,5,6] [0,1,2,3,4,5] (sp 141 [z6,z8,z29,z31]) [z11,z26,z23,z21,z19,z17] 6 (sy [3,4,5,6,7] [0,1,2,3,4,5] (sp 141 [z6,z8,z29,z31,(7,bb false)]) [z11,z26,z23,z21,z19,z17] 6 ?_)))
     obtain ⟨j16,hh,hk16⟩:=bind_some hh
     refine Aw.join (S:=Bool) (fun s16=>sp 141 [(3,pp 0),(4,pp 1),(5,ii (w64 (s14.1+(1:Int)))),(6,ii s14.2),(7,bb s16)]) (fun s16=>[(0,some (rB27 v1)),(1,some ⟨27,(sw 2 v2.C.Regs::ru25 v2.C [sw 3 v2.Mem,sw 4 v2.In,sw 5 v2.Out])⟩),(2,some (rI_3 v2.C.Regs)),(3,some (rI_3 v2.Mem)),(4,some (rI_3 v2.In)),(5,some (rI_3 v2.Out))]) 6 (fun s16=>F_laws_FnBareStep_j16 s14 s16=some j15) ?_ ?_
     · intro s16 hh
       unfold F_laws_FnBareStep_j16 at hh
       refine sy [3,4,5,6,135] [0,1,2,3,4,5] (sp 141 [z6,z8,z29,z31,(135,bb (!s16))]) [z11,z26,z23,z21,z19,z17] 6 ?_
       rcases cond_some hh with ⟨hb,hh⟩ | ⟨hb,hh⟩
       · refine cT hb (sy [2] [] (sp 141 [z5]) [] 6 (Aw.ret (blk_r ?_)))
         obtain rfl:=some_some hh
         refine hR15 _ _ _ ((hR14 _ _ _ _ (some_some hk15) ?_))
         intro hout
         rw [hout] at hk14
         refine blk_r ?_
         obtain rfl:=some_some hk14
         refine hR12 _ _ _ ?_
         rw [some_some hk12]
         exact gvb
       refine cF hb (Aw.skip (blk_m ?_))
       obtain rfl:=some_some hh
       exact hN15 (w64 (s14.1+(1:Int))) _ _ _ hk15 (el [some 0,some 1,some 2,some 3,some 4,some 5] (rens_sp kr (rp 0 (rp 1 (ri (ri rl_n))))) (hq (rB27 v1) (rens_same (nr_B_27 _)) (hq q14 rz (hn nr_eI (hn nr_eI (hn nr_eI (hn nr_eI hs_nil)))))))
     intro Q16 hN16 hR16 hE16
     refine sy [3,4,5,6,7,8] [0,1,2,3,4,5] (sp 141 [z6,z8,z29,z31,(7,bb false),(8,ii 0)]) [z11,z26,z23,z21,z19,z17] 6 (Aw.block ?_)
     obtain ⟨o17,hi17,hk17⟩:=bind_some hh
     refine Aw.iter (fun (s17:Bool × Int)=>sp 141 [(3,pp 0),(4,pp 1),(5,ii (w64 (s14.1+(1:Int)))),(6,ii s14.2),(7,bb s17.1),(8,ii s17.2)]) (fun (s17:Bool × Int)=>[(0,some (rB27 v1)),(1,some ⟨27,(sw 2 v2.C.Regs::ru25 v2.C [sw 3 v2.Mem,sw 4 v2.In,sw 5 v2.Out])⟩),(2,some (rI_3 v2.C.Regs)),(3,some (rI_3 v2.Mem)),(4,some (rI_3 v2.In)),(5,some (rI_3 v2.Out))]) 6 hi17 (el [some 0,some 1,some 2,some 3,some 4,some 5] (rens_sp kr (rp 0 (rp 1 (ri (ri (rb (ri rl_n))))))) (hq (rB27 v1) (rens_same (nr_B_27 _)) (hq q14 rz (hn nr_eI (hn nr_eI (hn nr_eI (hn nr_eI hs_nil))))))) ?_
     intro s17 u17 Q17 hh hN17 hX17 hR17
     let z32:=(119,bb (decide (s17.2<(64:Int))))
     unfold F_laws_FnBareStep_l17 at hh
     refine Aw.seq (sy [3,4,5,6,7,8,119] [0,1,2,3,4,5] (sp 141 [z6,z8,z29,z31,(7,bb s17.1),(8,ii s17.2),z32]) [z11,z26,z23,z21,z19,z17] 6 ?_)
     rcases cond_sf hh with ⟨hb,hh⟩ | ⟨hb,hh⟩
     · refine cF hb (Aw.exit (then_x (hX17 _ _ _ _ _ (some_some hh) ?_)))
       intro hout
       rw [hout] at hk17
       refine blk_x ?_
       obtain rfl:=some_some hk17
       exact hN16 s17.1 _ _ _ hk16 (el [some 0,some 1,some 2,some 3,some 4,some 5] (rens_sp kr (rp 0 (rp 1 (ri (ri (rb rl_n)))))) (hq (rB27 v1) (rens_same (nr_B_27 _)) (hq q14 rz (hn nr_eI (hn nr_eI (hn nr_eI (hn nr_eI hs_nil)))))))
     refine cT hb (Aw.xskip (fun _ _ _ hq=>then_m hq) ?_)
     obtain ⟨j18,hh,hk18⟩:=bind_some hh
     refine Aw.join (S:=Bool) (fun s18=>sp 141 [(3,pp 0),(4,pp 1),(5,ii (w64 (s14.1+(1:Int)))),(6,ii s14.2),(7,bb s18),(8,ii s17.2)]) (fun s18=>[(0,some (rB27 v1)),(1,some ⟨27,(sw 2 v2.C.Regs::ru25 v2.C [sw 3 v2.Mem,sw 4 v2.In,sw 5 v2.Out])⟩),(2,some (rI_3 v2.C.Regs)),(3,some (rI_3 v2.Mem)),(4,some (rI_3 v2.In)),(5,some (rI_3 v2.Out))]) 6 (fun s18=>F_laws_FnBareStep_j18 s17 s18=some u17) ?_ ?_
     · intro s18 hh
       unfold F_laws_FnBareStep_j18 at hh
       exact Aw.oreg (ye (sp 141 [z6,z8,z29,z31,(7,bb s18),(8,ii (w64 (s17.2+(1:Int)))),(120,ii s17.2),(121,ii (w64 (s17.2+(1:Int))))]) [z11,z26,z23,z21,z19,z17] 6 (hN17 (s18,(w64 (s17.2+(1:Int)))) _ _ _ (some_some hh) (el [some 0,some 1,some 2,some 3,some 4,some 5] (rens_sp kr (rp 0 (rp 1 (ri (ri (rb (ri rl_n))))))) (hq (rB27 v1) (rens_same (nr_B_27 _)) (hq q14 rz (hn nr_eI (hn nr_eI (hn nr_eI (hn nr_eI hs_nil)))))))))
     intro Q18 hN18 hR18 hE18
     refine Aw.block (Aw.oreg (yj 2  (sp 141 [z6,z8,z29,z31,(7,bb s17.1),(8,ii s17.2),z32,(122,bb s17.1),(123,bb s17.1)]) [z11,z26,z23,z21,z19,z17] 6 ?_))
     rcases cond_some hh with ⟨hb,hh⟩ | ⟨hb,hh⟩
     · refine yb 7 hb (yb 122 hb (yb 123 hb (ye (sp 141 [z6,z8,z29,z31,(7,bb true),(8,ii s17.2),z32,(122,bb true),(123,bb true),(124,.und),(125,.und),(126,.und),(127,.und),(128,.und),(129,.und),(130,.und),(131,.und),(132,.und),(133,bb true)]) [z11,z26,z23,z21,z19,z17] 6 (blk_m ?_))))
       obtain rfl:=some_some hh
       exact hN18 true _ _ _ hk18 (el [some 0,some 1,some 2,some 3,some 4,some 5] (rens_sp kr (rp 0 (rp 1 (ri (ri (rb (ri rl_n))))))) (hq (rB27 v1) (rens_same (nr_B_27 _)) (hq q14 rz (hn nr_eI (hn nr_eI (hn nr_eI (hn nr_eI hs_nil)))))))
     refine yb 7 hb (yb 122 hb (yb 123 hb (yu 6 [(7,bb false),(122,bb false),(123,bb false),(124,.ptr 0 [] 13),(125,bo (eI .i64) v1.Mem),(126,pp 0),(127,.ptr 0 [] 2),(128,ii v1.C.Root),(129,ii s17.2)] [z11,z26,z23,z21,z19,z17] 6 ?_)))
     obtain ⟨v19,hv19,hh⟩:=bind_some hh
     refine yg (.call 18 [(.t 125),(.t 128),(.t 129),(.c (bb true)),(.c (bb true))]) (some 130) 123 false (oc (impl_Walk_fn hv19) ?_)
     refine ye (sp 141 [z6,z8,z29,z31,(7,bb (decide (v19=s14.2))),(8,ii s17.2),z32,(122,bb false),(123,bb false),(124,.ptr 0 [] 13),(125,bo (eI .i64) v1.Mem),(126,pp 0),(127,.ptr 0 [] 2),(128,ii v1.C.Root),(129,ii s17.2),(130,ii v19),(131,ii s14.2),(132,bb (decide (v19=s14.2))),(133,bb (decide (v19=s14.2)))]) [z11,z26,z23,z21,z19,z17] 6 (blk_m ?_)
     obtain rfl:=some_some hh
     exact hN18 (decide (v19=s14.2)) _ _ _ hk18 (el [some 0,some 1,some 2,some 3,some 4,some 5] (rens_sp kr (rp 0 (rp 1 (ri (ri (rb (ri rl_n))))))) (hq (rB27 v1) (rens_same (nr_B_27 _)) (hq q14 rz (hn nr_eI (hn nr_eI (hn nr_eI (hn nr_eI hs_nil)))))))
   refine cF hb (Aw.exit (then_x (hX14 _ _ _ _ _ (some_some hh) ?_)))
   intro hout
   rw [hout] at hk14
   refine blk_x ?_
   obtain rfl:=some_some hk14
   exact hN12 s14.1 _ _ _ hk12 (el [] (rens_sp kr (ri rl_n)) hs_nil)
 intro Q7 hN7 hR7 hE7
 refine Aw.sreg [3,4,44] [4,5,6,7,8,9] (yj 1  (sp 141 [z7,z9,(23,bb (!v5)),(31,.agg (sw 5 v2.C.Regs::ru25 v2.C [sw 6 v2.Mem,sw 7 v2.In,sw 8 v2.Out]))]) [z12,z24,z22,z20,z18,z25] 10 ?_)
 obtain ⟨v20,hv20,hh⟩:=bind_some hh
 refine ys (.call 15 [(.t 31)]) (some 32) (op_call (r:=bb v20) (v:=bb v20) (Hr:=[]) (n':=10) (impl_BareOk_fn hv20) (clz_v (vs:=[.agg (sw 5 v2.C.Regs::ru25 v2.C [sw 6 v2.Mem,sw 7 v2.In,sw 8 v2.Out])]) kr (clz_c (clo_agg (clos_c (clo_own (c:=(eI .i64)) (xs:=v2.C.Regs) (e:=3) eqn len_eI no_eI cl_eI kr) (cs1 (cs1 (cs1 (cs1 (cs1 (cs1 (cs1 (cs1 (cs1 (cs1 (cs1 (cs1 (clos_c (clo_own (c:=(eI .i64)) (xs:=v2.Mem) (e:=3) eqn len_eI no_eI cl_eI kr) (clos_c (clo_own (c:=(eI .i64)) (xs:=v2.In) (e:=3) eqn len_eI no_eI cl_eI kr) (clos_c (clo_own (c:=(eI .i64)) (xs:=v2.Out) (e:=3) eqn len_eI no_eI cl_eI kr) clos_n))))))))))))))))) clz_n)) rfl rfl kr ?_)
 refine yu 2 [(32,bb v20),(33,bb (!v20)),(34,bb (!v20))] [z12,z24,z22,z20,z18,z25] 10 ?_
 rcases cond_some hh with ⟨hb,hh⟩ | ⟨hb,hh⟩
 · refine yb 33 hb (yb 34 hb (yt (sp 141 [z7,z9,(44,bb true)]) [z12,z24,z22,z20,z18,z25] 10 (cT rfl (sy [2] [] (sp 141 [z5]) [] 10 (Aw.ret ?_)))))
   obtain rfl:=some_some hh
   refine hR7 _ _ _ ?_
   rw [some_some hk7]
   exact gvb
 refine yb 33 hb (yb 34 hb (yu 4 [(33,bb false),(34,bb false),(35,pp 4),(36,.ptr 4 [] 12),(37,bb v1.C.Stopped),(38,bb v1.C.Stopped)] [z12,z24,z22,z20,z18,z25] 10 ?_))
 rcases cond_sf hh with ⟨hb,hh⟩ | ⟨hb,hh⟩
 · refine yb 37 hb (yb 38 hb (yt (sp 141 [z7,z9,(44,bb false)]) [z12,z24,z22,z20,z18,z25] 10 (cF rfl (Aw.skip ?_))))
   obtain rfl:=some_some hh
   exact hN7 () _ _ _ hk7 (el [some 4,some 9,some 5,some 6,some 7,some 8] (rens_sp kr (rp 4 (rp 9 rl_n))) (hq (rB27 v1) (rens_same (nr_B_27 _)) (hq q10 rz (hn nr_eI (hn nr_eI (hn nr_eI (hn nr_eI hs_nil)))))))
 refine yb 37 hb (yb 38 hb (yu 2 [(37,bb true),(38,bb true),(39,.agg (sw 5 v2.C.Regs::ru25 v2.C [sw 6 v2.Mem,sw 7 v2.In,sw 8 v2.Out])),(40,.agg (B_27 v1))] [z12,z24,z22,z20,z18,z25] 10 ?_))
 obtain ⟨v21,hv21,hh⟩:=bind_some hh
 refine yg (.call 13 [(.t 39),(.t 40)]) (some 41) 38 true (op_call (r:=bb v21) (v:=bb v21) (Hr:=[]) (n':=10) (laws_sameBare_fn hv21) (clz_v (vs:=[.agg (sw 5 v2.C.Regs::ru25 v2.C [sw 6 v2.Mem,sw 7 v2.In,sw 8 v2.Out]),.agg (B_27 v1)]) kr (clz_c (clo_agg (clos_c (clo_own (c:=(eI .i64)) (xs:=v2.C.Regs) (e:=3) eqn len_eI no_eI cl_eI kr) (cs1 (cs1 (cs1 (cs1 (cs1 (cs1 (cs1 (cs1 (cs1 (cs1 (cs1 (cs1 (clos_c (clo_own (c:=(eI .i64)) (xs:=v2.Mem) (e:=3) eqn len_eI no_eI cl_eI kr) (clos_c (clo_own (c:=(eI .i64)) (xs:=v2.In) (e:=3) eqn len_eI no_eI cl_eI kr) (clos_c (clo_own (c:=(eI .i64)) (xs:=v2.Out) (e:=3) eqn len_eI no_eI cl_eI kr) clos_n))))))))))))))))) (clz_c (clo_same (clean_agg (cl_B_27 _))) clz_n))) rfl rfl kr ?_)
 refine yt (sp 141 [z7,z9,(44,bb (!v21))]) [z12,z24,z22,z20,z18,z25] 10 ?_
 rcases cond_some hh with ⟨hb,hh⟩ | ⟨hb,hh⟩
 · refine cT hb (sy [2] [] (sp 141 [z5]) [] 10 (Aw.ret ?_))
   obtain rfl:=some_some hh
   refine hR7 _ _ _ ?_
   rw [some_some hk7]
   exact gvb
 refine cF hb (Aw.skip ?_)
 obtain rfl:=some_some hh
 exact hN7 () _ _ _ hk7 (el [some 4,some 9,some 5,some 6,some 7,some 8] (rens_sp kr (rp 4 (rp 9 rl_n))) (hq (rB27 v1) (rens_same (nr_B_27 _)) (hq q10 rz (hn nr_eI (hn nr_eI (hn nr_eI (hn nr_eI hs_nil)))))))
end Go.Proofs.Ytbanbjdcgdmkaaa
