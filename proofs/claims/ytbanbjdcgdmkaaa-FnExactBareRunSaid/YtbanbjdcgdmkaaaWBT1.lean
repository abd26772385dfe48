/- Plain functions of the program, and that it hands back what they say. Made by program. -/
import Derived.Test.YtbanbjdcgdmkaaaWT
import Derived.Test.YtbanbjdcgdmkaaaProg
import Derived.Test.YtbanbjdcgdmkaaaWHC1
import Derived.Test.YtbanbjdcgdmkaaaWKD1
import Derived.Test.YtbanbjdcgdmkaaaWKI1
import Derived.Test.YtbanbjdcgdmkaaaWKP1
import Derived.Test.YtbanbjdcgdmkaaaWKT1
import Derived.Test.YtbanbjdcgdmkaaaWO1
import Derived.Test.YtbanbjdcgdmkaaaWWK1
namespace Go.Proofs.Ytbanbjdcgdmkaaa
open Go.RowKit
set_option maxRecDepth 100000
set_option linter.all false
set_option maxHeartbeats 0
theorem low_spec_l3Copy:LW 58 ⟨19,[(.cell 2 true 16)],(.seq (.reg false (rg 58 0)) (.seq (.regd (rg 58 1) (rg 58 2)) .ret))⟩:=kr
noncomputable def F_spec_l3Copy (x_b:DBare):Option DBare :=
 Option.bind (F_spec_l3Core x_b.C) fun v1 =>
 grd (List.length x_b.Mem*8≤2 ^ 47∧List.length x_b.Mem≤2 ^ 47) (grd (List.length x_b.In*8≤2 ^ 47∧List.length x_b.In≤2 ^ 47) (grd (List.length x_b.Out*8≤2 ^ 47∧List.length x_b.Out≤2 ^ 47) (some (DBare.mk v1 x_b.Mem x_b.In x_b.Out))))
theorem spec_l3Copy_fn {x_b:DBare} {R_:DBare} (hh:F_spec_l3Copy x_b=some R_):Fn Try.prog 58 [.agg (B_27 x_b)] (.agg (.own 3 1 (List.length R_.C.Regs) (fl (eI .i64) R_.C.Regs)::ru25 R_.C [.own 3 1 (List.length R_.Mem) (fl (eI .i64) R_.Mem),.own 3 1 (List.length R_.In) (fl (eI .i64) R_.In),.own 3 1 (List.length R_.Out) (fl (eI .i64) R_.Out)])):=by
 let z1:EH:=(0,some (rB27 x_b)); let z2:=(2,pp 1); let z3:EV:=(4,.agg (B_25 x_b.C)); let z4:=(8,bo (eI .i64) x_b.Mem)
 unfold F_spec_l3Copy at hh
 refine Fn.start low_spec_l3Copy [0] (E:=sp 19 [(0,.agg (B_27 x_b))]) kr (v:=.agg (sw 0 R_.C.Regs::ru25 R_.C [sw 1 R_.Mem,sw 2 R_.In,sw 3 R_.Out])) (Hr:=[(3,some (rI_3 R_.Out)),(2,some (rI_3 R_.In)),(1,some (rI_3 R_.Mem)),(0,some (rI_3 R_.C.Regs))]) (k:=4) kr (Aw.sreg [1,2] [0,1] ?_)
 let q1:Root:=⟨27,(.nil::zru25 [.nil,.nil,.nil])⟩; let z5:=(1,some q1)
 refine yt (sp 19 [(1,pp 0),z2]) [z1,z5] 2 (Aw.sregd [2] [1,2,3,4,5] [] kr (dj 2 (sp 19 [(1,pp 0),z2,(3,pp 0),z3]) [z1,z5] 2 ?_))
 obtain ⟨v1,hv1,hh⟩:=bind_some hh
 let z6:EV:=(5,.agg (sw 2 v1.Regs::ru25 v1 [])); let q2:Root:=(rI_3 v1.Regs); let z7:=(2,some q2)
 refine ds (.call 79 [(.t 4)]) (some 5) (ydo_n rfl (op_call (r:=.agg (.own 3 1 (List.length v1.Regs) (fl (eI .i64) v1.Regs)::ru25 v1 [])) (v:=.agg (sw 2 v1.Regs::ru25 v1 [])) (Hr:=[z7]) (n':=3) (spec_l3Core_fn hv1) (clz_v (vs:=[.agg (B_25 x_b.C)]) kr (clz_c (clo_same (clean_agg (cl_B_25 _))) clz_n)) nrr nrr kr ⟨⟨agr_name (n:=2) (n0:=2) (r:=.agg (.own 3 1 (List.length v1.Regs) (fl (eI .i64) v1.Regs)::ru25 v1 [])) (v:=.agg (sw 2 v1.Regs::ru25 v1 [])) (Hr:=[z7]) (n':=3) kr dd,Hld.un ?_⟩⟩))
 refine dj 3 (sp 19 [(1,pp 0),z2,(3,pp 0),z3,z6,(6,.emp),(7,.ptr 0 [] 13),z4]) [z7,z1,z5] 3 ?_
 obtain ⟨hg6,hh⟩:=grd_some hh
 refine ds (.app 3 1 8 [(ii 0)] (.t 6) (.t 8)) (some 9) (ydo_n rfl (op_app0 (c:=(eI .i64)) (ys:=x_b.Mem) (rpv kr (rp_bor (c:=(eI .i64)) (xs:=x_b.Mem) len_eI)) (.inr kr) hg6 ⟨⟨Agr.cons dd,Hld.un ?_⟩⟩))
 let q3:Root:=(rI_3 x_b.Mem)
 refine dj 3 (sp 19 [(1,pp 0),z2,(3,pp 0),z3,z6,(6,.emp),(7,.ptr 0 [] 13),z4,(9,sw 3 x_b.Mem),(10,.emp),(11,.ptr 0 [] 14),(12,bo (eI .i64) x_b.In)]) [(3,some q3),z7,z1,z5] 4 ?_
 obtain ⟨hg5,hh⟩:=grd_some hh
 refine ds (.app 3 1 8 [(ii 0)] (.t 10) (.t 12)) (some 13) (ydo_n rfl (op_app0 (c:=(eI .i64)) (ys:=x_b.In) (rpv kr (rp_bor (c:=(eI .i64)) (xs:=x_b.In) len_eI)) (.inr kr) hg5 ⟨⟨Agr.cons dd,Hld.un ?_⟩⟩))
 let q4:Root:=(rI_3 x_b.In)
 refine dt (sp 19 [(1,pp 0),z2,(3,pp 0),z3,z6,(6,.emp),(7,.ptr 0 [] 13),z4,(9,sw 3 x_b.Mem),(10,.emp),(11,.ptr 0 [] 14),(12,bo (eI .i64) x_b.In),(13,sw 4 x_b.In),(14,.emp),(15,.ptr 0 [] 15),(16,bo (eI .i64) x_b.Out)]) [(4,some q4),(3,some q3),z7,z1,z5] 5 ?_
 obtain ⟨hg4,hh⟩:=grd_some hh
 refine ys (.app 3 1 8 [(ii 0)] (.t 14) (.t 16)) (some 17) (op_app0 (c:=(eI .i64)) (ys:=x_b.Out) (rpv kr (rp_bor (c:=(eI .i64)) (xs:=x_b.Out) len_eI)) (.inr kr) hg4 ?_)
 let q5:Root:=(rI_3 x_b.Out)
 refine yt (sp 19 [z2]) [(1,some ⟨27,(sw 2 v1.Regs::ru25 v1 [sw 3 x_b.Mem,sw 4 x_b.In,sw 5 x_b.Out])⟩),z7,(3,some q3),(4,some q4),(5,some q5)] 6 (Aw.ret ?_)
 rw [some_some hh]
 exact gives (r':=.agg (sw 2 v1.Regs::ru25 v1 [sw 3 x_b.Mem,sw 4 x_b.In,sw 5 x_b.Out])) kr (Ent.list [some 2,some 3,some 4,some 5] rfl rfl (Nat.zero_le _) (rens_1 (ren_agg rz)) (hn nr_eI (hn nr_eI (hn nr_eI (hn nr_eI hs_nil)))))
theorem low_spec_BareStep:LW 14 ⟨152,[(.cell 2 true 16)],(.seq (.reg false (rg 14 0)) (.seq (.seq (.reg false (rg 14 1)) (.cond (.t 12) (.seq (.reg false (rg 14 2)) .ret) .skip)) (.seq (.reg false (rg 14 3)) (.seq (.seq (.reg false (rg 14 4)) (.cond (.t 18) (.seq (.reg false (rg 14 5)) .ret) .skip)) (.seq (.reg false (rg 14 6)) (.seq (.reg false (rg 14 7)) (.seq (.seq (.reg false (rg 14 8)) (.cond (.t 28) (.seq (.reg false (rg 14 9)) .ret) .skip)) (.seq (.reg false (rg 14 10)) (.seq (.seq (.reg false (rg 14 11)) (.cond (.t 40) (.seq (.reg false (rg 14 12)) (.seq (.reg false (rg 14 13)) .ret)) .skip)) (.seq (.reg false (rg 14 14)) (.seq (.seq (.reg false (rg 14 15)) (.cond (.t 56) (.seq (.seq (.reg false (rg 14 16)) (.cond (.t 58) (.seq (.reg false (rg 14 17)) (.seq (.reg false (rg 14 18)) .ret)) .skip)) (.seq (.reg false (rg 14 19)) (.seq (.reg false (rg 14 20)) .ret))) .skip)) (.seq (.seq (.reg false (rg 14 21)) (.cond (.t 87) (.seq (.reg false (rg 14 22)) (.seq (.reg false (rg 14 23)) .ret)) .skip)) (.seq (.reg false (rg 14 24)) (.seq (.reg false (rg 14 25)) (.seq (.seq (.reg false (rg 14 26)) (.cond (.t 113) (.seq (.reg false (rg 14 27)) (.seq (.reg false (rg 14 28)) .ret)) .skip)) (.seq (.seq (.reg false (rg 14 29)) (.cond (.t 123) (.regt (rg 14 30) (rg 14 31)) (.regt (rg 14 32) (rg 14 33)))) (.seq (.reg false (rg 14 34)) (.seq (.reg false (rg 14 35)) (.seq (.reg false (rg 14 36)) .ret)))))))))))))))))))⟩:=kr
noncomputable def F_spec_BareStep_j13 (v2:DBare) (v3:DCore × Bool) (s13:(List Int) × (List Int)):Option DBare :=
 some (DBare.mk (DCore.mk s13.1 (Int.tmod (w64 (v3.1.Pc+(1:Int))) (64:Int)) v3.1.Root v3.1.Vector v3.1.Saved v3.1.SavedUser v3.1.Cause v3.1.Bad v3.1.Timer v3.1.Waits v3.1.User v3.1.On v3.1.Stopped) s13.2 v2.In v2.Out)
noncomputable def F_spec_BareStep_j10 (v2:DBare) (v3:DCore × Bool) (v6:DIns) (s10:Unit):Option DBare :=
 grd ((0:Int)≤(Int.tmod v6.N (4:Int))∧(Int.tmod v6.N (4:Int))<(((List.length v3.1.Regs):Nat):Int)) (Option.bind (F_spec_Walk v2.Mem v3.1.Root (Int.tmod (List.getD v3.1.Regs (Int.toNat (Int.tmod v6.N (4:Int))) default) (64:Int)) v3.1.User (decide (v6.Op=(4:Int)))) fun v11 =>
  cond (decide (v11<(0:Int)))
   (Option.bind (F_spec_l3Trap v3.1 v3.1.Pc (2:Int) (Int.tmod (List.getD v3.1.Regs (Int.toNat (Int.tmod v6.N (4:Int))) default) (64:Int))) fun v12 =>
   some (DBare.mk v12 v2.Mem v2.In v2.Out))
   (Option.bind (cond (decide (v6.Op=(3:Int)))
    (grd ((0:Int)≤v11∧v11<(((List.length v2.Mem):Nat):Int)) (grd ((0:Int)≤v6.A∧v6.A<(((List.length v3.1.Regs):Nat):Int)) (some (.go ((List.set v3.1.Regs (Int.toNat v6.A) (List.getD v2.Mem (Int.toNat v11) default)),v2.Mem)))))
    (grd ((0:Int)≤v6.A∧v6.A<(((List.length v3.1.Regs):Nat):Int)) (grd ((0:Int)≤v11∧v11<(((List.length v2.Mem):Nat):Int)) (some (.go (v3.1.Regs,(List.set v2.Mem (Int.toNat v11) (List.getD v3.1.Regs (Int.toNat v6.A) default)))))))) fun j13 =>
    JO.run j13 (F_spec_BareStep_j13 v2 v3)))
noncomputable def F_spec_BareStep (x_b:DBare):Option DBare :=
 Option.bind (F_spec_BareOk x_b) fun v1 =>
 cond (!v1)
  (some (DBare.mk (DCore.mk ([]:List Int) (0:Int) (0:Int) (0:Int) (0:Int) false (0:Int) (0:Int) (0:Int) false false false false) ([]:List Int) ([]:List Int) ([]:List Int)))
  (Option.bind (F_spec_l3Copy x_b) fun v2 =>
  cond x_b.C.Stopped
   (some v2)
   (Option.bind (F_spec_l3Ticked v2.C) fun v3 =>
   cond v3.2
    (some (DBare.mk v3.1 v2.Mem v2.In v2.Out))
    (Option.bind (F_spec_Walk v2.Mem v3.1.Root v3.1.Pc v3.1.User false) fun v4 =>
    cond (decide (v4<(0:Int)))
     (Option.bind (F_spec_l3Trap v3.1 v3.1.Pc (2:Int) v3.1.Pc) fun v5 =>
     some (DBare.mk v5 v2.Mem v2.In v2.Out))
     (grd ((0:Int)≤v4∧v4<(((List.length v2.Mem):Nat):Int)) (Option.bind (F_spec_InsFrom (List.getD v2.Mem (Int.toNat v4) default)) fun v6 =>
      Option.bind (F_spec_InsKernel v6) fun v7 =>
      cond v7
       (cond v3.1.User
        (Option.bind (F_spec_l3Trap v3.1 v3.1.Pc (3:Int) (0:Int)) fun v8 =>
        some (DBare.mk v8 v2.Mem v2.In v2.Out))
        (Option.bind (F_spec_l3Kernel v3.1 v2.In v2.Out v6) fun v9 =>
        some (DBare.mk v9.1 v2.Mem v9.2.1 v9.2.2)))
       (Option.bind (cond (!decide (v6.Op=(3:Int)))
        (cond (!decide (v6.Op=(4:Int)))
         (Option.bind (F_spec_l3Plain v3.1 v6) fun v14 =>
         some (.out (DBare.mk v14 v2.Mem v2.In v2.Out)))
         (some (.go ())))
        (some (.go ()))) fun j10 =>
        JO.run j10 (F_spec_BareStep_j10 v2 v3 v6)))))))
theorem spec_BareStep_fn {x_b:DBare} {R_:DBare} (hh:F_spec_BareStep x_b=some R_):Fn Try.prog 14 [.agg (B_27 x_b)] (.agg (B_27 R_)):=by
 let z6:EH:=(0,some (rB27 x_b)); let z7:EV:=(128,.ptr 1 [] 13); let z8:EV:=(134,.ptr 1 [] 13); let z9:=(2,pp 0); let z10:=(2,pp 1); let z11:=(3,pp 1); let z12:=(3,pp 6); let z13:=(4,pp 6); let z14:=(4,pp 8); let z15:=(7,pp 7); let z16:=(7,pp 9)
 unfold F_spec_BareStep at hh
 refine Fn.start low_spec_BareStep [0] (E:=sp 152 [(0,.agg (B_27 x_b))]) kr (v:=.agg (B_27 R_)) (Hr:=[]) (k:=0) kr (Aw.sreg [1,2] [0,1] ?_)
 let q1:Root:=⟨27,(.nil::zru25 [.nil,.nil,.nil])⟩; let z17:=(0,some q1); let z18:=(1,some q1)
 refine yt (sp 152 [(1,pp 0),z10]) [z6,z18] 2 (Aw.seq (Aw.sreg [1,2,12] [0,1] (yj 1  (sp 152 [(1,pp 0),z10,(10,.agg (B_27 x_b))]) [z6,z18] 2 ?_)))
 obtain ⟨v1,hv1,hh⟩:=bind_some hh
 refine ys (.call 57 [(.t 10)]) (some 11) (op_call (r:=bb v1) (v:=bb v1) (Hr:=[]) (n':=2) (spec_BareOk_fn hv1) (clz_v (vs:=[.agg (B_27 x_b)]) kr (clz_c (clo_same (clean_agg (cl_B_27 _))) clz_n)) rfl rfl kr ?_)
 refine yt (sp 152 [(1,pp 0),z10,(12,bb (!v1))]) [z6,z18] 2 ?_
 rcases cond_some hh with ⟨hb,hh⟩ | ⟨hb,hh⟩
 · refine cT hb (sy [2] [1] (sp 152 [z10]) [z18] 2 (Aw.ret (then_r ?_)))
   rw [some_some hh]
   exact gives (r':=.agg (.nil::zru25 [.nil,.nil,.nil])) kr (Ent.clov (.one _ _ (clo_agg (clos_c (clo_nil (T:=Int) (c:=(eI .i64))) (cs1 (cs1 (cs1 (cs1 (cs1 (cs1 (cs1 (cs1 (cs1 (cs1 (cs1 (cs1 (clos_c (clo_nil (T:=Int) (c:=(eI .i64))) (clos_c (clo_nil (T:=Int) (c:=(eI .i64))) (clos_c (clo_nil (T:=Int) (c:=(eI .i64))) clos_n)))))))))))))))))))
 refine cF hb (Aw.xskip (fun _ _ _ hq=>then_m hq) (Aw.sreg [1,2,3] [0,1,2,3,4,5,6] (yj 1  (sp 152 [(1,pp 0),z10,(12,bb (!v1)),(14,.agg (B_27 x_b))]) [z6,z18] 2 ?_)))
 obtain ⟨v2,hv2,hh⟩:=bind_some hh
 let z19:=(129,sw 3 v2.Mem); let z20:=(135,sw 3 v2.Mem); let q2:Root:=(rI_3 v2.Out); let z21:=(5,some q2); let q3:Root:=(rI_3 v2.In); let z22:=(4,some q3); let q4:Root:=(rI_3 v2.Mem); let z23:=(3,some q4); let q5:Root:=(rI_3 v2.C.Regs); let z24:=(2,some q5)
 refine ys (.call 58 [(.t 14)]) (some 15) (op_call (r:=.agg (.own 3 1 (List.length v2.C.Regs) (fl (eI .i64) v2.C.Regs)::ru25 v2.C [.own 3 1 (List.length v2.Mem) (fl (eI .i64) v2.Mem),.own 3 1 (List.length v2.In) (fl (eI .i64) v2.In),.own 3 1 (List.length v2.Out) (fl (eI .i64) v2.Out)])) (v:=.agg (sw 2 v2.C.Regs::ru25 v2.C [sw 3 v2.Mem,sw 4 v2.In,sw 5 v2.Out])) (Hr:=[z21,z22,z23,z24]) (n':=6) (spec_l3Copy_fn hv2) (clz_v (vs:=[.agg (B_27 x_b)]) kr (clz_c (clo_same (clean_agg (cl_B_27 _))) clz_n)) nrr nrr kr ?_)
 let q6:Root:=⟨27,(sw 2 v2.C.Regs::ru25 v2.C [sw 3 v2.Mem,sw 4 v2.In,sw 5 v2.Out])⟩
 refine yt (sp 152 [(1,pp 0),z10,z12]) [z6,z18,z24,z23,z22,z21,(6,some q6)] 7 (Aw.seq (sy [2,3,18] [1,2,3,4,5,6] (sp 152 [z10,z12,(18,bb x_b.C.Stopped)]) [z18,z24,z23,z22,z21,(6,some q6)] 7 ?_))
 rcases cond_some hh with ⟨hb,hh⟩ | ⟨hb,hh⟩
 · refine cT hb (sy [2] [1,2,3,4,5] (sp 152 [z10]) [(1,some q6),z24,z23,z22,z21] 7 (Aw.ret (then_r ?_)))
   rw [some_some hh]
   exact gives (r':=.agg (sw 2 v2.C.Regs::ru25 v2.C [sw 3 v2.Mem,sw 4 v2.In,sw 5 v2.Out])) kr (Ent.clov (.one _ _ (clo_agg (clos_c (clo_own (c:=(eI .i64)) (xs:=v2.C.Regs) (e:=3) eqn len_eI no_eI cl_eI kr) (cs1 (cs1 (cs1 (cs1 (cs1 (cs1 (cs1 (cs1 (cs1 (cs1 (cs1 (cs1 (clos_c (clo_own (c:=(eI .i64)) (xs:=v2.Mem) (e:=3) eqn len_eI no_eI cl_eI kr) (clos_c (clo_own (c:=(eI .i64)) (xs:=v2.In) (e:=3) eqn len_eI no_eI cl_eI kr) (clos_c (clo_own (c:=(eI .i64)) (xs:=v2.Out) (e:=3) eqn len_eI no_eI cl_eI kr) clos_n)))))))))))))))))))
 refine cF hb (Aw.xskip (fun _ _ _ hq=>then_m hq) (Aw.sreg [2,3,4,5] [1,3,4,5,6,7,8] (yj 2  (sp 152 [z10,z12,(18,bb x_b.C.Stopped),(21,pp 6),(22,.agg (sw 2 v2.C.Regs::ru25 v2.C []))]) [z18,z24,z23,z22,z21,(6,some q6)] 7 ?_)))
 obtain ⟨v3,hv3,hh⟩:=bind_some hh
 let z25:=(125,sw 2 v3.1.Regs); let z26:=(138,sw 2 v3.1.Regs); let z27:=(58,bb v3.1.User); let q7:Root:=(rI_3 v3.1.Regs); let z28:=(2,some q7); let z29:=(7,some q7)
 refine ys (.call 59 [(.t 22)]) (some 23) (cf (.tup [.agg (sw 7 v3.1.Regs::ru25 v3.1 []),bb v3.2]) [z29] 8 [2] (spec_l3Ticked_fn hv3) [.agg (sw 2 v2.C.Regs::ru25 v2.C [])] rz (hn nr_eI hs_nil) (ren_tup rz) (hn nr_eI hs_nil) ?_)
 let q8:Root:=⟨25,(sw 7 v3.1.Regs::ru25 v3.1 [])⟩; let z30:=(8,some q8)
 refine yt (sp 152 [z10,z12,z14,(5,bb v3.2)]) [z18,z23,z22,z21,(6,some q6),z29,z30] 9 (Aw.sreg [2,3,4,5] [1,3,4,5,6,7,8] ?_)
 let q9:Root:=⟨27,(sw 7 v3.1.Regs::ru25 v3.1 [sw 3 v2.Mem,sw 4 v2.In,sw 5 v2.Out])⟩; let z31:=(6,some q9)
 refine yt (sp 152 [z10,z12,z14,(5,bb v3.2)]) [z18,z23,z22,z21,z31,z29,z30] 9 (Aw.seq (sy [2,3,4,28] [1,3,4,5,6,7,8] (sp 152 [z10,z12,z14,(28,bb v3.2)]) [z18,z23,z22,z21,z31,z29,z30] 9 ?_))
 rcases cond_some hh with ⟨hb,hh⟩ | ⟨hb,hh⟩
 · refine cT hb (sy [2] [1,3,4,5,7] (sp 152 [z10]) [(1,some q9),z23,z22,z21,z29] 9 (Aw.ret (then_r ?_)))
   rw [some_some hh]
   exact gives (r':=.agg (sw 7 v3.1.Regs::ru25 v3.1 [sw 3 v2.Mem,sw 4 v2.In,sw 5 v2.Out])) kr (Ent.clov (.one _ _ (clo_agg (clos_c (clo_own (c:=(eI .i64)) (xs:=v3.1.Regs) (e:=3) eqn len_eI no_eI cl_eI kr) (cs1 (cs1 (cs1 (cs1 (cs1 (cs1 (cs1 (cs1 (cs1 (cs1 (cs1 (cs1 (clos_c (clo_own (c:=(eI .i64)) (xs:=v2.Mem) (e:=3) eqn len_eI no_eI cl_eI kr) (clos_c (clo_own (c:=(eI .i64)) (xs:=v2.In) (e:=3) eqn len_eI no_eI cl_eI kr) (clos_c (clo_own (c:=(eI .i64)) (xs:=v2.Out) (e:=3) eqn len_eI no_eI cl_eI kr) clos_n)))))))))))))))))))
 refine cF hb (Aw.xskip (fun _ _ _ hq=>then_m hq) (Aw.sreg [2,3,4,6] [1,3,4,5,6,7,8] (yj 8  (sp 152 [z10,z12,z14,(28,bb v3.2),(30,.ptr 6 [] 13),(31,sw 3 v2.Mem),(32,.ptr 8 [] 2),(33,ii v3.1.Root),(34,.ptr 8 [] 1),(35,ii v3.1.Pc),(36,.ptr 8 [] 10),(37,bb v3.1.User)]) [z18,z23,z22,z21,z31,z29,z30] 9 ?_)))
 obtain ⟨v4,hv4,hh⟩:=bind_some hh
 let z32:=(40,bb (decide (v4<(0:Int))))
 refine ys (.call 51 [(.t 31),(.t 33),(.t 35),(.t 37),(.c (bb false))]) (some 38) (op_call (r:=ii v4) (v:=ii v4) (Hr:=[]) (n':=9) (spec_Walk_fn hv4) (clz_v (vs:=[sw 3 v2.Mem,ii v3.1.Root,ii v3.1.Pc,bb v3.1.User,bb false]) kr (clz_c (clo_own (c:=(eI .i64)) (xs:=v2.Mem) (e:=3) eqn len_eI no_eI cl_eI kr) (cz1 (cz1 (cz1 (cz1 clz_n)))))) rfl rfl kr ?_)
 refine yt (sp 152 [z10,z12,z14,(6,ii v4)]) [z18,z23,z22,z21,z31,z29,z30] 9 (Aw.seq (sy [2,3,4,6,40] [1,3,4,5,6,7,8] (sp 152 [z10,z12,z14,(6,ii v4),z32]) [z18,z23,z22,z21,z31,z29,z30] 9 ?_))
 rcases cond_some hh with ⟨hb,hh⟩ | ⟨hb,hh⟩
 · refine cT hb (Aw.sreg [2,3] [1,3,4,5,6,9] (yu 5 [(41,.agg (sw 7 v3.1.Regs::ru25 v3.1 [])),(42,.ptr 8 [] 1),(43,ii v3.1.Pc),(44,.ptr 8 [] 1),(45,ii v3.1.Pc)] [z18,z23,z22,z21,z31,z29,z30] 9 ?_))
   obtain ⟨v5,hv5,hh⟩:=bind_some hh
   let q10:Root:=(rI_3 v5.Regs)
   refine ys (.call 60 [(.t 41),(.t 43),(.c (ii 2)),(.t 45)]) (some 46) (cf (.agg (sw 9 v5.Regs::ru25 v5 [])) [(9,some q10)] 10 [7] (spec_l3Trap_fn hv5) [.agg (sw 7 v3.1.Regs::ru25 v3.1 []),ii v3.1.Pc,ii 2,ii v3.1.Pc] rz (hn nr_eI hs_nil) (ren_agg rz) (hn nr_eI hs_nil) ?_)
   let q11:Root:=⟨27,(sw 9 v5.Regs::ru25 v5 [sw 3 v2.Mem,sw 4 v2.In,sw 5 v2.Out])⟩
   refine yt (sp 152 [z10,z12]) [z18,z23,z22,z21,(6,some q11),(9,some q10)] 10 (sy [2] [1,3,4,5,9] (sp 152 [z10]) [(1,some q11),z23,z22,z21,(9,some q10)] 10 (Aw.ret (then_r ?_)))
   rw [some_some hh]
   exact gives (r':=.agg (sw 9 v5.Regs::ru25 v5 [sw 3 v2.Mem,sw 4 v2.In,sw 5 v2.Out])) kr (Ent.clov (.one _ _ (clo_agg (clos_c (clo_own (c:=(eI .i64)) (xs:=v5.Regs) (e:=3) eqn len_eI no_eI cl_eI kr) (cs1 (cs1 (cs1 (cs1 (cs1 (cs1 (cs1 (cs1 (cs1 (cs1 (cs1 (cs1 (clos_c (clo_own (c:=(eI .i64)) (xs:=v2.Mem) (e:=3) eqn len_eI no_eI cl_eI kr) (clos_c (clo_own (c:=(eI .i64)) (xs:=v2.In) (e:=3) eqn len_eI no_eI cl_eI kr) (clos_c (clo_own (c:=(eI .i64)) (xs:=v2.Out) (e:=3) eqn len_eI no_eI cl_eI kr) clos_n)))))))))))))))))))
 refine cF hb (Aw.xskip (fun _ _ _ hq=>then_m hq) (Aw.sreg [2,3,4,7] [1,3,4,5,6,7,8,9] ?_))
 obtain ⟨hg28,hh⟩:=grd_some hh
 refine yjc 4 [(0:Int)≤v4∧v4<(((List.length v2.Mem):Nat):Int)] (sp 152 [z10,z12,z14,(6,ii v4),z32,(49,.ptr 6 [] 13),(50,sw 3 v2.Mem),(51,ii v4),(52,.ptr 3 [] (0+(Int.toNat v4)*1))]) [z18,z23,z22,z21,z31,z29,z30] 9 (.cons hg28 .nil) (ys (.load false 1 (.t 52)) (some 53) (op_load (c:=(eI .i64)) (xs:=v2.Mem) (e:=3) (r:=3) (π:=[]) (o:=0+(Int.toNat v4)*1) (i:=(Int.toNat v4)) (off:=0) (v:=ii (List.getD v2.Mem (Int.toNat v4) default)) len_eI kr kr ltn ltn dd kr ?_))
 obtain ⟨v6,hv6,hh⟩:=bind_some hh
 let z33:=(123,bb (decide (v6.Op=(3:Int)))); let z34:EV:=(133,.ptr 2 [] (0+(Int.toNat v6.A)*1)); let z35:EV:=(141,.ptr 2 [] (0+(Int.toNat v6.A)*1)); let z36:EH:=(7,some ⟨45,(C_45 v6)⟩); let z37:EH:=(9,some ⟨45,(C_45 v6)⟩); let z1:=List.getD v3.1.Regs (Int.toNat (Int.tmod v6.N (4:Int))) default; let z38:=(8,ii (Int.tmod z1 (64:Int))); let z2:=List.getD v3.1.Regs (Int.toNat v6.A) default
 refine ys (.call 61 [(.t 53)]) (some 54) (oc (spec_InsFrom_fn hv6) ?_)
 refine yt (sp 152 [z10,z12,z14,z16]) [z18,z23,z22,z21,z31,z29,z30,z37] 10 (Aw.seq (Aw.sreg [2,3,4,7,56] [1,3,4,5,6,7,8,9] (yj 1  (sp 152 [z10,z12,z14,z16,(55,.agg (C_45 v6))]) [z18,z23,z22,z21,z31,z29,z30,z37] 10 ?_)))
 obtain ⟨v7,hv7,hh⟩:=bind_some hh
 refine ys (.call 62 [(.t 55)]) (some 56) (oc (spec_InsKernel_fn hv7) ?_)
 refine yt (sp 152 [z10,z12,z14,z16,(56,bb v7)]) [z18,z23,z22,z21,z31,z29,z30,z37] 10 ?_
 rcases cond_some hh with ⟨hb,hh⟩ | ⟨hb,hh⟩
 · refine cT hb (Aw.seq (sy [2,3,4,7,58] [1,3,4,5,6,7,8,9] (sp 152 [z10,z12,z14,z16,z27]) [z18,z23,z22,z21,z31,z29,z30,z37] 10 ?_))
   rcases cond_some hh with ⟨hb,hh⟩ | ⟨hb,hh⟩
   · refine cT hb (Aw.sreg [2,3] [1,3,4,5,6,10] (yu 3 [(59,.agg (sw 7 v3.1.Regs::ru25 v3.1 [])),(60,.ptr 8 [] 1),(61,ii v3.1.Pc)] [z18,z23,z22,z21,z31,z29,z30,z37] 10 ?_))
     obtain ⟨v8,hv8,hh⟩:=bind_some hh
     let q12:Root:=(rI_3 v8.Regs)
     refine ys (.call 60 [(.t 59),(.t 61),(.c (ii 3)),(.c (ii 0))]) (some 62) (cf (.agg (sw 10 v8.Regs::ru25 v8 [])) [(10,some q12)] 11 [7] (spec_l3Trap_fn hv8) [.agg (sw 7 v3.1.Regs::ru25 v3.1 []),ii v3.1.Pc,ii 3,ii 0] rz (hn nr_eI hs_nil) (ren_agg rz) (hn nr_eI hs_nil) ?_)
     let q13:Root:=⟨27,(sw 10 v8.Regs::ru25 v8 [sw 3 v2.Mem,sw 4 v2.In,sw 5 v2.Out])⟩
     refine yt (sp 152 [z10,z12]) [z18,z23,z22,z21,(6,some q13),(10,some q12)] 11 (sy [2] [1,3,4,5,10] (sp 152 [z10]) [(1,some q13),z23,z22,z21,(10,some q12)] 11 (Aw.ret (then_r (then_r ?_))))
     rw [some_some hh]
     exact gives (r':=.agg (sw 10 v8.Regs::ru25 v8 [sw 3 v2.Mem,sw 4 v2.In,sw 5 v2.Out])) kr (Ent.clov (.one _ _ (clo_agg (clos_c (clo_own (c:=(eI .i64)) (xs:=v8.Regs) (e:=3) eqn len_eI no_eI cl_eI kr) (cs1 (cs1 (cs1 (cs1 (cs1 (cs1 (cs1 (cs1 (cs1 (cs1 (cs1 (cs1 (clos_c (clo_own (c:=(eI .i64)) (xs:=v2.Mem) (e:=3) eqn len_eI no_eI cl_eI kr) (clos_c (clo_own (c:=(eI .i64)) (xs:=v2.In) (e:=3) eqn len_eI no_eI cl_eI kr) (clos_c (clo_own (c:=(eI .i64)) (xs:=v2.Out) (e:=3) eqn len_eI no_eI cl_eI kr) clos_n)))))))))))))))))))
   refine cF hb (Aw.xskip (fun _ _ _ hq=>then_m hq) ?_)
   let q14:Root:=⟨27,(sw 7 v3.1.Regs::ru25 v3.1 [sw 3 v2.Mem,bo (eI .i64) v2.In,sw 5 v2.Out])⟩
   refine Aw.freeze 4 (cs:=(fl (eI .i64) v2.In)) (e:=3) (env2:=sp 152 [z10,z12,z14,z16,z27]) (H2:=[z18,z23,z21,(6,some q14),z29,z30,z37]) kr (noOwn_fl no_eI) (frs_sp kr (fl_c (u:=pp 1) kr (.same _) (fl_c (u:=pp 6) kr (.same _) (fl_c (u:=pp 8) kr (.same _) (fl_c (u:=pp 9) kr (.same _) (fl_c (u:=bb v3.1.User) kr (.same _) fl_n)))))) (hf_c (t:=q1) rfl kr rfl (frs_c (.same _) (frs_c (.same _) (frs_c (.same _) (frs_c (.same _) (frs_c (.same _) (frs_c (.same _) (frs_c (.same _) (frs_c (.same _) (frs_c (.same _) (frs_c (.same _) (frs_c (.same _) (frs_c (.same _) (frs_c (.same _) (frs_c (.same _) (frs_c (.same _) (frs_c (.same _) frs_n)))))))))))))))) (hf_c (t:=q4) rfl kr rfl frs_same (hf_c (t:=q2) rfl kr rfl frs_same (hf_c (t:=q9) rfl kr rfl (frs_c (.same _) (frs_c (.same _) (frs_c (.same _) (frs_c (.same _) (frs_c (.same _) (frs_c (.same _) (frs_c (.same _) (frs_c (.same _) (frs_c (.same _) (frs_c (.same _) (frs_c (.same _) (frs_c (.same _) (frs_c (.same _) (frs_c (.same _) (frs_c (fr_all len_eI eqn) (frs_c (.same _) frs_n)))))))))))))))) (hf_c (t:=q7) rfl kr rfl frs_same (hf_c (t:=q8) rfl kr rfl (frs_c (.same _) (frs_c (.same _) (frs_c (.same _) (frs_c (.same _) (frs_c (.same _) (frs_c (.same _) (frs_c (.same _) (frs_c (.same _) (frs_c (.same _) (frs_c (.same _) (frs_c (.same _) (frs_c (.same _) (frs_c (.same _) frs_n))))))))))))) (hf_c (t:=⟨45,(C_45 v6)⟩) rfl kr rfl (frs_c (.same _) (frs_c (.same _) (frs_c (.same _) frs_n))) hf_n))))))) (Aw.sreg [2,3] [1,3,6,10,11] (yj 6  (sp 152 [z10,z12,z14,z16,z27,(66,.agg (sw 7 v3.1.Regs::ru25 v3.1 [])),(67,.ptr 6 [] 14),(68,bo (eI .i64) v2.In),(69,.ptr 6 [] 15),(70,sw 5 v2.Out),(71,.agg (C_45 v6))]) [z18,z23,z21,(6,some q14),z29,z30,z37] 10 ?_))
   obtain ⟨v9,hv9,hh⟩:=bind_some hh
   let q15:Root:=(rI_3 v9.2.2); let q16:Root:=(rI_3 v9.1.Regs)
   refine ys (.call 63 [(.t 66),(.t 68),(.t 70),(.t 71)]) (some 72) (cf (.tup [.agg (sw 10 v9.1.Regs::ru25 v9.1 []),bo (eI .i64) v9.2.1,sw 11 v9.2.2]) [(11,some q15),(10,some q16)] 12 [7,5] (spec_l3Kernel_fn hv9) [.agg (sw 7 v3.1.Regs::ru25 v3.1 []),bo (eI .i64) v2.In,sw 5 v2.Out,.agg (C_45 v6)] rz (hn nr_eI (hn nr_eI hs_nil)) (ren_tup rz) (hn nr_eI (hn nr_eI hs_nil)) ?_)
   let q17:Root:=⟨27,(sw 10 v9.1.Regs::ru25 v9.1 [sw 3 v2.Mem,bo (eI .i64) v9.2.1,sw 11 v9.2.2])⟩
   refine yt (sp 152 [z10,z12]) [z18,z23,(6,some q17),(10,some q16),(11,some q15)] 12 (sy [2] [1,3,10,11] (sp 152 [z10]) [(1,some q17),z23,(10,some q16),(11,some q15)] 12 (Aw.ret (then_r ?_)))
   rw [some_some hh]
   exact gives (r':=.agg (sw 10 v9.1.Regs::ru25 v9.1 [sw 3 v2.Mem,bo (eI .i64) v9.2.1,sw 11 v9.2.2])) kr (Ent.clov (.one _ _ (clo_agg (clos_c (clo_own (c:=(eI .i64)) (xs:=v9.1.Regs) (e:=3) eqn len_eI no_eI cl_eI kr) (cs1 (cs1 (cs1 (cs1 (cs1 (cs1 (cs1 (cs1 (cs1 (cs1 (cs1 (cs1 (clos_c (clo_own (c:=(eI .i64)) (xs:=v2.Mem) (e:=3) eqn len_eI no_eI cl_eI kr) (clos_c (clo_same (clean_bor (cleans_fl cl_eI))) (clos_c (clo_own (c:=(eI .i64)) (xs:=v9.2.2) (e:=3) eqn len_eI no_eI cl_eI kr) clos_n)))))))))))))))))))
 refine cF hb (Aw.xskip (fun _ _ _ hq=>then_m hq) ?_)
 obtain ⟨j10,hh,hk10⟩:=bind_some hh
 refine Aw.join (S:=Unit) (fun s10=>sp 152 [(2,pp 0),(3,pp 1),(4,pp 6),(7,pp 7)]) (fun s10=>[(0,some ⟨27,(.nil::zru25 [.nil,.nil,.nil])⟩),(1,some ⟨27,(sw 2 v3.1.Regs::ru25 v3.1 [sw 3 v2.Mem,sw 4 v2.In,sw 5 v2.Out])⟩),(2,some (rI_3 v3.1.Regs)),(3,some (rI_3 v2.Mem)),(4,some (rI_3 v2.In)),(5,some (rI_3 v2.Out)),(6,some ⟨25,(sw 2 v3.1.Regs::ru25 v3.1 [])⟩),(7,some ⟨45,(C_45 v6)⟩)]) 8 (fun s10=>F_spec_BareStep_j10 v2 v3 v6 s10=some R_) ?_ ?_
 · intro s10 hh
   unfold F_spec_BareStep_j10 at hh
   refine Aw.sreg [2,3,4,7,8] [0,1,2,3,4,5,6,7] ?_
   obtain ⟨hg27,hh⟩:=grd_some hh
   let q18:Root:=⟨27,(sw 2 v3.1.Regs::ru25 v3.1 [sw 3 v2.Mem,sw 4 v2.In,sw 5 v2.Out])⟩; let z39:=(1,some q18); let q19:Root:=⟨25,(sw 2 v3.1.Regs::ru25 v3.1 [])⟩; let z40:=(6,some q19)
   refine yjc 6 [(4:Int)≠0,(0:Int)≤(Int.tmod v6.N (4:Int))∧(Int.tmod v6.N (4:Int))<(((List.length v3.1.Regs):Nat):Int)] (sp 152 [z9,z11,z13,z15,(93,pp 6),(94,sw 2 v3.1.Regs),(95,.ptr 7 [] 2),(96,ii v6.N),(97,ii (Int.tmod v6.N (4:Int))),(98,.ptr 2 [] (0+(Int.toNat (Int.tmod v6.N (4:Int)))*1))]) [z17,z39,z28,z23,z22,z21,z40,z36] 8 (.cons dd (.cons hg27 .nil)) (ys (.load false 1 (.t 98)) (some 99) (op_load (c:=(eI .i64)) (xs:=v3.1.Regs) (e:=3) (r:=2) (π:=[]) (o:=0+(Int.toNat (Int.tmod v6.N (4:Int)))*1) (i:=(Int.toNat (Int.tmod v6.N (4:Int)))) (off:=0) (v:=ii z1) len_eI kr kr ltn ltn dd kr ?_))
   refine ytc [(64:Int)≠0] (sp 152 [z9,z11,z13,z15,z38]) [z17,z39,z28,z23,z22,z21,z40,z36] 8 (.cons dd .nil) (Aw.sreg [2,3,4,7,8,9] [0,1,2,3,4,5,6,7] (yu 10 [(101,.ptr 1 [] 13),(102,sw 3 v2.Mem),(103,.ptr 6 [] 2),(104,ii v3.1.Root),(105,ii (Int.tmod z1 (64:Int))),(106,.ptr 6 [] 10),(107,bb v3.1.User),(108,pp 7),(109,ii v6.Op),(110,bb (decide (v6.Op=(4:Int))))] [z17,z39,z28,z23,z22,z21,z40,z36] 8 ?_))
   obtain ⟨v11,hv11,hh⟩:=bind_some hh
   let z41:EV:=(131,.ptr 3 [] (0+(Int.toNat v11)*1)); let z42:EV:=(143,.ptr 3 [] (0+(Int.toNat v11)*1)); let z43:=(9,ii v11); let z4:=List.set v2.Mem (Int.toNat v11) z2; let z3:=List.getD v2.Mem (Int.toNat v11) default; let z5:=List.set v3.1.Regs (Int.toNat v6.A) z3
   refine ys (.call 51 [(.t 102),(.t 104),(.t 105),(.t 107),(.t 110)]) (some 111) (op_call (r:=ii v11) (v:=ii v11) (Hr:=[]) (n':=8) (spec_Walk_fn hv11) (clz_v (vs:=[sw 3 v2.Mem,ii v3.1.Root,ii (Int.tmod z1 (64:Int)),bb v3.1.User,bb (decide (v6.Op=(4:Int)))]) kr (clz_c (clo_own (c:=(eI .i64)) (xs:=v2.Mem) (e:=3) eqn len_eI no_eI cl_eI kr) (cz1 (cz1 (cz1 (cz1 clz_n)))))) rfl rfl kr ?_)
   refine yt (sp 152 [z9,z11,z13,z15,z38,z43]) [z17,z39,z28,z23,z22,z21,z40,z36] 8 (Aw.seq (sy [2,3,4,7,8,9,113] [0,1,2,3,4,5,6,7] (sp 152 [z9,z11,z13,z15,z38,z43,(113,bb (decide (v11<(0:Int))))]) [z17,z39,z28,z23,z22,z21,z40,z36] 8 ?_))
   rcases cond_some hh with ⟨hb,hh⟩ | ⟨hb,hh⟩
   · refine cT hb (Aw.sreg [2,3] [0,1,3,4,5,8] (yu 4 [(114,.agg (sw 2 v3.1.Regs::ru25 v3.1 [])),(115,.ptr 6 [] 1),(116,ii v3.1.Pc),(117,ii (Int.tmod z1 (64:Int)))] [z17,z39,z28,z23,z22,z21,z40,z36] 8 ?_))
     obtain ⟨v12,hv12,hh⟩:=bind_some hh
     let q20:Root:=(rI_3 v12.Regs)
     refine ys (.call 60 [(.t 114),(.t 116),(.c (ii 2)),(.t 117)]) (some 118) (cf (.agg (sw 8 v12.Regs::ru25 v12 [])) [(8,some q20)] 9 [2] (spec_l3Trap_fn hv12) [.agg (sw 2 v3.1.Regs::ru25 v3.1 []),ii v3.1.Pc,ii 2,ii (Int.tmod z1 (64:Int))] rz (hn nr_eI hs_nil) (ren_agg rz) (hn nr_eI hs_nil) ?_)
     let q21:Root:=⟨27,(sw 8 v12.Regs::ru25 v12 [sw 3 v2.Mem,sw 4 v2.In,sw 5 v2.Out])⟩
     refine yt (sp 152 [z9,z11]) [z17,(1,some q21),z23,z22,z21,(8,some q20)] 9 (sy [2] [0,3,4,5,8] (sp 152 [z9]) [(0,some q21),z23,z22,z21,(8,some q20)] 9 (Aw.ret (then_r ?_)))
     rw [some_some hh]
     exact gives (r':=.agg (sw 8 v12.Regs::ru25 v12 [sw 3 v2.Mem,sw 4 v2.In,sw 5 v2.Out])) kr (Ent.clov (.one _ _ (clo_agg (clos_c (clo_own (c:=(eI .i64)) (xs:=v12.Regs) (e:=3) eqn len_eI no_eI cl_eI kr) (cs1 (cs1 (cs1 (cs1 (cs1 (cs1 (cs1 (cs1 (cs1 (cs1 (cs1 (cs1 (clos_c (clo_own (c:=(eI .i64)) (xs:=v2.Mem) (e:=3) eqn len_eI no_eI cl_eI kr) (clos_c (clo_own (c:=(eI .i64)) (xs:=v2.In) (e:=3) eqn len_eI no_eI cl_eI kr) (clos_c (clo_own (c:=(eI .i64)) (xs:=v2.Out) (e:=3) eqn len_eI no_eI cl_eI kr) clos_n)))))))))))))))))))
   refine cF hb (Aw.xskip (fun _ _ _ hq=>then_m hq) ?_)
   obtain ⟨j13,hh,hk13⟩:=bind_some hh
   refine Aw.join (S:=(List Int) × (List Int)) (fun s13=>sp 152 [(2,pp 0),(3,pp 1),(4,pp 6)]) (fun s13=>[(0,some ⟨27,(.nil::zru25 [.nil,.nil,.nil])⟩),(1,some ⟨27,(sw 2 s13.1::ru25 v3.1 [sw 3 s13.2,sw 4 v2.In,sw 5 v2.Out])⟩),(2,some (rI_3 s13.1)),(3,some (rI_3 s13.2)),(4,some (rI_3 v2.In)),(5,some (rI_3 v2.Out)),(6,some ⟨25,(sw 2 s13.1::ru25 v3.1 [])⟩)]) 7 (fun s13=>F_spec_BareStep_j13 v2 v3 s13=some R_) ?_ ?_
   · intro s13 hh
     unfold F_spec_BareStep_j13 at hh
     refine Aw.sreg [2,3,4] [0,1,2,3,4,5,6] ?_
     let q22:Root:=(rI_3 s13.1); let q23:Root:=(rI_3 s13.2)
     refine ytc [(64:Int)≠0] (sp 152 [z9,z11,z13]) [z17,(1,some ⟨27,(sw 2 s13.1::ru25 v3.1 [sw 3 s13.2,sw 4 v2.In,sw 5 v2.Out])⟩),(2,some q22),(3,some q23),z22,z21,(6,some ⟨25,[sw 2 s13.1,ii (Int.tmod (w64 (v3.1.Pc+(1:Int))) (64:Int)),ii v3.1.Root,ii v3.1.Vector,ii v3.1.Saved,bb v3.1.SavedUser,ii v3.1.Cause,ii v3.1.Bad,ii v3.1.Timer,bb v3.1.Waits,bb v3.1.User,bb v3.1.On,bb v3.1.Stopped]⟩)] 7 (.cons dd .nil) (Aw.sreg [2,3] [0,1,2,3,4,5] ?_)
     let q24:Root:=⟨27,[sw 2 s13.1,ii (Int.tmod (w64 (v3.1.Pc+(1:Int))) (64:Int)),ii v3.1.Root,ii v3.1.Vector,ii v3.1.Saved,bb v3.1.SavedUser,ii v3.1.Cause,ii v3.1.Bad,ii v3.1.Timer,bb v3.1.Waits,bb v3.1.User,bb v3.1.On,bb v3.1.Stopped,sw 3 s13.2,sw 4 v2.In,sw 5 v2.Out]⟩
     refine yt (sp 152 [z9,z11]) [z17,(1,some q24),(2,some q22),(3,some q23),z22,z21] 7 (sy [2] [0,2,3,4,5] (sp 152 [z9]) [(0,some q24),(2,some q22),(3,some q23),z22,z21] 7 (Aw.ret ?_))
     rw [some_some hh]
     exact gives (r':=.agg [sw 2 s13.1,ii (Int.tmod (w64 (v3.1.Pc+(1:Int))) (64:Int)),ii v3.1.Root,ii v3.1.Vector,ii v3.1.Saved,bb v3.1.SavedUser,ii v3.1.Cause,ii v3.1.Bad,ii v3.1.Timer,bb v3.1.Waits,bb v3.1.User,bb v3.1.On,bb v3.1.Stopped,sw 3 s13.2,sw 4 v2.In,sw 5 v2.Out]) kr (Ent.clov (.one _ _ (clo_agg (clos_c (clo_own (c:=(eI .i64)) (xs:=s13.1) (e:=3) eqn len_eI no_eI cl_eI kr) (cs1 (cs1 (cs1 (cs1 (cs1 (cs1 (cs1 (cs1 (cs1 (cs1 (cs1 (cs1 (clos_c (clo_own (c:=(eI .i64)) (xs:=s13.2) (e:=3) eqn len_eI no_eI cl_eI kr) (clos_c (clo_own (c:=(eI .i64)) (xs:=v2.In) (e:=3) eqn len_eI no_eI cl_eI kr) (clos_c (clo_own (c:=(eI .i64)) (xs:=v2.Out) (e:=3) eqn len_eI no_eI cl_eI kr) clos_n)))))))))))))))))))
   intro Q13 hN13 hR13 hE13
   refine sy [2,3,4,7,9,123] [0,1,2,3,4,5,6,7] (sp 152 [z9,z11,z13,z15,z43,z33]) [z17,z39,z28,z23,z22,z21,z40,z36] 8 ?_
   rcases cond_some hh with ⟨hb,hh⟩ | ⟨hb,hh⟩
   · refine cT hb (Aw.oregt ?_)
     obtain ⟨hg22,hh⟩:=grd_some hh
     refine qc (cs:=[(0:Int)≤v11∧v11<(((List.length v2.Mem):Nat):Int)]) (E':=(sp 152 [z9,z11,z13,z15,z43,z33,(124,pp 6),z25,(126,.ptr 7 [] 1),(127,ii v6.A),z7,z19,(130,ii v11),z41])) (pre:=(List.take 8 (rg 14 30))) (L':=(List.drop 8 (rg 14 30))) kr (fun K=>by kernel_rfl) (.cons hg22 .nil) (qs (.load false 1 (.t 131)) (some 132) (yq_q rfl (op_load (c:=(eI .i64)) (xs:=v2.Mem) (e:=3) (r:=3) (π:=[]) (o:=0+(Int.toNat v11)*1) (i:=(Int.toNat v11)) (off:=0) (v:=ii z3) len_eI kr kr ltn ltn dd kr ?_)))
     obtain ⟨hg21,hh⟩:=grd_some hh
     refine qtt (cs:=[(0:Int)≤v6.A∧v6.A<(((List.length v3.1.Regs):Nat):Int)]) (E':=(sp 152 [z9,z11,z13,z15,z43,z33,(124,pp 6),z25,(126,.ptr 7 [] 1),(127,ii v6.A),z7,z19,(130,ii v11),z41,(132,ii z3),z34])) (fun K=>by kernel_rfl) (.cons hg21 .nil) ?_
     let q25:Root:=(rI_3 z5)
     refine ys (.store 1 (.t 133) (.t 132)) none (op_store (c:=(eI .i64)) (xs:=v3.1.Regs) (e:=3) (r:=2) (π:=[]) (o:=0+(Int.toNat v6.A)*1) (i:=(Int.toNat v6.A)) (off:=0) (vs:=[ii z3]) (y:=z3) (H':=[(2,some q25),z17,z39,z28,z23,z22,z21,z40,z36]) len_eI kr kr kr kr ltn ltn dd kr kr ?_)
     refine ye (sp 152 [z9,z11,z13,z15,z43,z33,(124,pp 6),z25,(126,.ptr 7 [] 1),(127,ii v6.A),z7,z19,(130,ii v11),z41,(132,ii z3),z34]) [(2,some q25),z17,z39,z28,z23,z22,z21,z40,z36] 8 ?_
     obtain rfl:=some_some hh
     exact hN13 (z5,v2.Mem) _ _ _ hk13 (el [some 0,some 1,some 2,some 3,some 4,some 5,some 6] (rens_sp kr (rp 0 (rp 1 (rp 6 rl_n)))) (hq q1 rz (hq q18 rz (hn nr_eI (hn nr_eI (hn nr_eI (hn nr_eI (hq q19 rz hs_nil))))))))
   refine cF hb (Aw.oregt ?_)
   obtain ⟨hg26,hh⟩:=grd_some hh
   refine qc (cs:=[(0:Int)≤v6.A∧v6.A<(((List.length v3.1.Regs):Nat):Int)]) (E':=(sp 152 [z9,z11,z13,z15,z43,z33,z8,z20,(136,ii v11),(137,pp 6),z26,(139,.ptr 7 [] 1),(140,ii v6.A),z35])) (pre:=(List.take 8 (rg 14 32))) (L':=(List.drop 8 (rg 14 32))) kr (fun K=>by kernel_rfl) (.cons hg26 .nil) (qs (.load false 1 (.t 141)) (some 142) (yq_q rfl (op_load (c:=(eI .i64)) (xs:=v3.1.Regs) (e:=3) (r:=2) (π:=[]) (o:=0+(Int.toNat v6.A)*1) (i:=(Int.toNat v6.A)) (off:=0) (v:=ii z2) len_eI kr kr ltn ltn dd kr ?_)))
   obtain ⟨hg25,hh⟩:=grd_some hh
   refine qtt (cs:=[(0:Int)≤v11∧v11<(((List.length v2.Mem):Nat):Int)]) (E':=(sp 152 [z9,z11,z13,z15,z43,z33,z8,z20,(136,ii v11),(137,pp 6),z26,(139,.ptr 7 [] 1),(140,ii v6.A),z35,(142,ii z2),z42])) (fun K=>by kernel_rfl) (.cons hg25 .nil) ?_
   let q26:Root:=(rI_3 z4)
   refine ys (.store 1 (.t 143) (.t 142)) none (op_store (c:=(eI .i64)) (xs:=v2.Mem) (e:=3) (r:=3) (π:=[]) (o:=0+(Int.toNat v11)*1) (i:=(Int.toNat v11)) (off:=0) (vs:=[ii z2]) (y:=z2) (H':=[(3,some q26),z17,z39,z28,z23,z22,z21,z40,z36]) len_eI kr kr kr kr ltn ltn dd kr kr ?_)
   refine ye (sp 152 [z9,z11,z13,z15,z43,z33,z8,z20,(136,ii v11),(137,pp 6),z26,(139,.ptr 7 [] 1),(140,ii v6.A),z35,(142,ii z2),z42]) [(3,some q26),z17,z39,z28,z23,z22,z21,z40,z36] 8 ?_
   obtain rfl:=some_some hh
   exact hN13 (v3.1.Regs,z4) _ _ _ hk13 (el [some 0,some 1,some 2,some 3,some 4,some 5,some 6] (rens_sp kr (rp 0 (rp 1 (rp 6 rl_n)))) (hq q1 rz (hq q18 rz (hn nr_eI (hn nr_eI (hn nr_eI (hn nr_eI (hq q19 rz hs_nil))))))))
 intro Q10 hN10 hR10 hE10
 refine Aw.sreg [2,3,4,7,87] [1,3,4,5,6,7,8,9] (yj 4  (sp 152 [z10,z12,z14,z16,(56,bb v7),(80,pp 9),(81,ii v6.Op),(82,bb (!decide (v6.Op=(3:Int)))),(83,bb (!decide (v6.Op=(3:Int))))]) [z18,z23,z22,z21,z31,z29,z30,z37] 10 ?_)
 rcases cond_sf hh with ⟨hb,hh⟩ | ⟨hb,hh⟩
 · refine yb 82 hb (yb 83 hb (yt (sp 152 [z10,z12,z14,z16,(87,bb false)]) [z18,z23,z22,z21,z31,z29,z30,z37] 10 (cF rfl (Aw.skip ?_))))
   obtain rfl:=some_some hh
   exact hN10 () _ _ _ hk10 (el [some 1,some 6,some 7,some 3,some 4,some 5,some 8,some 9] (rens_sp kr (rp 1 (rp 6 (rp 8 (rp 9 rl_n))))) (hq q1 rz (hq q9 rz (hn nr_eI (hn nr_eI (hn nr_eI (hn nr_eI (hq q8 rz (hq ⟨45,(C_45 v6)⟩ (rens_same (nr_C_45 _)) hs_nil)))))))))
 refine yb 82 hb (yb 83 hb (yt (sp 152 [z10,z12,z14,z16,(87,bb (!decide (v6.Op=(4:Int))))]) [z18,z23,z22,z21,z31,z29,z30,z37] 10 ?_))
 rcases cond_sf hh with ⟨hb,hh⟩ | ⟨hb,hh⟩
 · refine cF hb (Aw.skip ?_)
   obtain rfl:=some_some hh
   exact hN10 () _ _ _ hk10 (el [some 1,some 6,some 7,some 3,some 4,some 5,some 8,some 9] (rens_sp kr (rp 1 (rp 6 (rp 8 (rp 9 rl_n))))) (hq q1 rz (hq q9 rz (hn nr_eI (hn nr_eI (hn nr_eI (hn nr_eI (hq q8 rz (hq ⟨45,(C_45 v6)⟩ (rens_same (nr_C_45 _)) hs_nil)))))))))
 refine cT hb (Aw.sreg [2,3] [1,3,4,5,6,10] (yu 2 [(88,.agg (sw 7 v3.1.Regs::ru25 v3.1 [])),(89,.agg (C_45 v6))] [z18,z23,z22,z21,z31,z29,z30,z37] 10 ?_))
 obtain ⟨v14,hv14,hh⟩:=bind_some hh
 let q27:Root:=(rI_3 v14.Regs)
 refine ys (.call 64 [(.t 88),(.t 89)]) (some 90) (cf (.agg (sw 10 v14.Regs::ru25 v14 [])) [(10,some q27)] 11 [7] (spec_l3Plain_fn hv14) [.agg (sw 7 v3.1.Regs::ru25 v3.1 []),.agg (C_45 v6)] rz (hn nr_eI hs_nil) (ren_agg rz) (hn nr_eI hs_nil) ?_)
 let q28:Root:=⟨27,(sw 10 v14.Regs::ru25 v14 [sw 3 v2.Mem,sw 4 v2.In,sw 5 v2.Out])⟩
 refine yt (sp 152 [z10,z12]) [z18,z23,z22,z21,(6,some q28),(10,some q27)] 11 (sy [2] [1,3,4,5,10] (sp 152 [z10]) [(1,some q28),z23,z22,z21,(10,some q27)] 11 (Aw.ret ?_))
 obtain rfl:=some_some hh
 refine hR10 _ _ _ ?_
 rw [some_some hk10]
 exact gives (r':=.agg (sw 10 v14.Regs::ru25 v14 [sw 3 v2.Mem,sw 4 v2.In,sw 5 v2.Out])) kr (Ent.clov (.one _ _ (clo_agg (clos_c (clo_own (c:=(eI .i64)) (xs:=v14.Regs) (e:=3) eqn len_eI no_eI cl_eI kr) (cs1 (cs1 (cs1 (cs1 (cs1 (cs1 (cs1 (cs1 (cs1 (cs1 (cs1 (cs1 (clos_c (clo_own (c:=(eI .i64)) (xs:=v2.Mem) (e:=3) eqn len_eI no_eI cl_eI kr) (clos_c (clo_own (c:=(eI .i64)) (xs:=v2.In) (e:=3) eqn len_eI no_eI cl_eI kr) (clos_c (clo_own (c:=(eI .i64)) (xs:=v2.Out) (e:=3) eqn len_eI no_eI cl_eI kr) clos_n)))))))))))))))))))
end Go.Proofs.Ytbanbjdcgdmkaaa
