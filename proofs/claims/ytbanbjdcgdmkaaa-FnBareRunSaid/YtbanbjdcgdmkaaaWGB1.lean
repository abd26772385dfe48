/- Plain functions of the program, and that it hands back what they say. Made by program. -/
import Derived.Test.YtbanbjdcgdmkaaaWT
import Derived.Test.YtbanbjdcgdmkaaaProg
import Derived.Test.YtbanbjdcgdmkaaaWD1
import Derived.Test.YtbanbjdcgdmkaaaWG1
import Derived.Test.YtbanbjdcgdmkaaaWO1
import Derived.Test.YtbanbjdcgdmkaaaWWK1
namespace Go.Proofs.Ytbanbjdcgdmkaaa
open Go.RowKit
set_option maxRecDepth 100000
set_option linter.all false
set_option maxHeartbeats 0
theorem low_spec_DrawBareStep:LW 11 ⟨53,[(.cell 2 true 16)],(.seq (.reg false (rg 11 0)) (.seq (.reg false (rg 11 1)) (.seq (.reg false (rg 11 2)) (.seq (.seq (.reg false (rg 11 3)) (.cond (.t 30) (.seq (.reg false (rg 11 4)) (.seq (.reg false (rg 11 5)) (.cond (.t 44) (.regd (rg 11 6) (rg 11 7)) .skip))) .skip)) (.seq (.reg false (rg 11 8)) .ret)))))⟩:=kr
noncomputable def F_spec_DrawBareStep_j3 (v2:Dl20Rd × DBare) (s3:(List Int)):Option DBare :=
 some (DBare.mk v2.2.C s3 v2.2.In v2.2.Out)
noncomputable def F_spec_DrawBareStep (x_code:List Int):Option DBare :=
 Option.bind (F_spec_l20Open x_code) fun v1 =>
 Option.bind (F_spec_l20Bare v1 (25:Int)) fun v2 =>
 Option.bind (Option.bind (F___spec_l20Rd__pick v2.1 (3:Int)) fun v4 =>
  cond (decide (v4.2=(0:Int)))
   (cond (decide ((((List.length v2.2.Mem):Nat):Int)=(64:Int)))
    (cond (decide ((((List.length v2.2.C.Regs):Nat):Int)=(4:Int)))
     (Option.bind (F_spec_CoreOk v2.2.C) fun v5 =>
     cond v5
      (Option.bind (F_spec_Walk v2.2.Mem v2.2.C.Root v2.2.C.Pc v2.2.C.User false) fun v6 =>
      cond (decide ((0:Int)≤v6))
       (Option.bind (F_spec_l20Ins v4.1 (0:Int)) fun v7 =>
       Option.bind (F_spec_InsWord v7.2) fun v8 =>
       grd ((0:Int)≤v6∧v6<(((List.length v2.2.Mem):Nat):Int)) (some (.go (List.set v2.2.Mem (Int.toNat v6) v8))))
       (some (.go v2.2.Mem)))
      (some (.go v2.2.Mem)))
     (some (.go v2.2.Mem)))
    (some (.go v2.2.Mem)))
   (some (.go v2.2.Mem))) fun j3 =>
  JO.run j3 (F_spec_DrawBareStep_j3 v2)
theorem spec_DrawBareStep_fn {x_code:List Int} {R_:DBare} (hh:F_spec_DrawBareStep x_code=some R_):Fn Try.prog 11 [bo (eI .u8) x_code] (.agg (.own 3 1 (List.length R_.C.Regs) (fl (eI .i64) R_.C.Regs)::ru25 R_.C [.own 3 1 (List.length R_.Mem) (fl (eI .i64) R_.Mem),.own 3 1 (List.length R_.In) (fl (eI .i64) R_.In),.own 3 1 (List.length R_.Out) (fl (eI .i64) R_.Out)])):=by
 let z1:EH:=(1,none); let z2:=(2,pp 0); let z3:=(3,pp 1); let z4:=(4,pp 6); let z5:EV:=(45,.ptr 6 [] 13)
 unfold F_spec_DrawBareStep at hh
 refine Fn.start low_spec_DrawBareStep [0] (E:=sp 53 [(0,bo (eI .u8) x_code)]) kr (v:=.agg (sw 0 R_.C.Regs::ru25 R_.C [sw 1 R_.Mem,sw 2 R_.In,sw 3 R_.Out])) (Hr:=[(3,some (rI_3 R_.Out)),(2,some (rI_3 R_.In)),(1,some (rI_3 R_.Mem)),(0,some (rI_3 R_.C.Regs))]) (k:=4) kr (Aw.sreg [0,2] [0] ?_)
 let q1:Root:=⟨27,(.nil::zru25 [.nil,.nil,.nil])⟩; let z6:=(0,some q1)
 refine yt (sp 53 [(0,bo (eI .u8) x_code),z2]) [z6] 1 (Aw.sreg [2,3] [0,1] (yu 1 [(6,bo (eI .u8) x_code)] [z6] 1 ?_))
 obtain ⟨v1,hv1,hh⟩:=bind_some hh
 let z7:EH:=(1,some (rB134 v1))
 refine ys (.call 47 [(.t 6)]) (some 7) (cf (pp 1) [z7] 2 [] (spec_l20Open_fn hv1) [bo (eI .u8) x_code] rz hs_nil (ren_p dd rfl) (hq (rB134 v1) (rens_same (nr_B_134 _)) hs_nil) ?_)
 refine yt (sp 53 [z2,z3]) [z6,z7] 2 (Aw.sreg [2,3,4] [0,1,2,3,4,5,6] (yu 1 [(8,pp 1)] [z6,z7] 2 ?_))
 obtain ⟨v2,hv2,hh⟩:=bind_some hh
 let z8:EH:=(1,some (rB134 v2.1)); let z9:=(46,sw 3 v2.2.Mem); let q2:Root:=(rI_3 v2.2.Out); let z10:=(5,some q2); let q3:Root:=(rI_3 v2.2.In); let z11:=(4,some q3); let q4:Root:=(rI_3 v2.2.Mem); let z12:=(3,some q4); let q5:Root:=(rI_3 v2.2.C.Regs); let z13:=(2,some q5)
 refine ys (.call 48 [(.t 8),(.c (ii 25))]) (some 9) (cf (.agg (sw 2 v2.2.C.Regs::ru25 v2.2.C [sw 3 v2.2.Mem,sw 4 v2.2.In,sw 5 v2.2.Out])) [z10,z11,z12,z13,z8] 6 [1] (spec_l20Bare_fn hv2) [pp 1,ii 25] rz (hq (rB134 v1) (rens_same (nr_B_134 _)) hs_nil) (ren_agg rz) (hn nr_eI (hn nr_eI (hn nr_eI (hn nr_eI (hq (rB134 v2.1) (rens_same (nr_B_134 _)) hs_nil))))) ?_)
 let q6:Root:=⟨27,(sw 2 v2.2.C.Regs::ru25 v2.2.C [sw 3 v2.2.Mem,sw 4 v2.2.In,sw 5 v2.2.Out])⟩; let z14:=(6,some q6)
 refine yt (sp 53 [z2,z3,z4]) [z6,z8,z13,z12,z11,z10,z14] 7 ?_
 obtain ⟨j3,hh,hk3⟩:=bind_some hh
 refine Aw.join (S:=(List Int)) (fun s3=>sp 53 [(2,pp 0),(4,pp 1)]) (fun s3=>[(0,some ⟨27,(.nil::zru25 [.nil,.nil,.nil])⟩),(1,some ⟨27,(sw 2 v2.2.C.Regs::ru25 v2.2.C [sw 3 s3,sw 4 v2.2.In,sw 5 v2.2.Out])⟩),(2,some (rI_3 v2.2.C.Regs)),(3,some (rI_3 s3)),(4,some (rI_3 v2.2.In)),(5,some (rI_3 v2.2.Out))]) 6 (fun s3=>F_spec_DrawBareStep_j3 v2 s3=some R_) ?_ ?_
 · intro s3 hh
   unfold F_spec_DrawBareStep_j3 at hh
   refine sy [2] [0,2,3,4,5] (sp 53 [z2]) [(0,some ⟨27,(sw 2 v2.2.C.Regs::ru25 v2.2.C [sw 3 s3,sw 4 v2.2.In,sw 5 v2.2.Out])⟩),z13,(3,some (rI_3 s3)),z11,z10] 6 (Aw.ret ?_)
   rw [some_some hh]
   exact gives (r':=.agg (sw 2 v2.2.C.Regs::ru25 v2.2.C [sw 3 s3,sw 4 v2.2.In,sw 5 v2.2.Out])) kr (Ent.list [some 2,some 3,some 4,some 5] rfl rfl (Nat.zero_le _) (rens_1 (ren_agg rz)) (hn nr_eI (hn nr_eI (hn nr_eI (hn nr_eI hs_nil)))))
 intro Q3 hN3 hR3 hE3
 refine Aw.sreg [2,3,4,30] [0,1,2,3,4,5,6] (yj 1  (sp 53 [z2,z3,z4,(10,pp 1)]) [z6,z8,z13,z12,z11,z10,z14] 7 ?_)
 obtain ⟨v4,hv4,hh⟩:=bind_some hh
 let z15:EH:=(1,some (rB134 v4.1))
 refine ys (.call 49 [(.t 10),(.c (ii 3))]) (some 11) (cf (ii v4.2) [z15] 7 [1] (__spec_l20Rd__pick_fn hv4) [pp 1,ii 3] rz (hq (rB134 v2.1) (rens_same (nr_B_134 _)) hs_nil) ren_i (hq (rB134 v4.1) (rens_same (nr_B_134 _)) hs_nil) ?_)
 refine yu 2 [(11,ii v4.2),(12,bb (decide (v4.2=(0:Int)))),(13,bb (decide (v4.2=(0:Int))))] [z15,z1,z6,z8,z13,z12,z11,z10,z14] 7 ?_
 rcases cond_sf hh with ⟨hb,hh⟩ | ⟨hb,hh⟩
 · refine yb 12 hb (yb 13 hb (yt (sp 53 [z2,z3,z4,(30,bb false)]) [z6,z15,z13,z12,z11,z10,z14] 7 (cF rfl (Aw.skip ?_))))
   obtain rfl:=some_some hh
   exact hN3 v2.2.Mem _ _ _ hk3 (el [some 0,some 6,some 2,some 3,some 4,some 5] (rens_sp kr (rp 0 (rp 6 rl_n))) (hq q1 rz (hq q6 rz (hn nr_eI (hn nr_eI (hn nr_eI (hn nr_eI hs_nil)))))))
 refine yb 12 hb (yb 13 hb (yu 6 [(12,bb true),(13,bb true),(14,.ptr 6 [] 13),(15,sw 3 v2.2.Mem),(16,ii (((List.length v2.2.Mem):Nat):Int)),(17,bb (decide ((((List.length v2.2.Mem):Nat):Int)=(64:Int)))),(18,bb (decide ((((List.length v2.2.Mem):Nat):Int)=(64:Int)))),(19,bb (decide ((((List.length v2.2.Mem):Nat):Int)=(64:Int))))] [z15,z1,z6,z8,z13,z12,z11,z10,z14] 7 ?_))
 rcases cond_sf hh with ⟨hb,hh⟩ | ⟨hb,hh⟩
 · refine yb 17 hb (yb 18 hb (yb 19 hb (yt (sp 53 [z2,z3,z4,(30,bb false)]) [z6,z15,z13,z12,z11,z10,z14] 7 (cF rfl (Aw.skip ?_)))))
   obtain rfl:=some_some hh
   exact hN3 v2.2.Mem _ _ _ hk3 (el [some 0,some 6,some 2,some 3,some 4,some 5] (rens_sp kr (rp 0 (rp 6 rl_n))) (hq q1 rz (hq q6 rz (hn nr_eI (hn nr_eI (hn nr_eI (hn nr_eI hs_nil)))))))
 refine yb 17 hb (yb 18 hb (yb 19 hb (yu 7 [(17,bb true),(18,bb true),(19,bb true),(20,pp 6),(21,pp 6),(22,sw 2 v2.2.C.Regs),(23,ii (((List.length v2.2.C.Regs):Nat):Int)),(24,bb (decide ((((List.length v2.2.C.Regs):Nat):Int)=(4:Int)))),(25,bb (decide ((((List.length v2.2.C.Regs):Nat):Int)=(4:Int)))),(26,bb (decide ((((List.length v2.2.C.Regs):Nat):Int)=(4:Int))))] [z15,z1,z6,z8,z13,z12,z11,z10,z14] 7 ?_)))
 rcases cond_sf hh with ⟨hb,hh⟩ | ⟨hb,hh⟩
 · refine yb 24 hb (yb 25 hb (yb 26 hb (yt (sp 53 [z2,z3,z4,(30,bb false)]) [z6,z15,z13,z12,z11,z10,z14] 7 (cF rfl (Aw.skip ?_)))))
   obtain rfl:=some_some hh
   exact hN3 v2.2.Mem _ _ _ hk3 (el [some 0,some 6,some 2,some 3,some 4,some 5] (rens_sp kr (rp 0 (rp 6 rl_n))) (hq q1 rz (hq q6 rz (hn nr_eI (hn nr_eI (hn nr_eI (hn nr_eI hs_nil)))))))
 refine yb 24 hb (yb 25 hb (yb 26 hb (yu 2 [(24,bb true),(25,bb true),(26,bb true),(27,pp 6),(28,.agg (sw 2 v2.2.C.Regs::ru25 v2.2.C []))] [z15,z1,z6,z8,z13,z12,z11,z10,z14] 7 ?_)))
 obtain ⟨v5,hv5,hh⟩:=bind_some hh
 refine yg (.call 50 [(.t 28)]) (some 29) 26 true (op_call (r:=bb v5) (v:=bb v5) (Hr:=[]) (n':=7) (spec_CoreOk_fn hv5) (clz_v (vs:=[.agg (sw 2 v2.2.C.Regs::ru25 v2.2.C [])]) kr (clz_c (clo_agg (clos_c (clo_own (c:=(eI .i64)) (xs:=v2.2.C.Regs) (e:=3) eqn len_eI no_eI cl_eI kr) cz)) clz_n)) rfl rfl kr ?_)
 refine yt (sp 53 [z2,z3,z4,(30,bb v5)]) [z6,z15,z13,z12,z11,z10,z14] 7 ?_
 rcases cond_sf hh with ⟨hb,hh⟩ | ⟨hb,hh⟩
 · refine cF hb (Aw.skip ?_)
   obtain rfl:=some_some hh
   exact hN3 v2.2.Mem _ _ _ hk3 (el [some 0,some 6,some 2,some 3,some 4,some 5] (rens_sp kr (rp 0 (rp 6 rl_n))) (hq q1 rz (hq q6 rz (hn nr_eI (hn nr_eI (hn nr_eI (hn nr_eI hs_nil)))))))
 refine cT hb (Aw.sreg [2,3,4,5] [0,1,2,3,4,5,6] (yu 11 [(31,.ptr 6 [] 13),(32,sw 3 v2.2.Mem),(33,pp 6),(34,.ptr 6 [] 2),(35,ii v2.2.C.Root),(36,pp 6),(37,.ptr 6 [] 1),(38,ii v2.2.C.Pc),(39,pp 6),(40,.ptr 6 [] 10),(41,bb v2.2.C.User)] [z6,z15,z13,z12,z11,z10,z14] 7 ?_))
 obtain ⟨v6,hv6,hh⟩:=bind_some hh
 let z16:=(44,bb (decide ((0:Int)≤v6)))
 refine ys (.call 51 [(.t 32),(.t 35),(.t 38),(.t 41),(.c (bb false))]) (some 42) (op_call (r:=ii v6) (v:=ii v6) (Hr:=[]) (n':=7) (spec_Walk_fn hv6) (clz_v (vs:=[sw 3 v2.2.Mem,ii v2.2.C.Root,ii v2.2.C.Pc,bb v2.2.C.User,bb false]) kr (clz_c (clo_own (c:=(eI .i64)) (xs:=v2.2.Mem) (e:=3) eqn len_eI no_eI cl_eI kr) (cz1 (cz1 (cz1 (cz1 clz_n)))))) rfl rfl kr ?_)
 refine yt (sp 53 [z2,z3,z4,(5,ii v6)]) [z6,z15,z13,z12,z11,z10,z14] 7 (sy [2,3,4,5,44] [0,1,2,3,4,5,6] (sp 53 [z2,z3,z4,(5,ii v6),z16]) [z6,z15,z13,z12,z11,z10,z14] 7 ?_)
 rcases cond_sf hh with ⟨hb,hh⟩ | ⟨hb,hh⟩
 · refine cF hb (Aw.skip ?_)
   obtain rfl:=some_some hh
   exact hN3 v2.2.Mem _ _ _ hk3 (el [some 0,some 6,some 2,some 3,some 4,some 5] (rens_sp kr (rp 0 (rp 6 rl_n))) (hq q1 rz (hq q6 rz (hn nr_eI (hn nr_eI (hn nr_eI (hn nr_eI hs_nil)))))))
 refine cT hb (Aw.oregd [1] kr (dj 4 (sp 53 [z2,z3,z4,(5,ii v6),z16,z5,z9,(47,ii v6),(48,pp 1)]) [z6,z15,z13,z12,z11,z10,z14] 7 ?_))
 obtain ⟨v7,hv7,hh⟩:=bind_some hh
 let z17:EH:=(1,some (rB134 v7.1))
 refine ds (.call 53 [(.t 48),(.c (ii 0))]) (some 49) (ydo_n rfl (cf (.agg (C_45 v7.2)) [z17] 7 [1] (spec_l20Ins_fn hv7) [pp 1,ii 0] rz (hq (rB134 v4.1) (rens_same (nr_B_134 _)) hs_nil) (ren_agg (rens_same (nr_C_45 _))) (hq (rB134 v7.1) (rens_same (nr_B_134 _)) hs_nil) ⟨⟨agr_callf rfl rfl,Hld.un ?_⟩⟩))
 obtain ⟨v8,hv8,hh⟩:=bind_some hh
 refine ds (.call 52 [(.t 49)]) (some 50) (ydo_n rfl (op_call (r:=ii v8) (v:=ii v8) (Hr:=[]) (n':=7) (spec_InsWord_fn hv8) (clz_v (vs:=[.agg (C_45 v7.2)]) kr (cz1 clz_n)) rfl rfl kr ⟨⟨agr_name (n:=7) (n0:=7) (r:=ii v8) (v:=ii v8) (Hr:=[]) (n':=7) kr dd,Hld.un ?_⟩⟩))
 refine dt (sp 53 [z2,z3,z4,(5,ii v6),z16,z5,z9,(47,ii v6),(48,pp 1),(49,.agg (C_45 v7.2)),(50,ii v8)]) [z17,z1,z6,z15,z13,z12,z11,z10,z14] 7 ?_
 obtain ⟨hg6,hh⟩:=grd_some hh
 refine yjc 1 [(0:Int)≤v6∧v6<(((List.length v2.2.Mem):Nat):Int)] (sp 53 [z2,z3,z4,(5,ii v6),z16,z5,z9,(47,ii v6),(48,pp 1),(49,.agg (C_45 v7.2)),(50,ii v8),(51,.ptr 3 [] (0+(Int.toNat v6)*1))]) [z17,z1,z6,z15,z13,z12,z11,z10,z14] 7 (.cons hg6 .nil) ?_
 let q7:Root:=(rI_3 (List.set v2.2.Mem (Int.toNat v6) v8))
 refine ys (.store 1 (.t 51) (.t 50)) none (op_store (c:=(eI .i64)) (xs:=v2.2.Mem) (e:=3) (r:=3) (π:=[]) (o:=0+(Int.toNat v6)*1) (i:=(Int.toNat v6)) (off:=0) (vs:=[ii v8]) (y:=v8) (H':=[(3,some q7),z17,z1,z6,z15,z13,z12,z11,z10,z14]) len_eI kr kr kr kr ltn ltn dd kr kr ?_)
 refine ye (sp 53 [z2,z3,z4,(5,ii v6),z16,z5,z9,(47,ii v6),(48,pp 1),(49,.agg (C_45 v7.2)),(50,ii v8),(51,.ptr 3 [] (0+(Int.toNat v6)*1))]) [(3,some q7),z17,z1,z6,z15,z13,z12,z11,z10,z14] 7 ?_
 obtain rfl:=some_some hh
 exact hN3 (List.set v2.2.Mem (Int.toNat v6) v8) _ _ _ hk3 (el [some 0,some 6,some 2,some 3,some 4,some 5] (rens_sp kr (rp 0 (rp 6 rl_n))) (hq q1 rz (hq q6 rz (hn nr_eI (hn nr_eI (hn nr_eI (hn nr_eI hs_nil)))))))
theorem low_spec_DrawBareRun:LW 19 ⟨16,[(.cell 2 true 16),(.tmp 3)],(.seq (.reg false (rg 19 0)) (.seq (.reg false (rg 19 1)) (.seq (.reg false (rg 19 2)) .ret)))⟩:=kr
noncomputable def F_spec_DrawBareRun (x_code:List Int):Option (DBare × Int) :=
 Option.bind (F_spec_l20Open x_code) fun v1 =>
 Option.bind (F_spec_l20Bare v1 (25:Int)) fun v2 =>
 Option.bind (F___spec_l20Rd__pick v2.1 (60:Int)) fun v3 =>
 Option.bind (F___spec_l20Rd__pick v3.1 (20:Int)) fun v4 =>
 some (v2.2,(w64 (v3.2 - (w64 ((w64 (Int.tdiv v4.2 (19:Int)))*(70:Int))))))
theorem spec_DrawBareRun_fn {x_code:List Int} {R_:DBare × Int} (hh:F_spec_DrawBareRun x_code=some R_):Fn Try.prog 19 [bo (eI .u8) x_code] (.tup [.agg (.own 3 1 (List.length R_.1.C.Regs) (fl (eI .i64) R_.1.C.Regs)::ru25 R_.1.C [.own 3 1 (List.length R_.1.Mem) (fl (eI .i64) R_.1.Mem),.own 3 1 (List.length R_.1.In) (fl (eI .i64) R_.1.In),.own 3 1 (List.length R_.1.Out) (fl (eI .i64) R_.1.Out)]),.int .i64 R_.2]):=by
 unfold F_spec_DrawBareRun at hh
 refine Fn.start low_spec_DrawBareRun [0] (E:=sp 16 [(0,bo (eI .u8) x_code)]) kr (v:=.tup [.agg (sw 0 R_.1.C.Regs::ru25 R_.1.C [sw 1 R_.1.Mem,sw 2 R_.1.In,sw 3 R_.1.Out]),ii R_.2]) (Hr:=[(3,some (rI_3 R_.1.Out)),(2,some (rI_3 R_.1.In)),(1,some (rI_3 R_.1.Mem)),(0,some (rI_3 R_.1.C.Regs))]) (k:=4) kr (Aw.sreg [0,2] [0] ?_)
 let q1:Root:=⟨27,(.nil::zru25 [.nil,.nil,.nil])⟩; let z1:=(0,some q1)
 refine yt (sp 16 [(0,bo (eI .u8) x_code),(2,pp 0)]) [z1] 1 (Aw.sreg [2,4] [0,1] (yu 1 [(5,bo (eI .u8) x_code)] [z1] 1 ?_))
 obtain ⟨v1,hv1,hh⟩:=bind_some hh
 let z2:EH:=(1,some (rB134 v1))
 refine ys (.call 47 [(.t 5)]) (some 6) (cf (pp 1) [z2] 2 [] (spec_l20Open_fn hv1) [bo (eI .u8) x_code] rz hs_nil (ren_p dd rfl) (hq (rB134 v1) (rens_same (nr_B_134 _)) hs_nil) ?_)
 refine yt (sp 16 [(2,pp 0),(4,pp 1)]) [z1,z2] 2 (Aw.sreg [2,3] [0,2,3,4,5] (yu 1 [(7,pp 1)] [z1,z2] 2 ?_))
 obtain ⟨v2,hv2,hh⟩:=bind_some hh
 let z3:EH:=(1,some (rB134 v2.1)); let q2:Root:=(rI_3 v2.2.Out); let q3:Root:=(rI_3 v2.2.In); let q4:Root:=(rI_3 v2.2.Mem); let q5:Root:=(rI_3 v2.2.C.Regs)
 refine ys (.call 48 [(.t 7),(.c (ii 25))]) (some 8) (cf (.agg (sw 2 v2.2.C.Regs::ru25 v2.2.C [sw 3 v2.2.Mem,sw 4 v2.2.In,sw 5 v2.2.Out])) [(5,some q2),(4,some q3),(3,some q4),(2,some q5),z3] 6 [1] (spec_l20Bare_fn hv2) [pp 1,ii 25] rz (hq (rB134 v1) (rens_same (nr_B_134 _)) hs_nil) (ren_agg rz) (hn nr_eI (hn nr_eI (hn nr_eI (hn nr_eI (hq (rB134 v2.1) (rens_same (nr_B_134 _)) hs_nil))))) ?_)
 refine yu 1 [(8,.agg (sw 2 v2.2.C.Regs::ru25 v2.2.C [sw 3 v2.2.Mem,sw 4 v2.2.In,sw 5 v2.2.Out])),(9,pp 1)] [(5,some q2),(4,some q3),(3,some q4),(2,some q5),z3,(1,none),z1,z2] 6 ?_
 obtain ⟨v3,hv3,hh⟩:=bind_some hh
 refine ys (.call 49 [(.t 9),(.c (ii 60))]) (some 10) (cf (ii v3.2) [(1,some (rB134 v3.1))] 6 [1] (__spec_l20Rd__pick_fn hv3) [pp 1,ii 60] rz (hq (rB134 v2.1) (rens_same (nr_B_134 _)) hs_nil) ren_i (hq (rB134 v3.1) (rens_same (nr_B_134 _)) hs_nil) ?_)
 refine yu 1 [(10,ii v3.2),(11,pp 1)] [(1,some (rB134 v3.1)),(1,none),(5,some q2),(4,some q3),(3,some q4),(2,some q5),z3,(1,none),z1,z2] 6 ?_
 obtain ⟨v4,hv4,hh⟩:=bind_some hh
 refine ys (.call 49 [(.t 11),(.c (ii 20))]) (some 12) (cf (ii v4.2) [(1,some (rB134 v4.1))] 6 [1] (__spec_l20Rd__pick_fn hv4) [pp 1,ii 20] rz (hq (rB134 v3.1) (rens_same (nr_B_134 _)) hs_nil) ren_i (hq (rB134 v4.1) (rens_same (nr_B_134 _)) hs_nil) ?_)
 refine ytc [(19:Int)≠0] (sp 16 [(2,pp 0),(3,ii (w64 (v3.2 - (w64 ((w64 (Int.tdiv v4.2 (19:Int)))*(70:Int))))))]) [(0,some ⟨27,(sw 2 v2.2.C.Regs::ru25 v2.2.C [sw 3 v2.2.Mem,sw 4 v2.2.In,sw 5 v2.2.Out])⟩),(2,some q5),(3,some q4),(4,some q3),(5,some q2)] 6 (.cons dd .nil) (Aw.ret ?_)
 rw [some_some hh]
 exact gives (r':=.tup [.agg (sw 2 v2.2.C.Regs::ru25 v2.2.C [sw 3 v2.2.Mem,sw 4 v2.2.In,sw 5 v2.2.Out]),ii (w64 (v3.2 - (w64 ((w64 (Int.tdiv v4.2 (19:Int)))*(70:Int)))))]) kr (Ent.list [some 2,some 3,some 4,some 5] rfl rfl (Nat.zero_le _) (rens_1 (ren_tup rz)) (hn nr_eI (hn nr_eI (hn nr_eI (hn nr_eI hs_nil)))))
end Go.Proofs.Ytbanbjdcgdmkaaa
