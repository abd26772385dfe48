/- Plain functions of the program, and that it hands back what they say. Made by program. -/
import Derived.Test.YtbanbjdcgdmkaaaWT
import Derived.Test.YtbanbjdcgdmkaaaProg
import Derived.Test.YtbanbjdcgdmkaaaWD1
import Derived.Test.YtbanbjdcgdmkaaaWU1
namespace Go.Proofs.Ytbanbjdcgdmkaaa
open Go.RowKit
set_option maxRecDepth 100000
set_option linter.all false
set_option maxHeartbeats 0
theorem low_spec_l20Core:LW 114 ⟨100,[(.cell 4 true 13)],(.seq (.reg false (rg 114 0)) (.seq (.regd (rg 114 1) (rg 114 2)) (.seq (.reg false (rg 114 3)) (.seq (.reg false (rg 114 4)) (.seq (.reg false (rg 114 5)) (.seq (.reg false (rg 114 6)) (.seq (.reg false (rg 114 7)) (.seq (.seq (.reg false (rg 114 8)) (.block 0 (.loop (.seq (.seq (.reg false (rg 114 9)) (.cond (.t 50) .skip (.exit 0))) (.seq (.block 1 (.regd (rg 114 10) (rg 114 11))) (.reg false (rg 114 12))))))) (.seq (.seq (.reg false (rg 114 14)) (.cond (.t 71) (.seq (.reg false (rg 114 15)) (.block 2 (.seq (.reg false (rg 114 16)) (.cond (.t 79) (.reg false (rg 114 17)) (.seq (.reg false (rg 114 18)) (.cond (.t 85) (.reg false (rg 114 19)) (.seq (.reg false (rg 114 20)) (.cond (.t 92) (.reg false (rg 114 21)) (.regd (rg 114 22) (rg 114 23)))))))))) .skip)) (.seq (.reg false (rg 114 24)) .ret))))))))))⟩:=kr
noncomputable def F_spec_l20Core_j15 (v3:Dl20Rd × Int) (v4:Dl20Rd × Int) (v5:Dl20Rd × Int) (v6:Dl20Rd × Int) (v7:Dl20Rd × Int) (v8:Dl20Rd × Int) (v9:Dl20Rd × Int) (v10:Dl20Rd × Int) (v11:Dl20Rd × Int) (v12:Dl20Rd × Int) (v13:Dl20Rd × Int) (s15:(List Int) × Int × (List Int) × Int × Int):Option (Dl20Rd × DCore) :=
 some ((Dl20Rd.mk s15.1 s15.2.1),(DCore.mk s15.2.2.1 s15.2.2.2.1 s15.2.2.2.2 (w64 ((24:Int)+v3.2)) v4.2 (decide (v9.2=(0:Int))) v5.2 v6.2 (w64 (v7.2*v8.2)) (decide (v10.2=(0:Int))) (decide (v11.2=(0:Int))) (decide (v12.2=(0:Int))) (decide (v13.2=(0:Int)))))
noncomputable def F_spec_l20Core_j14 (x_n:Int) (v1:Dl20Rd × Int) (v2:Dl20Rd × Int) (v3:Dl20Rd × Int) (v4:Dl20Rd × Int) (v5:Dl20Rd × Int) (v6:Dl20Rd × Int) (v7:Dl20Rd × Int) (v8:Dl20Rd × Int) (v9:Dl20Rd × Int) (v10:Dl20Rd × Int) (v11:Dl20Rd × Int) (v12:Dl20Rd × Int) (v13:Dl20Rd × Int) (s14:(List Int) × Int × (List Int)):Option (Dl20Rd × DCore) :=
 Option.bind (Option.bind (F___spec_l20Rd__odd (Dl20Rd.mk s14.1 s14.2.1) x_n) fun v16 =>
  cond v16.2
   (Option.bind (F___spec_l20Rd__pick v16.1 (4:Int)) fun v17 =>
   cond (decide (v17.2=(0:Int)))
    (grd ((0:Int)≤(0:Int)∧(0:Int)≤(3:Int)∧(3:Int)≤(((List.length s14.2.2):Nat):Int)) (some (.go (v17.1.b,v17.1.p,(List.take (Int.toNat (3:Int) - Int.toNat (0:Int)) s14.2.2),v1.2,(List.getD ([(-1:Int),(1:Int),(2:Int)]:List Int) (Int.toNat v2.2) default)))))
    (cond (decide (v17.2=(1:Int)))
     (Option.bind (F___spec_l20Rd__pick v17.1 (2:Int)) fun v18 =>
     some (.go (v18.1.b,v18.1.p,s14.2.2,(w64 ((64:Int) - (w64 (v18.2*(65:Int))))),(List.getD ([(-1:Int),(1:Int),(2:Int)]:List Int) (Int.toNat v2.2) default))))
     (cond (decide (v17.2=(2:Int)))
      (Option.bind (F___spec_l20Rd__pick v17.1 (2:Int)) fun v19 =>
      some (.go (v19.1.b,v19.1.p,s14.2.2,v1.2,(w64 ((8:Int) - (w64 (v19.2*(10:Int))))))))
      (Option.bind (F___spec_l20Rd__pick v17.1 (4:Int)) fun v20 =>
      grd ((0:Int)≤v20.2∧v20.2<(((List.length s14.2.2):Nat):Int)) (some (.go (v20.1.b,v20.1.p,(List.set s14.2.2 (Int.toNat v20.2) (-1:Int)),v1.2,(List.getD ([(-1:Int),(1:Int),(2:Int)]:List Int) (Int.toNat v2.2) default))))))))
   (some (.go (v16.1.b,v16.1.p,s14.2.2,v1.2,(List.getD ([(-1:Int),(1:Int),(2:Int)]:List Int) (Int.toNat v2.2) default))))) fun j15 =>
  JO.run j15 (F_spec_l20Core_j15 v3 v4 v5 v6 v7 v8 v9 v10 v11 v12 v13)
noncomputable def F_spec_l20Core_l21  (s21:(List Int) × Int × (List Int) × Int):Option (LO ((List Int) × Int × (List Int) × Int) (JO ((List Int) × Int × (List Int)) (Dl20Rd × DCore))) :=
 cond (decide (s21.2.2.2<(4:Int)))
  (Option.bind (F___spec_l20Rd__pick (Dl20Rd.mk s21.1 s21.2.1) (64:Int)) fun v22 =>
  Option.bind (F___spec_l20Rd__pick v22.1 (16:Int)) fun v23 =>
  Option.bind (F___spec_l20Rd__word v23.1) fun v24 =>
  Option.bind (F___spec_l20Rd__pick v24.1 (3:Int)) fun v25 =>
  grd ((0:Int)≤v25.2∧v25.2<((List.length ([v22.2,v23.2,v24.2]:List Int):Nat):Int)) (grd ((List.length s21.2.2.1+List.length ([(List.getD ([v22.2,v23.2,v24.2]:List Int) (Int.toNat v25.2) default)]:List Int))*8≤2 ^ 47∧List.length s21.2.2.1+List.length ([(List.getD ([v22.2,v23.2,v24.2]:List Int) (Int.toNat v25.2) default)]:List Int)≤2 ^ 47) (some (.next (v25.1.b,v25.1.p,(s21.2.2.1 ++ ([(List.getD ([v22.2,v23.2,v24.2]:List Int) (Int.toNat v25.2) default)]:List Int)),(w64 (s21.2.2.2+(1:Int))))))))
  (some (.ret (.go (s21.1,s21.2.1,s21.2.2.1))))
noncomputable def F_spec_l20Core (x_r:Dl20Rd) (x_n:Int):Option (Dl20Rd × DCore) :=
 Option.bind (F___spec_l20Rd__pick x_r (64:Int)) fun v1 =>
 Option.bind (F___spec_l20Rd__pick v1.1 (3:Int)) fun v2 =>
 grd ((0:Int)≤v2.2∧v2.2<((List.length ([(-1:Int),(1:Int),(2:Int)]:List Int):Nat):Int)) (Option.bind (F___spec_l20Rd__pick v2.1 (4:Int)) fun v3 =>
  Option.bind (F___spec_l20Rd__pick v3.1 (64:Int)) fun v4 =>
  Option.bind (F___spec_l20Rd__pick v4.1 (5:Int)) fun v5 =>
  Option.bind (F___spec_l20Rd__pick v5.1 (64:Int)) fun v6 =>
  Option.bind (F___spec_l20Rd__pick v6.1 (4:Int)) fun v7 =>
  Option.bind (F___spec_l20Rd__pick v7.1 (6:Int)) fun v8 =>
  Option.bind (F___spec_l20Rd__pick v8.1 (2:Int)) fun v9 =>
  Option.bind (F___spec_l20Rd__pick v9.1 (6:Int)) fun v10 =>
  Option.bind (F___spec_l20Rd__pick v10.1 (3:Int)) fun v11 =>
  Option.bind (F___spec_l20Rd__pick v11.1 (2:Int)) fun v12 =>
  Option.bind (F___spec_l20Rd__pick v12.1 (25:Int)) fun v13 =>
  Option.bind (Option.bind (iter (F_spec_l20Core_l21) (v13.1.b,v13.1.p,([]:List Int),(0:Int))) LO.val) fun j14 =>
   JO.run j14 (F_spec_l20Core_j14 x_n v1 v2 v3 v4 v5 v6 v7 v8 v9 v10 v11 v12 v13))
theorem spec_l20Core_fn {x_r:Dl20Rd} {x_n:Int} {R_:Dl20Rd × DCore} (hh:F_spec_l20Core x_r x_n=some R_):Inl Try.prog 114 [pp 0,.int .i64 x_n] [(0,some (rB134 x_r))] 1 (.agg (.sref 1 [] 0 (List.length R_.2.Regs) 1::ru25 R_.2 [])) [(1,some (rI_3 R_.2.Regs)),(0,some ⟨134,[bo (eI .u8) R_.1.b,.int .i64 R_.1.p]⟩)] 2:=by
 let z5:EH:=(0,none); let z6:=(0,pp 0); let z7:EH:=(0,some (rB134 x_r)); let z8:=(1,ii x_n); let z9:EH:=(1,some ⟨25,(.nil::zru25 [])⟩); let z10:=(10,pp 0); let z11:=(14,pp 0); let z12:=(17,pp 0); let z13:=(19,pp 0); let z14:=(4,pp 1); let z15:=(5,pp 2); let z16:=(53,pp 2); let z17:=(55,pp 0); let z18:=(7,pp 0); let z19:EV:=(9,.bor 3 [ii (-1),ii 1,ii 2])
 unfold F_spec_l20Core at hh
 refine Inl.start low_spec_l20Core [0,1] [0] (E:=sp 100 [z6,z8]) (H1:=[z7]) kr kr (sy [0,1,4] [0,1] (sp 100 [z6,z8,z14]) [z7,z9] 2 (Aw.sregd [0,1,4,5] [0,1,2] [0] kr (dj 1 (sp 100 [z6,z8,z14,z18]) [z7,z9] 2 ?_)))
 obtain ⟨v1,hv1,hh⟩:=bind_some hh
 let z20:EH:=(0,some (rB134 v1.1)); let z21:=(8,ii v1.2)
 refine ds (.call 49 [(.t 7),(.c (ii 64))]) (some 8) (ydo_n rfl (cf (ii v1.2) [z20] 2 [0] (__spec_l20Rd__pick_fn hv1) [pp 0,ii 64] rz (hq (rB134 x_r) (rens_same (nr_B_134 _)) hs_nil) ren_i (hq (rB134 v1.1) (rens_same (nr_B_134 _)) hs_nil) ⟨⟨agr_callf rfl rfl,Hld.un ?_⟩⟩))
 refine dj 2 (sp 100 [z6,z8,z14,z18,z21,z19,z10]) [z20,z5,z7,z9] 2 ?_
 obtain ⟨v2,hv2,hh⟩:=bind_some hh
 let z22:EH:=(0,some (rB134 v2.1)); let z23:=(11,ii v2.2); let z24:EV:=(12,.bptr (fl (eI .i64) ([(-1:Int),(1:Int),(2:Int)]:List Int)) (Int.toNat v2.2*1)); let z1:=List.getD ([(-1:Int),(1:Int),(2:Int)]:List Int) (Int.toNat v2.2) default; let z25:=(13,ii z1)
 refine ds (.call 49 [(.t 10),(.c (ii 3))]) (some 11) (ydo_n rfl (cf (ii v2.2) [z22] 2 [0] (__spec_l20Rd__pick_fn hv2) [pp 0,ii 3] rz (hq (rB134 v1.1) (rens_same (nr_B_134 _)) hs_nil) ren_i (hq (rB134 v2.1) (rens_same (nr_B_134 _)) hs_nil) ⟨⟨agr_callf rfl rfl,Hld.un ?_⟩⟩))
 obtain ⟨hg2,hh⟩:=grd_some hh
 refine ds (.iadr 1 (.t 9) (.t 11)) (some 12) (ydo_q rfl kr (op_iadr (kd:=.i64) (c:=(eI .i64)) (xs:=([(-1:Int),(1:Int),(2:Int)]:List Int)) len_eI dd kr kr hg2 ?_))
 refine ds (.load false 1 (.t 12)) (some 13) (ydo_q rfl kr (op_loadb (c:=(eI .i64)) (xs:=([(-1:Int),(1:Int),(2:Int)]:List Int)) (o:=Int.toNat v2.2*1) (i:=(Int.toNat v2.2)) (off:=0) (v:=ii z1) len_eI kr ltn ltn dd kr ?_))
 refine dj 1 (sp 100 [z6,z8,z14,z18,z21,z19,z10,z23,z24,z25,z11]) [z22,z5,z20,z5,z7,z9] 2 ?_
 obtain ⟨v3,hv3,hh⟩:=bind_some hh
 let z26:EH:=(0,some (rB134 v3.1)); let z27:=(15,ii v3.2); let z28:=(16,ii (w64 ((24:Int)+v3.2)))
 refine ds (.call 49 [(.t 14),(.c (ii 4))]) (some 15) (ydo_n rfl (cf (ii v3.2) [z26] 2 [0] (__spec_l20Rd__pick_fn hv3) [pp 0,ii 4] rz (hq (rB134 v2.1) (rens_same (nr_B_134 _)) hs_nil) ren_i (hq (rB134 v3.1) (rens_same (nr_B_134 _)) hs_nil) ⟨⟨agr_callf rfl rfl,Hld.un ?_⟩⟩))
 refine dj 2 (sp 100 [z6,z8,z14,z18,z21,z19,z10,z23,z24,z25,z11,z27,z28,z12]) [z26,z5,z22,z5,z20,z5,z7,z9] 2 ?_
 obtain ⟨v4,hv4,hh⟩:=bind_some hh
 let z29:EH:=(0,some (rB134 v4.1)); let z30:=(18,ii v4.2)
 refine ds (.call 49 [(.t 17),(.c (ii 64))]) (some 18) (ydo_n rfl (cf (ii v4.2) [z29] 2 [0] (__spec_l20Rd__pick_fn hv4) [pp 0,ii 64] rz (hq (rB134 v3.1) (rens_same (nr_B_134 _)) hs_nil) ren_i (hq (rB134 v4.1) (rens_same (nr_B_134 _)) hs_nil) ⟨⟨agr_callf rfl rfl,Hld.un ?_⟩⟩))
 refine dj 1 (sp 100 [z6,z8,z14,z18,z21,z19,z10,z23,z24,z25,z11,z27,z28,z12,z30,z13]) [z29,z5,z26,z5,z22,z5,z20,z5,z7,z9] 2 ?_
 obtain ⟨v5,hv5,hh⟩:=bind_some hh
 let z31:EH:=(0,some (rB134 v5.1)); let z32:=(20,ii v5.2)
 refine ds (.call 49 [(.t 19),(.c (ii 5))]) (some 20) (ydo_n rfl (cf (ii v5.2) [z31] 2 [0] (__spec_l20Rd__pick_fn hv5) [pp 0,ii 5] rz (hq (rB134 v4.1) (rens_same (nr_B_134 _)) hs_nil) ren_i (hq (rB134 v5.1) (rens_same (nr_B_134 _)) hs_nil) ⟨⟨agr_callf rfl rfl,Hld.un ?_⟩⟩))
 refine dj 1 (sp 100 [z6,z8,z14,z18,z21,z19,z10,z23,z24,z25,z11,z27,z28,z12,z30,z13,z32,(21,pp 0)]) [z31,z5,z29,z5,z26,z5,z22,z5,z20,z5,z7,z9] 2 ?_
 obtain ⟨v6,hv6,hh⟩:=bind_some hh
 let z33:EH:=(0,some (rB134 v6.1))
 refine ds (.call 49 [(.t 21),(.c (ii 64))]) (some 22) (ydo_n rfl (cf (ii v6.2) [z33] 2 [0] (__spec_l20Rd__pick_fn hv6) [pp 0,ii 64] rz (hq (rB134 v5.1) (rens_same (nr_B_134 _)) hs_nil) ren_i (hq (rB134 v6.1) (rens_same (nr_B_134 _)) hs_nil) ⟨⟨agr_callf rfl rfl,Hld.un ?_⟩⟩))
 refine dj 1 (sp 100 [z6,z8,z14,z18,z21,z19,z10,z23,z24,z25,z11,z27,z28,z12,z30,z13,z32,(21,pp 0),(22,ii v6.2),(23,pp 0)]) [z33,z5,z31,z5,z29,z5,z26,z5,z22,z5,z20,z5,z7,z9] 2 ?_
 obtain ⟨v7,hv7,hh⟩:=bind_some hh
 let z34:EH:=(0,some (rB134 v7.1))
 refine ds (.call 49 [(.t 23),(.c (ii 4))]) (some 24) (ydo_n rfl (cf (ii v7.2) [z34] 2 [0] (__spec_l20Rd__pick_fn hv7) [pp 0,ii 4] rz (hq (rB134 v6.1) (rens_same (nr_B_134 _)) hs_nil) ren_i (hq (rB134 v7.1) (rens_same (nr_B_134 _)) hs_nil) ⟨⟨agr_callf rfl rfl,Hld.un ?_⟩⟩))
 refine dj 1 (sp 100 [z6,z8,z14,z18,z21,z19,z10,z23,z24,z25,z11,z27,z28,z12,z30,z13,z32,(21,pp 0),(22,ii v6.2),(23,pp 0),(24,ii v7.2),(25,pp 0)]) [z34,z5,z33,z5,z31,z5,z29,z5,z26,z5,z22,z5,z20,z5,z7,z9] 2 ?_
 obtain ⟨v8,hv8,hh⟩:=bind_some hh
 let z35:EH:=(0,some (rB134 v8.1))
 refine ds (.call 49 [(.t 25),(.c (ii 6))]) (some 26) (ydo_n rfl (cf (ii v8.2) [z35] 2 [0] (__spec_l20Rd__pick_fn hv8) [pp 0,ii 6] rz (hq (rB134 v7.1) (rens_same (nr_B_134 _)) hs_nil) ren_i (hq (rB134 v8.1) (rens_same (nr_B_134 _)) hs_nil) ⟨⟨agr_callf rfl rfl,Hld.un ?_⟩⟩))
 refine dt (sp 100 [z6,z8,z14,z15,z18,z21,z19,z10,z23,z24,z25,z11,z27,z28,z12,z30,z13,z32,(21,pp 0),(22,ii v6.2),(23,pp 0),(24,ii v7.2),(25,pp 0),(26,ii v8.2),(27,ii (w64 (v7.2*v8.2))),(28,.agg [.nil,ii v1.2,ii z1,ii (w64 ((24:Int)+v3.2)),ii v4.2,bb false,ii v5.2,ii v6.2,ii (w64 (v7.2*v8.2)),bb false,bb false,bb false,bb false])]) [(2,some ⟨25,(.nil::zru25 [])⟩),z35,z5,z34,z5,z33,z5,z31,z5,z29,z5,z26,z5,z22,z5,z20,z5,z7,z9] 3 ?_
 let q1:Root:=⟨25,[.nil,ii v1.2,ii z1,ii (w64 ((24:Int)+v3.2)),ii v4.2,bb false,ii v5.2,ii v6.2,ii (w64 (v7.2*v8.2)),bb false,bb false,bb false,bb false]⟩
 refine yt (sp 100 [z6,z8,z14,z15]) [z35,z9,(2,some q1)] 3 (Aw.sreg [0,1,4,5] [0,1,2] (yu 1 [(29,pp 0)] [z35,z9,(2,some q1)] 3 ?_))
 obtain ⟨v9,hv9,hh⟩:=bind_some hh
 let z36:EH:=(0,some (rB134 v9.1))
 refine ys (.call 49 [(.t 29),(.c (ii 2))]) (some 30) (cf (ii v9.2) [z36] 3 [0] (__spec_l20Rd__pick_fn hv9) [pp 0,ii 2] rz (hq (rB134 v8.1) (rens_same (nr_B_134 _)) hs_nil) ren_i (hq (rB134 v9.1) (rens_same (nr_B_134 _)) hs_nil) ?_)
 let q2:Root:=⟨25,[.nil,ii v1.2,ii z1,ii (w64 ((24:Int)+v3.2)),ii v4.2,bb (decide (v9.2=(0:Int))),ii v5.2,ii v6.2,ii (w64 (v7.2*v8.2)),bb false,bb false,bb false,bb false]⟩
 refine yt (sp 100 [z6,z8,z14,z15]) [z36,z9,(2,some q2)] 3 (Aw.sreg [0,1,4,5] [0,1,2] (yu 1 [(33,pp 0)] [z36,z9,(2,some q2)] 3 ?_))
 obtain ⟨v10,hv10,hh⟩:=bind_some hh
 let z37:EH:=(0,some (rB134 v10.1))
 refine ys (.call 49 [(.t 33),(.c (ii 6))]) (some 34) (cf (ii v10.2) [z37] 3 [0] (__spec_l20Rd__pick_fn hv10) [pp 0,ii 6] rz (hq (rB134 v9.1) (rens_same (nr_B_134 _)) hs_nil) ren_i (hq (rB134 v10.1) (rens_same (nr_B_134 _)) hs_nil) ?_)
 let q3:Root:=⟨25,[.nil,ii v1.2,ii z1,ii (w64 ((24:Int)+v3.2)),ii v4.2,bb (decide (v9.2=(0:Int))),ii v5.2,ii v6.2,ii (w64 (v7.2*v8.2)),bb (decide (v10.2=(0:Int))),bb false,bb false,bb false]⟩
 refine yt (sp 100 [z6,z8,z14,z15]) [z37,z9,(2,some q3)] 3 (Aw.sreg [0,1,4,5] [0,1,2] (yu 1 [(37,pp 0)] [z37,z9,(2,some q3)] 3 ?_))
 obtain ⟨v11,hv11,hh⟩:=bind_some hh
 let z38:EH:=(0,some (rB134 v11.1))
 refine ys (.call 49 [(.t 37),(.c (ii 3))]) (some 38) (cf (ii v11.2) [z38] 3 [0] (__spec_l20Rd__pick_fn hv11) [pp 0,ii 3] rz (hq (rB134 v10.1) (rens_same (nr_B_134 _)) hs_nil) ren_i (hq (rB134 v11.1) (rens_same (nr_B_134 _)) hs_nil) ?_)
 let q4:Root:=⟨25,[.nil,ii v1.2,ii z1,ii (w64 ((24:Int)+v3.2)),ii v4.2,bb (decide (v9.2=(0:Int))),ii v5.2,ii v6.2,ii (w64 (v7.2*v8.2)),bb (decide (v10.2=(0:Int))),bb (decide (v11.2=(0:Int))),bb false,bb false]⟩
 refine yt (sp 100 [z6,z8,z14,z15]) [z38,z9,(2,some q4)] 3 (Aw.sreg [0,1,4,5] [0,1,2] (yu 1 [(41,pp 0)] [z38,z9,(2,some q4)] 3 ?_))
 obtain ⟨v12,hv12,hh⟩:=bind_some hh
 let z39:EH:=(0,some (rB134 v12.1))
 refine ys (.call 49 [(.t 41),(.c (ii 2))]) (some 42) (cf (ii v12.2) [z39] 3 [0] (__spec_l20Rd__pick_fn hv12) [pp 0,ii 2] rz (hq (rB134 v11.1) (rens_same (nr_B_134 _)) hs_nil) ren_i (hq (rB134 v12.1) (rens_same (nr_B_134 _)) hs_nil) ?_)
 let q5:Root:=⟨25,[.nil,ii v1.2,ii z1,ii (w64 ((24:Int)+v3.2)),ii v4.2,bb (decide (v9.2=(0:Int))),ii v5.2,ii v6.2,ii (w64 (v7.2*v8.2)),bb (decide (v10.2=(0:Int))),bb (decide (v11.2=(0:Int))),bb (decide (v12.2=(0:Int))),bb false]⟩
 refine yt (sp 100 [z6,z8,z14,z15]) [z39,z9,(2,some q5)] 3 (Aw.sreg [0,1,4,5] [0,1,2] (yu 1 [(45,pp 0)] [z39,z9,(2,some q5)] 3 ?_))
 obtain ⟨v13,hv13,hh⟩:=bind_some hh
 let z40:EH:=(0,some (rB134 v13.1))
 refine ys (.call 49 [(.t 45),(.c (ii 25))]) (some 46) (cf (ii v13.2) [z40] 3 [0] (__spec_l20Rd__pick_fn hv13) [pp 0,ii 25] rz (hq (rB134 v12.1) (rens_same (nr_B_134 _)) hs_nil) ren_i (hq (rB134 v13.1) (rens_same (nr_B_134 _)) hs_nil) ?_)
 let q6:Root:=⟨25,[.nil,ii v1.2,ii z1,ii (w64 ((24:Int)+v3.2)),ii v4.2,bb (decide (v9.2=(0:Int))),ii v5.2,ii v6.2,ii (w64 (v7.2*v8.2)),bb (decide (v10.2=(0:Int))),bb (decide (v11.2=(0:Int))),bb (decide (v12.2=(0:Int))),bb (decide (v13.2=(0:Int)))]⟩
 refine yt (sp 100 [z6,z8,z14,z15]) [z40,z9,(2,some q6)] 3 ?_
 obtain ⟨j14,hh,hk14⟩:=bind_some hh
 refine Aw.join (S:=(List Int) × Int × (List Int)) (fun s14=>sp 100 [(0,pp 0),(1,ii x_n),(4,pp 1),(5,pp 2)]) (fun s14=>[(0,some ⟨134,[bo (eI .u8) s14.1,ii s14.2.1]⟩),(1,some ⟨25,(.nil::zru25 [])⟩),(2,some ⟨25,[sw 3 s14.2.2,ii v1.2,ii (List.getD ([(-1:Int),(1:Int),(2:Int)]:List Int) (Int.toNat v2.2) default),ii (w64 ((24:Int)+v3.2)),ii v4.2,bb (decide (v9.2=(0:Int))),ii v5.2,ii v6.2,ii (w64 (v7.2*v8.2)),bb (decide (v10.2=(0:Int))),bb (decide (v11.2=(0:Int))),bb (decide (v12.2=(0:Int))),bb (decide (v13.2=(0:Int)))]⟩),(3,some (rI_3 s14.2.2))]) 4 (fun s14=>F_spec_l20Core_j14 x_n v1 v2 v3 v4 v5 v6 v7 v8 v9 v10 v11 v12 v13 s14=some R_) ?_ ?_
 · intro s14 hh
   let z41:=(75,sw 3 s14.2.2); let z2:=List.take (Int.toNat (3:Int) - Int.toNat (0:Int)) s14.2.2
   unfold F_spec_l20Core_j14 at hh
   obtain ⟨j15,hh,hk15⟩:=bind_some hh
   refine Aw.join (S:=(List Int) × Int × (List Int) × Int × Int) (fun s15=>sp 100 [(4,pp 1),(5,pp 2)]) (fun s15=>[(0,some ⟨134,[bo (eI .u8) s15.1,ii s15.2.1]⟩),(1,some ⟨25,(.nil::zru25 [])⟩),(2,some ⟨25,[sw 3 s15.2.2.1,ii s15.2.2.2.1,ii s15.2.2.2.2,ii (w64 ((24:Int)+v3.2)),ii v4.2,bb (decide (v9.2=(0:Int))),ii v5.2,ii v6.2,ii (w64 (v7.2*v8.2)),bb (decide (v10.2=(0:Int))),bb (decide (v11.2=(0:Int))),bb (decide (v12.2=(0:Int))),bb (decide (v13.2=(0:Int)))]⟩),(3,some (rI_3 s15.2.2.1))]) 4 (fun s15=>F_spec_l20Core_j15 v3 v4 v5 v6 v7 v8 v9 v10 v11 v12 v13 s15=some R_) ?_ ?_
   · intro s15 hh
     unfold F_spec_l20Core_j15 at hh
     refine Aw.sreg [4] [0,1,3] ?_
     let q7:Root:=⟨134,[bo (eI .u8) s15.1,ii s15.2.1]⟩; let q8:Root:=(rI_3 s15.2.2.1)
     refine yt (sp 100 [z14]) [(0,some q7),(1,some ⟨25,[sw 3 s15.2.2.1,ii s15.2.2.2.1,ii s15.2.2.2.2,ii (w64 ((24:Int)+v3.2)),ii v4.2,bb (decide (v9.2=(0:Int))),ii v5.2,ii v6.2,ii (w64 (v7.2*v8.2)),bb (decide (v10.2=(0:Int))),bb (decide (v11.2=(0:Int))),bb (decide (v12.2=(0:Int))),bb (decide (v13.2=(0:Int)))]⟩),(3,some q8)] 4 (Aw.ret ?_)
     rw [some_some hh]
     exact gives (r':=.agg [sw 3 s15.2.2.1,ii s15.2.2.2.1,ii s15.2.2.2.2,ii (w64 ((24:Int)+v3.2)),ii v4.2,bb (decide (v9.2=(0:Int))),ii v5.2,ii v6.2,ii (w64 (v7.2*v8.2)),bb (decide (v10.2=(0:Int))),bb (decide (v11.2=(0:Int))),bb (decide (v12.2=(0:Int))),bb (decide (v13.2=(0:Int)))]) kr (el [some 0,some 3] (rens_1 (ren_agg rz)) (hn nr_eI (hq q7 rz hs_nil)))
   intro Q15 hN15 hR15 hE15
   refine Aw.sreg [0,4,5,71] [0,1,2,3] ?_
   let q9:Root:=⟨134,[bo (eI .u8) s14.1,ii s14.2.1]⟩; let q10:Root:=⟨25,[sw 3 s14.2.2,ii v1.2,ii z1,ii (w64 ((24:Int)+v3.2)),ii v4.2,bb (decide (v9.2=(0:Int))),ii v5.2,ii v6.2,ii (w64 (v7.2*v8.2)),bb (decide (v10.2=(0:Int))),bb (decide (v11.2=(0:Int))),bb (decide (v12.2=(0:Int))),bb (decide (v13.2=(0:Int)))]⟩; let z42:=(2,some q10); let q11:Root:=(rI_3 s14.2.2); let z43:=(3,some q11)
   refine yj 2  (sp 100 [z6,z8,z14,z15,(69,pp 0),(70,ii x_n)]) [(0,some q9),z9,z42,z43] 4 ?_
   obtain ⟨v16,hv16,hh⟩:=bind_some hh
   let z44:EH:=(0,some (rB134 v16.1))
   refine ys (.call 117 [(.t 69),(.t 70)]) (some 71) (cf (bb v16.2) [z44] 4 [0] (__spec_l20Rd__odd_fn hv16) [pp 0,ii x_n] rz (hq q9 rz hs_nil) ren_b (hq (rB134 v16.1) (rens_same (nr_B_134 _)) hs_nil) ?_)
   refine yt (sp 100 [z6,z14,z15,(71,bb v16.2)]) [z44,z9,z42,z43] 4 ?_
   rcases cond_some hh with ⟨hb,hh⟩ | ⟨hb,hh⟩
   · refine cT hb (Aw.sreg [0,4,5,73] [0,1,2,3] (yu 1 [(72,pp 0)] [z44,z9,z42,z43] 4 ?_))
     obtain ⟨v17,hv17,hh⟩:=bind_some hh
     let z45:EH:=(0,some (rB134 v17.1)); let z46:=(73,ii v17.2); let z47:=(79,bb (decide (v17.2=(0:Int)))); let z48:=(85,bb (decide (v17.2=(1:Int)))); let z49:=(92,bb (decide (v17.2=(2:Int))))
     refine ys (.call 49 [(.t 72),(.c (ii 4))]) (some 73) (cf (ii v17.2) [z45] 4 [0] (__spec_l20Rd__pick_fn hv17) [pp 0,ii 4] rz (hq (rB134 v16.1) (rens_same (nr_B_134 _)) hs_nil) ren_i (hq (rB134 v17.1) (rens_same (nr_B_134 _)) hs_nil) ?_)
     refine yt (sp 100 [z6,z14,z15,z46]) [z45,z9,z42,z43] 4 (Aw.block (sy [0,4,5,73,79] [0,1,2,3] (sp 100 [z6,z14,z15,z46,z47]) [z45,z9,z42,z43] 4 ?_))
     rcases cond_some hh with ⟨hb,hh⟩ | ⟨hb,hh⟩
     · refine cT hb (Aw.oreg (yu 2 [(81,pp 2),(82,sw 3 s14.2.2)] [z45,z9,z42,z43] 4 ?_))
       obtain ⟨hg32,hh⟩:=grd_some hh
       refine ys (.slc 1 (.t 82) none (some (.c (ii 3)))) (some 83) (op_slo (r:=3) (π:=[]) (o:=0) (k:=(List.length s14.2.2)) (sz:=1) (l:=(0:Int)) (h:=(3:Int)) kr kr kr hg32 ?_)
       let q12:Root:=⟨25,[.sref 3 [] 0 (Int.toNat (3:Int) - Int.toNat (0:Int)) 1,ii v1.2,ii z1,ii (w64 ((24:Int)+v3.2)),ii v4.2,bb (decide (v9.2=(0:Int))),ii v5.2,ii v6.2,ii (w64 (v7.2*v8.2)),bb (decide (v10.2=(0:Int))),bb (decide (v11.2=(0:Int))),bb (decide (v12.2=(0:Int))),bb (decide (v13.2=(0:Int)))]⟩
       refine ye (sp 100 [z6,z14,z15,z46,z47,(81,pp 2),(82,sw 3 s14.2.2),(83,.sref 3 [] 0 (Int.toNat (3:Int) - Int.toNat (0:Int)) 1),(84,pp 2)]) [(2,some q12),z45,z9,z42,z43] 4 (blk_m ?_)
       obtain rfl:=some_some hh
       let q13:Root:=(rI_3 z2)
       exact hN15 (v17.1.b,v17.1.p,z2,v1.2,z1) _ _ _ hk15 (Ent.trans (el [some 0,some 1,some 2,some 3] (rens_sp kr (rp 1 (rp 2 rl_n))) (hq (rB134 v17.1) rz (hq ⟨25,(.nil::zru25 [])⟩ rz (hq q12 rz (hn nr_eI hs_nil))))) (Ent.cut (H2:=[(2,some q12),z45,z9,(3,some q13)]) (HC.root (hc_c (t:=q12) kr (hc_c (t:=(rB134 v17.1)) kr (hc_c (t:=⟨25,(.nil::zru25 [])⟩) kr (hc_t (c:=(eI .i64)) (xs:=s14.2.2) len_eI kr hc_n)))))))
     refine cF hb (sy [0,4,5,73,85] [0,1,2,3] (sp 100 [z6,z14,z15,z46,z48]) [z45,z9,z42,z43] 4 ?_)
     rcases cond_some hh with ⟨hb,hh⟩ | ⟨hb,hh⟩
     · refine cT hb (Aw.oreg (yu 1 [(87,pp 0)] [z45,z9,z42,z43] 4 ?_))
       obtain ⟨v18,hv18,hh⟩:=bind_some hh
       refine ys (.call 49 [(.t 87),(.c (ii 2))]) (some 88) (cf (ii v18.2) [(0,some (rB134 v18.1))] 4 [0] (__spec_l20Rd__pick_fn hv18) [pp 0,ii 2] rz (hq (rB134 v17.1) (rens_same (nr_B_134 _)) hs_nil) ren_i (hq (rB134 v18.1) (rens_same (nr_B_134 _)) hs_nil) ?_)
       let q14:Root:=⟨25,[sw 3 s14.2.2,ii (w64 ((64:Int) - (w64 (v18.2*(65:Int))))),ii z1,ii (w64 ((24:Int)+v3.2)),ii v4.2,bb (decide (v9.2=(0:Int))),ii v5.2,ii v6.2,ii (w64 (v7.2*v8.2)),bb (decide (v10.2=(0:Int))),bb (decide (v11.2=(0:Int))),bb (decide (v12.2=(0:Int))),bb (decide (v13.2=(0:Int)))]⟩
       refine ye (sp 100 [z6,z14,z15,z46,z48,(87,pp 0),(88,ii v18.2),(89,ii (w64 (v18.2*(65:Int)))),(90,ii (w64 ((64:Int) - (w64 (v18.2*(65:Int)))))),(91,.ptr 2 [] 1)]) [(2,some q14),(0,some (rB134 v18.1)),z5,z45,z9,z42,z43] 4 (blk_m ?_)
       obtain rfl:=some_some hh
       exact hN15 (v18.1.b,v18.1.p,s14.2.2,(w64 ((64:Int) - (w64 (v18.2*(65:Int))))),z1) _ _ _ hk15 (el [some 0,some 1,some 2,some 3] (rens_sp kr (rp 1 (rp 2 rl_n))) (hq (rB134 v18.1) rz (hq ⟨25,(.nil::zru25 [])⟩ rz (hq q14 rz (hn nr_eI hs_nil)))))
     refine cF hb (sy [0,4,5,92] [0,1,2,3] (sp 100 [z6,z14,z15,z49]) [z45,z9,z42,z43] 4 ?_)
     rcases cond_some hh with ⟨hb,hh⟩ | ⟨hb,hh⟩
     · refine cT hb (Aw.oreg (yu 1 [(94,pp 0)] [z45,z9,z42,z43] 4 ?_))
       obtain ⟨v19,hv19,hh⟩:=bind_some hh
       refine ys (.call 49 [(.t 94),(.c (ii 2))]) (some 95) (cf (ii v19.2) [(0,some (rB134 v19.1))] 4 [0] (__spec_l20Rd__pick_fn hv19) [pp 0,ii 2] rz (hq (rB134 v17.1) (rens_same (nr_B_134 _)) hs_nil) ren_i (hq (rB134 v19.1) (rens_same (nr_B_134 _)) hs_nil) ?_)
       let q15:Root:=⟨25,[sw 3 s14.2.2,ii v1.2,ii (w64 ((8:Int) - (w64 (v19.2*(10:Int))))),ii (w64 ((24:Int)+v3.2)),ii v4.2,bb (decide (v9.2=(0:Int))),ii v5.2,ii v6.2,ii (w64 (v7.2*v8.2)),bb (decide (v10.2=(0:Int))),bb (decide (v11.2=(0:Int))),bb (decide (v12.2=(0:Int))),bb (decide (v13.2=(0:Int)))]⟩
       refine ye (sp 100 [z6,z14,z15,z49,(94,pp 0),(95,ii v19.2),(96,ii (w64 (v19.2*(10:Int)))),(97,ii (w64 ((8:Int) - (w64 (v19.2*(10:Int)))))),(98,.ptr 2 [] 2)]) [(2,some q15),(0,some (rB134 v19.1)),z5,z45,z9,z42,z43] 4 (blk_m ?_)
       obtain rfl:=some_some hh
       exact hN15 (v19.1.b,v19.1.p,s14.2.2,v1.2,(w64 ((8:Int) - (w64 (v19.2*(10:Int)))))) _ _ _ hk15 (el [some 0,some 1,some 2,some 3] (rens_sp kr (rp 1 (rp 2 rl_n))) (hq (rB134 v19.1) rz (hq ⟨25,(.nil::zru25 [])⟩ rz (hq q15 rz (hn nr_eI hs_nil)))))
     refine cF hb (Aw.oregd [0] kr (dj 3 (sp 100 [z6,z14,z15,(74,pp 2),z41,(76,pp 0),z49]) [z45,z9,z42,z43] 4 ?_))
     obtain ⟨v20,hv20,hh⟩:=bind_some hh
     let z50:EH:=(0,some (rB134 v20.1)); let z51:EV:=(78,.ptr 3 [] (0+(Int.toNat v20.2)*1)); let z3:=List.set s14.2.2 (Int.toNat v20.2) (-1:Int)
     refine ds (.call 49 [(.t 76),(.c (ii 4))]) (some 77) (ydo_n rfl (cf (ii v20.2) [z50] 4 [0] (__spec_l20Rd__pick_fn hv20) [pp 0,ii 4] rz (hq (rB134 v17.1) (rens_same (nr_B_134 _)) hs_nil) ren_i (hq (rB134 v20.1) (rens_same (nr_B_134 _)) hs_nil) ⟨⟨agr_callf rfl rfl,Hld.un ?_⟩⟩))
     refine dt (sp 100 [z6,z14,z15,(74,pp 2),z41,(76,pp 0),(77,ii v20.2),z49]) [z50,z5,z45,z9,z42,z43] 4 ?_
     obtain ⟨hg34,hh⟩:=grd_some hh
     refine yjc 1 [(0:Int)≤v20.2∧v20.2<(((List.length s14.2.2):Nat):Int)] (sp 100 [z6,z14,z15,(74,pp 2),z41,(76,pp 0),(77,ii v20.2),z51,z49]) [z50,z5,z45,z9,z42,z43] 4 (.cons hg34 .nil) ?_
     let q16:Root:=(rI_3 z3)
     refine ys (.store 1 (.t 78) (.c (ii (-1)))) none (op_store (c:=(eI .i64)) (xs:=s14.2.2) (e:=3) (r:=3) (π:=[]) (o:=0+(Int.toNat v20.2)*1) (i:=(Int.toNat v20.2)) (off:=0) (vs:=[ii (-1)]) (y:=(-1:Int)) (H':=[(3,some q16),z50,z5,z45,z9,z42,z43]) len_eI kr kr kr kr ltn ltn dd kr kr ?_)
     refine ye (sp 100 [z6,z14,z15,(74,pp 2),z41,(76,pp 0),(77,ii v20.2),z51,z49]) [(3,some q16),z50,z5,z45,z9,z42,z43] 4 (blk_m ?_)
     obtain rfl:=some_some hh
     exact hN15 (v20.1.b,v20.1.p,z3,v1.2,z1) _ _ _ hk15 (el [some 0,some 1,some 2,some 3] (rens_sp kr (rp 1 (rp 2 rl_n))) (hq (rB134 v20.1) rz (hq ⟨25,(.nil::zru25 [])⟩ rz (hq q10 rz (hn nr_eI hs_nil)))))
   refine cF hb (Aw.skip ?_)
   obtain rfl:=some_some hh
   exact hN15 (v16.1.b,v16.1.p,s14.2.2,v1.2,z1) _ _ _ hk15 (el [some 0,some 1,some 2,some 3] (rens_sp kr (rp 1 (rp 2 rl_n))) (hq (rB134 v16.1) rz (hq ⟨25,(.nil::zru25 [])⟩ rz (hq q10 rz (hn nr_eI hs_nil)))))
 intro Q14 hN14 hR14 hE14
 refine sy [0,1,4,5,6] [0,1,2] (sp 100 [z6,z8,z14,z15,(6,ii 0)]) [z40,z9,(2,some q6)] 3 (Aw.block ?_)
 obtain ⟨o21,hi21,hk21⟩:=bind_some hh
 refine Aw.iter (fun (s21:(List Int) × Int × (List Int) × Int)=>sp 100 [(0,pp 0),(1,ii x_n),(4,pp 1),(5,pp 2),(6,ii s21.2.2.2)]) (fun (s21:(List Int) × Int × (List Int) × Int)=>[(0,some ⟨134,[bo (eI .u8) s21.1,ii s21.2.1]⟩),(1,some ⟨25,(.nil::zru25 [])⟩),(2,some ⟨25,[sw 3 s21.2.2.1,ii v1.2,ii (List.getD ([(-1:Int),(1:Int),(2:Int)]:List Int) (Int.toNat v2.2) default),ii (w64 ((24:Int)+v3.2)),ii v4.2,bb (decide (v9.2=(0:Int))),ii v5.2,ii v6.2,ii (w64 (v7.2*v8.2)),bb (decide (v10.2=(0:Int))),bb (decide (v11.2=(0:Int))),bb (decide (v12.2=(0:Int))),bb (decide (v13.2=(0:Int)))]⟩),(3,some (rI_3 s21.2.2.1))]) 4 hi21 (el [some 0,some 1,some 2,none] (rens_sp kr (rp 0 (ri (rp 1 (rp 2 (ri rl_n)))))) (hq (rB134 v13.1) rz (hq ⟨25,(.nil::zru25 [])⟩ rz (hq q6 rz (hs_no dd rfl rfl hs_nil))))) ?_
 intro s21 u21 Q21 hh hN21 hX21 hR21
 let z52:=(50,bb (decide (s21.2.2.2<(4:Int)))); let z53:=(54,sw 3 s21.2.2.1); let z54:=(6,ii s21.2.2.2)
 unfold F_spec_l20Core_l21 at hh
 refine Aw.seq (Aw.sreg [0,1,4,5,6,50] [0,1,2,3] ?_)
 let q17:Root:=⟨134,[bo (eI .u8) s21.1,ii s21.2.1]⟩; let z55:=(0,some q17); let q18:Root:=⟨25,[sw 3 s21.2.2.1,ii v1.2,ii z1,ii (w64 ((24:Int)+v3.2)),ii v4.2,bb (decide (v9.2=(0:Int))),ii v5.2,ii v6.2,ii (w64 (v7.2*v8.2)),bb (decide (v10.2=(0:Int))),bb (decide (v11.2=(0:Int))),bb (decide (v12.2=(0:Int))),bb (decide (v13.2=(0:Int)))]⟩; let z56:=(2,some q18); let q19:Root:=(rI_3 s21.2.2.1); let z57:=(3,some q19)
 refine yt (sp 100 [z6,z8,z14,z15,z54,z52]) [z55,z9,z56,z57] 4 ?_
 rcases cond_sf hh with ⟨hb,hh⟩ | ⟨hb,hh⟩
 · refine cF hb (Aw.exit (then_x (hX21 _ _ _ _ _ (some_some hh) ?_)))
   intro hout
   rw [hout] at hk21
   refine blk_x ?_
   obtain rfl:=some_some hk21
   exact hN14 (s21.1,s21.2.1,s21.2.2.1) _ _ _ hk14 (el [some 0,some 1,some 2,some 3] (rens_sp kr (rp 0 (ri (rp 1 (rp 2 rl_n))))) (hq q17 rz (hq ⟨25,(.nil::zru25 [])⟩ rz (hq q18 rz (hn nr_eI hs_nil)))))
 refine cT hb (Aw.xskip (fun _ _ _ hq=>then_m hq) (Aw.seq (Aw.block (Aw.xregd [0,1,4,5,6] [0,1,2,4] [0] (fun _ _ _ hq=>blk_m (then_m hq)) kr (dj 3 (sp 100 [z6,z8,z14,z15,z54,z52,z16,z53,z17]) [z55,z9,z56,z57] 4 ?_)))))
 obtain ⟨v22,hv22,hh⟩:=bind_some hh
 let z58:EH:=(0,some (rB134 v22.1)); let z59:=(56,ii v22.2)
 refine ds (.call 49 [(.t 55),(.c (ii 64))]) (some 56) (ydo_n rfl (cf (ii v22.2) [z58] 4 [0] (__spec_l20Rd__pick_fn hv22) [pp 0,ii 64] rz (hq q17 rz hs_nil) ren_i (hq (rB134 v22.1) (rens_same (nr_B_134 _)) hs_nil) ⟨⟨agr_callf rfl rfl,Hld.un ?_⟩⟩))
 refine dj 1 (sp 100 [z6,z8,z14,z15,z54,z52,z16,z53,z17,z59,(57,pp 0)]) [z58,z5,z55,z9,z56,z57] 4 ?_
 obtain ⟨v23,hv23,hh⟩:=bind_some hh
 let z60:EH:=(0,some (rB134 v23.1))
 refine ds (.call 49 [(.t 57),(.c (ii 16))]) (some 58) (ydo_n rfl (cf (ii v23.2) [z60] 4 [0] (__spec_l20Rd__pick_fn hv23) [pp 0,ii 16] rz (hq (rB134 v22.1) (rens_same (nr_B_134 _)) hs_nil) ren_i (hq (rB134 v23.1) (rens_same (nr_B_134 _)) hs_nil) ⟨⟨agr_callf rfl rfl,Hld.un ?_⟩⟩))
 refine dj 1 (sp 100 [z6,z8,z14,z15,z54,z52,z16,z53,z17,z59,(57,pp 0),(58,ii v23.2),(59,pp 0)]) [z60,z5,z58,z5,z55,z9,z56,z57] 4 ?_
 obtain ⟨v24,hv24,hh⟩:=bind_some hh
 let z61:EH:=(0,some (rB134 v24.1)); let z62:EV:=(61,.bor 3 [ii v22.2,ii v23.2,ii v24.2])
 refine ds (.call 116 [(.t 59)]) (some 60) (ydo_n rfl (cf (ii v24.2) [z61] 4 [0] (__spec_l20Rd__word_fn hv24) [pp 0] rz (hq (rB134 v23.1) (rens_same (nr_B_134 _)) hs_nil) ren_i (hq (rB134 v24.1) (rens_same (nr_B_134 _)) hs_nil) ⟨⟨agr_callf rfl rfl,Hld.un ?_⟩⟩))
 refine dj 2 (sp 100 [z6,z8,z14,z15,z54,z52,z16,z53,z17,z59,(57,pp 0),(58,ii v23.2),(59,pp 0),(60,ii v24.2),z62,(62,pp 0)]) [z61,z5,z60,z5,z58,z5,z55,z9,z56,z57] 4 ?_
 obtain ⟨v25,hv25,hh⟩:=bind_some hh
 let z63:EH:=(0,some (rB134 v25.1)); let z4:=List.getD ([v22.2,v23.2,v24.2]:List Int) (Int.toNat v25.2) default
 refine ds (.call 49 [(.t 62),(.c (ii 3))]) (some 63) (ydo_n rfl (cf (ii v25.2) [z63] 4 [0] (__spec_l20Rd__pick_fn hv25) [pp 0,ii 3] rz (hq (rB134 v24.1) (rens_same (nr_B_134 _)) hs_nil) ren_i (hq (rB134 v25.1) (rens_same (nr_B_134 _)) hs_nil) ⟨⟨agr_callf rfl rfl,Hld.un ?_⟩⟩))
 obtain ⟨hg53,hh⟩:=grd_some hh
 refine ds (.iadr 1 (.t 61) (.t 63)) (some 64) (ydo_q rfl kr (op_iadr (kd:=.i64) (c:=(eI .i64)) (xs:=([v22.2,v23.2,v24.2]:List Int)) len_eI dd kr kr hg53 ?_))
 refine ds (.load false 1 (.t 64)) (some 65) (ydo_q rfl kr (op_loadb (c:=(eI .i64)) (xs:=([v22.2,v23.2,v24.2]:List Int)) (o:=Int.toNat v25.2*1) (i:=(Int.toNat v25.2)) (off:=0) (v:=ii z4) len_eI kr ltn ltn dd kr ?_))
 refine dt (sp 100 [z6,z8,z14,z15,z54,z52,z16,z53,z17,z59,(57,pp 0),(58,ii v23.2),(59,pp 0),(60,ii v24.2),z62,(62,pp 0),(63,ii v25.2),(64,.bptr (fl (eI .i64) ([v22.2,v23.2,v24.2]:List Int)) (Int.toNat v25.2*1)),(65,ii z4),(66,.bor 1 [ii z4])]) [z63,z5,z61,z5,z60,z5,z58,z5,z55,z9,z56,z57] 4 ?_
 obtain ⟨hg54,hh⟩:=grd_some hh
 refine ys (.app 3 1 8 [(ii 0)] (.t 54) (.t 66)) (some 67) (op_app (c:=(eI .i64)) (xs:=s21.2.2.1) (ys:=([z4]:List Int)) (r:=3) (k:=(List.length s21.2.2.1)) (π:=[]) eqn len_eI kr kr kr hg54 ?_)
 let q20:Root:=⟨25,[.sref 4 [] 0 (List.length (s21.2.2.1 ++ ([z4]:List Int))) 1,ii v1.2,ii z1,ii (w64 ((24:Int)+v3.2)),ii v4.2,bb (decide (v9.2=(0:Int))),ii v5.2,ii v6.2,ii (w64 (v7.2*v8.2)),bb (decide (v10.2=(0:Int))),bb (decide (v11.2=(0:Int))),bb (decide (v12.2=(0:Int))),bb (decide (v13.2=(0:Int)))]⟩; let q21:Root:=(rI_3 (s21.2.2.1 ++ ([z4]:List Int)))
 exact yt (sp 100 [z6,z8,z14,z15,z54]) [z63,z9,(2,some q20),(4,some q21)] 5 (Aw.oreg (ye (sp 100 [z6,z8,z14,z15,(6,ii (w64 (s21.2.2.2+(1:Int)))),(51,ii s21.2.2.2),(52,ii (w64 (s21.2.2.2+(1:Int))))]) [z63,z9,(2,some q20),(4,some q21)] 5 (hN21 (v25.1.b,v25.1.p,(s21.2.2.1 ++ ([z4]:List Int)),(w64 (s21.2.2.2+(1:Int)))) _ _ _ (some_some hh) (el [some 0,some 1,some 2,some 4] (rens_sp kr (rp 0 (ri (rp 1 (rp 2 (ri rl_n)))))) (hq (rB134 v25.1) rz (hq ⟨25,(.nil::zru25 [])⟩ rz (hq q20 rz (hn nr_eI hs_nil))))))))
theorem low_spec_InsWord:LW 52 ⟨16,[(.tmp 2)],(.seq (.reg false (rg 52 0)) (.seq (.seq (.reg false (rg 52 1)) (.cond (.t 5) (.seq (.reg false (rg 52 2)) .ret) .skip)) (.seq (.reg false (rg 52 3)) .ret)))⟩:=kr
noncomputable def F_spec_InsWord (x_i:DIns):Option Int :=
 Option.bind (F_spec_InsOk x_i) fun v1 =>
 cond (!v1)
  (some (-1:Int))
  (some (w64 ((w64 ((w64 (x_i.Op*(256:Int)))+(w64 (x_i.A*(64:Int)))))+x_i.N)))
theorem spec_InsWord_fn {x_i:DIns} {R_:Int} (hh:F_spec_InsWord x_i=some R_):Fn Try.prog 52 [.agg (C_45 x_i)] (.int .i64 R_):=by
 let z1:EH:=(0,some ⟨45,(C_45 x_i)⟩)
 unfold F_spec_InsWord at hh
 refine Fn.start low_spec_InsWord [0] (E:=sp 16 [(0,.agg (C_45 x_i))]) kr (v:=ii R_) (Hr:=[]) (k:=0) kr (sy [1] [0] (sp 16 [(1,pp 0)]) [z1] 1 (Aw.seq (Aw.sreg [1,5] [0] (yj 1  (sp 16 [(1,pp 0),(3,.agg (C_45 x_i))]) [z1] 1 ?_))))
 obtain ⟨v1,hv1,hh⟩:=bind_some hh
 refine ys (.call 122 [(.t 3)]) (some 4) (oc (spec_InsOk_fn hv1) ?_)
 refine yt (sp 16 [(1,pp 0),(5,bb (!v1))]) [z1] 1 ?_
 rcases cond_some hh with ⟨hb,hh⟩ | ⟨hb,hh⟩
 · exact cT hb (sy [2] [] (sp 16 [(2,ii (-1))]) [] 1 (Aw.ret (then_r (gvis hh))))
 exact cF hb (Aw.xskip (fun _ _ _ hq=>then_m hq) (sy [2] [] (sp 16 [(2,ii (w64 ((w64 ((w64 (x_i.Op*(256:Int)))+(w64 (x_i.A*(64:Int)))))+x_i.N)))]) [] 1 (Aw.ret (gvis hh))))
theorem low_spec_l20Ins:LW 53 ⟨34,[(.cell 4 true 3)],(.seq (.reg false (rg 53 0)) (.seq (.reg false (rg 53 1)) (.seq (.seq (.reg false (rg 53 2)) (.cond (.t 15) (.seq (.reg false (rg 53 3)) (.block 0 (.seq (.reg false (rg 53 4)) (.cond (.t 23) (.reg false (rg 53 5)) (.seq (.reg false (rg 53 6)) (.cond (.t 30) (.reg false (rg 53 7)) (.reg false (rg 53 8)))))))) .skip)) (.seq (.reg false (rg 53 9)) .ret))))⟩:=kr
noncomputable def F_spec_l20Ins_j4  (s4:Int × (List Int) × Int × Int × Int):Option (Dl20Rd × DIns) :=
 some ((Dl20Rd.mk s4.2.1 s4.2.2.1),(DIns.mk s4.1 s4.2.2.2.1 s4.2.2.2.2))
noncomputable def F_spec_l20Ins (x_r:Dl20Rd) (x_n:Int):Option (Dl20Rd × DIns) :=
 Option.bind (F___spec_l20Rd__pick x_r (16:Int)) fun v1 =>
 Option.bind (F___spec_l20Rd__pick v1.1 (4:Int)) fun v2 =>
 Option.bind (F___spec_l20Rd__pick v2.1 (64:Int)) fun v3 =>
 Option.bind (Option.bind (F___spec_l20Rd__odd v3.1 x_n) fun v5 =>
  cond v5.2
   (Option.bind (F___spec_l20Rd__pick v5.1 (3:Int)) fun v6 =>
   cond (decide (v6.2=(0:Int)))
    (Option.bind (F___spec_l20Rd__pick v6.1 (2:Int)) fun v7 =>
    some (.go ((w64 ((16:Int) - (w64 (v7.2*(17:Int))))),v7.1.b,v7.1.p,v2.2,v3.2)))
    (cond (decide (v6.2=(1:Int)))
     (some (.go (v1.2,v6.1.b,v6.1.p,(4:Int),v3.2)))
     (Option.bind (F___spec_l20Rd__pick v6.1 (2:Int)) fun v8 =>
     some (.go (v1.2,v8.1.b,v8.1.p,v2.2,(w64 ((64:Int) - (w64 (v8.2*(65:Int))))))))))
   (some (.go (v1.2,v5.1.b,v5.1.p,v2.2,v3.2)))) fun j4 =>
  JO.run j4 (F_spec_l20Ins_j4)
theorem spec_l20Ins_fn {x_r:Dl20Rd} {x_n:Int} {R_:Dl20Rd × DIns} (hh:F_spec_l20Ins x_r x_n=some R_):Inl Try.prog 53 [pp 0,.int .i64 x_n] [(0,some (rB134 x_r))] 1 (.agg [.int .i64 R_.2.Op,.int .i64 R_.2.A,.int .i64 R_.2.N]) [(0,some ⟨134,[bo (eI .u8) R_.1.b,.int .i64 R_.1.p]⟩)] 1:=by
 let z1:=(0,pp 0); let z2:EH:=(0,some (rB134 x_r)); let z3:=(4,pp 1); let z4:=(5,pp 2)
 unfold F_spec_l20Ins at hh
 refine Inl.start low_spec_l20Ins [0,1] [0] (E:=sp 34 [z1,(1,ii x_n)]) (H1:=[z2]) kr kr (Aw.sreg [0,1,4] [0,1] ?_)
 let q1:Root:=⟨45,[ii 0,ii 0,ii 0]⟩; let z5:=(1,some q1)
 refine yt (sp 34 [z1,(1,ii x_n),z3]) [z2,z5] 2 (Aw.sreg [0,1,4,5] [0,1,2] (yu 1 [(6,pp 0)] [z2,z5] 2 ?_))
 obtain ⟨v1,hv1,hh⟩:=bind_some hh
 let z6:EH:=(0,some (rB134 v1.1))
 refine ys (.call 49 [(.t 6),(.c (ii 16))]) (some 7) (cf (ii v1.2) [z6] 2 [0] (__spec_l20Rd__pick_fn hv1) [pp 0,ii 16] rz (hq (rB134 x_r) (rens_same (nr_B_134 _)) hs_nil) ren_i (hq (rB134 v1.1) (rens_same (nr_B_134 _)) hs_nil) ?_)
 refine yu 1 [(7,ii v1.2),(8,pp 0)] [z6,(0,none),z2,z5] 2 ?_
 obtain ⟨v2,hv2,hh⟩:=bind_some hh
 refine ys (.call 49 [(.t 8),(.c (ii 4))]) (some 9) (cf (ii v2.2) [(0,some (rB134 v2.1))] 2 [0] (__spec_l20Rd__pick_fn hv2) [pp 0,ii 4] rz (hq (rB134 v1.1) (rens_same (nr_B_134 _)) hs_nil) ren_i (hq (rB134 v2.1) (rens_same (nr_B_134 _)) hs_nil) ?_)
 refine yu 1 [(9,ii v2.2),(10,pp 0)] [(0,some (rB134 v2.1)),(0,none),z6,(0,none),z2,z5] 2 ?_
 obtain ⟨v3,hv3,hh⟩:=bind_some hh
 let z7:EH:=(0,some (rB134 v3.1))
 refine ys (.call 49 [(.t 10),(.c (ii 64))]) (some 11) (cf (ii v3.2) [z7] 2 [0] (__spec_l20Rd__pick_fn hv3) [pp 0,ii 64] rz (hq (rB134 v2.1) (rens_same (nr_B_134 _)) hs_nil) ren_i (hq (rB134 v3.1) (rens_same (nr_B_134 _)) hs_nil) ?_)
 let q2:Root:=⟨45,[ii v1.2,ii v2.2,ii v3.2]⟩; let z8:=(2,some q2)
 refine yt (sp 34 [z1,(1,ii x_n),z3,z4]) [z7,z5,z8] 3 ?_
 obtain ⟨j4,hh,hk4⟩:=bind_some hh
 refine Aw.join (S:=Int × (List Int) × Int × Int × Int) (fun s4=>sp 34 [(4,pp 1),(5,pp 2)]) (fun s4=>[(0,some ⟨134,[bo (eI .u8) s4.2.1,ii s4.2.2.1]⟩),(1,some ⟨45,[ii 0,ii 0,ii 0]⟩),(2,some ⟨45,[ii s4.1,ii s4.2.2.2.1,ii s4.2.2.2.2]⟩)]) 3 (fun s4=>F_spec_l20Ins_j4 s4=some R_) ?_ ?_
 · intro s4 hh
   unfold F_spec_l20Ins_j4 at hh
   refine Aw.sreg [4] [0,1] ?_
   let q3:Root:=⟨134,[bo (eI .u8) s4.2.1,ii s4.2.2.1]⟩
   refine yt (sp 34 [z3]) [(0,some q3),(1,some ⟨45,[ii s4.1,ii s4.2.2.2.1,ii s4.2.2.2.2]⟩)] 3 (Aw.ret ?_)
   rw [some_some hh]
   exact gives (r':=.agg [ii s4.1,ii s4.2.2.2.1,ii s4.2.2.2.2]) kr (el [some 0] (rens_1 (ren_agg rz)) (hq q3 rz hs_nil))
 intro Q4 hN4 hR4 hE4
 refine Aw.sreg [0,4,5,15] [0,1,2] (yj 2  (sp 34 [z1,(1,ii x_n),z3,z4,(13,pp 0),(14,ii x_n)]) [z7,z5,z8] 3 ?_)
 obtain ⟨v5,hv5,hh⟩:=bind_some hh
 let z9:EH:=(0,some (rB134 v5.1))
 refine ys (.call 117 [(.t 13),(.t 14)]) (some 15) (cf (bb v5.2) [z9] 3 [0] (__spec_l20Rd__odd_fn hv5) [pp 0,ii x_n] rz (hq (rB134 v3.1) (rens_same (nr_B_134 _)) hs_nil) ren_b (hq (rB134 v5.1) (rens_same (nr_B_134 _)) hs_nil) ?_)
 refine yt (sp 34 [z1,z3,z4,(15,bb v5.2)]) [z9,z5,z8] 3 ?_
 rcases cond_sf hh with ⟨hb,hh⟩ | ⟨hb,hh⟩
 · refine cF hb (Aw.skip ?_)
   obtain rfl:=some_some hh
   exact hN4 (v1.2,v5.1.b,v5.1.p,v2.2,v3.2) _ _ _ hk4 (el [some 0,some 1,some 2] (rens_sp kr (rp 1 (rp 2 rl_n))) (hq (rB134 v5.1) rz (hq q1 rz (hq q2 rz hs_nil))))
 refine cT hb (Aw.sreg [0,4,5,17] [0,1,2] (yu 1 [(16,pp 0)] [z9,z5,z8] 3 ?_))
 obtain ⟨v6,hv6,hh⟩:=bind_some hh
 let z10:EH:=(0,some (rB134 v6.1)); let z11:=(23,bb (decide (v6.2=(0:Int)))); let z12:=(30,bb (decide (v6.2=(1:Int))))
 refine ys (.call 49 [(.t 16),(.c (ii 3))]) (some 17) (cf (ii v6.2) [z10] 3 [0] (__spec_l20Rd__pick_fn hv6) [pp 0,ii 3] rz (hq (rB134 v5.1) (rens_same (nr_B_134 _)) hs_nil) ren_i (hq (rB134 v6.1) (rens_same (nr_B_134 _)) hs_nil) ?_)
 refine yt (sp 34 [z1,z3,z4,(17,ii v6.2)]) [z10,z5,z8] 3 (Aw.block (sy [0,4,5,17,23] [0,1,2] (sp 34 [z1,z3,z4,(17,ii v6.2),z11]) [z10,z5,z8] 3 ?_))
 rcases cond_some hh with ⟨hb,hh⟩ | ⟨hb,hh⟩
 · refine cT hb (Aw.oreg (yu 1 [(25,pp 0)] [z10,z5,z8] 3 ?_))
   obtain ⟨v7,hv7,hh⟩:=bind_some hh
   refine ys (.call 49 [(.t 25),(.c (ii 2))]) (some 26) (cf (ii v7.2) [(0,some (rB134 v7.1))] 3 [0] (__spec_l20Rd__pick_fn hv7) [pp 0,ii 2] rz (hq (rB134 v6.1) (rens_same (nr_B_134 _)) hs_nil) ren_i (hq (rB134 v7.1) (rens_same (nr_B_134 _)) hs_nil) ?_)
   let q4:Root:=⟨45,[ii (w64 ((16:Int) - (w64 (v7.2*(17:Int))))),ii v2.2,ii v3.2]⟩
   refine ye (sp 34 [z1,z3,z4,(17,ii v6.2),z11,(25,pp 0),(26,ii v7.2),(27,ii (w64 (v7.2*(17:Int)))),(28,ii (w64 ((16:Int) - (w64 (v7.2*(17:Int)))))),(29,pp 2)]) [(2,some q4),(0,some (rB134 v7.1)),(0,none),z10,z5,z8] 3 (blk_m ?_)
   obtain rfl:=some_some hh
   exact hN4 ((w64 ((16:Int) - (w64 (v7.2*(17:Int))))),v7.1.b,v7.1.p,v2.2,v3.2) _ _ _ hk4 (el [some 0,some 1,some 2] (rens_sp kr (rp 1 (rp 2 rl_n))) (hq (rB134 v7.1) rz (hq q1 rz (hq q4 rz hs_nil))))
 refine cF hb (sy [0,4,5,30] [0,1,2] (sp 34 [z1,z3,z4,z12]) [z10,z5,z8] 3 ?_)
 rcases cond_some hh with ⟨hb,hh⟩ | ⟨hb,hh⟩
 · refine cT hb (Aw.oreg ?_)
   let q5:Root:=⟨45,[ii v1.2,ii 4,ii v3.2]⟩
   refine ye (sp 34 [z1,z3,z4,z12,(32,.ptr 2 [] 1)]) [(2,some q5),z10,z5,z8] 3 (blk_m ?_)
   obtain rfl:=some_some hh
   exact hN4 (v1.2,v6.1.b,v6.1.p,(4:Int),v3.2) _ _ _ hk4 (el [some 0,some 1,some 2] (rens_sp kr (rp 1 (rp 2 rl_n))) (hq (rB134 v6.1) rz (hq q1 rz (hq q5 rz hs_nil))))
 refine cF hb (Aw.oreg (yu 1 [(18,pp 0)] [z10,z5,z8] 3 ?_))
 obtain ⟨v8,hv8,hh⟩:=bind_some hh
 refine ys (.call 49 [(.t 18),(.c (ii 2))]) (some 19) (cf (ii v8.2) [(0,some (rB134 v8.1))] 3 [0] (__spec_l20Rd__pick_fn hv8) [pp 0,ii 2] rz (hq (rB134 v6.1) (rens_same (nr_B_134 _)) hs_nil) ren_i (hq (rB134 v8.1) (rens_same (nr_B_134 _)) hs_nil) ?_)
 let q6:Root:=⟨45,[ii v1.2,ii v2.2,ii (w64 ((64:Int) - (w64 (v8.2*(65:Int)))))]⟩
 refine ye (sp 34 [z1,z3,z4,(18,pp 0),(19,ii v8.2),(20,ii (w64 (v8.2*(65:Int)))),(21,ii (w64 ((64:Int) - (w64 (v8.2*(65:Int)))))),(22,.ptr 2 [] 2),z12]) [(2,some q6),(0,some (rB134 v8.1)),(0,none),z10,z5,z8] 3 (blk_m ?_)
 obtain rfl:=some_some hh
 exact hN4 (v1.2,v8.1.b,v8.1.p,v2.2,(w64 ((64:Int) - (w64 (v8.2*(65:Int)))))) _ _ _ hk4 (el [some 0,some 1,some 2] (rens_sp kr (rp 1 (rp 2 rl_n))) (hq (rB134 v8.1) rz (hq q1 rz (hq q6 rz hs_nil))))
theorem low_spec_l20Code:LW 115 ⟨64,[(.tmp 2)],(.seq (.reg false (rg 115 0)) (.seq (.reg false (rg 115 1)) (.seq (.seq (.reg false (rg 115 2)) (.block 0 (.loop (.seq (.seq (.reg false (rg 115 3)) (.cond (.t 11) .skip (.exit 0))) (.seq (.block 1 (.seq (.reg false (rg 115 4)) (.block 2 (.seq (.seq (.reg false (rg 115 5)) (.cond (.t 41) .skip (.reg false (rg 115 6)))) (.cond (.t 41) (.seq (.reg false (rg 115 7)) (.cond (.t 46) (.reg false (rg 115 8)) .skip)) (.seq (.reg false (rg 115 9)) (.seq (.seq (.reg false (rg 115 10)) (.cond (.t 20) (.reg false (rg 115 11)) .skip)) (.seq (.seq (.reg false (rg 115 12)) (.cond (.t 34) (.reg false (rg 115 13)) .skip)) (.reg false (rg 115 14)))))))))) (.reg false (rg 115 15))))))) (.seq (.reg false (rg 115 17)) .ret))))⟩:=kr
noncomputable def F_spec_l20Code_j2  (s2:(List Int) × (List Int) × Int):Option (Dl20Rd × (List Int)) :=
 some ((Dl20Rd.mk s2.2.1 s2.2.2),s2.1)
noncomputable def F_spec_l20Code_j4 (s3:(List Int) × Int × (List Int) × Int) (s4:(List Int) × Int × (List Int)):Option (LO ((List Int) × Int × (List Int) × Int) (JO ((List Int) × (List Int) × Int) (Dl20Rd × (List Int)))) :=
 some (.next (s4.1,s4.2.1,s4.2.2,(w64 (s3.2.2.2+(1:Int)))))
noncomputable def F_spec_l20Code_j13 (s3:(List Int) × Int × (List Int) × Int) (v11:Dl20Rd × DIns) (s13:(List Int) × Int × Int):Option (JO ((List Int) × Int × (List Int)) (LO ((List Int) × Int × (List Int) × Int) (JO ((List Int) × (List Int) × Int) (Dl20Rd × (List Int))))) :=
 Option.bind (F_spec_InsWord (DIns.mk s13.2.2 v11.2.A v11.2.N)) fun v14 =>
 grd ((0:Int)≤s3.2.2.2∧s3.2.2.2<(((List.length s3.2.2.1):Nat):Int)) (some (.go (s13.1,s13.2.1,(List.set s3.2.2.1 (Int.toNat s3.2.2.2) v14))))
noncomputable def F_spec_l20Code_j12 (s3:(List Int) × Int × (List Int) × Int) (v11:Dl20Rd × DIns) (s12:(List Int) × Int × Int):Option (JO ((List Int) × Int × (List Int)) (LO ((List Int) × Int × (List Int) × Int) (JO ((List Int) × (List Int) × Int) (Dl20Rd × (List Int))))) :=
 Option.bind (cond (decide (s12.2.2=(0:Int)))
  (Option.bind (F___spec_l20Rd__pick (Dl20Rd.mk s12.1 s12.2.1) (4:Int)) fun v15 =>
  cond (decide ((0:Int)<v15.2))
   (some (.go (v15.1.b,v15.1.p,(1:Int))))
   (some (.go (v15.1.b,v15.1.p,s12.2.2))))
  (some (.go (s12.1,s12.2.1,s12.2.2)))) fun j13 =>
  JO.run j13 (F_spec_l20Code_j13 s3 v11)
noncomputable def F_spec_l20Code_j5 (s3:(List Int) × Int × (List Int) × Int) (s5:Bool):Option (JO ((List Int) × Int × (List Int)) (LO ((List Int) × Int × (List Int) × Int) (JO ((List Int) × (List Int) × Int) (Dl20Rd × (List Int))))) :=
 cond s5
  (Option.bind (F___spec_l20Rd__pick (Dl20Rd.mk s3.1 s3.2.1) (3:Int)) fun v6 =>
  cond (decide ((0:Int)<v6.2))
   (Option.bind (F___spec_l20Rd__pick v6.1 (8:Int)) fun v7 =>
   Option.bind (F___spec_l20Rd__pick v7.1 (4:Int)) fun v8 =>
   Option.bind (F___spec_l20Rd__pick v8.1 (3:Int)) fun v9 =>
   Option.bind (F_spec_EntryWord (DEntry.mk (decide ((0:Int)<v7.2)) (decide ((0:Int)<v8.2)) (decide ((0:Int)<v9.2)) (Int.tmod s3.2.2.2 (8:Int)))) fun v10 =>
   grd ((0:Int)≤s3.2.2.2∧s3.2.2.2<(((List.length s3.2.2.1):Nat):Int)) (some (.go (v9.1.b,v9.1.p,(List.set s3.2.2.1 (Int.toNat s3.2.2.2) v10)))))
   (some (.go (v6.1.b,v6.1.p,s3.2.2.1))))
  (Option.bind (F_spec_l20Ins (Dl20Rd.mk s3.1 s3.2.1) (0:Int)) fun v11 =>
  Option.bind (Option.bind (F___spec_l20Rd__pick v11.1 (2:Int)) fun v16 =>
   cond (decide (v16.2=(0:Int)))
    (Option.bind (F___spec_l20Rd__pick v16.1 (10:Int)) fun v17 =>
    grd ((0:Int)≤v17.2∧v17.2<((10:Nat):Int)) (some (.go (v17.1.b,v17.1.p,(List.getD ([(1:Int),(2:Int),(3:Int),(4:Int),(3:Int),(4:Int),(6:Int),(7:Int),(11:Int),(15:Int)]:List Int) (Int.toNat v17.2) default)))))
    (some (.go (v16.1.b,v16.1.p,v11.2.Op)))) fun j12 =>
   JO.run j12 (F_spec_l20Code_j12 s3 v11))
noncomputable def F_spec_l20Code_l3  (s3:(List Int) × Int × (List Int) × Int):Option (LO ((List Int) × Int × (List Int) × Int) (JO ((List Int) × (List Int) × Int) (Dl20Rd × (List Int)))) :=
 cond (decide (s3.2.2.2<(((List.length s3.2.2.1):Nat):Int)))
  (Option.bind (Option.bind (cond (decide ((w64 (Int.tdiv s3.2.2.2 (8:Int)))=(1:Int)))
   (some (.go (decide ((w64 (Int.tdiv s3.2.2.2 (8:Int)))=(1:Int)))))
   (some (.go (decide ((w64 (Int.tdiv s3.2.2.2 (8:Int)))=(2:Int)))))) fun j5 =>
   JO.run j5 (F_spec_l20Code_j5 s3)) fun j4 =>
   JO.run j4 (F_spec_l20Code_j4 s3))
  (some (.ret (.go (s3.2.2.1,s3.1,s3.2.1))))
noncomputable def F_spec_l20Code (x_r:Dl20Rd):Option (Dl20Rd × (List Int)) :=
 Option.bind (F_spec_l20Mem x_r (0:Int)) fun v1 =>
 Option.bind (Option.bind (iter (F_spec_l20Code_l3) (v1.1.b,v1.1.p,v1.2,(0:Int))) LO.val) fun j2 =>
  JO.run j2 (F_spec_l20Code_j2)
theorem spec_l20Code_fn {x_r:Dl20Rd} {R_:Dl20Rd × (List Int)} (hh:F_spec_l20Code x_r=some R_):Inl Try.prog 115 [pp 0] [(0,some (rB134 x_r))] 1 (.sref 1 [] 0 (List.length R_.2) 1) [(1,some (rI_3 R_.2)),(0,some ⟨134,[bo (eI .u8) R_.1.b,.int .i64 R_.1.p]⟩)] 2:=by
 let z4:EH:=(0,none); let z5:=(0,pp 0); let z6:EH:=(0,some (rB134 x_r)); let z7:EV:=(21,.sref 3 [] 0 10 1); let z8:=(5,pp 2)
 unfold F_spec_l20Code at hh
 refine Inl.start low_spec_l20Code [0] [0] (E:=sp 64 [z5]) (H1:=[z6]) kr kr (sy [0] [0] (sp 64 [z5]) [z6] 1 (Aw.sreg [0,3] [0,1] (yu 1 [(6,pp 0)] [z6] 1 ?_)))
 obtain ⟨v1,hv1,hh⟩:=bind_some hh
 let z9:EH:=(0,some (rB134 v1.1)); let z10:EH:=(1,some (rI_3 v1.2))
 refine ys (.call 118 [(.t 6),(.c (ii 0))]) (some 7) (cf (sw 1 v1.2) [z10,z9] 2 [0] (spec_l20Mem_fn hv1) [pp 0,ii 0] rz (hq (rB134 x_r) (rens_same (nr_B_134 _)) hs_nil) ren_sy (hn nr_eI (hq (rB134 v1.1) (rens_same (nr_B_134 _)) hs_nil)) ?_)
 refine yt (sp 64 [z5,(3,sw 1 v1.2)]) [z9,z10] 2 ?_
 obtain ⟨j2,hh,hk2⟩:=bind_some hh
 refine Aw.join (S:=(List Int) × (List Int) × Int) (fun s2=>sp 64 [(3,sw 1 s2.1)]) (fun s2=>[(0,some ⟨134,[bo (eI .u8) s2.2.1,ii s2.2.2]⟩),(1,some (rI_3 s2.1))]) 2 (fun s2=>F_spec_l20Code_j2 s2=some R_) ?_ ?_
 · intro s2 hh
   unfold F_spec_l20Code_j2 at hh
   refine Aw.sreg [2] [0,1] ?_
   let q1:Root:=⟨134,[bo (eI .u8) s2.2.1,ii s2.2.2]⟩
   refine yt (sp 64 [(2,sw 1 s2.1)]) [(0,some q1),(1,some (rI_3 s2.1))] 2 (Aw.ret ?_)
   rw [some_some hh]
   exact gives (r':=sw 1 s2.1) kr (el [some 0,some 1] (rens_1 ren_sy) (hn nr_eI (hq q1 rz hs_nil)))
 intro Q2 hN2 hR2 hE2
 refine sy [0,3,4] [0,1] (sp 64 [z5,(3,sw 1 v1.2),(4,ii 0)]) [z9,z10] 2 (Aw.block ?_)
 obtain ⟨o3,hi3,hk3⟩:=bind_some hh
 refine Aw.iter (fun (s3:(List Int) × Int × (List Int) × Int)=>sp 64 [(0,pp 0),(3,sw 1 s3.2.2.1),(4,ii s3.2.2.2)]) (fun (s3:(List Int) × Int × (List Int) × Int)=>[(0,some ⟨134,[bo (eI .u8) s3.1,ii s3.2.1]⟩),(1,some (rI_3 s3.2.2.1))]) 2 hi3 (el [some 0,some 1] (rens_sp kr (rp 0 (rs (sw 1 v1.2) (ri rl_n)))) (hq (rB134 v1.1) rz (hn nr_eI hs_nil))) ?_
 intro s3 u3 Q3 hh hN3 hX3 hR3
 let z11:=(15,ii (w64 (Int.tdiv s3.2.2.2 (8:Int)))); let z12:=(3,sw 1 s3.2.2.1); let z13:=(36,sw 1 s3.2.2.1); let z14:=(37,ii s3.2.2.2); let z15:=(4,ii s3.2.2.2); let z16:EV:=(40,.ptr 1 [] (0+(Int.toNat s3.2.2.2)*1)); let z17:=(47,sw 1 s3.2.2.1); let z18:=(48,ii s3.2.2.2); let z19:=(58,ii s3.2.2.2); let z20:=(59,ii (Int.tmod s3.2.2.2 (8:Int))); let z21:EV:=(62,.ptr 1 [] (0+(Int.toNat s3.2.2.2)*1))
 unfold F_spec_l20Code_l3 at hh
 refine Aw.seq (Aw.sreg [0,3,4,11] [0,1] ?_)
 let q2:Root:=⟨134,[bo (eI .u8) s3.1,ii s3.2.1]⟩; let z22:=(0,some q2); let q3:Root:=(rI_3 s3.2.2.1); let z23:=(1,some q3)
 refine yt (sp 64 [z5,z12,z15,(11,bb (decide (s3.2.2.2<(((List.length s3.2.2.1):Nat):Int))))]) [z22,z23] 2 ?_
 rcases cond_sf hh with ⟨hb,hh⟩ | ⟨hb,hh⟩
 · refine cF hb (Aw.exit (then_x (hX3 _ _ _ _ _ (some_some hh) ?_)))
   intro hout
   rw [hout] at hk3
   refine blk_x ?_
   obtain rfl:=some_some hk3
   exact hN2 (s3.2.2.1,s3.1,s3.2.1) _ _ _ hk2 (el [some 0,some 1] (rens_sp kr (rs (sw 1 s3.2.2.1) rl_n)) (hq q2 rz (hn nr_eI hs_nil)))
 refine cT hb (Aw.xskip (fun _ _ _ hq=>then_m hq) ?_)
 obtain ⟨j4,hh,hk4⟩:=bind_some hh
 refine Aw.join (S:=(List Int) × Int × (List Int)) (fun s4=>sp 64 [(0,pp 0),(3,sw 1 s4.2.2),(4,ii s3.2.2.2)]) (fun s4=>[(0,some ⟨134,[bo (eI .u8) s4.1,ii s4.2.1]⟩),(1,some (rI_3 s4.2.2))]) 2 (fun s4=>F_spec_l20Code_j4 s3 s4=some u3) ?_ ?_
 · intro s4 hh
   unfold F_spec_l20Code_j4 at hh
   refine Aw.oreg ?_
   let q4:Root:=⟨134,[bo (eI .u8) s4.1,ii s4.2.1]⟩; let q5:Root:=(rI_3 s4.2.2)
   exact ye (sp 64 [z5,(3,sw 1 s4.2.2),(4,ii (w64 (s3.2.2.2+(1:Int)))),(12,ii s3.2.2.2),(13,ii (w64 (s3.2.2.2+(1:Int))))]) [(0,some q4),(1,some q5)] 2 (hN3 (s4.1,s4.2.1,s4.2.2,(w64 (s3.2.2.2+(1:Int)))) _ _ _ (some_some hh) (el [some 0,some 1] (rens_sp kr (rp 0 (rs (sw 1 s4.2.2) (ri rl_n)))) (hq q4 rz (hn nr_eI hs_nil))))
 intro Q4 hN4 hR4 hE4
 refine Aw.block (Aw.sreg [0,3,4,15] [0,1] (ytc [(8:Int)≠0] (sp 64 [z5,z12,z15,z11]) [z22,z23] 2 (.cons dd .nil) (Aw.block ?_)))
 obtain ⟨j5,hh,hk5⟩:=bind_some hh
 refine Aw.join (S:=Bool) (fun s5=>sp 64 [(0,pp 0),(3,sw 1 s3.2.2.1),(4,ii s3.2.2.2),(41,bb s5)]) (fun s5=>[(0,some ⟨134,[bo (eI .u8) s3.1,ii s3.2.1]⟩),(1,some (rI_3 s3.2.2.1))]) 2 (fun s5=>F_spec_l20Code_j5 s3 s5=some j4) ?_ ?_
 · intro s5 hh
   unfold F_spec_l20Code_j5 at hh
   rcases cond_some hh with ⟨hb,hh⟩ | ⟨hb,hh⟩
   · refine cT hb (Aw.sreg [0,3,4,46] [0,1] (yj 1  (sp 64 [z5,z12,z15,(41,bb s5),(44,pp 0)]) [z22,z23] 2 ?_))
     obtain ⟨v6,hv6,hh⟩:=bind_some hh
     let z24:EH:=(0,some (rB134 v6.1)); let z25:=(46,bb (decide ((0:Int)<v6.2)))
     refine ys (.call 49 [(.t 44),(.c (ii 3))]) (some 45) (cf (ii v6.2) [z24] 2 [0] (__spec_l20Rd__pick_fn hv6) [pp 0,ii 3] rz (hq q2 rz hs_nil) ren_i (hq (rB134 v6.1) (rens_same (nr_B_134 _)) hs_nil) ?_)
     refine yt (sp 64 [z5,z12,z15,z25]) [z24,z23] 2 ?_
     rcases cond_sf hh with ⟨hb,hh⟩ | ⟨hb,hh⟩
     · refine cF hb (Aw.skip (blk_m (blk_m ?_)))
       obtain rfl:=some_some hh
       exact hN4 (v6.1.b,v6.1.p,s3.2.2.1) _ _ _ hk4 (el [some 0,some 1] (rens_sp kr (rp 0 (rs (sw 1 s3.2.2.1) (ri rl_n)))) (hq (rB134 v6.1) rz (hn nr_eI hs_nil)))
     refine cT hb (Aw.oreg (yu 3 [z17,z18,(49,pp 0)] [z24,z23] 2 ?_))
     obtain ⟨v7,hv7,hh⟩:=bind_some hh
     let z26:EH:=(0,some (rB134 v7.1)); let z27:=(51,bb (decide ((0:Int)<v7.2)))
     refine ys (.call 49 [(.t 49),(.c (ii 8))]) (some 50) (cf (ii v7.2) [z26] 2 [0] (__spec_l20Rd__pick_fn hv7) [pp 0,ii 8] rz (hq (rB134 v6.1) (rens_same (nr_B_134 _)) hs_nil) ren_i (hq (rB134 v7.1) (rens_same (nr_B_134 _)) hs_nil) ?_)
     refine yu 2 [(50,ii v7.2),z27,(52,pp 0)] [z26,z4,z24,z23] 2 ?_
     obtain ⟨v8,hv8,hh⟩:=bind_some hh
     let z28:EH:=(0,some (rB134 v8.1)); let z29:=(54,bb (decide ((0:Int)<v8.2)))
     refine ys (.call 49 [(.t 52),(.c (ii 4))]) (some 53) (cf (ii v8.2) [z28] 2 [0] (__spec_l20Rd__pick_fn hv8) [pp 0,ii 4] rz (hq (rB134 v7.1) (rens_same (nr_B_134 _)) hs_nil) ren_i (hq (rB134 v8.1) (rens_same (nr_B_134 _)) hs_nil) ?_)
     refine yu 2 [(53,ii v8.2),z29,(55,pp 0)] [z28,z4,z26,z4,z24,z23] 2 ?_
     obtain ⟨v9,hv9,hh⟩:=bind_some hh
     let z30:EH:=(0,some (rB134 v9.1)); let z31:=(57,bb (decide ((0:Int)<v9.2))); let z32:EV:=(60,.agg [bb (decide ((0:Int)<v7.2)),bb (decide ((0:Int)<v8.2)),bb (decide ((0:Int)<v9.2)),ii (Int.tmod s3.2.2.2 (8:Int))])
     refine ys (.call 49 [(.t 55),(.c (ii 3))]) (some 56) (cf (ii v9.2) [z30] 2 [0] (__spec_l20Rd__pick_fn hv9) [pp 0,ii 3] rz (hq (rB134 v8.1) (rens_same (nr_B_134 _)) hs_nil) ren_i (hq (rB134 v9.1) (rens_same (nr_B_134 _)) hs_nil) ?_)
     refine yjc 4 [(8:Int)≠0] (sp 64 [z5,z12,z15,z25,z17,z18,(49,pp 0),(50,ii v7.2),z27,(52,pp 0),(53,ii v8.2),z29,(55,pp 0),(56,ii v9.2),z31,z19,z20,z32]) [z30,z4,z28,z4,z26,z4,z24,z23] 2 (.cons dd .nil) ?_
     obtain ⟨v10,hv10,hh⟩:=bind_some hh
     let z1:=List.set s3.2.2.1 (Int.toNat s3.2.2.2) v10
     refine ys (.call 155 [(.t 60)]) (some 61) (oc (spec_EntryWord_fn hv10) ?_)
     obtain ⟨hg172,hh⟩:=grd_some hh
     refine yjc 1 [(0:Int)≤s3.2.2.2∧s3.2.2.2<(((List.length s3.2.2.1):Nat):Int)] (sp 64 [z5,z12,z15,z25,z17,z18,(49,pp 0),(50,ii v7.2),z27,(52,pp 0),(53,ii v8.2),z29,(55,pp 0),(56,ii v9.2),z31,z19,z20,z32,(61,ii v10),z21]) [z30,z4,z28,z4,z26,z4,z24,z23] 2 (.cons hg172 .nil) ?_
     let q6:Root:=(rI_3 z1)
     refine ys (.store 1 (.t 62) (.t 61)) none (op_store (c:=(eI .i64)) (xs:=s3.2.2.1) (e:=3) (r:=1) (π:=[]) (o:=0+(Int.toNat s3.2.2.2)*1) (i:=(Int.toNat s3.2.2.2)) (off:=0) (vs:=[ii v10]) (y:=v10) (H':=[(1,some q6),z30,z4,z28,z4,z26,z4,z24,z23]) len_eI kr kr kr kr ltn ltn dd kr kr ?_)
     refine ye (sp 64 [z5,z12,z15,z25,z17,z18,(49,pp 0),(50,ii v7.2),z27,(52,pp 0),(53,ii v8.2),z29,(55,pp 0),(56,ii v9.2),z31,z19,z20,z32,(61,ii v10),z21]) [(1,some q6),z30,z4,z28,z4,z26,z4,z24,z23] 2 (blk_m (blk_m ?_))
     obtain rfl:=some_some hh
     exact hN4 (v9.1.b,v9.1.p,z1) _ _ _ hk4 (el [some 0,some 1] (rens_sp kr (rp 0 (rs (sw 1 s3.2.2.1) (ri rl_n)))) (hq (rB134 v9.1) rz (hn nr_eI hs_nil)))
   refine cF hb (Aw.sreg [0,3,4,5] [0,1,2] (yj 1  (sp 64 [z5,z12,z15,(16,pp 0),(41,bb s5)]) [z22,z23] 2 ?_))
   obtain ⟨v11,hv11,hh⟩:=bind_some hh
   let z33:EH:=(0,some (rB134 v11.1)); let z34:EH:=(2,some ⟨45,(C_45 v11.2)⟩)
   refine ys (.call 53 [(.t 16),(.c (ii 0))]) (some 17) (cf (.agg (C_45 v11.2)) [z33] 2 [0] (spec_l20Ins_fn hv11) [pp 0,ii 0] rz (hq q2 rz hs_nil) (ren_agg (rens_same (nr_C_45 _))) (hq (rB134 v11.1) (rens_same (nr_B_134 _)) hs_nil) ?_)
   refine yt (sp 64 [z5,z12,z15,z8]) [z33,z23,z34] 3 ?_
   obtain ⟨j12,hh,hk12⟩:=bind_some hh
   refine Aw.join (S:=(List Int) × Int × Int) (fun s12=>sp 64 [(0,pp 0),(3,sw 1 s3.2.2.1),(4,ii s3.2.2.2),(5,pp 2)]) (fun s12=>[(0,some ⟨134,[bo (eI .u8) s12.1,ii s12.2.1]⟩),(1,some (rI_3 s3.2.2.1)),(2,some ⟨45,[ii s12.2.2,ii v11.2.A,ii v11.2.N]⟩)]) 3 (fun s12=>F_spec_l20Code_j12 s3 v11 s12=some j4) ?_ ?_
   · intro s12 hh
     unfold F_spec_l20Code_j12 at hh
     obtain ⟨j13,hh,hk13⟩:=bind_some hh
     refine Aw.join (S:=(List Int) × Int × Int) (fun s13=>sp 64 [(0,pp 0),(3,sw 1 s3.2.2.1),(4,ii s3.2.2.2),(5,pp 2)]) (fun s13=>[(0,some ⟨134,[bo (eI .u8) s13.1,ii s13.2.1]⟩),(1,some (rI_3 s3.2.2.1)),(2,some ⟨45,[ii s13.2.2,ii v11.2.A,ii v11.2.N]⟩)]) 3 (fun s13=>F_spec_l20Code_j13 s3 v11 s13=some j4) ?_ ?_
     · intro s13 hh
       let z35:EV:=(38,.agg [ii s13.2.2,ii v11.2.A,ii v11.2.N])
       unfold F_spec_l20Code_j13 at hh
       refine Aw.oreg ?_
       let q7:Root:=⟨134,[bo (eI .u8) s13.1,ii s13.2.1]⟩; let q8:Root:=⟨45,[ii s13.2.2,ii v11.2.A,ii v11.2.N]⟩
       refine yj 3  (sp 64 [z5,z12,z15,z8,z13,z14,z35]) [(0,some q7),z23,(2,some q8)] 3 ?_
       obtain ⟨v14,hv14,hh⟩:=bind_some hh
       let z2:=List.set s3.2.2.1 (Int.toNat s3.2.2.2) v14
       refine ys (.call 52 [(.t 38)]) (some 39) (oc (spec_InsWord_fn hv14) ?_)
       obtain ⟨hg178,hh⟩:=grd_some hh
       refine yjc 1 [(0:Int)≤s3.2.2.2∧s3.2.2.2<(((List.length s3.2.2.1):Nat):Int)] (sp 64 [z5,z12,z15,z8,z13,z14,z35,(39,ii v14),z16]) [(0,some q7),z23,(2,some q8)] 3 (.cons hg178 .nil) ?_
       let q9:Root:=(rI_3 z2)
       refine ys (.store 1 (.t 40) (.t 39)) none (op_store (c:=(eI .i64)) (xs:=s3.2.2.1) (e:=3) (r:=1) (π:=[]) (o:=0+(Int.toNat s3.2.2.2)*1) (i:=(Int.toNat s3.2.2.2)) (off:=0) (vs:=[ii v14]) (y:=v14) (H':=[(1,some q9),(0,some q7),z23,(2,some q8)]) len_eI kr kr kr kr ltn ltn dd kr kr ?_)
       refine ye (sp 64 [z5,z12,z15,z8,z13,z14,z35,(39,ii v14),z16]) [(1,some q9),(0,some q7),z23,(2,some q8)] 3 (blk_m (blk_m ?_))
       obtain rfl:=some_some hh
       exact hN4 (s13.1,s13.2.1,z2) _ _ _ hk4 (el [some 0,some 1] (rens_sp kr (rp 0 (rs (sw 1 s3.2.2.1) (ri rl_n)))) (hq q7 rz (hn nr_eI hs_nil)))
     intro Q13 hN13 hR13 hE13
     refine Aw.sreg [0,3,4,5,34] [0,1,2] ?_
     let q10:Root:=⟨134,[bo (eI .u8) s12.1,ii s12.2.1]⟩; let q11:Root:=⟨45,[ii s12.2.2,ii v11.2.A,ii v11.2.N]⟩; let z36:=(2,some q11)
     refine yj 4  (sp 64 [z5,z12,z15,z8,(27,pp 2),(28,ii s12.2.2),(29,bb (decide (s12.2.2=(0:Int)))),(30,bb (decide (s12.2.2=(0:Int))))]) [(0,some q10),z23,z36] 3 ?_
     rcases cond_some hh with ⟨hb,hh⟩ | ⟨hb,hh⟩
     · refine yb 29 hb (yb 30 hb (yu 1 [(29,bb true),(30,bb true),(31,pp 0)] [(0,some q10),z23,z36] 3 ?_))
       obtain ⟨v15,hv15,hh⟩:=bind_some hh
       let z37:EH:=(0,some (rB134 v15.1)); let z38:=(34,bb (decide ((0:Int)<v15.2)))
       refine yg (.call 49 [(.t 31),(.c (ii 4))]) (some 32) 30 true (cf (ii v15.2) [z37] 3 [0] (__spec_l20Rd__pick_fn hv15) [pp 0,ii 4] rz (hq q10 rz hs_nil) ren_i (hq (rB134 v15.1) (rens_same (nr_B_134 _)) hs_nil) ?_)
       refine yt (sp 64 [z5,z12,z15,z8,z38]) [z37,z23,z36] 3 ?_
       rcases cond_sf hh with ⟨hb,hh⟩ | ⟨hb,hh⟩
       · refine cF hb (Aw.skip ?_)
         obtain rfl:=some_some hh
         exact hN13 (v15.1.b,v15.1.p,s12.2.2) _ _ _ hk13 (el [some 0,some 1,some 2] (rens_sp kr (rp 0 (rs (sw 1 s3.2.2.1) (ri (rp 2 rl_n))))) (hq (rB134 v15.1) rz (hn nr_eI (hq q11 rz hs_nil))))
       refine cT hb (Aw.oreg ?_)
       let q12:Root:=⟨45,[ii 1,ii v11.2.A,ii v11.2.N]⟩
       refine ye (sp 64 [z5,z12,z15,z8,z38,(35,pp 2)]) [(2,some q12),z37,z23,z36] 3 ?_
       obtain rfl:=some_some hh
       exact hN13 (v15.1.b,v15.1.p,(1:Int)) _ _ _ hk13 (el [some 0,some 1,some 2] (rens_sp kr (rp 0 (rs (sw 1 s3.2.2.1) (ri (rp 2 rl_n))))) (hq (rB134 v15.1) rz (hn nr_eI (hq q12 rz hs_nil))))
     refine yb 29 hb (yb 30 hb (yt (sp 64 [z5,z12,z15,z8,(34,bb false)]) [(0,some q10),z23,z36] 3 (cF rfl (Aw.skip ?_))))
     obtain rfl:=some_some hh
     exact hN13 (s12.1,s12.2.1,s12.2.2) _ _ _ hk13 (el [some 0,some 1,some 2] (rens_sp kr (rp 0 (rs (sw 1 s3.2.2.1) (ri (rp 2 rl_n))))) (hq q10 rz (hn nr_eI (hq q11 rz hs_nil))))
   intro Q12 hN12 hR12 hE12
   refine Aw.sreg [0,3,4,5,20] [0,1,2] (yj 1  (sp 64 [z5,z12,z15,z8,(18,pp 0)]) [z33,z23,z34] 3 ?_)
   obtain ⟨v16,hv16,hh⟩:=bind_some hh
   let z39:EH:=(0,some (rB134 v16.1)); let z40:=(20,bb (decide (v16.2=(0:Int))))
   refine ys (.call 49 [(.t 18),(.c (ii 2))]) (some 19) (cf (ii v16.2) [z39] 3 [0] (__spec_l20Rd__pick_fn hv16) [pp 0,ii 2] rz (hq (rB134 v11.1) (rens_same (nr_B_134 _)) hs_nil) ren_i (hq (rB134 v16.1) (rens_same (nr_B_134 _)) hs_nil) ?_)
   refine yt (sp 64 [z5,z12,z15,z8,z40]) [z39,z23,z34] 3 ?_
   rcases cond_some hh with ⟨hb,hh⟩ | ⟨hb,hh⟩
   · refine cT hb (Aw.oreg ?_)
     let q13:Root:=⟨3,[ii 1,ii 2,ii 3,ii 4,ii 3,ii 4,ii 6,ii 7,ii 11,ii 15]⟩
     refine yu 2 [z7,(22,pp 0)] [(3,some q13),z39,z23,z34] 4 ?_
     obtain ⟨v17,hv17,hh⟩:=bind_some hh
     let z41:EH:=(0,some (rB134 v17.1)); let z42:EV:=(24,.ptr 3 [] (0+(Int.toNat v17.2)*1)); let z3:=List.getD ([(1:Int),(2:Int),(3:Int),(4:Int),(3:Int),(4:Int),(6:Int),(7:Int),(11:Int),(15:Int)]:List Int) (Int.toNat v17.2) default
     refine ys (.call 49 [(.t 22),(.c (ii 10))]) (some 23) (cf (ii v17.2) [z41] 4 [0] (__spec_l20Rd__pick_fn hv17) [pp 0,ii 10] rz (hq (rB134 v16.1) (rens_same (nr_B_134 _)) hs_nil) ren_i (hq (rB134 v17.1) (rens_same (nr_B_134 _)) hs_nil) ?_)
     obtain ⟨hg180,hh⟩:=grd_some hh
     refine yjc 1 [(0:Int)≤v17.2∧v17.2<((10:Nat):Int)] (sp 64 [z5,z12,z15,z8,z40,z7,(22,pp 0),(23,ii v17.2),z42]) [z41,z4,(3,some q13),z39,z23,z34] 4 (.cons hg180 .nil) (ys (.load false 1 (.t 24)) (some 25) (op_load (c:=(eI .i64)) (xs:=([(1:Int),(2:Int),(3:Int),(4:Int),(3:Int),(4:Int),(6:Int),(7:Int),(11:Int),(15:Int)]:List Int)) (e:=3) (r:=3) (π:=[]) (o:=0+(Int.toNat v17.2)*1) (i:=(Int.toNat v17.2)) (off:=0) (v:=ii z3) len_eI kr kr ltn ltn dd kr ?_))
     let q14:Root:=⟨45,[ii z3,ii v11.2.A,ii v11.2.N]⟩
     refine ye (sp 64 [z5,z12,z15,z8,z40,z7,(22,pp 0),(23,ii v17.2),z42,(25,ii z3),(26,pp 2)]) [(2,some q14),z41,z4,(3,some q13),z39,z23,z34] 4 ?_
     obtain rfl:=some_some hh
     exact hN12 (v17.1.b,v17.1.p,z3) _ _ _ hk12 (el [some 0,some 1,some 2] (rens_sp kr (rp 0 (rs (sw 1 s3.2.2.1) (ri (rp 2 rl_n))))) (hq (rB134 v17.1) rz (hn nr_eI (hq q14 rz hs_nil))))
   refine cF hb (Aw.skip ?_)
   obtain rfl:=some_some hh
   exact hN12 (v16.1.b,v16.1.p,v11.2.Op) _ _ _ hk12 (el [some 0,some 1,some 2] (rens_sp kr (rp 0 (rs (sw 1 s3.2.2.1) (ri (rp 2 rl_n))))) (hq (rB134 v16.1) rz (hn nr_eI (hq ⟨45,(C_45 v11.2)⟩ rz hs_nil))))
 intro Q5 hN5 hR5 hE5
 refine sy [0,3,4,15,41] [0,1] (sp 64 [z5,z12,z15,z11,(41,bb (decide ((w64 (Int.tdiv s3.2.2.2 (8:Int)))=(1:Int))))]) [z22,z23] 2 ?_
 rcases cond_some hh with ⟨hb,hh⟩ | ⟨hb,hh⟩
 · refine cT hb (Aw.skip ?_)
   obtain rfl:=some_some hh
   exact hN5 (decide ((w64 (Int.tdiv s3.2.2.2 (8:Int)))=(1:Int))) _ _ _ hk5 (el [some 0,some 1] (rens_sp kr (rp 0 (rs (sw 1 s3.2.2.1) (ri (rb rl_n))))) (hq q2 rz (hn nr_eI hs_nil)))
 refine cF hb (Aw.oreg (ye (sp 64 [z5,z12,z15,z11,(41,bb (decide ((w64 (Int.tdiv s3.2.2.2 (8:Int)))=(2:Int)))),(43,bb (decide ((w64 (Int.tdiv s3.2.2.2 (8:Int)))=(2:Int))))]) [z22,z23] 2 ?_))
 obtain rfl:=some_some hh
 exact hN5 (decide ((w64 (Int.tdiv s3.2.2.2 (8:Int)))=(2:Int))) _ _ _ hk5 (el [some 0,some 1] (rens_sp kr (rp 0 (rs (sw 1 s3.2.2.1) (ri (rb rl_n))))) (hq q2 rz (hn nr_eI hs_nil)))
theorem low_spec_l20Bare:LW 48 ⟨57,[(.cell 4 true 16)],(.seq (.reg false (rg 48 0)) (.seq (.reg false (rg 48 1)) (.seq (.seq (.reg false (rg 48 2)) (.block 0 (.loop (.seq (.seq (.reg false (rg 48 3)) (.cond (.t 16) .skip (.exit 0))) (.seq (.block 1 (.regd (rg 48 4) (rg 48 5))) (.reg false (rg 48 6))))))) (.seq (.seq (.reg false (rg 48 8)) (.block 2 (.loop (.seq (.seq (.reg false (rg 48 9)) (.cond (.t 29) .skip (.exit 2))) (.seq (.block 3 (.regd (rg 48 10) (rg 48 11))) (.reg false (rg 48 12))))))) (.seq (.seq (.reg false (rg 48 14)) (.cond (.t 41) (.seq (.reg false (rg 48 15)) (.block 4 (.seq (.reg false (rg 48 16)) (.cond (.t 46) (.reg false (rg 48 17)) (.seq (.reg false (rg 48 18)) (.cond (.t 51) (.reg false (rg 48 19)) (.reg false (rg 48 20)))))))) .skip)) (.seq (.reg false (rg 48 21)) .ret))))))⟩:=kr
noncomputable def F_spec_l20Bare_j5 (s4:(List Int) × Int × (List Int)) (s5:(List Int) × Int × Int × Int × Int × Bool × Int × Int × Int × Bool × Bool × Bool × Bool × (List Int) × Int × (List Int) × (List Int)):Option (Dl20Rd × DBare) :=
 some ((Dl20Rd.mk s5.2.2.2.2.2.2.2.2.2.2.2.2.2.1 s5.2.2.2.2.2.2.2.2.2.2.2.2.2.2.1),(DBare.mk (DCore.mk s5.1 s5.2.1 s5.2.2.1 s5.2.2.2.1 s5.2.2.2.2.1 s5.2.2.2.2.2.1 s5.2.2.2.2.2.2.1 s5.2.2.2.2.2.2.2.1 s5.2.2.2.2.2.2.2.2.1 s5.2.2.2.2.2.2.2.2.2.1 s5.2.2.2.2.2.2.2.2.2.2.1 s5.2.2.2.2.2.2.2.2.2.2.2.1 s5.2.2.2.2.2.2.2.2.2.2.2.2.1) s5.2.2.2.2.2.2.2.2.2.2.2.2.2.2.2.1 s5.2.2.2.2.2.2.2.2.2.2.2.2.2.2.2.2 s4.2.2))
noncomputable def F_spec_l20Bare_j4 (x_n:Int) (v1:Dl20Rd × DCore) (v2:Dl20Rd × (List Int)) (s3:(List Int) × Int × (List Int)) (s4:(List Int) × Int × (List Int)):Option (Dl20Rd × DBare) :=
 Option.bind (Option.bind (F___spec_l20Rd__odd (Dl20Rd.mk s4.1 s4.2.1) x_n) fun v6 =>
  cond v6.2
   (Option.bind (F___spec_l20Rd__pick v6.1 (3:Int)) fun v7 =>
   cond (decide (v7.2=(0:Int)))
    (Option.bind (F_spec_l20Core v7.1 (1:Int)) fun v8 =>
    some (.go (v8.2.Regs,v8.2.Pc,v8.2.Root,v8.2.Vector,v8.2.Saved,v8.2.SavedUser,v8.2.Cause,v8.2.Bad,v8.2.Timer,v8.2.Waits,v8.2.User,v8.2.On,v8.2.Stopped,v8.1.b,v8.1.p,v2.2,s3.2.2)))
    (cond (decide (v7.2=(1:Int)))
     (Option.bind (F_spec_l20Mem v7.1 (1:Int)) fun v9 =>
     some (.go (v1.2.Regs,v1.2.Pc,v1.2.Root,v1.2.Vector,v1.2.Saved,v1.2.SavedUser,v1.2.Cause,v1.2.Bad,v1.2.Timer,v1.2.Waits,v1.2.User,v1.2.On,v1.2.Stopped,v9.1.b,v9.1.p,v9.2,s3.2.2)))
     (some (.go (v1.2.Regs,v1.2.Pc,v1.2.Root,v1.2.Vector,v1.2.Saved,v1.2.SavedUser,v1.2.Cause,v1.2.Bad,v1.2.Timer,v1.2.Waits,v1.2.User,v1.2.On,v1.2.Stopped,v7.1.b,v7.1.p,v2.2,(List.replicate (Int.toNat (31:Int)) (0:Int)))))))
   (some (.go (v1.2.Regs,v1.2.Pc,v1.2.Root,v1.2.Vector,v1.2.Saved,v1.2.SavedUser,v1.2.Cause,v1.2.Bad,v1.2.Timer,v1.2.Waits,v1.2.User,v1.2.On,v1.2.Stopped,v6.1.b,v6.1.p,v2.2,s3.2.2)))) fun j5 =>
  JO.run j5 (F_spec_l20Bare_j5 s4)
noncomputable def F_spec_l20Bare_l11  (s11:(List Int) × Int × (List Int) × Int):Option (LO ((List Int) × Int × (List Int) × Int) (JO ((List Int) × Int × (List Int)) (Dl20Rd × DBare))) :=
 cond (decide ((0:Int)<s11.2.2.2))
  (Option.bind (F___spec_l20Rd__word (Dl20Rd.mk s11.1 s11.2.1)) fun v12 =>
  grd ((List.length s11.2.2.1+List.length ([v12.2]:List Int))*8≤2 ^ 47∧List.length s11.2.2.1+List.length ([v12.2]:List Int)≤2 ^ 47) (some (.next (v12.1.b,v12.1.p,(s11.2.2.1 ++ ([v12.2]:List Int)),(w64 (s11.2.2.2 - (1:Int)))))))
  (some (.ret (.go (s11.1,s11.2.1,s11.2.2.1))))
noncomputable def F_spec_l20Bare_j3 (x_n:Int) (v1:Dl20Rd × DCore) (v2:Dl20Rd × (List Int)) (s3:(List Int) × Int × (List Int)):Option (Dl20Rd × DBare) :=
 Option.bind (Option.bind (F___spec_l20Rd__pick (Dl20Rd.mk s3.1 s3.2.1) (3:Int)) fun v10 =>
  Option.bind (iter (F_spec_l20Bare_l11) (v10.1.b,v10.1.p,([]:List Int),v10.2)) LO.val) fun j4 =>
  JO.run j4 (F_spec_l20Bare_j4 x_n v1 v2 s3)
noncomputable def F_spec_l20Bare_l14  (s14:(List Int) × Int × (List Int) × Int):Option (LO ((List Int) × Int × (List Int) × Int) (JO ((List Int) × Int × (List Int)) (Dl20Rd × DBare))) :=
 cond (decide ((0:Int)<s14.2.2.2))
  (Option.bind (F___spec_l20Rd__word (Dl20Rd.mk s14.1 s14.2.1)) fun v15 =>
  grd ((List.length s14.2.2.1+List.length ([v15.2]:List Int))*8≤2 ^ 47∧List.length s14.2.2.1+List.length ([v15.2]:List Int)≤2 ^ 47) (some (.next (v15.1.b,v15.1.p,(s14.2.2.1 ++ ([v15.2]:List Int)),(w64 (s14.2.2.2 - (1:Int)))))))
  (some (.ret (.go (s14.1,s14.2.1,s14.2.2.1))))
noncomputable def F_spec_l20Bare (x_r:Dl20Rd) (x_n:Int):Option (Dl20Rd × DBare) :=
 Option.bind (F_spec_l20Core x_r (0:Int)) fun v1 =>
 Option.bind (F_spec_l20Code v1.1) fun v2 =>
 Option.bind (Option.bind (F___spec_l20Rd__pick v2.1 (4:Int)) fun v13 =>
  Option.bind (iter (F_spec_l20Bare_l14) (v13.1.b,v13.1.p,([]:List Int),v13.2)) LO.val) fun j3 =>
  JO.run j3 (F_spec_l20Bare_j3 x_n v1 v2)
theorem spec_l20Bare_fn {x_r:Dl20Rd} {x_n:Int} {R_:Dl20Rd × DBare} (hh:F_spec_l20Bare x_r x_n=some R_):Inl Try.prog 48 [pp 0,.int .i64 x_n] [(0,some (rB134 x_r))] 1 (.agg (.sref 1 [] 0 (List.length R_.2.C.Regs) 1::ru25 R_.2.C [.sref 2 [] 0 (List.length R_.2.Mem) 1,.sref 3 [] 0 (List.length R_.2.In) 1,.sref 4 [] 0 (List.length R_.2.Out) 1])) [(4,some (rI_3 R_.2.Out)),(3,some (rI_3 R_.2.In)),(2,some (rI_3 R_.2.Mem)),(1,some (rI_3 R_.2.C.Regs)),(0,some ⟨134,[bo (eI .u8) R_.1.b,.int .i64 R_.1.p]⟩)] 5:=by
 let z1:=(0,pp 0); let z2:EH:=(0,some (rB134 x_r)); let z3:=(1,ii x_n); let z4:=(4,pp 1); let z5:=(5,pp 2)
 unfold F_spec_l20Bare at hh
 refine Inl.start low_spec_l20Bare [0,1] [0] (E:=sp 57 [z1,z3]) (H1:=[z2]) kr kr (Aw.sreg [0,1,4] [0,1] ?_)
 let q1:Root:=⟨27,(.nil::zru25 [.nil,.nil,.nil])⟩; let z6:=(1,some q1)
 refine yt (sp 57 [z1,z3,z4]) [z2,z6] 2 (Aw.sreg [0,1,4,5] [0,1,2,3,4] (yu 1 [(8,pp 0)] [z2,z6] 2 ?_))
 obtain ⟨v1,hv1,hh⟩:=bind_some hh
 let q2:Root:=(rI_3 v1.2.Regs); let z7:=(2,some q2); let z8:=(3,some q2)
 refine ys (.call 114 [(.t 8),(.c (ii 0))]) (some 9) (cf (.agg (sw 2 v1.2.Regs::ru25 v1.2 [])) [z7,(0,some (rB134 v1.1))] 3 [0] (spec_l20Core_fn hv1) [pp 0,ii 0] rz (hq (rB134 x_r) (rens_same (nr_B_134 _)) hs_nil) (ren_agg rz) (hn nr_eI (hq (rB134 v1.1) (rens_same (nr_B_134 _)) hs_nil)) ?_)
 refine yu 1 [(9,.agg (sw 2 v1.2.Regs::ru25 v1.2 [])),(10,pp 0)] [z7,(0,some (rB134 v1.1)),(0,none),z2,z6] 3 ?_
 obtain ⟨v2,hv2,hh⟩:=bind_some hh
 let z9:EH:=(0,some (rB134 v2.1)); let z10:EH:=(3,some (rI_3 v2.2)); let z11:EH:=(4,some (rI_3 v2.2))
 refine ys (.call 115 [(.t 10)]) (some 11) (cf (sw 3 v2.2) [z10,z9] 4 [0] (spec_l20Code_fn hv2) [pp 0] rz (hq (rB134 v1.1) (rens_same (nr_B_134 _)) hs_nil) ren_sy (hn nr_eI (hq (rB134 v2.1) (rens_same (nr_B_134 _)) hs_nil)) ?_)
 let q3:Root:=⟨27,(sw 2 v1.2.Regs::ru25 v1.2 [sw 3 v2.2,.nil,.nil])⟩
 refine yt (sp 57 [z1,z3,z4,(5,pp 4)]) [z9,z6,z7,z10,(4,some q3)] 5 ?_
 obtain ⟨j3,hh,hk3⟩:=bind_some hh
 refine Aw.join (S:=(List Int) × Int × (List Int)) (fun s3=>sp 57 [(0,pp 0),(1,ii x_n),(4,pp 1),(5,pp 2)]) (fun s3=>[(0,some ⟨134,[bo (eI .u8) s3.1,ii s3.2.1]⟩),(1,some ⟨27,(.nil::zru25 [.nil,.nil,.nil])⟩),(2,some ⟨27,(sw 3 v1.2.Regs::ru25 v1.2 [sw 4 v2.2,sw 5 s3.2.2,.nil])⟩),(3,some (rI_3 v1.2.Regs)),(4,some (rI_3 v2.2)),(5,some (rI_3 s3.2.2))]) 6 (fun s3=>F_spec_l20Bare_j3 x_n v1 v2 s3=some R_) ?_ ?_
 · intro s3 hh
   unfold F_spec_l20Bare_j3 at hh
   obtain ⟨j4,hh,hk4⟩:=bind_some hh
   refine Aw.join (S:=(List Int) × Int × (List Int)) (fun s4=>sp 57 [(0,pp 0),(1,ii x_n),(4,pp 1),(5,pp 2)]) (fun s4=>[(0,some ⟨134,[bo (eI .u8) s4.1,ii s4.2.1]⟩),(1,some ⟨27,(.nil::zru25 [.nil,.nil,.nil])⟩),(2,some ⟨27,(sw 3 v1.2.Regs::ru25 v1.2 [sw 4 v2.2,sw 5 s3.2.2,sw 6 s4.2.2])⟩),(3,some (rI_3 v1.2.Regs)),(4,some (rI_3 v2.2)),(5,some (rI_3 s3.2.2)),(6,some (rI_3 s4.2.2))]) 7 (fun s4=>F_spec_l20Bare_j4 x_n v1 v2 s3 s4=some R_) ?_ ?_
   · intro s4 hh
     unfold F_spec_l20Bare_j4 at hh
     obtain ⟨j5,hh,hk5⟩:=bind_some hh
     refine Aw.join (S:=(List Int) × Int × Int × Int × Int × Bool × Int × Int × Int × Bool × Bool × Bool × Bool × (List Int) × Int × (List Int) × (List Int)) (fun s5=>sp 57 [(4,pp 1),(5,pp 2)]) (fun s5=>[(0,some ⟨134,[bo (eI .u8) s5.2.2.2.2.2.2.2.2.2.2.2.2.2.1,ii s5.2.2.2.2.2.2.2.2.2.2.2.2.2.2.1]⟩),(1,some ⟨27,(.nil::zru25 [.nil,.nil,.nil])⟩),(2,some ⟨27,[sw 3 s5.1,ii s5.2.1,ii s5.2.2.1,ii s5.2.2.2.1,ii s5.2.2.2.2.1,bb s5.2.2.2.2.2.1,ii s5.2.2.2.2.2.2.1,ii s5.2.2.2.2.2.2.2.1,ii s5.2.2.2.2.2.2.2.2.1,bb s5.2.2.2.2.2.2.2.2.2.1,bb s5.2.2.2.2.2.2.2.2.2.2.1,bb s5.2.2.2.2.2.2.2.2.2.2.2.1,bb s5.2.2.2.2.2.2.2.2.2.2.2.2.1,sw 4 s5.2.2.2.2.2.2.2.2.2.2.2.2.2.2.2.1,sw 5 s5.2.2.2.2.2.2.2.2.2.2.2.2.2.2.2.2,sw 6 s4.2.2]⟩),(3,some (rI_3 s5.1)),(4,some (rI_3 s5.2.2.2.2.2.2.2.2.2.2.2.2.2.2.2.1)),(5,some (rI_3 s5.2.2.2.2.2.2.2.2.2.2.2.2.2.2.2.2)),(6,some (rI_3 s4.2.2))]) 7 (fun s5=>F_spec_l20Bare_j5 s4 s5=some R_) ?_ ?_
     · intro s5 hh
       unfold F_spec_l20Bare_j5 at hh
       refine Aw.sreg [4] [0,1,3,4,5,6] ?_
       let q4:Root:=⟨134,[bo (eI .u8) s5.2.2.2.2.2.2.2.2.2.2.2.2.2.1,ii s5.2.2.2.2.2.2.2.2.2.2.2.2.2.2.1]⟩; let q5:Root:=(rI_3 s5.2.2.2.2.2.2.2.2.2.2.2.2.2.2.2.1); let q6:Root:=(rI_3 s5.2.2.2.2.2.2.2.2.2.2.2.2.2.2.2.2); let q7:Root:=(rI_3 s4.2.2)
       refine yt (sp 57 [z4]) [(0,some q4),(1,some ⟨27,[sw 3 s5.1,ii s5.2.1,ii s5.2.2.1,ii s5.2.2.2.1,ii s5.2.2.2.2.1,bb s5.2.2.2.2.2.1,ii s5.2.2.2.2.2.2.1,ii s5.2.2.2.2.2.2.2.1,ii s5.2.2.2.2.2.2.2.2.1,bb s5.2.2.2.2.2.2.2.2.2.1,bb s5.2.2.2.2.2.2.2.2.2.2.1,bb s5.2.2.2.2.2.2.2.2.2.2.2.1,bb s5.2.2.2.2.2.2.2.2.2.2.2.2.1,sw 4 s5.2.2.2.2.2.2.2.2.2.2.2.2.2.2.2.1,sw 5 s5.2.2.2.2.2.2.2.2.2.2.2.2.2.2.2.2,sw 6 s4.2.2]⟩),(3,some (rI_3 s5.1)),(4,some q5),(5,some q6),(6,some q7)] 7 (Aw.ret ?_)
       rw [some_some hh]
       exact gives (r':=.agg [sw 3 s5.1,ii s5.2.1,ii s5.2.2.1,ii s5.2.2.2.1,ii s5.2.2.2.2.1,bb s5.2.2.2.2.2.1,ii s5.2.2.2.2.2.2.1,ii s5.2.2.2.2.2.2.2.1,ii s5.2.2.2.2.2.2.2.2.1,bb s5.2.2.2.2.2.2.2.2.2.1,bb s5.2.2.2.2.2.2.2.2.2.2.1,bb s5.2.2.2.2.2.2.2.2.2.2.2.1,bb s5.2.2.2.2.2.2.2.2.2.2.2.2.1,sw 4 s5.2.2.2.2.2.2.2.2.2.2.2.2.2.2.2.1,sw 5 s5.2.2.2.2.2.2.2.2.2.2.2.2.2.2.2.2,sw 6 s4.2.2]) kr (el [some 0,some 3,some 4,some 5,some 6] (rens_1 (ren_agg rz)) (hn nr_eI (hn nr_eI (hn nr_eI (hn nr_eI (hq q4 rz hs_nil))))))
     intro Q5 hN5 hR5 hE5
     refine Aw.sreg [0,4,5,41] [0,1,2,3,4,5,6] ?_
     let q8:Root:=⟨134,[bo (eI .u8) s4.1,ii s4.2.1]⟩; let q9:Root:=⟨27,(sw 3 v1.2.Regs::ru25 v1.2 [sw 4 v2.2,sw 5 s3.2.2,sw 6 s4.2.2])⟩; let z12:=(2,some q9); let q10:Root:=(rI_3 s3.2.2); let z13:=(5,some q10); let q11:Root:=(rI_3 s4.2.2); let z14:=(6,some q11)
     refine yj 2  (sp 57 [z1,z3,z4,z5,(39,pp 0),(40,ii x_n)]) [(0,some q8),z6,z12,z8,z11,z13,z14] 7 ?_
     obtain ⟨v6,hv6,hh⟩:=bind_some hh
     let z15:EH:=(0,some (rB134 v6.1))
     refine ys (.call 117 [(.t 39),(.t 40)]) (some 41) (cf (bb v6.2) [z15] 7 [0] (__spec_l20Rd__odd_fn hv6) [pp 0,ii x_n] rz (hq q8 rz hs_nil) ren_b (hq (rB134 v6.1) (rens_same (nr_B_134 _)) hs_nil) ?_)
     refine yt (sp 57 [z1,z4,z5,(41,bb v6.2)]) [z15,z6,z12,z8,z11,z13,z14] 7 ?_
     rcases cond_some hh with ⟨hb,hh⟩ | ⟨hb,hh⟩
     · refine cT hb (Aw.sreg [0,4,5,43] [0,1,2,3,4,5,6] (yu 1 [(42,pp 0)] [z15,z6,z12,z8,z11,z13,z14] 7 ?_))
       obtain ⟨v7,hv7,hh⟩:=bind_some hh
       let z16:EH:=(0,some (rB134 v7.1)); let z17:=(46,bb (decide (v7.2=(0:Int)))); let z18:=(51,bb (decide (v7.2=(1:Int))))
       refine ys (.call 49 [(.t 42),(.c (ii 3))]) (some 43) (cf (ii v7.2) [z16] 7 [0] (__spec_l20Rd__pick_fn hv7) [pp 0,ii 3] rz (hq (rB134 v6.1) (rens_same (nr_B_134 _)) hs_nil) ren_i (hq (rB134 v7.1) (rens_same (nr_B_134 _)) hs_nil) ?_)
       refine yt (sp 57 [z1,z4,z5,(43,ii v7.2)]) [z16,z6,z12,z8,z11,z13,z14] 7 (Aw.block (sy [0,4,5,43,46] [0,1,2,3,4,5,6] (sp 57 [z1,z4,z5,(43,ii v7.2),z17]) [z16,z6,z12,z8,z11,z13,z14] 7 ?_))
       rcases cond_some hh with ⟨hb,hh⟩ | ⟨hb,hh⟩
       · refine cT hb (Aw.oreg (yu 1 [(48,pp 0)] [z16,z6,z12,z8,z11,z13,z14] 7 ?_))
         obtain ⟨v8,hv8,hh⟩:=bind_some hh
         let q12:Root:=(rI_3 v8.2.Regs)
         refine ys (.call 114 [(.t 48),(.c (ii 1))]) (some 49) (cf (.agg (sw 7 v8.2.Regs::ru25 v8.2 [])) [(7,some q12),(0,some (rB134 v8.1))] 8 [0] (spec_l20Core_fn hv8) [pp 0,ii 1] rz (hq (rB134 v7.1) (rens_same (nr_B_134 _)) hs_nil) (ren_agg rz) (hn nr_eI (hq (rB134 v8.1) (rens_same (nr_B_134 _)) hs_nil)) ?_)
         let q13:Root:=⟨27,(sw 7 v8.2.Regs::ru25 v8.2 [sw 4 v2.2,sw 5 s3.2.2,sw 6 s4.2.2])⟩
         refine ye (sp 57 [z1,z4,z5,(43,ii v7.2),z17,(48,pp 0),(49,.agg (sw 7 v8.2.Regs::ru25 v8.2 [])),(50,pp 2)]) [(2,some q13),(7,some q12),(0,some (rB134 v8.1)),(0,none),z16,z6,z12,z8,z11,z13,z14] 8 (blk_m ?_)
         obtain rfl:=some_some hh
         exact hN5 (v8.2.Regs,v8.2.Pc,v8.2.Root,v8.2.Vector,v8.2.Saved,v8.2.SavedUser,v8.2.Cause,v8.2.Bad,v8.2.Timer,v8.2.Waits,v8.2.User,v8.2.On,v8.2.Stopped,v8.1.b,v8.1.p,v2.2,s3.2.2) _ _ _ hk5 (el [some 0,some 1,some 2,some 7,some 4,some 5,some 6] (rens_sp kr (rp 1 (rp 2 rl_n))) (hq (rB134 v8.1) rz (hq q1 rz (hq q13 rz (hn nr_eI (hn nr_eI (hn nr_eI (hn nr_eI hs_nil))))))))
       refine cF hb (sy [0,4,5,51] [0,1,2,3,4,5,6] (sp 57 [z1,z4,z5,z18]) [z16,z6,z12,z8,z11,z13,z14] 7 ?_)
       rcases cond_sf hh with ⟨hb,hh⟩ | ⟨hb,hh⟩
       · refine cF hb (Aw.oreg (ys (.mk 3 1 8 [(ii 0)] (.c (ii 31))) (some 44) (op_mk (c:=(eI .i64)) (d:=(0:Int)) (k:=(31:Int)) kr dd kr ?_)))
         let q15:Root:=⟨27,(sw 3 v1.2.Regs::ru25 v1.2 [sw 4 v2.2,.sref 7 [] 0 (List.length (List.replicate (Int.toNat (31:Int)) (0:Int))) 1,sw 6 s4.2.2])⟩; let q16:Root:=(rI_3 (List.replicate (Int.toNat (31:Int)) (0:Int)))
         refine ye (sp 57 [z1,z4,z5,(44,.sref 7 [] 0 (List.length (List.replicate (Int.toNat (31:Int)) (0:Int))) 1),(45,.ptr 2 [] 14),z18]) [(2,some q15),(7,some q16),z16,z6,z12,z8,z11,z13,z14] 8 (blk_m ?_)
         obtain rfl:=some_some hh
         exact hN5 (v1.2.Regs,v1.2.Pc,v1.2.Root,v1.2.Vector,v1.2.Saved,v1.2.SavedUser,v1.2.Cause,v1.2.Bad,v1.2.Timer,v1.2.Waits,v1.2.User,v1.2.On,v1.2.Stopped,v7.1.b,v7.1.p,v2.2,(List.replicate (Int.toNat (31:Int)) (0:Int))) _ _ _ hk5 (el [some 0,some 1,some 2,some 3,some 4,some 7,some 6] (rens_sp kr (rp 1 (rp 2 rl_n))) (hq (rB134 v7.1) rz (hq q1 rz (hq q15 rz (hn nr_eI (hn nr_eI (hn nr_eI (hn nr_eI hs_nil))))))))
       refine cT hb (Aw.oreg (yu 1 [(53,pp 0)] [z16,z6,z12,z8,z11,z13,z14] 7 ?_))
       obtain ⟨v9,hv9,hh⟩:=bind_some hh
       refine ys (.call 118 [(.t 53),(.c (ii 1))]) (some 54) (cf (sw 7 v9.2) [(7,some (rI_3 v9.2)),(0,some (rB134 v9.1))] 8 [0] (spec_l20Mem_fn hv9) [pp 0,ii 1] rz (hq (rB134 v7.1) (rens_same (nr_B_134 _)) hs_nil) ren_sy (hn nr_eI (hq (rB134 v9.1) (rens_same (nr_B_134 _)) hs_nil)) ?_)
       let q14:Root:=⟨27,(sw 3 v1.2.Regs::ru25 v1.2 [sw 7 v9.2,sw 5 s3.2.2,sw 6 s4.2.2])⟩
       refine ye (sp 57 [z1,z4,z5,z18,(53,pp 0),(54,sw 7 v9.2),(55,.ptr 2 [] 13)]) [(2,some q14),(7,some (rI_3 v9.2)),(0,some (rB134 v9.1)),(0,none),z16,z6,z12,z8,z11,z13,z14] 8 (blk_m ?_)
       obtain rfl:=some_some hh
       exact hN5 (v1.2.Regs,v1.2.Pc,v1.2.Root,v1.2.Vector,v1.2.Saved,v1.2.SavedUser,v1.2.Cause,v1.2.Bad,v1.2.Timer,v1.2.Waits,v1.2.User,v1.2.On,v1.2.Stopped,v9.1.b,v9.1.p,v9.2,s3.2.2) _ _ _ hk5 (el [some 0,some 1,some 2,some 3,some 7,some 5,some 6] (rens_sp kr (rp 1 (rp 2 rl_n))) (hq (rB134 v9.1) rz (hq q1 rz (hq q14 rz (hn nr_eI (hn nr_eI (hn nr_eI (hn nr_eI hs_nil))))))))
     refine cF hb (Aw.skip ?_)
     obtain rfl:=some_some hh
     exact hN5 (v1.2.Regs,v1.2.Pc,v1.2.Root,v1.2.Vector,v1.2.Saved,v1.2.SavedUser,v1.2.Cause,v1.2.Bad,v1.2.Timer,v1.2.Waits,v1.2.User,v1.2.On,v1.2.Stopped,v6.1.b,v6.1.p,v2.2,s3.2.2) _ _ _ hk5 (el [some 0,some 1,some 2,some 3,some 4,some 5,some 6] (rens_sp kr (rp 1 (rp 2 rl_n))) (hq (rB134 v6.1) rz (hq q1 rz (hq q9 rz (hn nr_eI (hn nr_eI (hn nr_eI (hn nr_eI hs_nil))))))))
   intro Q4 hN4 hR4 hE4
   refine Aw.sreg [0,1,4,5,7] [0,1,2,3,4,5] ?_
   let q17:Root:=⟨134,[bo (eI .u8) s3.1,ii s3.2.1]⟩; let q18:Root:=⟨27,(sw 3 v1.2.Regs::ru25 v1.2 [sw 4 v2.2,sw 5 s3.2.2,.nil])⟩; let q19:Root:=(rI_3 s3.2.2); let z19:=(5,some q19)
   refine yj 1  (sp 57 [z1,z3,z4,z5,(26,pp 0)]) [(0,some q17),z6,(2,some q18),z8,z11,z19] 6 ?_
   obtain ⟨v10,hv10,hh⟩:=bind_some hh
   refine ys (.call 49 [(.t 26),(.c (ii 3))]) (some 27) (cf (ii v10.2) [(0,some (rB134 v10.1))] 6 [0] (__spec_l20Rd__pick_fn hv10) [pp 0,ii 3] rz (hq q17 rz hs_nil) ren_i (hq (rB134 v10.1) (rens_same (nr_B_134 _)) hs_nil) ?_)
   refine yt (sp 57 [z1,z3,z4,z5,(7,ii v10.2)]) [(0,some (rB134 v10.1)),z6,(2,some q18),z8,z11,z19] 6 (Aw.block ?_)
   obtain ⟨o11,hi11,hk11⟩:=bind_some hh
   refine Aw.iter (fun (s11:(List Int) × Int × (List Int) × Int)=>sp 57 [(0,pp 0),(1,ii x_n),(4,pp 1),(5,pp 2),(7,ii s11.2.2.2)]) (fun (s11:(List Int) × Int × (List Int) × Int)=>[(0,some ⟨134,[bo (eI .u8) s11.1,ii s11.2.1]⟩),(1,some ⟨27,(.nil::zru25 [.nil,.nil,.nil])⟩),(2,some ⟨27,(sw 3 v1.2.Regs::ru25 v1.2 [sw 4 v2.2,sw 5 s3.2.2,sw 6 s11.2.2.1])⟩),(3,some (rI_3 v1.2.Regs)),(4,some (rI_3 v2.2)),(5,some (rI_3 s3.2.2)),(6,some (rI_3 s11.2.2.1))]) 7 hi11 (el [some 0,some 1,some 2,some 3,some 4,some 5,none] (rens_sp kr (rp 0 (ri (rp 1 (rp 2 (ri rl_n)))))) (hq (rB134 v10.1) rz (hq q1 rz (hq q18 rz (hn nr_eI (hn nr_eI (hn nr_eI (hs_no dd rfl rfl hs_nil)))))))) ?_
   intro s11 u11 Q11 hh hN11 hX11 hR11
   let z20:=(29,bb (decide ((0:Int)<s11.2.2.2))); let z21:=(7,ii s11.2.2.2)
   unfold F_spec_l20Bare_l11 at hh
   refine Aw.seq (Aw.sreg [0,1,4,5,7,29] [0,1,2,3,4,5,6] ?_)
   let q20:Root:=⟨134,[bo (eI .u8) s11.1,ii s11.2.1]⟩; let q21:Root:=⟨27,(sw 3 v1.2.Regs::ru25 v1.2 [sw 4 v2.2,sw 5 s3.2.2,sw 6 s11.2.2.1])⟩; let q22:Root:=(rI_3 s11.2.2.1)
   refine yt (sp 57 [z1,z3,z4,z5,z21,z20]) [(0,some q20),z6,(2,some q21),z8,z11,z19,(6,some q22)] 7 ?_
   rcases cond_some hh with ⟨hb,hh⟩ | ⟨hb,hh⟩
   · refine cT hb (Aw.xskip (fun _ _ _ hq=>then_m hq) (Aw.seq (Aw.block (Aw.xregd [0,1,4,5,7] [0,1,2,3,4,5,7] [0] (fun _ _ _ hq=>blk_m (then_m hq)) kr (dj 3 (sp 57 [z1,z3,z4,z5,z21,z20,(32,.ptr 2 [] 15),(33,sw 6 s11.2.2.1),(34,pp 0)]) [(0,some q20),z6,(2,some q21),z8,z11,z19,(6,some q22)] 7 ?_)))))
     obtain ⟨v12,hv12,hh⟩:=bind_some hh
     let z22:EH:=(0,some (rB134 v12.1))
     refine ds (.call 116 [(.t 34)]) (some 35) (ydo_n rfl (cf (ii v12.2) [z22] 7 [0] (__spec_l20Rd__word_fn hv12) [pp 0] rz (hq q20 rz hs_nil) ren_i (hq (rB134 v12.1) (rens_same (nr_B_134 _)) hs_nil) ⟨⟨agr_callf rfl rfl,Hld.un ?_⟩⟩))
     refine dt (sp 57 [z1,z3,z4,z5,z21,z20,(32,.ptr 2 [] 15),(33,sw 6 s11.2.2.1),(34,pp 0),(35,ii v12.2),(36,.bor 1 [ii v12.2])]) [z22,(0,none),(0,some q20),z6,(2,some q21),z8,z11,z19,(6,some q22)] 7 ?_
     obtain ⟨hg24,hh⟩:=grd_some hh
     refine ys (.app 3 1 8 [(ii 0)] (.t 33) (.t 36)) (some 37) (op_app (c:=(eI .i64)) (xs:=s11.2.2.1) (ys:=([v12.2]:List Int)) (r:=6) (k:=(List.length s11.2.2.1)) (π:=[]) eqn len_eI kr kr kr hg24 ?_)
     let q23:Root:=⟨27,(sw 3 v1.2.Regs::ru25 v1.2 [sw 4 v2.2,sw 5 s3.2.2,.sref 7 [] 0 (List.length (s11.2.2.1 ++ ([v12.2]:List Int))) 1])⟩; let q24:Root:=(rI_3 (s11.2.2.1 ++ ([v12.2]:List Int)))
     exact yt (sp 57 [z1,z3,z4,z5,z21]) [z22,z6,(2,some q23),z8,z11,z19,(7,some q24)] 8 (Aw.oreg (ye (sp 57 [z1,z3,z4,z5,(7,ii (w64 (s11.2.2.2 - (1:Int)))),(30,ii s11.2.2.2),(31,ii (w64 (s11.2.2.2 - (1:Int))))]) [z22,z6,(2,some q23),z8,z11,z19,(7,some q24)] 8 (hN11 (v12.1.b,v12.1.p,(s11.2.2.1 ++ ([v12.2]:List Int)),(w64 (s11.2.2.2 - (1:Int)))) _ _ _ (some_some hh) (el [some 0,some 1,some 2,some 3,some 4,some 5,some 7] (rens_sp kr (rp 0 (ri (rp 1 (rp 2 (ri rl_n)))))) (hq (rB134 v12.1) rz (hq q1 rz (hq q23 rz (hn nr_eI (hn nr_eI (hn nr_eI (hn nr_eI hs_nil)))))))))))
   refine cF hb (Aw.exit (then_x (hX11 _ _ _ _ _ (some_some hh) ?_)))
   intro hout
   rw [hout] at hk11
   refine blk_x ?_
   obtain rfl:=some_some hk11
   exact hN4 (s11.1,s11.2.1,s11.2.2.1) _ _ _ hk4 (el [some 0,some 1,some 2,some 3,some 4,some 5,some 6] (rens_sp kr (rp 0 (ri (rp 1 (rp 2 rl_n))))) (hq q20 rz (hq q1 rz (hq q21 rz (hn nr_eI (hn nr_eI (hn nr_eI (hn nr_eI hs_nil))))))))
 intro Q3 hN3 hR3 hE3
 refine Aw.sreg [0,1,4,5,6] [0,1,2,3,4] (yj 1  (sp 57 [z1,z3,z4,(5,pp 4),(13,pp 0)]) [z9,z6,z7,z10,(4,some q3)] 5 ?_)
 obtain ⟨v13,hv13,hh⟩:=bind_some hh
 let z23:EH:=(0,some (rB134 v13.1))
 refine ys (.call 49 [(.t 13),(.c (ii 4))]) (some 14) (cf (ii v13.2) [z23] 5 [0] (__spec_l20Rd__pick_fn hv13) [pp 0,ii 4] rz (hq (rB134 v2.1) (rens_same (nr_B_134 _)) hs_nil) ren_i (hq (rB134 v13.1) (rens_same (nr_B_134 _)) hs_nil) ?_)
 refine yt (sp 57 [z1,z3,z4,(5,pp 4),(6,ii v13.2)]) [z23,z6,z7,z10,(4,some q3)] 5 (Aw.block ?_)
 obtain ⟨o14,hi14,hk14⟩:=bind_some hh
 refine Aw.iter (fun (s14:(List Int) × Int × (List Int) × Int)=>sp 57 [(0,pp 0),(1,ii x_n),(4,pp 1),(5,pp 2),(6,ii s14.2.2.2)]) (fun (s14:(List Int) × Int × (List Int) × Int)=>[(0,some ⟨134,[bo (eI .u8) s14.1,ii s14.2.1]⟩),(1,some ⟨27,(.nil::zru25 [.nil,.nil,.nil])⟩),(2,some ⟨27,(sw 3 v1.2.Regs::ru25 v1.2 [sw 4 v2.2,sw 5 s14.2.2.1,.nil])⟩),(3,some (rI_3 v1.2.Regs)),(4,some (rI_3 v2.2)),(5,some (rI_3 s14.2.2.1))]) 6 hi14 (el [some 0,some 1,some 4,some 2,some 3,none] (rens_sp kr (rp 0 (ri (rp 1 (rp 4 (ri rl_n)))))) (hq (rB134 v13.1) rz (hq q1 rz (hq q3 rz (hn nr_eI (hn nr_eI (hs_no dd rfl rfl hs_nil))))))) ?_
 intro s14 u14 Q14 hh hN14 hX14 hR14
 let z24:=(16,bb (decide ((0:Int)<s14.2.2.2))); let z25:=(6,ii s14.2.2.2)
 unfold F_spec_l20Bare_l14 at hh
 refine Aw.seq (Aw.sreg [0,1,4,5,6,16] [0,1,2,3,4,5] ?_)
 let q25:Root:=⟨134,[bo (eI .u8) s14.1,ii s14.2.1]⟩; let q26:Root:=⟨27,(sw 3 v1.2.Regs::ru25 v1.2 [sw 4 v2.2,sw 5 s14.2.2.1,.nil])⟩; let q27:Root:=(rI_3 s14.2.2.1)
 refine yt (sp 57 [z1,z3,z4,z5,z25,z24]) [(0,some q25),z6,(2,some q26),z8,z11,(5,some q27)] 6 ?_
 rcases cond_sf hh with ⟨hb,hh⟩ | ⟨hb,hh⟩
 · refine cF hb (Aw.exit (then_x (hX14 _ _ _ _ _ (some_some hh) ?_)))
   intro hout
   rw [hout] at hk14
   refine blk_x ?_
   obtain rfl:=some_some hk14
   exact hN3 (s14.1,s14.2.1,s14.2.2.1) _ _ _ hk3 (el [some 0,some 1,some 2,some 3,some 4,some 5] (rens_sp kr (rp 0 (ri (rp 1 (rp 2 rl_n))))) (hq q25 rz (hq q1 rz (hq q26 rz (hn nr_eI (hn nr_eI (hn nr_eI hs_nil)))))))
 refine cT hb (Aw.xskip (fun _ _ _ hq=>then_m hq) (Aw.seq (Aw.block (Aw.xregd [0,1,4,5,6] [0,1,2,3,4,6] [0] (fun _ _ _ hq=>blk_m (then_m hq)) kr (dj 3 (sp 57 [z1,z3,z4,z5,z25,z24,(19,.ptr 2 [] 14),(20,sw 5 s14.2.2.1),(21,pp 0)]) [(0,some q25),z6,(2,some q26),z8,z11,(5,some q27)] 6 ?_)))))
 obtain ⟨v15,hv15,hh⟩:=bind_some hh
 let z26:EH:=(0,some (rB134 v15.1))
 refine ds (.call 116 [(.t 21)]) (some 22) (ydo_n rfl (cf (ii v15.2) [z26] 6 [0] (__spec_l20Rd__word_fn hv15) [pp 0] rz (hq q25 rz hs_nil) ren_i (hq (rB134 v15.1) (rens_same (nr_B_134 _)) hs_nil) ⟨⟨agr_callf rfl rfl,Hld.un ?_⟩⟩))
 refine dt (sp 57 [z1,z3,z4,z5,z25,z24,(19,.ptr 2 [] 14),(20,sw 5 s14.2.2.1),(21,pp 0),(22,ii v15.2),(23,.bor 1 [ii v15.2])]) [z26,(0,none),(0,some q25),z6,(2,some q26),z8,z11,(5,some q27)] 6 ?_
 obtain ⟨hg32,hh⟩:=grd_some hh
 refine ys (.app 3 1 8 [(ii 0)] (.t 20) (.t 23)) (some 24) (op_app (c:=(eI .i64)) (xs:=s14.2.2.1) (ys:=([v15.2]:List Int)) (r:=5) (k:=(List.length s14.2.2.1)) (π:=[]) eqn len_eI kr kr kr hg32 ?_)
 let q28:Root:=⟨27,(sw 3 v1.2.Regs::ru25 v1.2 [sw 4 v2.2,.sref 6 [] 0 (List.length (s14.2.2.1 ++ ([v15.2]:List Int))) 1,.nil])⟩; let q29:Root:=(rI_3 (s14.2.2.1 ++ ([v15.2]:List Int)))
 exact yt (sp 57 [z1,z3,z4,z5,z25]) [z26,z6,(2,some q28),z8,z11,(6,some q29)] 7 (Aw.oreg (ye (sp 57 [z1,z3,z4,z5,(6,ii (w64 (s14.2.2.2 - (1:Int)))),(17,ii s14.2.2.2),(18,ii (w64 (s14.2.2.2 - (1:Int))))]) [z26,z6,(2,some q28),z8,z11,(6,some q29)] 7 (hN14 (v15.1.b,v15.1.p,(s14.2.2.1 ++ ([v15.2]:List Int)),(w64 (s14.2.2.2 - (1:Int)))) _ _ _ (some_some hh) (el [some 0,some 1,some 2,some 3,some 4,some 6] (rens_sp kr (rp 0 (ri (rp 1 (rp 2 (ri rl_n)))))) (hq (rB134 v15.1) rz (hq q1 rz (hq q28 rz (hn nr_eI (hn nr_eI (hn nr_eI hs_nil))))))))))
end Go.Proofs.Ytbanbjdcgdmkaaa
