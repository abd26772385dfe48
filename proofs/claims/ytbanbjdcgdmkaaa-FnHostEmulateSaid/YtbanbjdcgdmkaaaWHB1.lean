/- Plain functions of the program, and that it hands back what they say. Made by program. -/
import Derived.Test.YtbanbjdcgdmkaaaWT
import Derived.Test.YtbanbjdcgdmkaaaProg
import Derived.Test.YtbanbjdcgdmkaaaWHC1
import Derived.Test.YtbanbjdcgdmkaaaWHD1
import Derived.Test.YtbanbjdcgdmkaaaWHF1
import Derived.Test.YtbanbjdcgdmkaaaWHO1
import Derived.Test.YtbanbjdcgdmkaaaWO1
namespace Go.Proofs.Ytbanbjdcgdmkaaa
open Go.RowKit
set_option maxRecDepth 100000
set_option linter.all false
set_option maxHeartbeats 0
theorem low_spec_HostBoot:LW 161 ⟨122,[(.cell 4 true 2),(.tmp 5),(.tmp 6)],(.seq (.reg false (rg 161 0)) (.seq (.seq (.reg false (rg 161 1)) (.cond (.t 23) (.seq (.reg false (rg 161 2)) .ret) .skip)) (.seq (.reg false (rg 161 3)) (.seq (.reg false (rg 161 4)) (.seq (.seq (.reg false (rg 161 5)) (.block 0 (.loop (.seq (.seq (.reg false (rg 161 6)) (.cond (.t 28) .skip (.exit 0))) (.seq (.block 1 (.seq (.reg false (rg 161 7)) (.cond (.t 37) (.reg false (rg 161 8)) .skip))) (.reg false (rg 161 9))))))) (.seq (.reg false (rg 161 11)) (.seq (.regd (rg 161 12) (rg 161 13)) (.seq (.seq (.reg false (rg 161 14)) (.block 2 (.loop (.seq (.seq (.reg false (rg 161 15)) (.cond (.t 58) .skip (.exit 2))) (.seq (.block 3 (.seq (.reg false (rg 161 16)) (.seq (.reg false (rg 161 17)) (.seq (.seq (.reg false (rg 161 18)) (.block 4 (.loop (.seq (.seq (.reg false (rg 161 19)) (.cond (.t 70) .skip (.exit 4))) (.seq (.block 5 (.reg false (rg 161 20))) (.reg false (rg 161 21))))))) (.seq (.seq (.reg false (rg 161 23)) (.cond (.t 81) (.seq (.reg false (rg 161 24)) (.exit 3)) .skip)) (.seq (.seq (.reg false (rg 161 25)) (.cond (.t 90) (.seq (.reg false (rg 161 26)) .ret) .skip)) (.seq (.regt (rg 161 27) (rg 161 28)) (.seq (.regd (rg 161 29) (rg 161 30)) (.reg false (rg 161 31)))))))))) (.reg false (rg 161 32))))))) (.seq (.seq (.reg false (rg 161 34)) (.cond (.t 113) (.seq (.reg false (rg 161 35)) .ret) .skip)) (.seq (.reg false (rg 161 36)) (.seq (.reg false (rg 161 37)) .ret)))))))))))⟩:=kr
noncomputable def F_spec_HostBoot_j7 (x_b:DBare) (v3:DHost) (s4:Int) (v6:DCore) (s7:(List Int) × (List DSlot)):Option (DHost × Int × Bool) :=
 cond (decide (s4<(0:Int)))
  (some ((DHost.mk ([]:List Int) ([]:List DGuest)),(-1:Int),false))
  (grd ((0:Int)≤s4∧s4<(((List.length v3.Guests):Nat):Int)) (some ((DHost.mk s7.1 (List.set v3.Guests (Int.toNat s4) (DGuest.mk true v6 s7.2 x_b.In x_b.Out))),s4,true)))
noncomputable def F_spec_HostBoot_j9 (s8:(List Int) × (List Int) × (List DSlot) × Int) (s9:(List Int) × (List Int) × (List DSlot)):Option (LO ((List Int) × (List Int) × (List DSlot) × Int) (JO ((List Int) × (List DSlot)) (DHost × Int × Bool))) :=
 some (.next (s9.1,s9.2.1,s9.2.2,(w64 (s8.2.2.2+(1:Int)))))
noncomputable def F_spec_HostBoot_j10 (x_b:DBare) (s8:(List Int) × (List Int) × (List DSlot) × Int) (s10:Bool):Option (JO ((List Int) × (List Int) × (List DSlot)) (LO ((List Int) × (List Int) × (List DSlot) × Int) (JO ((List Int) × (List DSlot)) (DHost × Int × Bool)))) :=
 cond s10
  (grd ((List.length s8.2.2.1+List.length ([(DSlot.mk (-1:Int) false false)]:List DSlot))*16≤2 ^ 47∧List.length s8.2.2.1+List.length ([(DSlot.mk (-1:Int) false false)]:List DSlot)≤2 ^ 47) (some (.go (s8.1,s8.2.1,(s8.2.2.1 ++ ([(DSlot.mk (-1:Int) false false)]:List DSlot))))))
  (cond (decide ((((List.length s8.2.1):Nat):Int)=(0:Int)))
   (some (.out (.ret (.out ((DHost.mk ([]:List Int) ([]:List DGuest)),(-1:Int),false)))))
   (grd ((0:Int)≤(0:Int)∧(0:Int)<((List.length s8.2.1:Nat):Int)) (grd ((0:Int)≤(w64 ((List.getD s8.2.1 (Int.toNat (0:Int)) default)*(8:Int)))∧(w64 ((List.getD s8.2.1 (Int.toNat (0:Int)) default)*(8:Int)))≤(((List.length s8.1):Nat):Int)∧(((List.length s8.1):Nat):Int)≤(((List.length s8.1):Nat):Int)) (grd ((0:Int)≤(0:Int)∧(0:Int)<((List.length s8.2.1:Nat):Int)) (grd ((List.length s8.2.2.1+List.length ([(DSlot.mk (List.getD s8.2.1 (Int.toNat (0:Int)) default) true false)]:List DSlot))*16≤2 ^ 47∧List.length s8.2.2.1+List.length ([(DSlot.mk (List.getD s8.2.1 (Int.toNat (0:Int)) default) true false)]:List DSlot)≤2 ^ 47) (grd ((0:Int)≤(1:Int)∧(1:Int)≤((List.length s8.2.1:Nat):Int)∧((List.length s8.2.1:Nat):Int)≤((List.length s8.2.1:Nat):Int)) (some (.go ((over s8.1 (Int.toNat (w64 ((List.getD s8.2.1 (Int.toNat (0:Int)) default)*(8:Int)))) (Int.toNat (((List.length s8.1):Nat):Int) - Int.toNat (w64 ((List.getD s8.2.1 (Int.toNat (0:Int)) default)*(8:Int)))) (List.take (Int.toNat (w64 ((w64 (s8.2.2.2+(1:Int)))*(8:Int))) - Int.toNat (w64 (s8.2.2.2*(8:Int)))) (List.drop (Int.toNat (w64 (s8.2.2.2*(8:Int)))) x_b.Mem))),(List.take (Int.toNat ((List.length s8.2.1:Nat):Int) - Int.toNat (1:Int)) (List.drop (Int.toNat (1:Int)) s8.2.1)),(s8.2.2.1 ++ ([(DSlot.mk (List.getD s8.2.1 (Int.toNat (0:Int)) default) true false)]:List DSlot)))))))))))
noncomputable def F_spec_HostBoot_j12 (s11:Bool × Int) (s12:Bool):Option (LO (Bool × Int) (JO Bool (JO ((List Int) × (List Int) × (List DSlot)) (LO ((List Int) × (List Int) × (List DSlot) × Int) (JO ((List Int) × (List DSlot)) (DHost × Int × Bool)))))) :=
 some (.next (s12,(w64 (s11.2+(1:Int)))))
noncomputable def F_spec_HostBoot_l11 (x_b:DBare) (s8:(List Int) × (List Int) × (List DSlot) × Int) (s11:Bool × Int):Option (LO (Bool × Int) (JO Bool (JO ((List Int) × (List Int) × (List DSlot)) (LO ((List Int) × (List Int) × (List DSlot) × Int) (JO ((List Int) × (List DSlot)) (DHost × Int × Bool)))))) :=
 cond (decide (s11.2<(8:Int)))
  (Option.bind (cond s11.1
   (grd ((0:Int)≤s11.2∧s11.2<((List.length (List.take (Int.toNat (w64 ((w64 (s8.2.2.2+(1:Int)))*(8:Int))) - Int.toNat (w64 (s8.2.2.2*(8:Int)))) (List.drop (Int.toNat (w64 (s8.2.2.2*(8:Int)))) x_b.Mem)):Nat):Int)) (some (.go (decide ((List.getD (List.take (Int.toNat (w64 ((w64 (s8.2.2.2+(1:Int)))*(8:Int))) - Int.toNat (w64 (s8.2.2.2*(8:Int)))) (List.drop (Int.toNat (w64 (s8.2.2.2*(8:Int)))) x_b.Mem)) (Int.toNat s11.2) default)=(0:Int))))))
   (some (.go false))) fun j12 =>
   JO.run j12 (F_spec_HostBoot_j12 s11))
  (some (.ret (.go s11.1)))
noncomputable def F_spec_HostBoot_l8 (x_b:DBare) (s4:Int) (s8:(List Int) × (List Int) × (List DSlot) × Int):Option (LO ((List Int) × (List Int) × (List DSlot) × Int) (JO ((List Int) × (List DSlot)) (DHost × Int × Bool))) :=
 cond (decide (s8.2.2.2<(8:Int)))
  (cond (decide ((0:Int)≤s4))
   (Option.bind (grd ((0:Int)≤(w64 (s8.2.2.2*(8:Int)))∧(w64 (s8.2.2.2*(8:Int)))≤(w64 ((w64 (s8.2.2.2+(1:Int)))*(8:Int)))∧(w64 ((w64 (s8.2.2.2+(1:Int)))*(8:Int)))≤((List.length x_b.Mem:Nat):Int)) (Option.bind (Option.bind (iter (F_spec_HostBoot_l11 x_b s8) (true,(0:Int))) LO.val) fun j10 =>
    JO.run j10 (F_spec_HostBoot_j10 x_b s8))) fun j9 =>
    JO.run j9 (F_spec_HostBoot_j9 s8))
   (some (.ret (.go (s8.1,s8.2.2.1)))))
  (some (.ret (.go (s8.1,s8.2.2.1))))
noncomputable def F_spec_HostBoot_j4 (x_h:DHost) (x_b:DBare) (v3:DHost) (s4:Int):Option (DHost × Int × Bool) :=
 Option.bind (F_spec_HostFree x_h) fun v5 =>
 Option.bind (F_spec_l3Core x_b.C) fun v6 =>
 grd (List.length x_b.In*8≤2 ^ 47∧List.length x_b.In≤2 ^ 47) (grd (List.length x_b.Out*8≤2 ^ 47∧List.length x_b.Out≤2 ^ 47) (Option.bind (Option.bind (iter (F_spec_HostBoot_l8 x_b s4) (v3.Words,v5,([]:List DSlot),(0:Int))) LO.val) fun j7 =>
  JO.run j7 (F_spec_HostBoot_j7 x_b v3 s4 v6)))
noncomputable def F_spec_HostBoot_j14 (s13:Int × Int) (s14:Int):Option (LO (Int × Int) (JO Int (DHost × Int × Bool))) :=
 some (.next (s14,(w64 (s13.2 - (1:Int)))))
noncomputable def F_spec_HostBoot_l13 (x_h:DHost) (s13:Int × Int):Option (LO (Int × Int) (JO Int (DHost × Int × Bool))) :=
 cond (decide ((0:Int)≤s13.2))
  (Option.bind (grd ((0:Int)≤s13.2∧s13.2<((List.length x_h.Guests:Nat):Int)) (cond (!((List.getD x_h.Guests (Int.toNat s13.2) default).Live))
   (some (.go s13.2))
   (some (.go s13.1)))) fun j14 =>
   JO.run j14 (F_spec_HostBoot_j14 s13))
  (some (.ret (.go s13.1)))
noncomputable def F_spec_HostBoot (x_h:DHost) (x_b:DBare):Option (DHost × Int × Bool) :=
 Option.bind (F_spec_HostOk x_h) fun v1 =>
 cond (!v1)
  (some ((DHost.mk ([]:List Int) ([]:List DGuest)),(-1:Int),false))
  (Option.bind (F_spec_BareOk x_b) fun v2 =>
  cond (!v2)
   (some ((DHost.mk ([]:List Int) ([]:List DGuest)),(-1:Int),false))
   (Option.bind (F_spec_l4Copy x_h) fun v3 =>
   Option.bind (Option.bind (iter (F_spec_HostBoot_l13 x_h) ((-1:Int),(2:Int))) LO.val) fun j4 =>
    JO.run j4 (F_spec_HostBoot_j4 x_h x_b v3)))
theorem spec_HostBoot_fn {x_h:DHost} {x_b:DBare} {R_:DHost × Int × Bool} (hh:F_spec_HostBoot x_h x_b=some R_):Fn Try.prog 161 [.agg (B_41 x_h),.agg (B_27 x_b)] (.tup [.agg [.own 3 1 (List.length R_.1.Words) (fl (eI .i64) R_.1.Words),.own 55 17 (List.length R_.1.Guests) (fl O_55 R_.1.Guests)],.int .i64 R_.2.1,.bool R_.2.2]):=by
 let z11:EH:=(0,some (rB27 x_b)); let z12:EH:=(0,some (rB41 x_h)); let z13:EH:=(0,some ⟨41,[.nil,.nil]⟩); let z14:EH:=(1,some (rB27 x_b)); let z15:EH:=(1,some ⟨41,[.nil,.nil]⟩); let z16:=(11,pp 5); let z17:=(11,pp 6); let z18:=(2,pp 0); let z19:EH:=(2,some ⟨41,[.nil,.nil]⟩); let z20:=(3,pp 0); let z21:=(3,pp 1); let z22:=(4,pp 0); let z23:=(4,pp 1); let z24:=(4,pp 2); let z25:EV:=(42,.agg (B_25 x_b.C)); let z26:=(46,bo (eI .i64) x_b.In); let z27:=(5,ii (-1)); let z28:=(6,bb false); let z29:=(7,pp 2); let z30:=(7,pp 3); let z1:=DSlot.mk (-1:Int) false false
 unfold F_spec_HostBoot at hh
 refine Fn.start low_spec_HostBoot [0,1] (E:=sp 122 [(0,.agg (B_41 x_h)),(1,.agg (B_27 x_b))]) kr (v:=.tup [.agg [sw 0 R_.1.Words,.sref 1 [] 0 (List.length R_.1.Guests) 17],ii R_.2.1,bb R_.2.2]) (Hr:=[(1,some (rO55 R_.1.Guests)),(0,some (rI_3 R_.1.Words))]) (k:=2) kr (sy [2,3,4] [0,1,2] (sp 122 [z18,z21,z24]) [z12,z14,z19] 3 (Aw.seq (Aw.sreg [2,3,4,23] [0,1,2] (yj 1  (sp 122 [z18,z21,z24,(16,.agg (B_41 x_h))]) [z12,z14,z19] 3 ?_))))
 obtain ⟨v1,hv1,hh⟩:=bind_some hh
 refine ys (.call 132 [(.t 16)]) (some 17) (op_call (r:=bb v1) (v:=bb v1) (Hr:=[]) (n':=3) (spec_HostOk_fn hv1) (clz_v (vs:=[.agg (B_41 x_h)]) kr (clz_c (clo_same (clean_agg (cl_B_41 _))) clz_n)) rfl rfl kr ?_)
 refine yu 2 [(17,bb v1),(18,bb (!v1)),(19,bb (!v1))] [z12,z14,z19] 3 ?_
 rcases cond_some hh with ⟨hb,hh⟩ | ⟨hb,hh⟩
 · refine yb 18 hb (yb 19 hb (yt (sp 122 [z18,z21,z24,(23,bb true)]) [z12,z14,z19] 3 (cT rfl (sy [4,5,6] [2] (sp 122 [z24,z27,z28]) [z19] 3 (Aw.ret (then_r ?_))))))
   rw [some_some hh]
   exact gives (r':=.tup [.agg [.nil,.nil],ii (-1),bb false]) kr (Ent.list [none,none] rfl rfl (Nat.zero_le _) (rens_1 (ren_tup rz)) (hs_no dd rfl rfl (hs_no dd rfl rfl hs_nil)))
 refine yb 18 hb (yb 19 hb (yu 1 [(18,bb false),(19,bb false),(20,.agg (B_27 x_b))] [z12,z14,z19] 3 ?_))
 obtain ⟨v2,hv2,hh⟩:=bind_some hh
 refine yg (.call 57 [(.t 20)]) (some 21) 19 false (op_call (r:=bb v2) (v:=bb v2) (Hr:=[]) (n':=3) (spec_BareOk_fn hv2) (clz_v (vs:=[.agg (B_27 x_b)]) kr (clz_c (clo_same (clean_agg (cl_B_27 _))) clz_n)) rfl rfl kr ?_)
 refine yt (sp 122 [z18,z21,z24,(23,bb (!v2))]) [z12,z14,z19] 3 ?_
 rcases cond_some hh with ⟨hb,hh⟩ | ⟨hb,hh⟩
 · refine cT hb (sy [4,5,6] [2] (sp 122 [z24,z27,z28]) [z19] 3 (Aw.ret (then_r ?_)))
   rw [some_some hh]
   exact gives (r':=.tup [.agg [.nil,.nil],ii (-1),bb false]) kr (Ent.list [none,none] rfl rfl (Nat.zero_le _) (rens_1 (ren_tup rz)) (hs_no dd rfl rfl (hs_no dd rfl rfl hs_nil)))
 refine cF hb (Aw.xskip (fun _ _ _ hq=>then_m hq) (Aw.sreg [2,3,4,7] [0,1,2,3,4,5] (yj 1  (sp 122 [z18,z21,z24,(23,bb (!v2)),(25,.agg (B_41 x_h))]) [z12,z14,z19] 3 ?_)))
 obtain ⟨v3,hv3,hh⟩:=bind_some hh
 let q1:Root:=(rO55 v3.Guests); let z31:=(4,some q1); let z32:=(5,some q1); let q2:Root:=(rI_3 v3.Words); let z33:=(4,some q2)
 refine ys (.call 92 [(.t 25)]) (some 26) (op_call (r:=.agg [.own 3 1 (List.length v3.Words) (fl (eI .i64) v3.Words),.own 55 17 (List.length v3.Guests) (fl O_55 v3.Guests)]) (v:=.agg [sw 3 v3.Words,.sref 4 [] 0 (List.length v3.Guests) 17]) (Hr:=[z31,(3,some q2)]) (n':=5) (spec_l4Copy_fn hv3) (clz_v (vs:=[.agg (B_41 x_h)]) kr (clz_c (clo_same (clean_agg (cl_B_41 _))) clz_n)) nrr nrr kr ?_)
 let q3:Root:=⟨41,[sw 3 v3.Words,.sref 4 [] 0 (List.length v3.Guests) 17]⟩
 refine yt (sp 122 [z18,z21,z24,(7,pp 5)]) [z12,z14,z19,(3,some q2),z31,(5,some q3)] 6 (sy [2,3,4,7,8] [0,1,2,3,4,5] (sp 122 [z18,z21,z24,(7,pp 5),(8,ii (-1))]) [z12,z14,z19,(3,some q2),z31,(5,some q3)] 6 ?_)
 obtain ⟨j4,hh,hk4⟩:=bind_some hh
 refine Aw.join (S:=Int) (fun s4=>sp 122 [(2,pp 0),(3,pp 1),(4,pp 2),(7,pp 3),(8,ii s4)]) (fun s4=>[(0,some (rB41 x_h)),(1,some (rB27 x_b)),(2,some ⟨41,[.nil,.nil]⟩),(3,some ⟨41,[sw 4 v3.Words,.sref 5 [] 0 (List.length v3.Guests) 17]⟩),(4,some (rI_3 v3.Words)),(5,some (rO55 v3.Guests))]) 6 (fun s4=>F_spec_HostBoot_j4 x_h x_b v3 s4=some R_) ?_ ?_
 · intro s4 hh
   let z34:=(113,bb (decide (s4<(0:Int)))); let z35:=(58,bb (decide ((0:Int)≤s4))); let z36:=(8,ii s4)
   unfold F_spec_HostBoot_j4 at hh
   refine Aw.sreg [3,4,7,8,10] [1,2,3,4,5,6] ?_
   let q4:Root:=⟨41,[sw 4 v3.Words,.sref 5 [] 0 (List.length v3.Guests) 17]⟩; let z37:=(3,some q4)
   refine yj 1  (sp 122 [z18,z21,z24,z30,z36,(39,.agg (B_41 x_h))]) [z12,z14,z19,z37,z33,z32] 6 ?_
   obtain ⟨v5,hv5,hh⟩:=bind_some hh
   let z38:=(10,sw 6 v5); let z39:EH:=(6,some (rI_3 v5))
   refine ys (.call 133 [(.t 39)]) (some 40) (op_call (r:=.own 3 1 (List.length v5) (fl (eI .i64) v5)) (v:=sw 6 v5) (Hr:=[z39]) (n':=7) (spec_HostFree_fn hv5) (clz_v (vs:=[.agg (B_41 x_h)]) kr (clz_c (clo_same (clean_agg (cl_B_41 _))) clz_n)) nrr nrr kr ?_)
   refine yt (sp 122 [z21,z24,z30,z36,z38]) [z14,z19,z37,z33,z32,z39] 7 (Aw.sregd [3,4,7,8,10,11] [1,2,3,4,5,6,7,8,9,10] [] kr (dj 2 (sp 122 [z21,z24,z30,z36,z38,(41,pp 1),z25]) [z14,z19,z37,z33,z32,z39] 7 ?_))
   obtain ⟨v6,hv6,hh⟩:=bind_some hh
   let z40:EV:=(43,.agg (sw 7 v6.Regs::ru25 v6 [])); let q5:Root:=(rI_3 v6.Regs); let z41:=(6,some q5); let z42:=(7,some q5)
   refine ds (.call 79 [(.t 42)]) (some 43) (ydo_n rfl (op_call (r:=.agg (.own 3 1 (List.length v6.Regs) (fl (eI .i64) v6.Regs)::ru25 v6 [])) (v:=.agg (sw 7 v6.Regs::ru25 v6 [])) (Hr:=[z42]) (n':=8) (spec_l3Core_fn hv6) (clz_v (vs:=[.agg (B_25 x_b.C)]) kr (clz_c (clo_same (clean_agg (cl_B_25 _))) clz_n)) nrr nrr kr ⟨⟨agr_name (n:=7) (n0:=7) (r:=.agg (.own 3 1 (List.length v6.Regs) (fl (eI .i64) v6.Regs)::ru25 v6 [])) (v:=.agg (sw 7 v6.Regs::ru25 v6 [])) (Hr:=[z42]) (n':=8) kr dd,Hld.un ?_⟩⟩))
   refine dj 3 (sp 122 [z21,z24,z30,z36,z38,(41,pp 1),z25,z40,(44,.emp),(45,.ptr 1 [] 14),z26]) [z42,z14,z19,z37,z33,z32,z39] 8 ?_
   obtain ⟨hg576,hh⟩:=grd_some hh
   refine ds (.app 3 1 8 [(ii 0)] (.t 44) (.t 46)) (some 47) (ydo_n rfl (op_app0 (c:=(eI .i64)) (ys:=x_b.In) (rpv kr (rp_bor (c:=(eI .i64)) (xs:=x_b.In) len_eI)) (.inr kr) hg576 ⟨⟨Agr.cons dd,Hld.un ?_⟩⟩))
   let q6:Root:=(rI_3 x_b.In); let z43:=(8,some q6)
   refine dj 3 (sp 122 [z21,z24,z30,z36,z38,(41,pp 1),z25,z40,(44,.emp),(45,.ptr 1 [] 14),z26,(47,sw 8 x_b.In),(48,.emp),(49,.ptr 1 [] 15),(50,bo (eI .i64) x_b.Out)]) [z43,z42,z14,z19,z37,z33,z32,z39] 9 ?_
   obtain ⟨hg575,hh⟩:=grd_some hh
   refine ds (.app 3 1 8 [(ii 0)] (.t 48) (.t 50)) (some 51) (ydo_n rfl (op_app0 (c:=(eI .i64)) (ys:=x_b.Out) (rpv kr (rp_bor (c:=(eI .i64)) (xs:=x_b.Out) len_eI)) (.inr kr) hg575 ⟨⟨Agr.cons dd,Hld.un ?_⟩⟩))
   let q7:Root:=(rI_3 x_b.Out); let z44:=(9,some q7)
   refine dt (sp 122 [z21,z24,z30,z36,z38,(11,pp 10),(41,pp 1),z25,z40,(44,.emp),(45,.ptr 1 [] 14),z26,(47,sw 8 x_b.In),(48,.emp),(49,.ptr 1 [] 15),(50,bo (eI .i64) x_b.Out),(51,sw 9 x_b.Out),(52,.agg (bb true::sw 7 v6.Regs::ru25 v6 [.nil,sw 8 x_b.In,sw 9 x_b.Out]))]) [(10,some ⟨55,(bb false :: .nil::zru25 [.nil,.nil,.nil])⟩),z44,z43,z42,z14,z19,z37,z33,z32,z39] 11 ?_
   let q8:Root:=⟨55,(bb true::sw 7 v6.Regs::ru25 v6 [.nil,sw 8 x_b.In,sw 9 x_b.Out])⟩
   refine yt (sp 122 [z21,z24,z30,z36,z38,(11,pp 10)]) [z14,z19,z37,z33,z32,z39,z42,z43,z44,(10,some q8)] 11 ?_
   obtain ⟨j7,hh,hk7⟩:=bind_some hh
   refine Aw.join (S:=(List Int) × (List DSlot)) (fun s7=>sp 122 [(4,pp 0),(7,pp 1),(8,ii s4),(11,pp 4)]) (fun s7=>[(0,some ⟨41,[.nil,.nil]⟩),(1,some ⟨41,[sw 2 s7.1,.sref 3 [] 0 (List.length v3.Guests) 17]⟩),(2,some (rI_3 s7.1)),(3,some (rO55 v3.Guests)),(4,some ⟨55,(bb true::sw 5 v6.Regs::ru25 v6 [.sref 6 [] 0 (List.length s7.2) 3,sw 7 x_b.In,sw 8 x_b.Out])⟩),(5,some (rI_3 v6.Regs)),(6,some (rC52 s7.2)),(7,some (rI_3 x_b.In)),(8,some (rI_3 x_b.Out))]) 9 (fun s7=>F_spec_HostBoot_j7 x_b v3 s4 v6 s7=some R_) ?_ ?_
   · intro s7 hh
     let z45:EH:=(2,some (rI_3 s7.1)); let z46:EH:=(6,some (rC52 s7.2)); let z2:=DGuest.mk true v6 s7.2 x_b.In x_b.Out
     unfold F_spec_HostBoot_j7 at hh
     refine Aw.seq (Aw.sreg [4,7,8,11,113] [0,1,2,3,4,5,6,7,8] ?_)
     let q9:Root:=⟨41,[sw 2 s7.1,.sref 3 [] 0 (List.length v3.Guests) 17]⟩; let q10:Root:=⟨55,(bb true::sw 5 v6.Regs::ru25 v6 [.sref 6 [] 0 (List.length s7.2) 3,sw 7 x_b.In,sw 8 x_b.Out])⟩
     refine yt (sp 122 [z22,(7,pp 1),z36,(11,pp 4),z34]) [z13,(1,some q9),z45,(3,some q1),(4,some q10),(5,some q5),z46,(7,some q6),(8,some q7)] 9 ?_
     rcases cond_some hh with ⟨hb,hh⟩ | ⟨hb,hh⟩
     · refine cT hb (sy [4,5,6] [0] (sp 122 [z22,z27,z28]) [z13] 9 (Aw.ret (then_r ?_)))
       rw [some_some hh]
       exact gives (r':=.tup [.agg [.nil,.nil],ii (-1),bb false]) kr (Ent.list [none,none] rfl rfl (Nat.zero_le _) (rens_1 (ren_tup rz)) (hs_no dd rfl rfl (hs_no dd rfl rfl hs_nil)))
     refine cF hb (Aw.xskip (fun _ _ _ hq=>then_m hq) (Aw.sreg [4,7,8] [0,1,2,3,5,6,7,8] ?_))
     obtain ⟨hg298,hh⟩:=grd_some hh
     refine yjc 5 [(0:Int)≤s4∧s4<(((List.length v3.Guests):Nat):Int)] (sp 122 [z22,(7,pp 1),z36,(11,pp 4),z34,(115,.ptr 1 [] 1),(116,.sref 3 [] 0 (List.length v3.Guests) 17),(117,ii s4),(118,.agg (bb true::sw 5 v6.Regs::ru25 v6 [.sref 6 [] 0 (List.length s7.2) 3,sw 7 x_b.In,sw 8 x_b.Out])),(119,.ptr 3 [] (0+(Int.toNat s4)*17))]) [z13,(1,some q9),z45,(3,some q1),(4,some q10),(5,some q5),z46,(7,some q6),(8,some q7)] 9 (.cons hg298 .nil) (ys (.store 17 (.t 119) (.t 118)) none (op_storeR (c:=O_55) (xs:=v3.Guests) (e:=55) (r:=3) (o:=0+(Int.toNat s4)*17) (i:=(Int.toNat s4)) (off:=0) (vs:=(bb true::sw 5 v6.Regs::ru25 v6 [.sref 6 [] 0 (List.length s7.2) 3,sw 7 x_b.In,sw 8 x_b.Out])) len_O_55 kr kr kr kr ltn ltn dd ?_))
     refine yt (sp 122 [z22,(7,pp 1),z36]) [z13,(1,some q9),z45,(3,some ⟨55,(setCells (fl O_55 v3.Guests) (0+(Int.toNat s4)*17) (bb true::sw 5 v6.Regs::ru25 v6 [.sref 6 [] 0 (List.length s7.2) 3,sw 7 x_b.In,sw 8 x_b.Out]))⟩),(5,some q5),z46,(7,some q6),(8,some q7)] 9 ?_
     let q11:Root:=⟨41,[sw 2 s7.1,.sref 9 [] 0 (List.length v3.Guests) 17]⟩
     refine Aw.ent (Ent.foldP (c:=O_55) (xs:=v3.Guests) (i:=(Int.toNat s4)) (off:=0) (o:=0+(Int.toNat s4)*17) (y:=z2) (R:=3) (e:=55) (us2:=sp 122 [z22,(7,pp 1),z36]) (H2:=[z13,(1,some q11),z45]) (L:=[none,some (some 5),none,none,none,none,none,none,none,none,none,none,none,none,some (some 6),some (some 7),some (some 8)]) (ws:=(bb true :: .own 3 1 (List.length v6.Regs) (fl (eI .i64) v6.Regs)::ru25 v6 [.own 52 3 (List.length s7.2) (fl C_52 s7.2),.own 3 1 (List.length x_b.In) (fl (eI .i64) x_b.In),.own 3 1 (List.length x_b.Out) (fl (eI .i64) x_b.Out)])) len_O_55 kr ltn ltn (Nat.le_of_ble_eq_true rfl) kr (fcs_s (fcs_r kr eqn (fcs_s (fcs_s (fcs_s (fcs_s (fcs_s (fcs_s (fcs_s (fcs_s (fcs_s (fcs_s (fcs_s (fcs_s (fcs_r kr eqn (fcs_r kr eqn (fcs_r kr eqn fcs_n))))))))))))))))) (by rfl) (by rfl) (rds_sp kr (rdl_c (u:=pp 0) kr (.same _) (rdl_c (u:=pp 1) kr (.same _) (rdl_c (u:=ii s4) kr (.same _) rdl_n)))) (hd_c (t:=⟨41,[.nil,.nil]⟩) rfl kr rfl rds_same (hd_c (t:=q9) rfl kr rfl (rds_c (.same _) (rds_c (.sref _ _ _ _ eqn) rds_n)) (hd_c (t:=(rI_3 s7.1)) rfl kr rfl rds_same hd_n)))) (Aw.sreg [4,5,6] [0,2,9] ?_)
     let q12:Root:=(rO55 (List.set v3.Guests (Int.toNat s4) z2))
     refine yt (sp 122 [z22,(5,ii s4),(6,bb true)]) [(0,some q11),z45,(9,some q12)] 10 (Aw.ret ?_)
     rw [some_some hh]
     exact gives (r':=.tup [.agg [sw 2 s7.1,.sref 9 [] 0 (List.length v3.Guests) 17],ii s4,bb true]) kr (Ent.list [some 2,some 9] rfl rfl (Nat.zero_le _) (rens_1 (ren_tup rz)) (hn nr_O_55 (hn nr_eI hs_nil)))
   intro Q7 hN7 hR7 hE7
   refine sy [3,4,7,8,10,11,12] [1,2,3,4,5,6,7,8,9,10] (sp 122 [z21,z24,z30,z36,z38,(11,pp 10),(12,ii 0)]) [z14,z19,z37,z33,z32,z39,z42,z43,z44,(10,some q8)] 11 (Aw.block ?_)
   obtain ⟨o8,hi8,hk8⟩:=bind_some hh
   refine Aw.iter (fun (s8:(List Int) × (List Int) × (List DSlot) × Int)=>sp 122 [(3,pp 0),(4,pp 1),(7,pp 2),(8,ii s4),(10,bo (eI .i64) s8.2.1),(11,pp 6),(12,ii s8.2.2.2)]) (fun (s8:(List Int) × (List Int) × (List DSlot) × Int)=>[(0,some (rB27 x_b)),(1,some ⟨41,[.nil,.nil]⟩),(2,some ⟨41,[sw 3 s8.1,.sref 4 [] 0 (List.length v3.Guests) 17]⟩),(3,some (rI_3 s8.1)),(4,some (rO55 v3.Guests)),(6,some ⟨55,(bb true::sw 7 v6.Regs::ru25 v6 [.sref 10 [] 0 (List.length s8.2.2.1) 3,sw 8 x_b.In,sw 9 x_b.Out])⟩),(7,some (rI_3 v6.Regs)),(8,some (rI_3 x_b.In)),(9,some (rI_3 x_b.Out)),(10,some (rC52 s8.2.2.1))]) 11 hi8 (Ent.trans (el [some 1,some 2,some 3,some 4,some 5,none,some 10,some 7,some 8,some 9,none] (rens_sp kr (rp 1 (rp 2 (rp 3 (ri (ro nr_eI (rp 10 (ri rl_n)))))))) (hq (rB27 x_b) (rens_same (nr_B_27 _)) (hq ⟨41,[.nil,.nil]⟩ rz (hq q4 rz (hn nr_eI (hn nr_O_55 (hq q8 rz (hn nr_eI (hn nr_eI (hn nr_eI (hs_no dd rfl rfl hs_nil))))))))))) (Ent.freeze (R:=6) (cs:=(fl (eI .i64) v5)) (e:=3) (xs2:=sp 122 [z21,z24,z30,z36,(10,bo (eI .i64) v5),(11,pp 10),(12,ii 0)]) (H2:=[z14,z19,z37,z33,z32,z42,z43,z44,(10,some q8)]) kr (noOwn_fl no_eI) (frs_sp kr (fl_c (u:=pp 1) kr (.same _) (fl_c (u:=pp 2) kr (.same _) (fl_c (u:=pp 3) kr (.same _) (fl_c (u:=ii s4) kr (.same _) (fl_c (u:=sw 6 v5) kr (fr_all len_eI eqn) (fl_c (u:=pp 10) kr (.same _) (fl_c (u:=ii 0) kr (.same _) fl_n)))))))) (hf_c (t:=(rB27 x_b)) rfl kr rfl (frs_c (.same _) (frs_c (.same _) (frs_c (.same _) (frs_c (.same _) (frs_c (.same _) (frs_c (.same _) (frs_c (.same _) (frs_c (.same _) (frs_c (.same _) (frs_c (.same _) (frs_c (.same _) (frs_c (.same _) (frs_c (.same _) (frs_c (.same _) (frs_c (.same _) (frs_c (.same _) frs_n)))))))))))))))) (hf_c (t:=⟨41,[.nil,.nil]⟩) rfl kr rfl (frs_c (.same _) (frs_c (.same _) frs_n)) (hf_c (t:=q4) rfl kr rfl (frs_c (.same _) (frs_c (.same _) frs_n)) (hf_c (t:=q2) rfl kr rfl frs_same (hf_c (t:=q1) rfl kr rfl frs_same (hf_c (t:=q5) rfl kr rfl frs_same (hf_c (t:=q6) rfl kr rfl frs_same (hf_c (t:=q7) rfl kr rfl frs_same (hf_c (t:=q8) rfl kr rfl (frs_c (.same _) (frs_c (.same _) (frs_c (.same _) (frs_c (.same _) (frs_c (.same _) (frs_c (.same _) (frs_c (.same _) (frs_c (.same _) (frs_c (.same _) (frs_c (.same _) (frs_c (.same _) (frs_c (.same _) (frs_c (.same _) (frs_c (.same _) (frs_c (.same _) (frs_c (.same _) (frs_c (.same _) frs_n))))))))))))))))) hf_n))))))))))) ?_
   intro s8 u8 Q8 hh hN8 hX8 hR8
   let z47:=(10,bo (eI .i64) s8.2.1); let z48:EH:=(10,some (rC52 s8.2.2.1)); let z49:EV:=(102,.sref 7 [] 0 (List.length s8.2.2.1) 3); let z50:=(12,ii s8.2.2.2); let z51:EH:=(3,some (rI_3 s8.1)); let z52:EH:=(7,some (rC52 s8.2.2.1)); let z53:=(90,bb (decide ((((List.length s8.2.1):Nat):Int)=(0:Int)))); let z54:=(94,bo (eI .i64) s8.2.1); let z55:EV:=(95,.bptr (fl (eI .i64) s8.2.1) (Int.toNat (0:Int)*1)); let z3:=List.drop (Int.toNat (1:Int)) s8.2.1; let z7:=List.take (Int.toNat ((List.length s8.2.1:Nat):Int) - Int.toNat (1:Int)) z3; let z4:=List.drop (Int.toNat (w64 (s8.2.2.2*(8:Int)))) x_b.Mem; let z8:=List.take (Int.toNat (w64 ((w64 (s8.2.2.2+(1:Int)))*(8:Int))) - Int.toNat (w64 (s8.2.2.2*(8:Int)))) z4; let z56:=(13,bo (eI .i64) z8); let z5:=List.getD s8.2.1 (Int.toNat (0:Int)) default; let z57:=(97,ii (w64 (z5*(8:Int)))); let z9:=over s8.1 (Int.toNat (w64 (z5*(8:Int)))) (Int.toNat (((List.length s8.1):Nat):Int) - Int.toNat (w64 (z5*(8:Int)))) z8
   unfold F_spec_HostBoot_l8 at hh
   refine Aw.seq (Aw.sreg [3,4,7,8,10,11,12,58] [0,1,2,3,4,6,7,8,9,10] ?_)
   let q13:Root:=⟨41,[sw 3 s8.1,.sref 4 [] 0 (List.length v3.Guests) 17]⟩; let z58:=(2,some q13); let q14:Root:=⟨55,(bb true::sw 7 v6.Regs::ru25 v6 [.sref 10 [] 0 (List.length s8.2.2.1) 3,sw 8 x_b.In,sw 9 x_b.Out])⟩; let z59:=(6,some q14)
   refine yj 3  (sp 122 [z20,z23,z29,z36,z47,z17,z50,(53,ii s8.2.2.2),(54,bb (decide (s8.2.2.2<(8:Int)))),(55,bb (decide (s8.2.2.2<(8:Int))))]) [z11,z15,z58,z51,z31,z59,z42,z43,z44,z48] 11 ?_
   rcases cond_some hh with ⟨hb,hh⟩ | ⟨hb,hh⟩
   · refine yb 54 hb (yb 55 hb (yt (sp 122 [z20,z23,z29,z36,z47,z17,z50,z35]) [z11,z15,z58,z51,z31,z59,z42,z43,z44,z48] 11 ?_))
     rcases cond_sf hh with ⟨hb,hh⟩ | ⟨hb,hh⟩
     · refine cF hb (Aw.exit (then_x (hX8 _ _ _ _ _ (some_some hh) ?_)))
       intro hout
       rw [hout] at hk8
       refine blk_x ?_
       obtain rfl:=some_some hk8
       exact hN7 (s8.1,s8.2.2.1) _ _ _ hk7 (el [some 1,some 2,some 3,some 4,some 6,some 7,some 10,some 8,some 9] (rens_sp kr (rp 1 (rp 2 (ri (rp 6 rl_n))))) (hq ⟨41,[.nil,.nil]⟩ rz (hq q13 rz (hn nr_eI (hn nr_O_55 (hq q14 rz (hn nr_eI (hn nr_C_52 (hn nr_eI (hn nr_eI hs_nil))))))))))
     refine cT hb (Aw.xskip (fun _ _ _ hq=>then_m hq) ?_)
     obtain ⟨j9,hh,hk9⟩:=bind_some hh
     refine Aw.join (S:=(List Int) × (List Int) × (List DSlot)) (fun s9=>sp 122 [(3,pp 0),(4,pp 1),(7,pp 2),(8,ii s4),(10,bo (eI .i64) s9.2.1),(11,pp 5),(12,ii s8.2.2.2)]) (fun s9=>[(0,some (rB27 x_b)),(1,some ⟨41,[.nil,.nil]⟩),(2,some ⟨41,[sw 3 s9.1,.sref 4 [] 0 (List.length v3.Guests) 17]⟩),(3,some (rI_3 s9.1)),(4,some (rO55 v3.Guests)),(5,some ⟨55,(bb true::sw 6 v6.Regs::ru25 v6 [.sref 7 [] 0 (List.length s9.2.2) 3,sw 8 x_b.In,sw 9 x_b.Out])⟩),(6,some (rI_3 v6.Regs)),(7,some (rC52 s9.2.2)),(8,some (rI_3 x_b.In)),(9,some (rI_3 x_b.Out))]) 10 (fun s9=>F_spec_HostBoot_j9 s8 s9=some u8) ?_ ?_
     · intro s9 hh
       unfold F_spec_HostBoot_j9 at hh
       refine Aw.oreg ?_
       let q15:Root:=⟨41,[sw 3 s9.1,.sref 4 [] 0 (List.length v3.Guests) 17]⟩; let q16:Root:=⟨55,(bb true::sw 6 v6.Regs::ru25 v6 [.sref 7 [] 0 (List.length s9.2.2) 3,sw 8 x_b.In,sw 9 x_b.Out])⟩
       exact ye (sp 122 [z20,z23,z29,z36,(10,bo (eI .i64) s9.2.1),z16,(12,ii (w64 (s8.2.2.2+(1:Int)))),(59,ii s8.2.2.2),(60,ii (w64 (s8.2.2.2+(1:Int))))]) [z11,z15,(2,some q15),(3,some (rI_3 s9.1)),z31,(5,some q16),z41,(7,some (rC52 s9.2.2)),z43,z44] 10 (hN8 (s9.1,s9.2.1,s9.2.2,(w64 (s8.2.2.2+(1:Int)))) _ _ _ (some_some hh) (el [some 0,some 1,some 2,some 3,some 4,none,some 5,some 6,some 8,some 9,some 7] (rens_sp kr (rp 0 (rp 1 (rp 2 (ri (ro nr_eI (rp 5 (ri rl_n)))))))) (hq (rB27 x_b) (rens_same (nr_B_27 _)) (hq ⟨41,[.nil,.nil]⟩ rz (hq q15 rz (hn nr_eI (hn nr_O_55 (hq q16 rz (hn nr_eI (hn nr_eI (hn nr_eI (hn nr_C_52 hs_nil))))))))))))
     intro Q9 hN9 hR9 hE9
     refine Aw.block (Aw.sreg [3,4,7,8,10,11,12,13] [0,1,2,3,4,6,7,8,9,10] (yj 7  (sp 122 [z20,z23,z29,z36,z47,z17,z50,z35,(61,.ptr 0 [] 13),(62,bo (eI .i64) x_b.Mem),(63,ii s8.2.2.2),(64,ii (w64 (s8.2.2.2*(8:Int)))),(65,ii s8.2.2.2),(66,ii (w64 (s8.2.2.2+(1:Int)))),(67,ii (w64 ((w64 (s8.2.2.2+(1:Int)))*(8:Int))))]) [z11,z15,z58,z51,z31,z59,z42,z43,z44,z48] 11 ?_))
     obtain ⟨hg574,hh⟩:=grd_some hh
     refine ys (.slc 1 (.t 62) (some (.t 64)) (some (.t 67))) (some 68) (op_slc (c:=(eI .i64)) (xs:=x_b.Mem) (l:=(w64 (s8.2.2.2*(8:Int)))) (h:=(w64 ((w64 (s8.2.2.2+(1:Int)))*(8:Int)))) len_eI kr kr kr hg574 ?_)
     refine yt (sp 122 [z20,z23,z29,z36,z47,z17,z50,z56]) [z11,z15,z58,z51,z31,z59,z42,z43,z44,z48] 11 (sy [3,4,7,8,10,11,12,13,14] [0,1,2,3,4,6,7,8,9,10] (sp 122 [z20,z23,z29,z36,z47,z17,z50,z56,(14,bb true)]) [z11,z15,z58,z51,z31,z59,z42,z43,z44,z48] 11 ?_)
     obtain ⟨j10,hh,hk10⟩:=bind_some hh
     refine Aw.join (S:=Bool) (fun s10=>sp 122 [(3,pp 0),(4,pp 1),(7,pp 2),(8,ii s4),(10,bo (eI .i64) s8.2.1),(11,pp 5),(12,ii s8.2.2.2),(13,bo (eI .i64) (List.take (Int.toNat (w64 ((w64 (s8.2.2.2+(1:Int)))*(8:Int))) - Int.toNat (w64 (s8.2.2.2*(8:Int)))) (List.drop (Int.toNat (w64 (s8.2.2.2*(8:Int)))) x_b.Mem))),(14,bb s10)]) (fun s10=>[(0,some (rB27 x_b)),(1,some ⟨41,[.nil,.nil]⟩),(2,some ⟨41,[sw 3 s8.1,.sref 4 [] 0 (List.length v3.Guests) 17]⟩),(3,some (rI_3 s8.1)),(4,some (rO55 v3.Guests)),(5,some ⟨55,(bb true::sw 6 v6.Regs::ru25 v6 [.sref 7 [] 0 (List.length s8.2.2.1) 3,sw 8 x_b.In,sw 9 x_b.Out])⟩),(6,some (rI_3 v6.Regs)),(7,some (rC52 s8.2.2.1)),(8,some (rI_3 x_b.In)),(9,some (rI_3 x_b.Out))]) 10 (fun s10=>F_spec_HostBoot_j10 x_b s8 s10=some j9) ?_ ?_
     · intro s10 hh
       unfold F_spec_HostBoot_j10 at hh
       refine Aw.seq (Aw.sreg [3,4,7,8,10,11,12,13,81] [0,1,2,3,4,5,6,7,8,9] ?_)
       let q17:Root:=⟨55,(bb true::sw 6 v6.Regs::ru25 v6 [.sref 7 [] 0 (List.length s8.2.2.1) 3,sw 8 x_b.In,sw 9 x_b.Out])⟩; let z60:=(5,some q17)
       refine yt (sp 122 [z20,z23,z29,z36,z47,z16,z50,z56,(81,bb s10)]) [z11,z15,z58,z51,z31,z60,z41,z52,z43,z44] 10 ?_
       rcases cond_some hh with ⟨hb,hh⟩ | ⟨hb,hh⟩
       · refine cT hb (Aw.sreg [3,4,7,8,10,11,12] [0,1,2,3,4,5,6,8,9,11] (yu 4 [(82,.ptr 5 [] 14),(83,.sref 7 [] 0 (List.length s8.2.2.1) 3),(84,.agg [ii (-1),bb false,bb false]),(85,.sref 10 [] 0 1 3)] [(10,some ⟨52,[ii (-1),bb false,bb false]⟩),z11,z15,z58,z51,z31,z60,z41,z52,z43,z44] 11 ?_))
         obtain ⟨hg547,hh⟩:=grd_some hh
         refine ys (.app 52 3 16 [(ii 0),(bb false),(bb false)] (.t 83) (.t 85)) (some 86) (op_app (c:=C_52) (xs:=s8.2.2.1) (ys:=([z1]:List DSlot)) (r:=7) (k:=(List.length s8.2.2.1)) (π:=[]) eqn len_C_52 kr kr kr hg547 ?_)
         let q18:Root:=⟨55,(bb true::sw 6 v6.Regs::ru25 v6 [.sref 11 [] 0 (List.length (s8.2.2.1 ++ ([z1]:List DSlot))) 3,sw 8 x_b.In,sw 9 x_b.Out])⟩; let q19:Root:=(rC52 (s8.2.2.1 ++ ([z1]:List DSlot)))
         refine yt (sp 122 [z20,z23,z29,z36,z47,z16,z50]) [z11,z15,z58,z51,z31,(5,some q18),z41,z43,z44,(11,some q19)] 12 (Aw.exit (then_x (blk_x ?_)))
         obtain rfl:=some_some hh
         exact hN9 (s8.1,s8.2.1,(s8.2.2.1 ++ ([z1]:List DSlot))) _ _ _ hk9 (el [some 0,some 1,some 2,some 3,some 4,some 5,some 6,some 11,some 8,some 9] (rens_sp kr (rp 0 (rp 1 (rp 2 (ri (ro nr_eI (rp 5 (ri rl_n)))))))) (hq (rB27 x_b) (rens_same (nr_B_27 _)) (hq ⟨41,[.nil,.nil]⟩ rz (hq q13 rz (hn nr_eI (hn nr_O_55 (hq q18 rz (hn nr_eI (hn nr_C_52 (hn nr_eI (hn nr_eI hs_nil)))))))))))
       refine cF hb (Aw.xskip (fun _ _ _ hq=>then_m hq) (Aw.seq (sy [3,4,7,8,10,11,12,13,90] [0,1,2,3,4,5,6,7,8,9] (sp 122 [z20,z23,z29,z36,z47,z16,z50,z56,z53]) [z11,z15,z58,z51,z31,z60,z41,z52,z43,z44] 10 ?_)))
       rcases cond_some hh with ⟨hb,hh⟩ | ⟨hb,hh⟩
       · refine cT hb (sy [4,5,6] [1] (sp 122 [z23,z27,z28]) [z15] 10 (Aw.ret (then_r (blk_r ?_))))
         obtain rfl:=some_some hh
         refine hR9 _ _ _ ((hR8 _ _ _ _ (some_some hk9) ?_))
         intro hout
         rw [hout] at hk8
         refine blk_r ?_
         obtain rfl:=some_some hk8
         refine hR7 _ _ _ ?_
         rw [some_some hk7]
         exact gives (r':=.tup [.agg [.nil,.nil],ii (-1),bb false]) kr (Ent.list [none,none] rfl rfl (Nat.zero_le _) (rens_1 (ren_tup rz)) (hs_no dd rfl rfl (hs_no dd rfl rfl hs_nil)))
       refine cF hb (Aw.xskip (fun _ _ _ hq=>then_m hq) (Aw.sregt [3,4,7,8,10,11,12] [0,1,2,3,4,5,6,7,8,9] (qc (cs:=[]) (E':=(sp 122 [z20,z23,z29,z36,z47,z16,z50,z56,z53,(92,pp 2),(93,sw 3 s8.1),z54])) (pre:=(List.take 3 (rg 161 27))) (L':=(List.drop 3 (rg 161 27))) kr (fun K=>by kernel_rfl) .nil ?_)))
       obtain ⟨hg550,hh⟩:=grd_some hh
       refine qs (.iadr 1 (.t 94) (.c (ii 0))) (some 95) (yq_q rfl (op_iadr (kd:=.i64) (c:=(eI .i64)) (xs:=s8.2.1) len_eI dd kr kr hg550 ?_))
       refine qs (.load false 1 (.t 95)) (some 96) (yq_q rfl (op_loadb (c:=(eI .i64)) (xs:=s8.2.1) (o:=Int.toNat (0:Int)*1) (i:=(Int.toNat (0:Int))) (off:=0) (v:=ii z5) len_eI kr ltn ltn dd kr ?_))
       refine qc (cs:=[]) (E':=(sp 122 [z20,z23,z29,z36,z47,z16,z50,z56,z53,(92,pp 2),(93,sw 3 s8.1),z54,z55,(96,ii z5),z57])) (pre:=(List.take 1 (List.drop 5 (rg 161 27)))) (L':=(List.drop 6 (rg 161 27))) kr (fun K=>by kernel_rfl) .nil ?_
       obtain ⟨hg557,hh⟩:=grd_some hh
       refine qs (.slc 1 (.t 93) (some (.t 97)) none) (some 98) (yq_q rfl (op_slo (r:=3) (π:=[]) (o:=0) (k:=(List.length s8.1)) (sz:=1) (l:=(w64 (z5*(8:Int)))) (h:=(((List.length s8.1):Nat):Int)) kr kr kr hg557 ?_))
       refine qtt (cs:=[]) (E':=(sp 122 [z20,z23,z29,z36,z47,z16,z50,z56,z53,(92,pp 2),(93,sw 3 s8.1),z54,z55,(96,ii z5),z57,(98,.sref 3 [] (0+Int.toNat (w64 (z5*(8:Int)))*1) (Int.toNat (((List.length s8.1):Nat):Int) - Int.toNat (w64 (z5*(8:Int)))) 1),(99,bo (eI .i64) z8)])) (fun K=>by kernel_rfl) .nil ?_
       let q20:Root:=(rI_3 z9); let z61:=(3,some q20)
       refine ys (.cpy 1 (.t 98) (.t 99)) (some 100) (op_cpy (c:=(eI .i64)) (xs:=s8.1) (ys:=z8) (e:=3) (r:=3) (π:=[]) (o:=0+Int.toNat (w64 (z5*(8:Int)))*1) (k:=(Int.toNat (((List.length s8.1):Nat):Int) - Int.toNat (w64 (z5*(8:Int))))) (i:=(Int.toNat (w64 (z5*(8:Int))))) (H':=[z61,z11,z15,z58,z51,z31,z60,z41,z52,z43,z44]) len_eI (rpv kr (rp_bor (c:=(eI .i64)) (xs:=z8) len_eI)) kr kr ltn ltn kr ?_)
       refine yt (sp 122 [z20,z23,z29,z36,z47,z16,z50]) [z11,z15,z58,z61,z31,z60,z41,z52,z43,z44] 10 (Aw.sregd [3,4,7,8,10,11,12] [0,1,2,3,4,5,6,8,9,10] [] kr (dj 3 (sp 122 [z20,z23,z29,z36,z47,z16,z50,(101,.ptr 5 [] 14),z49,(103,bo (eI .i64) s8.2.1)]) [z11,z15,z58,z61,z31,z60,z41,z52,z43,z44] 10 ?_))
       obtain ⟨hg553,hh⟩:=grd_some hh
       refine ds (.iadr 1 (.t 103) (.c (ii 0))) (some 104) (ydo_q rfl kr (op_iadr (kd:=.i64) (c:=(eI .i64)) (xs:=s8.2.1) len_eI dd kr kr hg553 ?_))
       refine ds (.load false 1 (.t 104)) (some 105) (ydo_q rfl kr (op_loadb (c:=(eI .i64)) (xs:=s8.2.1) (o:=Int.toNat (0:Int)*1) (i:=(Int.toNat (0:Int))) (off:=0) (v:=ii z5) len_eI kr ltn ltn dd kr ?_))
       refine dt (sp 122 [z20,z23,z29,z36,z47,z16,z50,(101,.ptr 5 [] 14),z49,(103,bo (eI .i64) s8.2.1),(104,.bptr (fl (eI .i64) s8.2.1) (Int.toNat (0:Int)*1)),(105,ii z5),(106,.agg [ii z5,bb true,bb false]),(107,.bor 1 [ii z5,bb true,bb false])]) [z11,z15,z58,z61,z31,z60,z41,z52,z43,z44] 10 ?_
       obtain ⟨hg556,hh⟩:=grd_some hh
       refine ys (.app 52 3 16 [(ii 0),(bb false),(bb false)] (.t 102) (.t 107)) (some 108) (op_app (c:=C_52) (xs:=s8.2.2.1) (ys:=([(DSlot.mk z5 true false)]:List DSlot)) (r:=7) (k:=(List.length s8.2.2.1)) (π:=[]) eqn len_C_52 kr kr kr hg556 ?_)
       let q21:Root:=⟨55,(bb true::sw 6 v6.Regs::ru25 v6 [.sref 10 [] 0 (List.length (s8.2.2.1 ++ ([(DSlot.mk z5 true false)]:List DSlot))) 3,sw 8 x_b.In,sw 9 x_b.Out])⟩; let q22:Root:=(rC52 (s8.2.2.1 ++ ([(DSlot.mk z5 true false)]:List DSlot)))
       refine yt (sp 122 [z20,z23,z29,z36,z47,z16,z50]) [z11,z15,z58,z61,z31,(5,some q21),z41,z43,z44,(10,some q22)] 11 (Aw.oreg (yu 1 [(110,bo (eI .i64) s8.2.1)] [z11,z15,z58,z61,z31,(5,some q21),z41,z43,z44,(10,some q22)] 11 ?_))
       obtain ⟨hg555,hh⟩:=grd_some hh
       refine ys (.slc 1 (.t 110) (some (.c (ii 1))) none) (some 111) (op_slc (c:=(eI .i64)) (xs:=s8.2.1) (l:=(1:Int)) (h:=((List.length s8.2.1:Nat):Int)) len_eI kr kr kr hg555 ?_)
       refine ye (sp 122 [z20,z23,z29,z36,(10,bo (eI .i64) z7),z16,z50,(110,bo (eI .i64) s8.2.1),(111,bo (eI .i64) z7)]) [z11,z15,z58,z61,z31,(5,some q21),z41,z43,z44,(10,some q22)] 11 (blk_m ?_)
       obtain rfl:=some_some hh
       exact hN9 (z9,z7,(s8.2.2.1 ++ ([(DSlot.mk z5 true false)]:List DSlot))) _ _ _ hk9 (el [some 0,some 1,some 2,some 3,some 4,some 5,some 6,some 10,some 8,some 9] (rens_sp kr (rp 0 (rp 1 (rp 2 (ri (ro nr_eI (rp 5 (ri rl_n)))))))) (hq (rB27 x_b) (rens_same (nr_B_27 _)) (hq ⟨41,[.nil,.nil]⟩ rz (hq q13 rz (hn nr_eI (hn nr_O_55 (hq q21 rz (hn nr_eI (hn nr_C_52 (hn nr_eI (hn nr_eI hs_nil)))))))))))
     intro Q10 hN10 hR10 hE10
     refine sy [3,4,7,8,10,11,12,13,14,15] [0,1,2,3,4,6,7,8,9,10] (sp 122 [z20,z23,z29,z36,z47,z17,z50,z56,(14,bb true),(15,ii 0)]) [z11,z15,z58,z51,z31,z59,z42,z43,z44,z48] 11 (Aw.block ?_)
     obtain ⟨o11,hi11,hk11⟩:=bind_some hh
     refine Aw.iter (fun (s11:Bool × Int)=>sp 122 [(3,pp 0),(4,pp 1),(7,pp 2),(8,ii s4),(10,bo (eI .i64) s8.2.1),(11,pp 5),(12,ii s8.2.2.2),(13,bo (eI .i64) (List.take (Int.toNat (w64 ((w64 (s8.2.2.2+(1:Int)))*(8:Int))) - Int.toNat (w64 (s8.2.2.2*(8:Int)))) (List.drop (Int.toNat (w64 (s8.2.2.2*(8:Int)))) x_b.Mem))),(14,bb s11.1),(15,ii s11.2)]) (fun (s11:Bool × Int)=>[(0,some (rB27 x_b)),(1,some ⟨41,[.nil,.nil]⟩),(2,some ⟨41,[sw 3 s8.1,.sref 4 [] 0 (List.length v3.Guests) 17]⟩),(3,some (rI_3 s8.1)),(4,some (rO55 v3.Guests)),(5,some ⟨55,(bb true::sw 6 v6.Regs::ru25 v6 [.sref 7 [] 0 (List.length s8.2.2.1) 3,sw 8 x_b.In,sw 9 x_b.Out])⟩),(6,some (rI_3 v6.Regs)),(7,some (rC52 s8.2.2.1)),(8,some (rI_3 x_b.In)),(9,some (rI_3 x_b.Out))]) 10 hi11 (el [some 0,some 1,some 2,some 3,some 4,some 6,some 7,some 10,some 8,some 9] (rens_sp kr (rp 0 (rp 1 (rp 2 (ri (ro nr_eI (rp 6 (ri (ro nr_eI (rb (ri rl_n))))))))))) (hq (rB27 x_b) (rens_same (nr_B_27 _)) (hq ⟨41,[.nil,.nil]⟩ rz (hq q13 rz (hn nr_eI (hn nr_O_55 (hq q14 rz (hn nr_eI (hn nr_C_52 (hn nr_eI (hn nr_eI hs_nil))))))))))) ?_
     intro s11 u11 Q11 hh hN11 hX11 hR11
     let z62:=(70,bb (decide (s11.2<(8:Int)))); let z10:=List.getD z8 (Int.toNat s11.2) default
     unfold F_spec_HostBoot_l11 at hh
     refine Aw.seq (Aw.sreg [3,4,7,8,10,11,12,13,14,15,70] [0,1,2,3,4,5,6,7,8,9] ?_)
     let q23:Root:=⟨55,(bb true::sw 6 v6.Regs::ru25 v6 [.sref 7 [] 0 (List.length s8.2.2.1) 3,sw 8 x_b.In,sw 9 x_b.Out])⟩; let z63:=(5,some q23)
     refine yt (sp 122 [z20,z23,z29,z36,z47,z16,z50,z56,(14,bb s11.1),(15,ii s11.2),z62]) [z11,z15,z58,z51,z31,z63,z41,z52,z43,z44] 10 ?_
     rcases cond_sf hh with ⟨hb,hh⟩ | ⟨hb,hh⟩
     · refine cF hb (Aw.exit (then_x (hX11 _ _ _ _ _ (some_some hh) ?_)))
       intro hout
       rw [hout] at hk11
       refine blk_x ?_
       obtain rfl:=some_some hk11
       exact hN10 s11.1 _ _ _ hk10 (el [some 0,some 1,some 2,some 3,some 4,some 5,some 6,some 7,some 8,some 9] (rens_sp kr (rp 0 (rp 1 (rp 2 (ri (ro nr_eI (rp 5 (ri (ro nr_eI (rb rl_n)))))))))) (hq (rB27 x_b) (rens_same (nr_B_27 _)) (hq ⟨41,[.nil,.nil]⟩ rz (hq q13 rz (hn nr_eI (hn nr_O_55 (hq q23 rz (hn nr_eI (hn nr_C_52 (hn nr_eI (hn nr_eI hs_nil)))))))))))
     refine cT hb (Aw.xskip (fun _ _ _ hq=>then_m hq) ?_)
     obtain ⟨j12,hh,hk12⟩:=bind_some hh
     refine Aw.join (S:=Bool) (fun s12=>sp 122 [(3,pp 0),(4,pp 1),(7,pp 2),(8,ii s4),(10,bo (eI .i64) s8.2.1),(11,pp 5),(12,ii s8.2.2.2),(13,bo (eI .i64) (List.take (Int.toNat (w64 ((w64 (s8.2.2.2+(1:Int)))*(8:Int))) - Int.toNat (w64 (s8.2.2.2*(8:Int)))) (List.drop (Int.toNat (w64 (s8.2.2.2*(8:Int)))) x_b.Mem))),(14,bb s12),(15,ii s11.2)]) (fun s12=>[(0,some (rB27 x_b)),(1,some ⟨41,[.nil,.nil]⟩),(2,some ⟨41,[sw 3 s8.1,.sref 4 [] 0 (List.length v3.Guests) 17]⟩),(3,some (rI_3 s8.1)),(4,some (rO55 v3.Guests)),(5,some ⟨55,(bb true::sw 6 v6.Regs::ru25 v6 [.sref 7 [] 0 (List.length s8.2.2.1) 3,sw 8 x_b.In,sw 9 x_b.Out])⟩),(6,some (rI_3 v6.Regs)),(7,some (rC52 s8.2.2.1)),(8,some (rI_3 x_b.In)),(9,some (rI_3 x_b.Out))]) 10 (fun s12=>F_spec_HostBoot_j12 s11 s12=some u11) ?_ ?_
     · intro s12 hh
       unfold F_spec_HostBoot_j12 at hh
       exact Aw.oreg (ye (sp 122 [z20,z23,z29,z36,z47,z16,z50,z56,(14,bb s12),(15,ii (w64 (s11.2+(1:Int)))),(71,ii s11.2),(72,ii (w64 (s11.2+(1:Int))))]) [z11,z15,z58,z51,z31,z63,z41,z52,z43,z44] 10 (hN11 (s12,(w64 (s11.2+(1:Int)))) _ _ _ (some_some hh) (el [some 0,some 1,some 2,some 3,some 4,some 5,some 6,some 7,some 8,some 9] (rens_sp kr (rp 0 (rp 1 (rp 2 (ri (ro nr_eI (rp 5 (ri (ro nr_eI (rb (ri rl_n))))))))))) (hq (rB27 x_b) (rens_same (nr_B_27 _)) (hq ⟨41,[.nil,.nil]⟩ rz (hq q13 rz (hn nr_eI (hn nr_O_55 (hq q23 rz (hn nr_eI (hn nr_C_52 (hn nr_eI (hn nr_eI hs_nil)))))))))))))
     intro Q12 hN12 hR12 hE12
     refine Aw.block (Aw.oreg (yj 2  (sp 122 [z20,z23,z29,z36,z47,z16,z50,z56,(14,bb s11.1),(15,ii s11.2),z62,(73,bb s11.1),(74,bb s11.1)]) [z11,z15,z58,z51,z31,z63,z41,z52,z43,z44] 10 ?_))
     rcases cond_sf hh with ⟨hb,hh⟩ | ⟨hb,hh⟩
     · refine yb 14 hb (yb 73 hb (yb 74 hb (ye (sp 122 [z20,z23,z29,z36,z47,z16,z50,z56,(14,bb false),(15,ii s11.2),z62,(73,bb false),(74,bb false),(75,.und),(76,.und),(77,.und),(78,.und),(79,.und),(80,bb false)]) [z11,z15,z58,z51,z31,z63,z41,z52,z43,z44] 10 (blk_m ?_))))
       obtain rfl:=some_some hh
       exact hN12 false _ _ _ hk12 (el [some 0,some 1,some 2,some 3,some 4,some 5,some 6,some 7,some 8,some 9] (rens_sp kr (rp 0 (rp 1 (rp 2 (ri (ro nr_eI (rp 5 (ri (ro nr_eI (rb (ri rl_n))))))))))) (hq (rB27 x_b) (rens_same (nr_B_27 _)) (hq ⟨41,[.nil,.nil]⟩ rz (hq q13 rz (hn nr_eI (hn nr_O_55 (hq q23 rz (hn nr_eI (hn nr_C_52 (hn nr_eI (hn nr_eI hs_nil)))))))))))
     refine yb 14 hb (yb 73 hb (yb 74 hb (yu 2 [(14,bb true),(73,bb true),(74,bb true),(75,bo (eI .i64) z8),(76,ii s11.2)] [z11,z15,z58,z51,z31,z63,z41,z52,z43,z44] 10 ?_)))
     obtain ⟨hg573,hh⟩:=grd_some hh
     refine yg (.iadr 1 (.t 75) (.t 76)) (some 77) 74 true (op_iadr (kd:=.i64) (c:=(eI .i64)) (xs:=z8) len_eI dd kr kr hg573 ?_)
     refine yg (.load false 1 (.t 77)) (some 78) 74 true (op_loadb (c:=(eI .i64)) (xs:=z8) (o:=Int.toNat s11.2*1) (i:=(Int.toNat s11.2)) (off:=0) (v:=ii z10) len_eI kr ltn ltn dd kr ?_)
     refine ye (sp 122 [z20,z23,z29,z36,z47,z16,z50,z56,(14,bb (decide (z10=(0:Int)))),(15,ii s11.2),z62,(73,bb true),(74,bb true),(75,bo (eI .i64) z8),(76,ii s11.2),(77,.bptr (fl (eI .i64) z8) (Int.toNat s11.2*1)),(78,ii z10),(79,bb (decide (z10=(0:Int)))),(80,bb (decide (z10=(0:Int))))]) [z11,z15,z58,z51,z31,z63,z41,z52,z43,z44] 10 (blk_m ?_)
     obtain rfl:=some_some hh
     exact hN12 (decide (z10=(0:Int))) _ _ _ hk12 (el [some 0,some 1,some 2,some 3,some 4,some 5,some 6,some 7,some 8,some 9] (rens_sp kr (rp 0 (rp 1 (rp 2 (ri (ro nr_eI (rp 5 (ri (ro nr_eI (rb (ri rl_n))))))))))) (hq (rB27 x_b) (rens_same (nr_B_27 _)) (hq ⟨41,[.nil,.nil]⟩ rz (hq q13 rz (hn nr_eI (hn nr_O_55 (hq q23 rz (hn nr_eI (hn nr_C_52 (hn nr_eI (hn nr_eI hs_nil)))))))))))
   refine yb 54 hb (yb 55 hb (yt (sp 122 [z20,z23,z29,z36,z47,z17,z50,(58,bb false)]) [z11,z15,z58,z51,z31,z59,z42,z43,z44,z48] 11 (cF rfl (Aw.exit (then_x (hX8 _ _ _ _ _ (some_some hh) ?_))))))
   intro hout
   rw [hout] at hk8
   refine blk_x ?_
   obtain rfl:=some_some hk8
   exact hN7 (s8.1,s8.2.2.1) _ _ _ hk7 (el [some 1,some 2,some 3,some 4,some 6,some 7,some 10,some 8,some 9] (rens_sp kr (rp 1 (rp 2 (ri (rp 6 rl_n))))) (hq ⟨41,[.nil,.nil]⟩ rz (hq q13 rz (hn nr_eI (hn nr_O_55 (hq q14 rz (hn nr_eI (hn nr_C_52 (hn nr_eI (hn nr_eI hs_nil))))))))))
 intro Q4 hN4 hR4 hE4
 refine sy [2,3,4,7,8,9] [0,1,2,3,4,5] (sp 122 [z18,z21,z24,(7,pp 5),(8,ii (-1)),(9,ii 2)]) [z12,z14,z19,(3,some q2),z31,(5,some q3)] 6 (Aw.block ?_)
 obtain ⟨o13,hi13,hk13⟩:=bind_some hh
 refine Aw.iter (fun (s13:Int × Int)=>sp 122 [(2,pp 0),(3,pp 1),(4,pp 2),(7,pp 3),(8,ii s13.1),(9,ii s13.2)]) (fun (s13:Int × Int)=>[(0,some (rB41 x_h)),(1,some (rB27 x_b)),(2,some ⟨41,[.nil,.nil]⟩),(3,some ⟨41,[sw 4 v3.Words,.sref 5 [] 0 (List.length v3.Guests) 17]⟩),(4,some (rI_3 v3.Words)),(5,some (rO55 v3.Guests))]) 6 hi13 (el [some 0,some 1,some 2,some 5,some 3,some 4] (rens_sp kr (rp 0 (rp 1 (rp 2 (rp 5 (ri (ri rl_n))))))) (hq (rB41 x_h) (rens_same (nr_B_41 _)) (hq (rB27 x_b) (rens_same (nr_B_27 _)) (hq ⟨41,[.nil,.nil]⟩ rz (hq q3 rz (hn nr_eI (hn nr_O_55 hs_nil))))))) ?_
 intro s13 u13 Q13 hh hN13 hX13 hR13
 let z64:=(28,bb (decide ((0:Int)≤s13.2))); let z65:=(9,ii s13.2); let z6:=List.getD x_h.Guests (Int.toNat s13.2) default
 unfold F_spec_HostBoot_l13 at hh
 refine Aw.seq (Aw.sreg [2,3,4,7,8,9,28] [0,1,2,3,4,5] ?_)
 let q24:Root:=⟨41,[sw 4 v3.Words,.sref 5 [] 0 (List.length v3.Guests) 17]⟩; let z66:=(3,some q24)
 refine yt (sp 122 [z18,z21,z24,z30,(8,ii s13.1),z65,z64]) [z12,z14,z19,z66,z33,z32] 6 ?_
 rcases cond_sf hh with ⟨hb,hh⟩ | ⟨hb,hh⟩
 · refine cF hb (Aw.exit (then_x (hX13 _ _ _ _ _ (some_some hh) ?_)))
   intro hout
   rw [hout] at hk13
   refine blk_x ?_
   obtain rfl:=some_some hk13
   exact hN4 s13.1 _ _ _ hk4 (el [some 0,some 1,some 2,some 3,some 4,some 5] (rens_sp kr (rp 0 (rp 1 (rp 2 (rp 3 (ri rl_n)))))) (hq (rB41 x_h) (rens_same (nr_B_41 _)) (hq (rB27 x_b) (rens_same (nr_B_27 _)) (hq ⟨41,[.nil,.nil]⟩ rz (hq q24 rz (hn nr_eI (hn nr_O_55 hs_nil)))))))
 refine cT hb (Aw.xskip (fun _ _ _ hq=>then_m hq) ?_)
 obtain ⟨j14,hh,hk14⟩:=bind_some hh
 refine Aw.join (S:=Int) (fun s14=>sp 122 [(2,pp 0),(3,pp 1),(4,pp 2),(7,pp 3),(8,ii s14),(9,ii s13.2)]) (fun s14=>[(0,some (rB41 x_h)),(1,some (rB27 x_b)),(2,some ⟨41,[.nil,.nil]⟩),(3,some ⟨41,[sw 4 v3.Words,.sref 5 [] 0 (List.length v3.Guests) 17]⟩),(4,some (rI_3 v3.Words)),(5,some (rO55 v3.Guests))]) 6 (fun s14=>F_spec_HostBoot_j14 s13 s14=some u13) ?_ ?_
 · intro s14 hh
   unfold F_spec_HostBoot_j14 at hh
   exact Aw.oreg (ye (sp 122 [z18,z21,z24,z30,(8,ii s14),(9,ii (w64 (s13.2 - (1:Int)))),(29,ii s13.2),(30,ii (w64 (s13.2 - (1:Int))))]) [z12,z14,z19,z66,z33,z32] 6 (hN13 (s14,(w64 (s13.2 - (1:Int)))) _ _ _ (some_some hh) (el [some 0,some 1,some 2,some 3,some 4,some 5] (rens_sp kr (rp 0 (rp 1 (rp 2 (rp 3 (ri (ri rl_n))))))) (hq (rB41 x_h) (rens_same (nr_B_41 _)) (hq (rB27 x_b) (rens_same (nr_B_27 _)) (hq ⟨41,[.nil,.nil]⟩ rz (hq q24 rz (hn nr_eI (hn nr_O_55 hs_nil)))))))))
 intro Q14 hN14 hR14 hE14
 refine Aw.block (Aw.sreg [2,3,4,7,8,9,37] [0,1,2,3,4,5] (yj 3  (sp 122 [z18,z21,z24,z30,(8,ii s13.1),z65,z64,(31,.ptr 0 [] 1),(32,bo B_55 x_h.Guests),(33,ii s13.2)]) [z12,z14,z19,z66,z33,z32] 6 ?_))
 obtain ⟨hg594,hh⟩:=grd_some hh
 refine ys (.iadr 17 (.t 32) (.t 33)) (some 34) (op_iadr (kd:=.i64) (c:=B_55) (xs:=x_h.Guests) len_B_55 dd kr kr hg594 ?_)
 refine yu 1 [(34,.bptr (fl B_55 x_h.Guests) (Int.toNat s13.2*17)),(35,.bptr (fl B_55 x_h.Guests) (Int.toNat s13.2*17+0))] [z12,z14,z19,z66,z33,z32] 6 (ys (.load false 1 (.t 35)) (some 36) (op_loadb (c:=B_55) (xs:=x_h.Guests) (o:=Int.toNat s13.2*17+0) (i:=(Int.toNat s13.2)) (off:=0) (v:=bb (z6.Live)) len_B_55 kr ltn ltn dd kr ?_))
 refine yt (sp 122 [z18,z21,z24,z30,(8,ii s13.1),z65,(37,bb (!(z6.Live)))]) [z12,z14,z19,z66,z33,z32] 6 ?_
 rcases cond_sf hh with ⟨hb,hh⟩ | ⟨hb,hh⟩
 · refine cF hb (Aw.skip (blk_m ?_))
   obtain rfl:=some_some hh
   exact hN14 s13.1 _ _ _ hk14 (el [some 0,some 1,some 2,some 3,some 4,some 5] (rens_sp kr (rp 0 (rp 1 (rp 2 (rp 3 (ri (ri rl_n))))))) (hq (rB41 x_h) (rens_same (nr_B_41 _)) (hq (rB27 x_b) (rens_same (nr_B_27 _)) (hq ⟨41,[.nil,.nil]⟩ rz (hq q24 rz (hn nr_eI (hn nr_O_55 hs_nil)))))))
 refine cT hb (Aw.oreg (ye (sp 122 [z18,z21,z24,z30,(8,ii s13.2),z65,(37,bb (!(z6.Live))),(38,ii s13.2)]) [z12,z14,z19,z66,z33,z32] 6 (blk_m ?_)))
 obtain rfl:=some_some hh
 exact hN14 s13.2 _ _ _ hk14 (el [some 0,some 1,some 2,some 3,some 4,some 5] (rens_sp kr (rp 0 (rp 1 (rp 2 (rp 3 (ri (ri rl_n))))))) (hq (rB41 x_h) (rens_same (nr_B_41 _)) (hq (rB27 x_b) (rens_same (nr_B_27 _)) (hq ⟨41,[.nil,.nil]⟩ rz (hq q24 rz (hn nr_eI (hn nr_O_55 hs_nil)))))))
end Go.Proofs.Ytbanbjdcgdmkaaa
