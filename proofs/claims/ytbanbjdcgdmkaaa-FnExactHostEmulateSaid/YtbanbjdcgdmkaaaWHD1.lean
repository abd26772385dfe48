/- Plain functions of the program, and that it hands back what they say. Made by program. -/
import Derived.Test.YtbanbjdcgdmkaaaWT
import Derived.Test.YtbanbjdcgdmkaaaProg
import Derived.Test.YtbanbjdcgdmkaaaWHC1
namespace Go.Proofs.Ytbanbjdcgdmkaaa
open Go.RowKit
set_option maxRecDepth 100000
set_option linter.all false
set_option maxHeartbeats 0
theorem low_impl_copiedSlots:LW 179 ⟨11,[(.tmp 2)],(.seq (.reg false (rg 179 0)) (.seq (.reg false (rg 179 1)) (.seq (.reg false (rg 179 2)) (.seq (.reg false (rg 179 3)) .ret))))⟩:=kr
noncomputable def F_impl_copiedSlots (x_pages:List DSlot):Option (List DSlot) :=
 grd ((0:Int)≤(((List.length x_pages):Nat):Int)∧(((List.length x_pages):Nat):Int)*16≤2 ^ 47∧(((List.length x_pages):Nat):Int)≤2 ^ 47) (some (over (List.replicate (Int.toNat (((List.length x_pages):Nat):Int)) (DSlot.mk (0:Int) false false)) 0 (List.length (List.replicate (Int.toNat (((List.length x_pages):Nat):Int)) (DSlot.mk (0:Int) false false))) x_pages))
theorem impl_copiedSlots_fn {x_pages:List DSlot} {R_:(List DSlot)} (hh:F_impl_copiedSlots x_pages=some R_):Fn Try.prog 179 [bo C_52 x_pages] (.own 52 3 (List.length R_) (fl C_52 R_)):=by
 let z2:=(0,bo C_52 x_pages); let z1:=DSlot.mk (0:Int) false false; let z3:EV:=(3,.sref 0 [] 0 (List.length (List.replicate (Int.toNat (((List.length x_pages):Nat):Int)) z1)) 3)
 unfold F_impl_copiedSlots at hh
 refine Fn.start low_impl_copiedSlots [0] (E:=sp 11 [z2]) kr (v:=.sref 0 [] 0 (List.length R_) 3) (Hr:=[(0,some (rC52 R_))]) (k:=1) kr (sy [0] [] (sp 11 [z2]) [] 0 (Aw.sreg [0,3] [0] (yu 2 [(4,bo C_52 x_pages),(5,ii (((List.length x_pages):Nat):Int))] [] 0 ?_)))
 obtain ⟨hg2,hh⟩:=grd_some hh
 refine ys (.mk 52 3 16 [(ii 0),(bb false),(bb false)] (.t 5)) (some 6) (op_mk (c:=C_52) (d:=z1) (k:=(((List.length x_pages):Nat):Int)) kr hg2 kr ?_)
 let q1:Root:=(rC52 (List.replicate (Int.toNat (((List.length x_pages):Nat):Int)) z1))
 refine yt (sp 11 [z2,z3]) [(0,some q1)] 1 (Aw.sreg [3] [0] (yu 2 [(7,.sref 0 [] 0 (List.length (List.replicate (Int.toNat (((List.length x_pages):Nat):Int)) z1)) 3),(8,bo C_52 x_pages)] [(0,some q1)] 1 ?_))
 let q2:Root:=(rC52 (over (List.replicate (Int.toNat (((List.length x_pages):Nat):Int)) z1) 0 (List.length (List.replicate (Int.toNat (((List.length x_pages):Nat):Int)) z1)) x_pages))
 refine ys (.cpy 3 (.t 7) (.t 8)) (some 9) (op_cpy (c:=C_52) (xs:=(List.replicate (Int.toNat (((List.length x_pages):Nat):Int)) z1)) (ys:=x_pages) (e:=52) (r:=0) (π:=[]) (o:=0) (k:=(List.length (List.replicate (Int.toNat (((List.length x_pages):Nat):Int)) z1))) (i:=0) (H':=[(0,some q2),(0,some q1)]) len_C_52 (rpv kr (rp_bor (c:=C_52) (xs:=x_pages) len_C_52)) kr kr ltn ltn kr ?_)
 refine yt (sp 11 [z3]) [(0,some q2)] 1 (sy [2] [0] (sp 11 [(2,.sref 0 [] 0 (List.length (List.replicate (Int.toNat (((List.length x_pages):Nat):Int)) z1)) 3)]) [(0,some q2)] 1 (Aw.ret ?_))
 rw [some_some hh]
 exact gives (r':=.sref 0 [] 0 (List.length (List.replicate (Int.toNat (((List.length x_pages):Nat):Int)) z1)) 3) kr (Ent.list [some 0] rfl rfl (Nat.zero_le _) (rens_1 ren_sy) (hn nr_C_52 hs_nil))
theorem low_impl_copiedGuest:LW 167 ⟨26,[(.cell 2 true 17)],(.seq (.reg false (rg 167 0)) (.seq (.seq (.reg false (rg 167 1)) (.cond (.t 5) (.seq (.reg false (rg 167 2)) .ret) .skip)) (.seq (.reg false (rg 167 3)) (.seq (.reg false (rg 167 4)) (.seq (.reg false (rg 167 5)) (.seq (.reg false (rg 167 6)) (.seq (.reg false (rg 167 7)) .ret)))))))⟩:=kr
noncomputable def F_impl_copiedGuest (x_guest:DGuest):Option DGuest :=
 cond (!x_guest.Live)
  (some (DGuest.mk false (DCore.mk ([]:List Int) (0:Int) (0:Int) (0:Int) (0:Int) false (0:Int) (0:Int) (0:Int) false false false false) ([]:List DSlot) ([]:List Int) ([]:List Int)))
  (Option.bind (F_impl_copied x_guest.C.Regs) fun v1 =>
  Option.bind (F_impl_copiedSlots x_guest.Pages) fun v2 =>
  Option.bind (F_impl_copied x_guest.In) fun v3 =>
  Option.bind (F_impl_copied x_guest.Out) fun v4 =>
  some (DGuest.mk x_guest.Live (DCore.mk v1 x_guest.C.Pc x_guest.C.Root x_guest.C.Vector x_guest.C.Saved x_guest.C.SavedUser x_guest.C.Cause x_guest.C.Bad x_guest.C.Timer x_guest.C.Waits x_guest.C.User x_guest.C.On x_guest.C.Stopped) v2 v3 v4))
theorem impl_copiedGuest_fn {x_guest:DGuest} {R_:DGuest} (hh:F_impl_copiedGuest x_guest=some R_):Fn Try.prog 167 [.agg (B_55 x_guest)] (.agg (.bool R_.Live :: .own 3 1 (List.length R_.C.Regs) (fl (eI .i64) R_.C.Regs)::ru25 R_.C [.own 52 3 (List.length R_.Pages) (fl C_52 R_.Pages),.own 3 1 (List.length R_.In) (fl (eI .i64) R_.In),.own 3 1 (List.length R_.Out) (fl (eI .i64) R_.Out)])):=by
 let z1:EH:=(0,some (rB55 x_guest)); let z2:=(1,pp 0); let z3:=(2,pp 1)
 unfold F_impl_copiedGuest at hh
 refine Fn.start low_impl_copiedGuest [0] (E:=sp 26 [(0,.agg (B_55 x_guest))]) kr (v:=.agg (bb R_.Live::sw 0 R_.C.Regs::ru25 R_.C [.sref 1 [] 0 (List.length R_.Pages) 3,sw 2 R_.In,sw 3 R_.Out])) (Hr:=[(3,some (rI_3 R_.Out)),(2,some (rI_3 R_.In)),(1,some (rC52 R_.Pages)),(0,some (rI_3 R_.C.Regs))]) (k:=4) kr (Aw.sreg [1,2] [0,1] ?_)
 let q1:Root:=⟨55,(bb false :: .nil::zru25 [.nil,.nil,.nil])⟩; let z4:=(1,some q1)
 refine yt (sp 26 [z2,z3]) [z1,z4] 2 (Aw.seq (sy [1,2,5] [0,1] (sp 26 [z2,z3,(5,bb (!x_guest.Live))]) [z1,z4] 2 ?_))
 rcases cond_some hh with ⟨hb,hh⟩ | ⟨hb,hh⟩
 · refine cT hb (sy [2] [1] (sp 26 [z3]) [z4] 2 (Aw.ret (then_r ?_)))
   rw [some_some hh]
   exact gives (r':=.agg (bb false :: .nil::zru25 [.nil,.nil,.nil])) kr (Ent.list [none,none,none,none] rfl rfl (Nat.zero_le _) (rens_1 (ren_agg rz)) (hs_no dd rfl rfl (hs_no dd rfl rfl (hs_no dd rfl rfl (hs_no dd rfl rfl hs_nil)))))
 refine cF hb (Aw.xskip (fun _ _ _ hq=>then_m hq) (Aw.sreg [1,2] [0,1,2] (yj 3  (sp 26 [z2,z3,(5,bb (!x_guest.Live)),(7,.ptr 0 [] 1),(8,.ptr 0 [] 1),(9,bo (eI .i64) x_guest.C.Regs)]) [z1,z4] 2 ?_)))
 obtain ⟨v1,hv1,hh⟩:=bind_some hh
 let z5:EH:=(2,some (rI_3 v1))
 refine ys (.call 123 [(.t 9)]) (some 10) (op_call (r:=.own 3 1 (List.length v1) (fl (eI .i64) v1)) (v:=sw 2 v1) (Hr:=[z5]) (n':=3) (impl_copied_fn hv1) (clz_v (vs:=[bo (eI .i64) x_guest.C.Regs]) kr (clz_c (clo_same (clean_bor (cleans_fl cl_eI))) clz_n)) nrr nrr kr ?_)
 let q2:Root:=⟨55,(bb x_guest.Live::sw 2 v1::ru25 x_guest.C [bo C_52 x_guest.Pages,bo (eI .i64) x_guest.In,bo (eI .i64) x_guest.Out])⟩
 refine yt (sp 26 [z2,z3]) [(0,some q2),z4,z5] 3 (Aw.sreg [1,2] [0,1,2,3] (yu 2 [(13,.ptr 0 [] 14),(14,bo C_52 x_guest.Pages)] [(0,some q2),z4,z5] 3 ?_))
 obtain ⟨v2,hv2,hh⟩:=bind_some hh
 let z6:EH:=(3,some (rC52 v2))
 refine ys (.call 179 [(.t 14)]) (some 15) (op_call (r:=.own 52 3 (List.length v2) (fl C_52 v2)) (v:=.sref 3 [] 0 (List.length v2) 3) (Hr:=[z6]) (n':=4) (impl_copiedSlots_fn hv2) (clz_v (vs:=[bo C_52 x_guest.Pages]) kr (clz_c (clo_same (clean_bor (cleans_fl cl_C_52))) clz_n)) nrr nrr kr ?_)
 let q3:Root:=⟨55,(bb x_guest.Live::sw 2 v1::ru25 x_guest.C [.sref 3 [] 0 (List.length v2) 3,bo (eI .i64) x_guest.In,bo (eI .i64) x_guest.Out])⟩
 refine yt (sp 26 [z2,z3]) [(0,some q3),z4,z5,z6] 4 (Aw.sreg [1,2] [0,1,2,3,4] (yu 2 [(17,.ptr 0 [] 15),(18,bo (eI .i64) x_guest.In)] [(0,some q3),z4,z5,z6] 4 ?_))
 obtain ⟨v3,hv3,hh⟩:=bind_some hh
 let z7:EH:=(4,some (rI_3 v3))
 refine ys (.call 123 [(.t 18)]) (some 19) (op_call (r:=.own 3 1 (List.length v3) (fl (eI .i64) v3)) (v:=sw 4 v3) (Hr:=[z7]) (n':=5) (impl_copied_fn hv3) (clz_v (vs:=[bo (eI .i64) x_guest.In]) kr (clz_c (clo_same (clean_bor (cleans_fl cl_eI))) clz_n)) nrr nrr kr ?_)
 let q4:Root:=⟨55,(bb x_guest.Live::sw 2 v1::ru25 x_guest.C [.sref 3 [] 0 (List.length v2) 3,sw 4 v3,bo (eI .i64) x_guest.Out])⟩
 refine yt (sp 26 [z2,z3]) [(0,some q4),z4,z5,z6,z7] 5 (Aw.sreg [1,2] [0,1,2,3,4,5] (yu 2 [(21,.ptr 0 [] 16),(22,bo (eI .i64) x_guest.Out)] [(0,some q4),z4,z5,z6,z7] 5 ?_))
 obtain ⟨v4,hv4,hh⟩:=bind_some hh
 let z8:EH:=(5,some (rI_3 v4))
 refine ys (.call 123 [(.t 22)]) (some 23) (op_call (r:=.own 3 1 (List.length v4) (fl (eI .i64) v4)) (v:=sw 5 v4) (Hr:=[z8]) (n':=6) (impl_copied_fn hv4) (clz_v (vs:=[bo (eI .i64) x_guest.Out]) kr (clz_c (clo_same (clean_bor (cleans_fl cl_eI))) clz_n)) nrr nrr kr ?_)
 let q5:Root:=⟨55,(bb x_guest.Live::sw 2 v1::ru25 x_guest.C [.sref 3 [] 0 (List.length v2) 3,sw 4 v3,sw 5 v4])⟩
 refine yt (sp 26 [z2,z3]) [(0,some q5),z4,z5,z6,z7,z8] 6 (sy [2] [1,2,3,4,5] (sp 26 [z3]) [(1,some q5),z5,z6,z7,z8] 6 (Aw.ret ?_))
 rw [some_some hh]
 exact gives (r':=.agg (bb x_guest.Live::sw 2 v1::ru25 x_guest.C [.sref 3 [] 0 (List.length v2) 3,sw 4 v3,sw 5 v4])) kr (Ent.list [some 2,some 3,some 4,some 5] rfl rfl (Nat.zero_le _) (rens_1 (ren_agg rz)) (hn nr_eI (hn nr_eI (hn nr_C_52 (hn nr_eI hs_nil)))))
theorem low_impl_copiedGuests:LW 138 ⟨23,[(.tmp 2)],(.seq (.reg false (rg 138 0)) (.seq (.reg false (rg 138 1)) (.seq (.seq (.reg false (rg 138 2)) (.block 0 (.loop (.seq (.reg false (rg 138 3)) (.seq (.cond (.t 12) .skip (.exit 0)) (.seq (.block 1 (.seq (.reg false (rg 138 4)) (.reg false (rg 138 5)))) (.reg false (rg 138 6)))))))) (.seq (.reg false (rg 138 8)) .ret))))⟩:=kr
noncomputable def F_impl_copiedGuests_j1  (s1:(List DGuest)):Option (List DGuest) :=
 some s1
noncomputable def F_impl_copiedGuests_l2 (x_guests:List DGuest) (s2:(List DGuest) × Int):Option (LO ((List DGuest) × Int) (JO (List DGuest) (List DGuest))) :=
 cond (decide (s2.2<(((List.length x_guests):Nat):Int)))
  (grd ((0:Int)≤s2.2∧s2.2<((List.length x_guests:Nat):Int)) (Option.bind (F_impl_copiedGuest (DGuest.mk ((List.getD x_guests (Int.toNat s2.2) default).Live) (DCore.mk (((List.getD x_guests (Int.toNat s2.2) default).C).Regs) (((List.getD x_guests (Int.toNat s2.2) default).C).Pc) (((List.getD x_guests (Int.toNat s2.2) default).C).Root) (((List.getD x_guests (Int.toNat s2.2) default).C).Vector) (((List.getD x_guests (Int.toNat s2.2) default).C).Saved) (((List.getD x_guests (Int.toNat s2.2) default).C).SavedUser) (((List.getD x_guests (Int.toNat s2.2) default).C).Cause) (((List.getD x_guests (Int.toNat s2.2) default).C).Bad) (((List.getD x_guests (Int.toNat s2.2) default).C).Timer) (((List.getD x_guests (Int.toNat s2.2) default).C).Waits) (((List.getD x_guests (Int.toNat s2.2) default).C).User) (((List.getD x_guests (Int.toNat s2.2) default).C).On) (((List.getD x_guests (Int.toNat s2.2) default).C).Stopped)) ((List.getD x_guests (Int.toNat s2.2) default).Pages) ((List.getD x_guests (Int.toNat s2.2) default).In) ((List.getD x_guests (Int.toNat s2.2) default).Out))) fun v3 =>
   grd ((0:Int)≤s2.2∧s2.2<(((List.length s2.1):Nat):Int)) (some (.next ((List.set s2.1 (Int.toNat s2.2) v3),(w64 (s2.2+(1:Int))))))))
  (some (.ret (.go s2.1)))
noncomputable def F_impl_copiedGuests (x_guests:List DGuest):Option (List DGuest) :=
 grd ((0:Int)≤(((List.length x_guests):Nat):Int)∧(((List.length x_guests):Nat):Int)*176≤2 ^ 47∧(((List.length x_guests):Nat):Int)≤2 ^ 47) (Option.bind (Option.bind (iter (F_impl_copiedGuests_l2 x_guests) ((List.replicate (Int.toNat (((List.length x_guests):Nat):Int)) (DGuest.mk false (DCore.mk ([]:List Int) (0:Int) (0:Int) (0:Int) (0:Int) false (0:Int) (0:Int) (0:Int) false false false false) ([]:List DSlot) ([]:List Int) ([]:List Int))),(0:Int))) LO.val) fun j1 =>
  JO.run j1 (F_impl_copiedGuests_j1))
theorem impl_copiedGuests_fn {x_guests:List DGuest} {R_:(List DGuest)} (hh:F_impl_copiedGuests x_guests=some R_):Fn Try.prog 138 [bo B_55 x_guests] (.own 55 17 (List.length R_) (fl O_55 R_)):=by
 let z5:=(0,bo B_55 x_guests); let z6:=(10,ii (((List.length x_guests):Nat):Int)); let z7:=(9,bo B_55 x_guests); let z1:=DCore.mk ([]:List Int) (0:Int) (0:Int) (0:Int) (0:Int) false (0:Int) (0:Int) (0:Int) false false false false; let z4:=DGuest.mk false z1 ([]:List DSlot) ([]:List Int) ([]:List Int); let z8:EV:=(3,.sref 1 [] 0 (List.length (List.replicate (Int.toNat (((List.length x_guests):Nat):Int)) z4)) 17)
 unfold F_impl_copiedGuests at hh
 refine Fn.start low_impl_copiedGuests [0] (E:=sp 23 [z5]) kr (v:=.sref 0 [] 0 (List.length R_) 17) (Hr:=[(0,some (rO55 R_))]) (k:=1) kr (sy [0] [] (sp 23 [z5]) [] 0 (Aw.sreg [0,3] [0] (yu 2 [(6,bo B_55 x_guests),(7,ii (((List.length x_guests):Nat):Int))] [] 0 ?_)))
 obtain ⟨hg50,hh⟩:=grd_some hh
 refine ys (.mk 55 17 176 zc2 (.t 7)) (some 8) (op_mkR (z:=(bb false :: .nil::zru25 [.nil,.nil,.nil])) (k:=(((List.length x_guests):Nat):Int)) kr hg50 ?_)
 refine yt (sp 23 [z5,(3,.sref 0 [] 0 (Int.toNat (((List.length x_guests):Nat):Int)) 17)]) [(0,some ⟨55,(repeatCells (bb false :: .nil::zru25 [.nil,.nil,.nil]) (Int.toNat (((List.length x_guests):Nat):Int)))⟩)] 1 (Aw.ent (Ent.foldM (c:=O_55) (k:=Int.toNat (((List.length x_guests):Nat):Int)) (d:=z4) (R:=0) (e:=55) (us2:=sp 23 [z5,z8]) (H2:=[]) (L:=[none,some none,none,none,none,none,none,none,none,none,none,none,none,none,some none,some none,some none]) (ws:=(bb false :: .own 3 1 0 []::zru25 [.own 52 3 0 [],.own 3 1 0 [],.own 3 1 0 []])) dd kr kr (fcs_s (fcs_0 (fcs_s (fcs_s (fcs_s (fcs_s (fcs_s (fcs_s (fcs_s (fcs_s (fcs_s (fcs_s (fcs_s (fcs_s (fcs_0 (fcs_0 (fcs_0 fcs_n))))))))))))))))) rfl (rds_sp kr (rdl_c (u:=bo B_55 x_guests) kr (.same _) (rdl_c (u:=.sref 0 [] 0 (Int.toNat (((List.length x_guests):Nat):Int)) 17) kr (.sref _ _ _ _ eqn) rdl_n))) hd_n) ?_)
 obtain ⟨j1,hh,hk1⟩:=bind_some hh
 refine Aw.join (S:=(List DGuest)) (fun s1=>sp 23 [(3,.sref 0 [] 0 (List.length s1) 17)]) (fun s1=>[(0,some (rO55 s1))]) 1 (fun s1=>F_impl_copiedGuests_j1 s1=some R_) ?_ ?_
 · intro s1 hh
   unfold F_impl_copiedGuests_j1 at hh
   refine sy [2] [0] (sp 23 [(2,.sref 0 [] 0 (List.length s1) 17)]) [(0,some (rO55 s1))] 1 (Aw.ret ?_)
   rw [some_some hh]
   exact gives (r':=.sref 0 [] 0 (List.length s1) 17) kr (Ent.list [some 0] rfl rfl (Nat.zero_le _) (rens_1 ren_sy) (hn nr_O_55 hs_nil))
 intro Q1 hN1 hR1 hE1
 refine Aw.sreg [3,9,10,11] [1] ?_
 let q1:Root:=(rO55 (List.replicate (Int.toNat (((List.length x_guests):Nat):Int)) z4))
 refine yt (sp 23 [z8,z7,z6,(11,ii 0)]) [(1,some q1)] 2 (Aw.block ?_)
 obtain ⟨o2,hi2,hk2⟩:=bind_some hh
 refine Aw.iter (fun (s2:(List DGuest) × Int)=>sp 23 [(3,.sref 0 [] 0 (List.length s2.1) 17),(9,bo B_55 x_guests),(10,ii (((List.length x_guests):Nat):Int)),(11,ii s2.2)]) (fun (s2:(List DGuest) × Int)=>[(0,some (rO55 s2.1))]) 1 hi2 (el [some 1] (rens_sp kr (rs (.sref 1 [] 0 (List.length (List.replicate (Int.toNat (((List.length x_guests):Nat):Int)) (DGuest.mk false (DCore.mk ([]:List Int) (0:Int) (0:Int) (0:Int) (0:Int) false (0:Int) (0:Int) (0:Int) false false false false) ([]:List DSlot) ([]:List Int) ([]:List Int)))) 17) (ro nr_B_55 (ri (ri rl_n))))) (hn nr_O_55 hs_nil)) ?_
 intro s2 u2 Q2 hh hN2 hX2 hR2
 let z9:EH:=(0,some (rO55 s2.1)); let z10:=(11,ii s2.2); let z11:=(12,bb (decide (s2.2<(((List.length x_guests):Nat):Int)))); let z12:EV:=(16,.sref 0 [] 0 (List.length s2.1) 17); let z13:EV:=(3,.sref 0 [] 0 (List.length s2.1) 17); let z14:EV:=(3,.sref 6 [] 0 (List.length s2.1) 17); let z2:=List.getD x_guests (Int.toNat s2.2) default
 unfold F_impl_copiedGuests_l2 at hh
 refine sy [3,9,10,11,12] [0] (sp 23 [z13,z7,z6,z10,z11]) [z9] 1 (Aw.seq ?_)
 rcases cond_sf hh with ⟨hb,hh⟩ | ⟨hb,hh⟩
 · refine cF hb (Aw.exit (then_x (hX2 _ _ _ _ _ (some_some hh) ?_)))
   intro hout
   rw [hout] at hk2
   refine blk_x ?_
   obtain rfl:=some_some hk2
   exact hN1 s2.1 _ _ _ hk1 (el [some 0] (rens_sp kr (rs (.sref 0 [] 0 (List.length s2.1) 17) rl_n)) (hn nr_O_55 hs_nil))
 refine cT hb (Aw.xskip (fun _ _ _ hq=>then_m hq) (Aw.seq (Aw.block (Aw.sreg [3,4,5,9,10,11] [0,1] (yj 1  (sp 23 [z13,z7,z6,z10,z11,(13,ii s2.2)]) [z9] 1 ?_)))))
 obtain ⟨hg47,hh⟩:=grd_some hh
 refine ys (.iadr 17 (.t 9) (.t 11)) (some 14) (op_iadr (kd:=.i64) (c:=B_55) (xs:=x_guests) len_B_55 dd kr kr hg47 ?_)
 refine ys (.load true 17 (.t 14)) (some 15) (op_loadbA (c:=B_55) (xs:=x_guests) (o:=Int.toNat s2.2*17) (i:=(Int.toNat s2.2)) (off:=0) (v:=.agg (B_55 z2)) len_B_55 kr ltn ltn dd kr ?_)
 let q2:Root:=(rB55 z2)
 refine yt (sp 23 [z13,(4,ii s2.2),(5,pp 1),z7,z6,z10]) [z9,(1,some q2)] 2 (Aw.xreg [3,9,10,11] [0,2,3,4,5] (fun _ _ _ hq=>blk_m (then_m hq)) (yj 3  (sp 23 [z13,(4,ii s2.2),(5,pp 1),z7,z6,z10,z12,(17,ii s2.2),(18,.agg (B_55 z2))]) [z9,(1,some q2)] 2 ?_))
 obtain ⟨v3,hv3,hh⟩:=bind_some hh
 let z15:EH:=(3,some (rC52 v3.Pages)); let z3:=List.set s2.1 (Int.toNat s2.2) v3; let q3:Root:=(rI_3 v3.Out); let q4:Root:=(rI_3 v3.In); let q5:Root:=(rI_3 v3.C.Regs)
 refine ys (.call 167 [(.t 18)]) (some 19) (op_call (r:=.agg (bb v3.Live :: .own 3 1 (List.length v3.C.Regs) (fl (eI .i64) v3.C.Regs)::ru25 v3.C [.own 52 3 (List.length v3.Pages) (fl C_52 v3.Pages),.own 3 1 (List.length v3.In) (fl (eI .i64) v3.In),.own 3 1 (List.length v3.Out) (fl (eI .i64) v3.Out)])) (v:=.agg (bb v3.Live::sw 2 v3.C.Regs::ru25 v3.C [.sref 3 [] 0 (List.length v3.Pages) 3,sw 4 v3.In,sw 5 v3.Out])) (Hr:=[(5,some q3),(4,some q4),z15,(2,some q5)]) (n':=6) (impl_copiedGuest_fn hv3) (clz_v (vs:=[.agg (B_55 z2)]) kr (clz_c (clo_agg cz) clz_n)) nrr nrr kr ?_)
 obtain ⟨hg49,hh⟩:=grd_some hh
 refine yjc 1 [(0:Int)≤s2.2∧s2.2<(((List.length s2.1):Nat):Int)] (sp 23 [z13,(4,ii s2.2),(5,pp 1),z7,z6,z10,z12,(17,ii s2.2),(18,.agg (B_55 z2)),(19,.agg (bb v3.Live::sw 2 v3.C.Regs::ru25 v3.C [.sref 3 [] 0 (List.length v3.Pages) 3,sw 4 v3.In,sw 5 v3.Out])),(20,.ptr 0 [] (0+(Int.toNat s2.2)*17))]) [(5,some q3),(4,some q4),z15,(2,some q5),z9,(1,some q2)] 6 (.cons hg49 .nil) (ys (.store 17 (.t 20) (.t 19)) none (op_storeR (c:=O_55) (xs:=s2.1) (e:=55) (r:=0) (o:=0+(Int.toNat s2.2)*17) (i:=(Int.toNat s2.2)) (off:=0) (vs:=(bb v3.Live::sw 2 v3.C.Regs::ru25 v3.C [.sref 3 [] 0 (List.length v3.Pages) 3,sw 4 v3.In,sw 5 v3.Out])) len_O_55 kr kr kr kr ltn ltn dd ?_))
 refine yt (sp 23 [z13,z7,z6,z10]) [(0,some ⟨55,(setCells (fl O_55 s2.1) (0+(Int.toNat s2.2)*17) (bb v3.Live::sw 2 v3.C.Regs::ru25 v3.C [.sref 3 [] 0 (List.length v3.Pages) 3,sw 4 v3.In,sw 5 v3.Out]))⟩),(2,some q5),z15,(4,some q4),(5,some q3)] 6 (Aw.ent (Ent.foldP (c:=O_55) (xs:=s2.1) (i:=(Int.toNat s2.2)) (off:=0) (o:=0+(Int.toNat s2.2)*17) (y:=v3) (R:=0) (e:=55) (us2:=sp 23 [z14,z7,z6,z10]) (H2:=[]) (L:=[none,some (some 2),none,none,none,none,none,none,none,none,none,none,none,none,some (some 3),some (some 4),some (some 5)]) (ws:=(bb v3.Live :: .own 3 1 (List.length v3.C.Regs) (fl (eI .i64) v3.C.Regs)::ru25 v3.C [.own 52 3 (List.length v3.Pages) (fl C_52 v3.Pages),.own 3 1 (List.length v3.In) (fl (eI .i64) v3.In),.own 3 1 (List.length v3.Out) (fl (eI .i64) v3.Out)])) len_O_55 kr ltn ltn (Nat.le_of_ble_eq_true rfl) kr (fcs_s (fcs_r kr eqn (fcs_s (fcs_s (fcs_s (fcs_s (fcs_s (fcs_s (fcs_s (fcs_s (fcs_s (fcs_s (fcs_s (fcs_s (fcs_r kr eqn (fcs_r kr eqn (fcs_r kr eqn fcs_n))))))))))))))))) (by rfl) (by rfl) (rds_sp kr (rdl_c (u:=.sref 0 [] 0 (List.length s2.1) 17) kr (.sref _ _ _ _ eqn) (rdl_c (u:=bo B_55 x_guests) kr (.same _) (rdl_c (u:=ii (((List.length x_guests):Nat):Int)) kr (.same _) (rdl_c (u:=ii s2.2) kr (.same _) rdl_n))))) hd_n) (Aw.oreg ?_))
 let q6:Root:=(rO55 z3)
 exact ye (sp 23 [z14,z7,z6,(11,ii (w64 (s2.2+(1:Int)))),(21,ii (w64 (s2.2+(1:Int))))]) [(6,some q6)] 7 (hN2 (z3,(w64 (s2.2+(1:Int)))) _ _ _ (some_some hh) (el [some 6] (rens_sp kr (rs (.sref 6 [] 0 (List.length s2.1) 17) (ro nr_B_55 (ri (ri rl_n))))) (hn nr_O_55 hs_nil)))
theorem low_spec_l4Guest:LW 147 ⟨23,[(.cell 2 true 17)],(.seq (.reg false (rg 147 0)) (.seq (.seq (.reg false (rg 147 1)) (.cond (.t 5) (.seq (.reg false (rg 147 2)) .ret) .skip)) (.seq (.regd (rg 147 3) (rg 147 4)) .ret)))⟩:=kr
noncomputable def F_spec_l4Guest (x_g:DGuest):Option DGuest :=
 cond (!x_g.Live)
  (some (DGuest.mk false (DCore.mk ([]:List Int) (0:Int) (0:Int) (0:Int) (0:Int) false (0:Int) (0:Int) (0:Int) false false false false) ([]:List DSlot) ([]:List Int) ([]:List Int)))
  (Option.bind (F_spec_l3Core x_g.C) fun v1 =>
  grd (List.length x_g.Pages*16≤2 ^ 47∧List.length x_g.Pages≤2 ^ 47) (grd (List.length x_g.In*8≤2 ^ 47∧List.length x_g.In≤2 ^ 47) (grd (List.length x_g.Out*8≤2 ^ 47∧List.length x_g.Out≤2 ^ 47) (some (DGuest.mk true v1 x_g.Pages x_g.In x_g.Out)))))
theorem spec_l4Guest_fn {x_g:DGuest} {R_:DGuest} (hh:F_spec_l4Guest x_g=some R_):Fn Try.prog 147 [.agg (B_55 x_g)] (.agg (.bool R_.Live :: .own 3 1 (List.length R_.C.Regs) (fl (eI .i64) R_.C.Regs)::ru25 R_.C [.own 52 3 (List.length R_.Pages) (fl C_52 R_.Pages),.own 3 1 (List.length R_.In) (fl (eI .i64) R_.In),.own 3 1 (List.length R_.Out) (fl (eI .i64) R_.Out)])):=by
 let z1:EH:=(0,some (rB55 x_g)); let z2:=(1,pp 0); let z3:=(12,bo C_52 x_g.Pages); let z4:EV:=(13,.sref 3 [] 0 (List.length x_g.Pages) 3); let z5:=(2,pp 1); let z6:=(5,bb (!x_g.Live)); let z7:EV:=(7,.ptr 0 [] 1); let z8:EV:=(8,.agg (B_25 x_g.C))
 unfold F_spec_l4Guest at hh
 refine Fn.start low_spec_l4Guest [0] (E:=sp 23 [(0,.agg (B_55 x_g))]) kr (v:=.agg (bb R_.Live::sw 0 R_.C.Regs::ru25 R_.C [.sref 1 [] 0 (List.length R_.Pages) 3,sw 2 R_.In,sw 3 R_.Out])) (Hr:=[(3,some (rI_3 R_.Out)),(2,some (rI_3 R_.In)),(1,some (rC52 R_.Pages)),(0,some (rI_3 R_.C.Regs))]) (k:=4) kr (Aw.sreg [1,2] [0,1] ?_)
 let q1:Root:=⟨55,(bb false :: .nil::zru25 [.nil,.nil,.nil])⟩; let z9:=(1,some q1)
 refine yt (sp 23 [z2,z5]) [z1,z9] 2 (Aw.seq (sy [1,2,5] [0,1] (sp 23 [z2,z5,z6]) [z1,z9] 2 ?_))
 rcases cond_some hh with ⟨hb,hh⟩ | ⟨hb,hh⟩
 · refine cT hb (sy [2] [1] (sp 23 [z5]) [z9] 2 (Aw.ret (then_r ?_)))
   rw [some_some hh]
   exact gives (r':=.agg (bb false :: .nil::zru25 [.nil,.nil,.nil])) kr (Ent.list [none,none,none,none] rfl rfl (Nat.zero_le _) (rens_1 (ren_agg rz)) (hs_no dd rfl rfl (hs_no dd rfl rfl (hs_no dd rfl rfl (hs_no dd rfl rfl hs_nil)))))
 refine cF hb (Aw.xskip (fun _ _ _ hq=>then_m hq) (Aw.sregd [2] [1,2,3,4,5] [] kr (dj 2 (sp 23 [z2,z5,z6,z7,z8]) [z1,z9] 2 ?_)))
 obtain ⟨v1,hv1,hh⟩:=bind_some hh
 let z10:EV:=(9,.agg (sw 2 v1.Regs::ru25 v1 [])); let q2:Root:=(rI_3 v1.Regs); let z11:=(2,some q2)
 refine ds (.call 79 [(.t 8)]) (some 9) (ydo_n rfl (op_call (r:=.agg (.own 3 1 (List.length v1.Regs) (fl (eI .i64) v1.Regs)::ru25 v1 [])) (v:=.agg (sw 2 v1.Regs::ru25 v1 [])) (Hr:=[z11]) (n':=3) (spec_l3Core_fn hv1) (clz_v (vs:=[.agg (B_25 x_g.C)]) kr (clz_c (clo_same (clean_agg (cl_B_25 _))) clz_n)) nrr nrr kr ⟨⟨agr_name (n:=2) (n0:=2) (r:=.agg (.own 3 1 (List.length v1.Regs) (fl (eI .i64) v1.Regs)::ru25 v1 [])) (v:=.agg (sw 2 v1.Regs::ru25 v1 [])) (Hr:=[z11]) (n':=3) kr dd,Hld.un ?_⟩⟩))
 refine dj 3 (sp 23 [z2,z5,z6,z7,z8,z10,(10,.emp),(11,.ptr 0 [] 14),z3]) [z11,z1,z9] 3 ?_
 obtain ⟨hg6,hh⟩:=grd_some hh
 refine ds (.app 52 3 16 [(ii 0),(bb false),(bb false)] (.t 10) (.t 12)) (some 13) (ydo_n rfl (op_app0 (c:=C_52) (ys:=x_g.Pages) (rpv kr (rp_bor (c:=C_52) (xs:=x_g.Pages) len_C_52)) (.inr kr) hg6 ⟨⟨Agr.cons dd,Hld.un ?_⟩⟩))
 let q3:Root:=(rC52 x_g.Pages)
 refine dj 3 (sp 23 [z2,z5,z6,z7,z8,z10,(10,.emp),(11,.ptr 0 [] 14),z3,z4,(14,.emp),(15,.ptr 0 [] 15),(16,bo (eI .i64) x_g.In)]) [(3,some q3),z11,z1,z9] 4 ?_
 obtain ⟨hg5,hh⟩:=grd_some hh
 refine ds (.app 3 1 8 [(ii 0)] (.t 14) (.t 16)) (some 17) (ydo_n rfl (op_app0 (c:=(eI .i64)) (ys:=x_g.In) (rpv kr (rp_bor (c:=(eI .i64)) (xs:=x_g.In) len_eI)) (.inr kr) hg5 ⟨⟨Agr.cons dd,Hld.un ?_⟩⟩))
 let q4:Root:=(rI_3 x_g.In)
 refine dt (sp 23 [z2,z5,z6,z7,z8,z10,(10,.emp),(11,.ptr 0 [] 14),z3,z4,(14,.emp),(15,.ptr 0 [] 15),(16,bo (eI .i64) x_g.In),(17,sw 4 x_g.In),(18,.emp),(19,.ptr 0 [] 16),(20,bo (eI .i64) x_g.Out)]) [(4,some q4),(3,some q3),z11,z1,z9] 5 ?_
 obtain ⟨hg4,hh⟩:=grd_some hh
 refine ys (.app 3 1 8 [(ii 0)] (.t 18) (.t 20)) (some 21) (op_app0 (c:=(eI .i64)) (ys:=x_g.Out) (rpv kr (rp_bor (c:=(eI .i64)) (xs:=x_g.Out) len_eI)) (.inr kr) hg4 ?_)
 let q5:Root:=(rI_3 x_g.Out)
 refine yt (sp 23 [z5]) [(1,some ⟨55,(bb true::sw 2 v1.Regs::ru25 v1 [.sref 3 [] 0 (List.length x_g.Pages) 3,sw 4 x_g.In,sw 5 x_g.Out])⟩),z11,(3,some q3),(4,some q4),(5,some q5)] 6 (Aw.ret ?_)
 rw [some_some hh]
 exact gives (r':=.agg (bb true::sw 2 v1.Regs::ru25 v1 [.sref 3 [] 0 (List.length x_g.Pages) 3,sw 4 x_g.In,sw 5 x_g.Out])) kr (Ent.list [some 2,some 3,some 4,some 5] rfl rfl (Nat.zero_le _) (rens_1 (ren_agg rz)) (hn nr_eI (hn nr_eI (hn nr_C_52 (hn nr_eI hs_nil)))))
theorem low_spec_l4Copy:LW 92 ⟨29,[(.cell 2 true 2)],(.seq (.reg false (rg 92 0)) (.seq (.reg false (rg 92 1)) (.seq (.seq (.reg false (rg 92 2)) (.block 0 (.loop (.seq (.seq (.reg false (rg 92 3)) (.cond (.t 14) .skip (.exit 0))) (.seq (.block 1 (.regd (rg 92 4) (rg 92 5))) (.reg false (rg 92 6))))))) (.seq (.reg false (rg 92 8)) .ret))))⟩:=kr
noncomputable def F_spec_l4Copy_j1 (x_h:DHost) (s1:(List DGuest)):Option DHost :=
 some (DHost.mk (([]:List Int) ++ x_h.Words) s1)
noncomputable def F_spec_l4Copy_l2 (x_h:DHost) (s2:(List DGuest) × Int):Option (LO ((List DGuest) × Int) (JO (List DGuest) DHost)) :=
 cond (decide (s2.2<(((List.length x_h.Guests):Nat):Int)))
  (grd ((0:Int)≤s2.2∧s2.2<((List.length x_h.Guests:Nat):Int)) (Option.bind (F_spec_l4Guest (DGuest.mk ((List.getD x_h.Guests (Int.toNat s2.2) default).Live) (DCore.mk (((List.getD x_h.Guests (Int.toNat s2.2) default).C).Regs) (((List.getD x_h.Guests (Int.toNat s2.2) default).C).Pc) (((List.getD x_h.Guests (Int.toNat s2.2) default).C).Root) (((List.getD x_h.Guests (Int.toNat s2.2) default).C).Vector) (((List.getD x_h.Guests (Int.toNat s2.2) default).C).Saved) (((List.getD x_h.Guests (Int.toNat s2.2) default).C).SavedUser) (((List.getD x_h.Guests (Int.toNat s2.2) default).C).Cause) (((List.getD x_h.Guests (Int.toNat s2.2) default).C).Bad) (((List.getD x_h.Guests (Int.toNat s2.2) default).C).Timer) (((List.getD x_h.Guests (Int.toNat s2.2) default).C).Waits) (((List.getD x_h.Guests (Int.toNat s2.2) default).C).User) (((List.getD x_h.Guests (Int.toNat s2.2) default).C).On) (((List.getD x_h.Guests (Int.toNat s2.2) default).C).Stopped)) ((List.getD x_h.Guests (Int.toNat s2.2) default).Pages) ((List.getD x_h.Guests (Int.toNat s2.2) default).In) ((List.getD x_h.Guests (Int.toNat s2.2) default).Out))) fun v3 =>
   grd ((List.length s2.1+1)*176≤2 ^ 47∧List.length s2.1+1≤2 ^ 47) (some (.next ((s2.1 ++ ([v3]:List DGuest)),(w64 (s2.2+(1:Int))))))))
  (some (.ret (.go s2.1)))
noncomputable def F_spec_l4Copy (x_h:DHost):Option DHost :=
 grd ((List.length ([]:List Int)+List.length x_h.Words)*8≤2 ^ 47∧List.length ([]:List Int)+List.length x_h.Words≤2 ^ 47) (Option.bind (Option.bind (iter (F_spec_l4Copy_l2 x_h) (([]:List DGuest),(0:Int))) LO.val) fun j1 =>
  JO.run j1 (F_spec_l4Copy_j1 x_h))
theorem spec_l4Copy_fn {x_h:DHost} {R_:DHost} (hh:F_spec_l4Copy x_h=some R_):Fn Try.prog 92 [.agg (B_41 x_h)] (.agg [.own 3 1 (List.length R_.Words) (fl (eI .i64) R_.Words),.own 55 17 (List.length R_.Guests) (fl O_55 R_.Guests)]):=by
 let z2:EH:=(0,some (rB41 x_h)); let z3:=(1,pp 0); let z4:EH:=(1,some ⟨41,[.nil,.nil]⟩); let z5:=(2,pp 1); let z6:=(3,pp 2)
 unfold F_spec_l4Copy at hh
 refine Fn.start low_spec_l4Copy [0] (E:=sp 29 [(0,.agg (B_41 x_h))]) kr (v:=.agg [sw 0 R_.Words,.sref 1 [] 0 (List.length R_.Guests) 17]) (Hr:=[(1,some (rO55 R_.Guests)),(0,some (rI_3 R_.Words))]) (k:=2) kr (sy [1,2] [0,1] (sp 29 [z3,z5]) [z2,z4] 2 (Aw.sreg [1,2,3] [0,1,3,4] (yu 3 [(5,.sref 2 [] 0 0 1),(6,pp 0),(7,bo (eI .i64) x_h.Words)] [(2,some ⟨3,[]⟩),z2,z4] 3 ?_)))
 obtain ⟨hg42,hh⟩:=grd_some hh
 refine ys (.app 3 1 8 [(ii 0)] (.t 5) (.t 7)) (some 8) (op_app (c:=(eI .i64)) (xs:=([]:List Int)) (ys:=x_h.Words) (r:=2) (k:=0) (π:=[]) eqn len_eI (rpv kr (rp_bor (c:=(eI .i64)) (xs:=x_h.Words) len_eI)) kr kr hg42 ?_)
 let q1:Root:=(rI_3 (([]:List Int) ++ x_h.Words)); let z7:=(3,some q1); let q2:Root:=⟨41,[.sref 3 [] 0 (List.length (([]:List Int) ++ x_h.Words)) 1,.nil]⟩
 refine yt (sp 29 [z3,z5,(3,pp 4)]) [z2,z4,z7,(4,some q2)] 5 ?_
 obtain ⟨j1,hh,hk1⟩:=bind_some hh
 refine Aw.join (S:=(List DGuest)) (fun s1=>sp 29 [(2,pp 0),(3,pp 1)]) (fun s1=>[(0,some ⟨41,[.nil,.nil]⟩),(1,some ⟨41,[.sref 2 [] 0 (List.length (([]:List Int) ++ x_h.Words)) 1,.sref 3 [] 0 (List.length s1) 17]⟩),(2,some (rI_3 (([]:List Int) ++ x_h.Words))),(3,some (rO55 s1))]) 4 (fun s1=>F_spec_l4Copy_j1 x_h s1=some R_) ?_ ?_
 · intro s1 hh
   unfold F_spec_l4Copy_j1 at hh
   refine sy [2] [0,2,3] (sp 29 [(2,pp 0)]) [(0,some ⟨41,[.sref 2 [] 0 (List.length (([]:List Int) ++ x_h.Words)) 1,.sref 3 [] 0 (List.length s1) 17]⟩),(2,some q1),(3,some (rO55 s1))] 4 (Aw.ret ?_)
   rw [some_some hh]
   exact gives (r':=.agg [.sref 2 [] 0 (List.length (([]:List Int) ++ x_h.Words)) 1,.sref 3 [] 0 (List.length s1) 17]) kr (Ent.list [some 2,some 3] rfl rfl (Nat.zero_le _) (rens_1 (ren_agg rz)) (hn nr_O_55 (hn nr_eI hs_nil)))
 intro Q1 hN1 hR1 hE1
 refine sy [1,2,3,4] [0,1,3,4] (sp 29 [z3,z5,(3,pp 4),(4,ii 0)]) [z2,z4,z7,(4,some q2)] 5 (Aw.block ?_)
 obtain ⟨o2,hi2,hk2⟩:=bind_some hh
 refine Aw.iter (fun (s2:(List DGuest) × Int)=>sp 29 [(1,pp 0),(2,pp 1),(3,pp 2),(4,ii s2.2)]) (fun (s2:(List DGuest) × Int)=>[(0,some (rB41 x_h)),(1,some ⟨41,[.nil,.nil]⟩),(2,some ⟨41,[.sref 3 [] 0 (List.length (([]:List Int) ++ x_h.Words)) 1,.sref 4 [] 0 (List.length s2.1) 17]⟩),(3,some (rI_3 (([]:List Int) ++ x_h.Words))),(4,some (rO55 s2.1))]) 5 hi2 (el [some 0,some 1,some 4,some 3,none] (rens_sp kr (rp 0 (rp 1 (rp 4 (ri rl_n))))) (hq (rB41 x_h) (rens_same (nr_B_41 _)) (hq ⟨41,[.nil,.nil]⟩ rz (hq q2 rz (hn nr_eI (hs_no dd rfl rfl hs_nil)))))) ?_
 intro s2 u2 Q2 hh hN2 hX2 hR2
 let z8:=(14,bb (decide (s2.2<(((List.length x_h.Guests):Nat):Int)))); let z9:EV:=(18,.sref 4 [] 0 (List.length s2.1) 17); let z10:=(4,ii s2.2); let z11:EH:=(4,some (rO55 s2.1)); let z1:=List.getD x_h.Guests (Int.toNat s2.2) default
 unfold F_spec_l4Copy_l2 at hh
 refine Aw.seq (Aw.sreg [1,2,3,4,14] [0,1,2,3,4] ?_)
 let q3:Root:=⟨41,[.sref 3 [] 0 (List.length (([]:List Int) ++ x_h.Words)) 1,.sref 4 [] 0 (List.length s2.1) 17]⟩
 refine yt (sp 29 [z3,z5,z6,z10,z8]) [z2,z4,(2,some q3),z7,z11] 5 ?_
 rcases cond_sf hh with ⟨hb,hh⟩ | ⟨hb,hh⟩
 · refine cF hb (Aw.exit (then_x (hX2 _ _ _ _ _ (some_some hh) ?_)))
   intro hout
   rw [hout] at hk2
   refine blk_x ?_
   obtain rfl:=some_some hk2
   exact hN1 s2.1 _ _ _ hk1 (el [some 1,some 2,some 3,some 4] (rens_sp kr (rp 1 (rp 2 rl_n))) (hq ⟨41,[.nil,.nil]⟩ rz (hq q3 rz (hn nr_eI (hn nr_O_55 hs_nil)))))
 refine cT hb (Aw.xskip (fun _ _ _ hq=>then_m hq) (Aw.seq (Aw.block (Aw.xregd [1,2,3,4] [0,1,2,3,5,6,7,8,9] [] (fun _ _ _ hq=>blk_m (then_m hq)) kr (dj 5 (sp 29 [z3,z5,z6,z10,z8,(17,.ptr 2 [] 1),z9,(19,.ptr 0 [] 1),(20,bo B_55 x_h.Guests),(21,ii s2.2)]) [z2,z4,(2,some q3),z7,z11] 5 ?_)))))
 obtain ⟨hg40,hh⟩:=grd_some hh
 refine ds (.iadr 17 (.t 20) (.t 21)) (some 22) (ydo_q rfl kr (op_iadr (kd:=.i64) (c:=B_55) (xs:=x_h.Guests) len_B_55 dd kr kr hg40 ?_))
 refine ds (.load true 17 (.t 22)) (some 23) (ydo_q rfl kr (op_loadbA (c:=B_55) (xs:=x_h.Guests) (o:=Int.toNat s2.2*17) (i:=(Int.toNat s2.2)) (off:=0) (v:=.agg (B_55 z1)) len_B_55 kr ltn ltn dd kr ?_))
 obtain ⟨v3,hv3,hh⟩:=bind_some hh
 let z12:EH:=(6,some (rC52 v3.Pages)); let q4:Root:=(rI_3 v3.Out); let q5:Root:=(rI_3 v3.In); let q6:Root:=(rI_3 v3.C.Regs)
 refine ds (.call 147 [(.t 23)]) (some 24) (ydo_n rfl (op_call (r:=.agg (bb v3.Live :: .own 3 1 (List.length v3.C.Regs) (fl (eI .i64) v3.C.Regs)::ru25 v3.C [.own 52 3 (List.length v3.Pages) (fl C_52 v3.Pages),.own 3 1 (List.length v3.In) (fl (eI .i64) v3.In),.own 3 1 (List.length v3.Out) (fl (eI .i64) v3.Out)])) (v:=.agg (bb v3.Live::sw 5 v3.C.Regs::ru25 v3.C [.sref 6 [] 0 (List.length v3.Pages) 3,sw 7 v3.In,sw 8 v3.Out])) (Hr:=[(8,some q4),(7,some q5),z12,(5,some q6)]) (n':=9) (spec_l4Guest_fn hv3) (clz_v (vs:=[.agg (B_55 z1)]) kr (clz_c (clo_agg cz) clz_n)) nrr nrr kr ⟨⟨agr_name (n:=5) (n0:=5) (r:=.agg (bb v3.Live :: .own 3 1 (List.length v3.C.Regs) (fl (eI .i64) v3.C.Regs)::ru25 v3.C [.own 52 3 (List.length v3.Pages) (fl C_52 v3.Pages),.own 3 1 (List.length v3.In) (fl (eI .i64) v3.In),.own 3 1 (List.length v3.Out) (fl (eI .i64) v3.Out)])) (v:=.agg (bb v3.Live::sw 5 v3.C.Regs::ru25 v3.C [.sref 6 [] 0 (List.length v3.Pages) 3,sw 7 v3.In,sw 8 v3.Out])) (Hr:=[(8,some q4),(7,some q5),z12,(5,some q6)]) (n':=9) kr dd,Hld.un ?_⟩⟩))
 refine dt (sp 29 [z3,z5,z6,z10,z8,(17,.ptr 2 [] 1),z9,(19,.ptr 0 [] 1),(20,bo B_55 x_h.Guests),(21,ii s2.2),(22,.bptr (fl B_55 x_h.Guests) (Int.toNat s2.2*17)),(23,.agg (B_55 z1)),(24,.agg (bb v3.Live::sw 5 v3.C.Regs::ru25 v3.C [.sref 6 [] 0 (List.length v3.Pages) 3,sw 7 v3.In,sw 8 v3.Out])),(25,.bor 1 (bb v3.Live::sw 5 v3.C.Regs::ru25 v3.C [.sref 6 [] 0 (List.length v3.Pages) 3,sw 7 v3.In,sw 8 v3.Out]))]) [(8,some q4),(7,some q5),z12,(5,some q6),z2,z4,(2,some q3),z7,z11] 9 ?_
 obtain ⟨hg41,hh⟩:=grd_some hh
 refine ys (.app 55 17 176 zc2 (.t 18) (.t 25)) (some 26) (op_appR (c:=O_55) (xs:=s2.1) (r:=4) (k:=(List.length s2.1)) (j:=1) (vs:=(bb v3.Live::sw 5 v3.C.Regs::ru25 v3.C [.sref 6 [] 0 (List.length v3.Pages) 3,sw 7 v3.In,sw 8 v3.Out])) eqn len_O_55 kr kr kr hg41 ?_)
 let q7:Root:=⟨41,[.sref 3 [] 0 (List.length (([]:List Int) ++ x_h.Words)) 1,.sref 9 [] 0 (List.length s2.1+1) 17]⟩
 refine yt (sp 29 [z3,z5,z6,z10]) [z2,z4,(2,some q7),z7,(5,some q6),z12,(7,some q5),(8,some q4),(9,some ⟨55,(fl O_55 s2.1 ++ (bb v3.Live::sw 5 v3.C.Regs::ru25 v3.C [.sref 6 [] 0 (List.length v3.Pages) 3,sw 7 v3.In,sw 8 v3.Out]))⟩)] 10 ?_
 let q8:Root:=⟨41,[.sref 3 [] 0 (List.length (([]:List Int) ++ x_h.Words)) 1,.sref 10 [] 0 (List.length (s2.1 ++ ([v3]:List DGuest))) 17]⟩
 refine Aw.ent (Ent.foldA (c:=O_55) (xs:=s2.1) (ys:=([v3]:List DGuest)) (R:=9) (e:=55) (us2:=sp 29 [z3,z5,z6,z10]) (H2:=[z2,z4,(2,some q8),z7]) (L:=[none,some (some 5),none,none,none,none,none,none,none,none,none,none,none,none,some (some 6),some (some 7),some (some 8)]) (ws:=(bb v3.Live :: .own 3 1 (List.length v3.C.Regs) (fl (eI .i64) v3.C.Regs)::ru25 v3.C [.own 52 3 (List.length v3.Pages) (fl C_52 v3.Pages),.own 3 1 (List.length v3.In) (fl (eI .i64) v3.In),.own 3 1 (List.length v3.Out) (fl (eI .i64) v3.Out)])) kr kr (fcs_s (fcs_r kr eqn (fcs_s (fcs_s (fcs_s (fcs_s (fcs_s (fcs_s (fcs_s (fcs_s (fcs_s (fcs_s (fcs_s (fcs_s (fcs_r kr eqn (fcs_r kr eqn (fcs_r kr eqn fcs_n))))))))))))))))) (by rfl) (by rfl) (rds_sp kr (rdl_c (u:=pp 0) kr (.same _) (rdl_c (u:=pp 1) kr (.same _) (rdl_c (u:=pp 2) kr (.same _) (rdl_c (u:=ii s2.2) kr (.same _) rdl_n))))) (hd_c (t:=(rB41 x_h)) rfl kr rfl rds_same (hd_c (t:=⟨41,[.nil,.nil]⟩) rfl kr rfl rds_same (hd_c (t:=q7) rfl kr rfl (rds_c (.same _) (rds_c (.sref _ _ _ _ eqn) rds_n)) (hd_c (t:=q1) rfl kr rfl rds_same hd_n))))) (Aw.oreg ?_)
 let q9:Root:=(rO55 (s2.1 ++ ([v3]:List DGuest)))
 exact ye (sp 29 [z3,z5,z6,(4,ii (w64 (s2.2+(1:Int)))),(15,ii s2.2),(16,ii (w64 (s2.2+(1:Int))))]) [(10,some q9),z2,z4,(2,some q8),z7] 11 (hN2 ((s2.1 ++ ([v3]:List DGuest)),(w64 (s2.2+(1:Int)))) _ _ _ (some_some hh) (el [some 0,some 1,some 2,some 3,some 10] (rens_sp kr (rp 0 (rp 1 (rp 2 (ri rl_n))))) (hq (rB41 x_h) (rens_same (nr_B_41 _)) (hq ⟨41,[.nil,.nil]⟩ rz (hq q8 rz (hn nr_eI (hn nr_O_55 hs_nil)))))))
end Go.Proofs.Ytbanbjdcgdmkaaa
