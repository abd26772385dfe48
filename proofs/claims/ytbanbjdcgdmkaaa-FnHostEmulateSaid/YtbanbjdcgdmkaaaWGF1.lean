/- Plain functions of the program, and that it hands back what they say. Made by program. -/
import Derived.Test.YtbanbjdcgdmkaaaWT
import Derived.Test.YtbanbjdcgdmkaaaProg
import Derived.Test.YtbanbjdcgdmkaaaWD1
import Derived.Test.YtbanbjdcgdmkaaaWGH1
import Derived.Test.YtbanbjdcgdmkaaaWHF1
import Derived.Test.YtbanbjdcgdmkaaaWHO1
namespace Go.Proofs.Ytbanbjdcgdmkaaa
open Go.RowKit
set_option maxRecDepth 100000
set_option linter.all false
set_option maxHeartbeats 0
theorem low_spec_l20Full:LW 74 ⟨67,[(.cell 2 true 2)],(.seq (.reg false (rg 74 0)) (.seq (.reg false (rg 74 1)) (.seq (.seq (.reg false (rg 74 2)) (.cond (.t 15) (.seq (.reg false (rg 74 3)) (.block 0 (.loop (.seq (.seq (.reg false (rg 74 4)) (.cond (.t 17) .skip (.exit 0))) (.seq (.block 1 (.seq (.reg false (rg 74 5)) (.block 2 (.loop (.seq (.seq (.reg false (rg 74 6)) (.cond (.t 28) .skip (.exit 2))) (.seq (.block 3 (.seq (.reg false (rg 74 7)) (.seq (.reg false (rg 74 8)) (.cond (.t 53) (.regt (rg 74 9) (rg 74 10)) .skip)))) (.reg false (rg 74 11)))))))) (.reg false (rg 74 13))))))) .skip)) (.seq (.reg false (rg 74 15)) .ret))))⟩:=kr
noncomputable def F_spec_l20Full_j2 (v1:Dl20Rd × DHost) (s2:(List DGuest) × (List Int) × Int):Option (Dl20Rd × DHost) :=
 some ((Dl20Rd.mk s2.2.1 s2.2.2),(DHost.mk v1.2.Words s2.1))
noncomputable def F_spec_l20Full_j6 (s5:(List Int) × Int × (List DGuest) × Int) (s6:(List Int) × Int × (List DGuest)):Option (LO ((List Int) × Int × (List DGuest) × Int) (JO ((List DGuest) × (List Int) × Int) (Dl20Rd × DHost))) :=
 some (.next (s6.1,s6.2.1,s6.2.2,(w64 (s5.2.2.2+(1:Int)))))
noncomputable def F_spec_l20Full_j8 (s7:(List Int) × Int × (List DGuest) × Int) (s8:(List Int) × Int × (List DGuest)):Option (LO ((List Int) × Int × (List DGuest) × Int) (JO ((List Int) × Int × (List DGuest)) (LO ((List Int) × Int × (List DGuest) × Int) (JO ((List DGuest) × (List Int) × Int) (Dl20Rd × DHost))))) :=
 some (.next (s8.1,s8.2.1,s8.2.2,(w64 (s7.2.2.2+(1:Int)))))
noncomputable def F_spec_l20Full_l7 (v1:Dl20Rd × DHost) (s5:(List Int) × Int × (List DGuest) × Int) (s7:(List Int) × Int × (List DGuest) × Int):Option (LO ((List Int) × Int × (List DGuest) × Int) (JO ((List Int) × Int × (List DGuest)) (LO ((List Int) × Int × (List DGuest) × Int) (JO ((List DGuest) × (List Int) × Int) (Dl20Rd × DHost))))) :=
 grd ((0:Int)≤s5.2.2.2∧s5.2.2.2<(((List.length s7.2.2.1):Nat):Int)) (cond (decide (s7.2.2.2<(((List.length ((List.getD s7.2.2.1 (Int.toNat s5.2.2.2) default).Pages)):Nat):Int)))
  (Option.bind (Option.bind (F_spec_HostFree (DHost.mk v1.2.Words s7.2.2.1)) fun v9 =>
   grd ((0:Int)≤s5.2.2.2∧s5.2.2.2<(((List.length s7.2.2.1):Nat):Int)) (grd ((0:Int)≤s7.2.2.2∧s7.2.2.2<(((List.length ((List.getD s7.2.2.1 (Int.toNat s5.2.2.2) default).Pages)):Nat):Int)) (cond (decide (((List.getD ((List.getD s7.2.2.1 (Int.toNat s5.2.2.2) default).Pages) (Int.toNat s7.2.2.2) default).Frame)<(0:Int)))
    (cond (decide ((0:Int)<(((List.length v9):Nat):Int)))
     (Option.bind (F___spec_l20Rd__pick (Dl20Rd.mk s7.1 s7.2.1) (6:Int)) fun v10 =>
     cond (decide ((0:Int)<v10.2))
      (grd ((0:Int)≤s5.2.2.2∧s5.2.2.2<(((List.length s7.2.2.1):Nat):Int)) (grd ((0:Int)≤(0:Int)∧(0:Int)<(((List.length v9):Nat):Int)) (grd ((0:Int)≤s7.2.2.2∧s7.2.2.2<(((List.length ((List.getD s7.2.2.1 (Int.toNat s5.2.2.2) default).Pages)):Nat):Int)) (some (.go (v10.1.b,v10.1.p,(List.set s7.2.2.1 (Int.toNat s5.2.2.2) (DGuest.mk ((List.getD s7.2.2.1 (Int.toNat s5.2.2.2) default).Live) (DCore.mk (((List.getD s7.2.2.1 (Int.toNat s5.2.2.2) default).C).Regs) (((List.getD s7.2.2.1 (Int.toNat s5.2.2.2) default).C).Pc) (((List.getD s7.2.2.1 (Int.toNat s5.2.2.2) default).C).Root) (((List.getD s7.2.2.1 (Int.toNat s5.2.2.2) default).C).Vector) (((List.getD s7.2.2.1 (Int.toNat s5.2.2.2) default).C).Saved) (((List.getD s7.2.2.1 (Int.toNat s5.2.2.2) default).C).SavedUser) (((List.getD s7.2.2.1 (Int.toNat s5.2.2.2) default).C).Cause) (((List.getD s7.2.2.1 (Int.toNat s5.2.2.2) default).C).Bad) (((List.getD s7.2.2.1 (Int.toNat s5.2.2.2) default).C).Timer) (((List.getD s7.2.2.1 (Int.toNat s5.2.2.2) default).C).Waits) (((List.getD s7.2.2.1 (Int.toNat s5.2.2.2) default).C).User) (((List.getD s7.2.2.1 (Int.toNat s5.2.2.2) default).C).On) (((List.getD s7.2.2.1 (Int.toNat s5.2.2.2) default).C).Stopped)) (List.set ((List.getD s7.2.2.1 (Int.toNat s5.2.2.2) default).Pages) (Int.toNat s7.2.2.2) (DSlot.mk (List.getD v9 0 default) true false)) ((List.getD s7.2.2.1 (Int.toNat s5.2.2.2) default).In) ((List.getD s7.2.2.1 (Int.toNat s5.2.2.2) default).Out)))))))))
      (some (.go (v10.1.b,v10.1.p,s7.2.2.1))))
     (some (.go (s7.1,s7.2.1,s7.2.2.1))))
    (some (.go (s7.1,s7.2.1,s7.2.2.1)))))) fun j8 =>
   JO.run j8 (F_spec_l20Full_j8 s7))
  (some (.ret (.go (s7.1,s7.2.1,s7.2.2.1)))))
noncomputable def F_spec_l20Full_l5 (v1:Dl20Rd × DHost) (s5:(List Int) × Int × (List DGuest) × Int):Option (LO ((List Int) × Int × (List DGuest) × Int) (JO ((List DGuest) × (List Int) × Int) (Dl20Rd × DHost))) :=
 cond (decide (s5.2.2.2<(3:Int)))
  (Option.bind (Option.bind (iter (F_spec_l20Full_l7 v1 s5) (s5.1,s5.2.1,s5.2.2.1,(0:Int))) LO.val) fun j6 =>
   JO.run j6 (F_spec_l20Full_j6 s5))
  (some (.ret (.go (s5.2.2.1,s5.1,s5.2.1))))
noncomputable def F_spec_l20Full (x_r:Dl20Rd):Option (Dl20Rd × DHost) :=
 Option.bind (F_spec_l20Host x_r (25:Int)) fun v1 =>
 Option.bind (Option.bind (F___spec_l20Rd__pick v1.1 (4:Int)) fun v3 =>
  cond (decide (v3.2=(0:Int)))
   (Option.bind (F_spec_HostOk v1.2) fun v4 =>
   cond v4
    (Option.bind (iter (F_spec_l20Full_l5 v1) (v3.1.b,v3.1.p,v1.2.Guests,(0:Int))) LO.val)
    (some (.go (v1.2.Guests,v3.1.b,v3.1.p))))
   (some (.go (v1.2.Guests,v3.1.b,v3.1.p)))) fun j2 =>
  JO.run j2 (F_spec_l20Full_j2 v1)
theorem spec_l20Full_fn {x_r:Dl20Rd} {R_:Dl20Rd × DHost} (hh:F_spec_l20Full x_r=some R_):Inl Try.prog 74 [pp 0] [(0,some (rB134 x_r))] 1 (.agg [.sref 1 [] 0 (List.length R_.2.Words) 1,.sref 2 [] 0 (List.length R_.2.Guests) 17]) [(2,some (rO55 R_.2.Guests)),(1,some (rI_3 R_.2.Words)),(0,some ⟨134,[bo (eI .u8) R_.1.b,.int .i64 R_.1.p]⟩)] 3:=by
 let z7:=(0,pp 0); let z8:EH:=(0,some (rB134 x_r)); let z9:EH:=(1,some ⟨41,[.nil,.nil]⟩); let z10:=(2,pp 1); let z11:=(3,pp 2); let z12:EV:=(54,.ptr 2 [] 1)
 unfold F_spec_l20Full at hh
 refine Inl.start low_spec_l20Full [0] [0] (E:=sp 67 [z7]) (H1:=[z8]) kr kr (sy [0,2] [0,1] (sp 67 [z7,z10]) [z8,z9] 2 (Aw.sreg [0,2,3] [0,1,2,3,4] (yu 1 [(7,pp 0)] [z8,z9] 2 ?_)))
 obtain ⟨v1,hv1,hh⟩:=bind_some hh
 let z13:EH:=(0,some (rB134 v1.1)); let q1:Root:=(rO55 v1.2.Guests); let z14:=(3,some q1); let q2:Root:=(rI_3 v1.2.Words); let z15:=(2,some q2); let z16:=(3,some q2)
 refine ys (.call 131 [(.t 7),(.c (ii 25))]) (some 8) (cf (.agg [sw 2 v1.2.Words,.sref 3 [] 0 (List.length v1.2.Guests) 17]) [z14,z15,z13] 4 [0] (spec_l20Host_fn hv1) [pp 0,ii 25] rz (hq (rB134 x_r) (rens_same (nr_B_134 _)) hs_nil) (ren_agg rz) (hn nr_O_55 (hn nr_eI (hq (rB134 v1.1) (rens_same (nr_B_134 _)) hs_nil))) ?_)
 let q3:Root:=⟨41,[sw 2 v1.2.Words,.sref 3 [] 0 (List.length v1.2.Guests) 17]⟩; let z17:=(4,some q3)
 refine yt (sp 67 [z7,z10,(3,pp 4)]) [z13,z9,z15,z14,z17] 5 ?_
 obtain ⟨j2,hh,hk2⟩:=bind_some hh
 refine Aw.join (S:=(List DGuest) × (List Int) × Int) (fun s2=>sp 67 [(2,pp 1),(3,pp 2)]) (fun s2=>[(0,some ⟨134,[bo (eI .u8) s2.2.1,ii s2.2.2]⟩),(1,some ⟨41,[.nil,.nil]⟩),(2,some ⟨41,[sw 3 v1.2.Words,.sref 4 [] 0 (List.length s2.1) 17]⟩),(3,some (rI_3 v1.2.Words)),(4,some (rO55 s2.1))]) 5 (fun s2=>F_spec_l20Full_j2 v1 s2=some R_) ?_ ?_
 · intro s2 hh
   unfold F_spec_l20Full_j2 at hh
   refine Aw.sreg [2] [0,1,3,4] ?_
   let q4:Root:=⟨134,[bo (eI .u8) s2.2.1,ii s2.2.2]⟩
   refine yt (sp 67 [z10]) [(0,some q4),(1,some ⟨41,[sw 3 v1.2.Words,.sref 4 [] 0 (List.length s2.1) 17]⟩),z16,(4,some (rO55 s2.1))] 5 (Aw.ret ?_)
   rw [some_some hh]
   exact gives (r':=.agg [sw 3 v1.2.Words,.sref 4 [] 0 (List.length s2.1) 17]) kr (el [some 0,some 3,some 4] (rens_1 (ren_agg rz)) (hn nr_O_55 (hn nr_eI (hq q4 rz hs_nil))))
 intro Q2 hN2 hR2 hE2
 refine Aw.sreg [0,2,3,15] [0,1,2,3,4] (yj 1  (sp 67 [z7,z10,(3,pp 4),(9,pp 0)]) [z13,z9,z15,z14,z17] 5 ?_)
 obtain ⟨v3,hv3,hh⟩:=bind_some hh
 let z18:EH:=(0,some (rB134 v3.1))
 refine ys (.call 49 [(.t 9),(.c (ii 4))]) (some 10) (cf (ii v3.2) [z18] 5 [0] (__spec_l20Rd__pick_fn hv3) [pp 0,ii 4] rz (hq (rB134 v1.1) (rens_same (nr_B_134 _)) hs_nil) ren_i (hq (rB134 v3.1) (rens_same (nr_B_134 _)) hs_nil) ?_)
 refine yu 2 [(10,ii v3.2),(11,bb (decide (v3.2=(0:Int)))),(12,bb (decide (v3.2=(0:Int))))] [z18,(0,none),z13,z9,z15,z14,z17] 5 ?_
 rcases cond_sf hh with ⟨hb,hh⟩ | ⟨hb,hh⟩
 · refine yb 11 hb (yb 12 hb (yt (sp 67 [z7,z10,(3,pp 4),(15,bb false)]) [z18,z9,z15,z14,z17] 5 (cF rfl (Aw.skip ?_))))
   obtain rfl:=some_some hh
   exact hN2 (v1.2.Guests,v3.1.b,v3.1.p) _ _ _ hk2 (el [some 0,some 1,some 4,some 2,some 3] (rens_sp kr (rp 1 (rp 4 rl_n))) (hq (rB134 v3.1) rz (hq ⟨41,[.nil,.nil]⟩ rz (hq q3 rz (hn nr_eI (hn nr_O_55 hs_nil))))))
 refine yb 11 hb (yb 12 hb (yu 1 [(11,bb true),(12,bb true),(13,.agg [sw 2 v1.2.Words,.sref 3 [] 0 (List.length v1.2.Guests) 17])] [z18,(0,none),z13,z9,z15,z14,z17] 5 ?_))
 obtain ⟨v4,hv4,hh⟩:=bind_some hh
 refine yg (.call 132 [(.t 13)]) (some 14) 12 true (op_call (r:=bb v4) (v:=bb v4) (Hr:=[]) (n':=5) (spec_HostOk_fn hv4) (clz_v (vs:=[.agg [sw 2 v1.2.Words,.sref 3 [] 0 (List.length v1.2.Guests) 17]]) kr (clz_c (clo_agg (clos_c (clo_own (c:=(eI .i64)) (xs:=v1.2.Words) (e:=3) eqn len_eI no_eI cl_eI kr) (clos_c (clo_flr (B:=B_55) (xs:=v1.2.Guests) (e:=55) oc_O_55 len_O_55 eqn kr) clos_n))) clz_n)) rfl rfl kr ?_)
 refine yt (sp 67 [z7,z10,(3,pp 4),(15,bb v4)]) [z18,z9,z15,z14,z17] 5 ?_
 rcases cond_sf hh with ⟨hb,hh⟩ | ⟨hb,hh⟩
 · refine cF hb (Aw.skip ?_)
   obtain rfl:=some_some hh
   exact hN2 (v1.2.Guests,v3.1.b,v3.1.p) _ _ _ hk2 (el [some 0,some 1,some 4,some 2,some 3] (rens_sp kr (rp 1 (rp 4 rl_n))) (hq (rB134 v3.1) rz (hq ⟨41,[.nil,.nil]⟩ rz (hq q3 rz (hn nr_eI (hn nr_O_55 hs_nil))))))
 refine cT hb (sy [0,2,3,4] [0,1,2,3,4] (sp 67 [z7,z10,(3,pp 4),(4,ii 0)]) [z18,z9,z15,z14,z17] 5 (Aw.block ?_))
 obtain ⟨o5,hi5,hk5⟩:=bind_some hh
 refine Aw.iter (fun (s5:(List Int) × Int × (List DGuest) × Int)=>sp 67 [(0,pp 0),(2,pp 1),(3,pp 2),(4,ii s5.2.2.2)]) (fun (s5:(List Int) × Int × (List DGuest) × Int)=>[(0,some ⟨134,[bo (eI .u8) s5.1,ii s5.2.1]⟩),(1,some ⟨41,[.nil,.nil]⟩),(2,some ⟨41,[sw 3 v1.2.Words,.sref 4 [] 0 (List.length s5.2.2.1) 17]⟩),(3,some (rI_3 v1.2.Words)),(4,some (rO55 s5.2.2.1))]) 5 hi5 (el [some 0,some 1,some 4,some 2,some 3] (rens_sp kr (rp 0 (rp 1 (rp 4 (ri rl_n))))) (hq (rB134 v3.1) rz (hq ⟨41,[.nil,.nil]⟩ rz (hq q3 rz (hn nr_eI (hn nr_O_55 hs_nil)))))) ?_
 intro s5 u5 Q5 hh hN5 hX5 hR5
 let z19:EV:=(36,.ptr 4 [] (0+(Int.toNat s5.2.2.2)*17)); let z20:EV:=(37,.ptr 4 [] (0+(Int.toNat s5.2.2.2)*17+14)); let z21:=(4,ii s5.2.2.2); let z22:EH:=(4,some (rO55 s5.2.2.1)); let z23:=(56,ii s5.2.2.2); let z24:EV:=(57,.ptr 4 [] (0+(Int.toNat s5.2.2.2)*17)); let z25:EV:=(58,.ptr 4 [] (0+(Int.toNat s5.2.2.2)*17+14))
 unfold F_spec_l20Full_l5 at hh
 refine Aw.seq (Aw.sreg [0,2,3,4,17] [0,1,2,3,4] ?_)
 let q5:Root:=⟨134,[bo (eI .u8) s5.1,ii s5.2.1]⟩; let q6:Root:=⟨41,[sw 3 v1.2.Words,.sref 4 [] 0 (List.length s5.2.2.1) 17]⟩
 refine yt (sp 67 [z7,z10,z11,z21,(17,bb (decide (s5.2.2.2<(3:Int))))]) [(0,some q5),z9,(2,some q6),z16,z22] 5 ?_
 rcases cond_sf hh with ⟨hb,hh⟩ | ⟨hb,hh⟩
 · refine cF hb (Aw.exit (then_x (hX5 _ _ _ _ _ (some_some hh) ?_)))
   intro hout
   rw [hout] at hk5
   refine blk_x ?_
   obtain rfl:=some_some hk5
   exact hN2 (s5.2.2.1,s5.1,s5.2.1) _ _ _ hk2 (el [some 0,some 1,some 2,some 3,some 4] (rens_sp kr (rp 1 (rp 2 rl_n))) (hq q5 rz (hq ⟨41,[.nil,.nil]⟩ rz (hq q6 rz (hn nr_eI (hn nr_O_55 hs_nil))))))
 refine cT hb (Aw.xskip (fun _ _ _ hq=>then_m hq) ?_)
 obtain ⟨j6,hh,hk6⟩:=bind_some hh
 refine Aw.join (S:=(List Int) × Int × (List DGuest)) (fun s6=>sp 67 [(0,pp 0),(2,pp 1),(3,pp 2),(4,ii s5.2.2.2)]) (fun s6=>[(0,some ⟨134,[bo (eI .u8) s6.1,ii s6.2.1]⟩),(1,some ⟨41,[.nil,.nil]⟩),(2,some ⟨41,[sw 3 v1.2.Words,.sref 4 [] 0 (List.length s6.2.2) 17]⟩),(3,some (rI_3 v1.2.Words)),(4,some (rO55 s6.2.2))]) 5 (fun s6=>F_spec_l20Full_j6 s5 s6=some u5) ?_ ?_
 · intro s6 hh
   unfold F_spec_l20Full_j6 at hh
   refine Aw.oreg ?_
   let q7:Root:=⟨134,[bo (eI .u8) s6.1,ii s6.2.1]⟩; let q8:Root:=⟨41,[sw 3 v1.2.Words,.sref 4 [] 0 (List.length s6.2.2) 17]⟩
   exact ye (sp 67 [z7,z10,z11,(4,ii (w64 (s5.2.2.2+(1:Int)))),(18,ii s5.2.2.2),(19,ii (w64 (s5.2.2.2+(1:Int))))]) [(0,some q7),z9,(2,some q8),z16,(4,some (rO55 s6.2.2))] 5 (hN5 (s6.1,s6.2.1,s6.2.2,(w64 (s5.2.2.2+(1:Int)))) _ _ _ (some_some hh) (el [some 0,some 1,some 2,some 3,some 4] (rens_sp kr (rp 0 (rp 1 (rp 2 (ri rl_n))))) (hq q7 rz (hq ⟨41,[.nil,.nil]⟩ rz (hq q8 rz (hn nr_eI (hn nr_O_55 hs_nil)))))))
 intro Q6 hN6 hR6 hE6
 refine Aw.block (sy [0,2,3,4,5] [0,1,2,3,4] (sp 67 [z7,z10,z11,z21,(5,ii 0)]) [(0,some q5),z9,(2,some q6),z16,z22] 5 (Aw.block ?_))
 obtain ⟨o7,hi7,hk7⟩:=bind_some hh
 refine Aw.iter (fun (s7:(List Int) × Int × (List DGuest) × Int)=>sp 67 [(0,pp 0),(2,pp 1),(3,pp 2),(4,ii s5.2.2.2),(5,ii s7.2.2.2)]) (fun (s7:(List Int) × Int × (List DGuest) × Int)=>[(0,some ⟨134,[bo (eI .u8) s7.1,ii s7.2.1]⟩),(1,some ⟨41,[.nil,.nil]⟩),(2,some ⟨41,[sw 3 v1.2.Words,.sref 4 [] 0 (List.length s7.2.2.1) 17]⟩),(3,some (rI_3 v1.2.Words)),(4,some (rO55 s7.2.2.1))]) 5 hi7 (el [some 0,some 1,some 2,some 3,some 4] (rens_sp kr (rp 0 (rp 1 (rp 2 (ri (ri rl_n)))))) (hq q5 rz (hq ⟨41,[.nil,.nil]⟩ rz (hq q6 rz (hn nr_eI (hn nr_O_55 hs_nil)))))) ?_
 intro s7 u7 Q7 hh hN7 hX7 hR7
 let z26:EV:=(34,.sref 4 [] 0 (List.length s7.2.2.1) 17); let z27:EH:=(4,some (rO55 s7.2.2.1)); let z28:=(5,ii s7.2.2.2); let z29:EV:=(55,.sref 4 [] 0 (List.length s7.2.2.1) 17); let z30:EV:=(65,.ptr 4 [0+(Int.toNat s5.2.2.2)*17+14+0] (0+(Int.toNat s7.2.2.2)*3)); let z1:=List.getD s7.2.2.1 (Int.toNat s5.2.2.2) default; let z31:=(28,bb (decide (s7.2.2.2<(((List.length (z1.Pages)):Nat):Int)))); let z32:EV:=(59,.sref 4 [0+(Int.toNat s5.2.2.2)*17+14+0] 0 (List.length (z1.Pages)) 3); let z3:=List.getD (z1.Pages) (Int.toNat s7.2.2.2) default
 unfold F_spec_l20Full_l7 at hh
 refine Aw.seq (Aw.sreg [0,2,3,4,5,28] [0,1,2,3,4] ?_)
 obtain ⟨hg1224,hh⟩:=grd_some hh
 let q9:Root:=⟨134,[bo (eI .u8) s7.1,ii s7.2.1]⟩; let z33:=(0,some q9); let q10:Root:=⟨41,[sw 3 v1.2.Words,.sref 4 [] 0 (List.length s7.2.2.1) 17]⟩; let z34:=(2,some q10)
 refine yjc 6 [(0:Int)≤s5.2.2.2∧s5.2.2.2<(((List.length s7.2.2.1):Nat):Int)] (sp 67 [z7,z10,z11,z21,z28,(20,ii s7.2.2.2),(21,.ptr 2 [] 1),(22,.sref 4 [] 0 (List.length s7.2.2.1) 17),(23,ii s5.2.2.2),(24,.ptr 4 [] (0+(Int.toNat s5.2.2.2)*17)),(25,.ptr 4 [] (0+(Int.toNat s5.2.2.2)*17+14))]) [z33,z9,z34,z16,z27] 5 (.cons hg1224 .nil) (ys (.load false 1 (.t 25)) (some 26) (op_load (c:=O_55) (xs:=s7.2.2.1) (e:=55) (r:=4) (π:=[]) (o:=0+(Int.toNat s5.2.2.2)*17+14) (i:=(Int.toNat s5.2.2.2)) (off:=14) (v:=.sref 4 [0+(Int.toNat s5.2.2.2)*17+14+0] 0 (List.length (z1.Pages)) 3) len_O_55 kr kr ltn ltn dd kr ?_))
 refine yt (sp 67 [z7,z10,z11,z21,z28,z31]) [z33,z9,z34,z16,z27] 5 ?_
 rcases cond_sf hh with ⟨hb,hh⟩ | ⟨hb,hh⟩
 · refine cF hb (Aw.exit (then_x (hX7 _ _ _ _ _ (some_some hh) ?_)))
   intro hout
   rw [hout] at hk7
   refine blk_x (blk_m ?_)
   obtain rfl:=some_some hk7
   exact hN6 (s7.1,s7.2.1,s7.2.2.1) _ _ _ hk6 (el [some 0,some 1,some 2,some 3,some 4] (rens_sp kr (rp 0 (rp 1 (rp 2 (ri rl_n))))) (hq q9 rz (hq ⟨41,[.nil,.nil]⟩ rz (hq q10 rz (hn nr_eI (hn nr_O_55 hs_nil))))))
 refine cT hb (Aw.xskip (fun _ _ _ hq=>then_m hq) ?_)
 obtain ⟨j8,hh,hk8⟩:=bind_some hh
 refine Aw.join (S:=(List Int) × Int × (List DGuest)) (fun s8=>sp 67 [(0,pp 0),(2,pp 1),(3,pp 2),(4,ii s5.2.2.2),(5,ii s7.2.2.2)]) (fun s8=>[(0,some ⟨134,[bo (eI .u8) s8.1,ii s8.2.1]⟩),(1,some ⟨41,[.nil,.nil]⟩),(2,some ⟨41,[sw 3 v1.2.Words,.sref 4 [] 0 (List.length s8.2.2) 17]⟩),(3,some (rI_3 v1.2.Words)),(4,some (rO55 s8.2.2))]) 5 (fun s8=>F_spec_l20Full_j8 s7 s8=some u7) ?_ ?_
 · intro s8 hh
   unfold F_spec_l20Full_j8 at hh
   refine Aw.oreg ?_
   let q11:Root:=⟨134,[bo (eI .u8) s8.1,ii s8.2.1]⟩; let q12:Root:=⟨41,[sw 3 v1.2.Words,.sref 4 [] 0 (List.length s8.2.2) 17]⟩
   exact ye (sp 67 [z7,z10,z11,z21,(5,ii (w64 (s7.2.2.2+(1:Int)))),(29,ii s7.2.2.2),(30,ii (w64 (s7.2.2.2+(1:Int))))]) [(0,some q11),z9,(2,some q12),z16,(4,some (rO55 s8.2.2))] 5 (hN7 (s8.1,s8.2.1,s8.2.2,(w64 (s7.2.2.2+(1:Int)))) _ _ _ (some_some hh) (el [some 0,some 1,some 2,some 3,some 4] (rens_sp kr (rp 0 (rp 1 (rp 2 (ri (ri rl_n)))))) (hq q11 rz (hq ⟨41,[.nil,.nil]⟩ rz (hq q12 rz (hn nr_eI (hn nr_O_55 hs_nil)))))))
 intro Q8 hN8 hR8 hE8
 refine Aw.block (Aw.sreg [0,2,3,4,5,6] [0,1,2,3,4,5] (yj 1  (sp 67 [z7,z10,z11,z21,z28,z31,(31,.agg [sw 3 v1.2.Words,.sref 4 [] 0 (List.length s7.2.2.1) 17])]) [z33,z9,z34,z16,z27] 5 ?_))
 obtain ⟨v9,hv9,hh⟩:=bind_some hh
 let z35:EH:=(5,some (rI_3 v9)); let z36:=(6,sw 5 v9); let z37:EV:=(64,.agg [ii (List.getD v9 0 default),bb true,bb false]); let z2:=DSlot.mk (List.getD v9 0 default) true false; let z4:=List.set (z1.Pages) (Int.toNat s7.2.2.2) z2; let z5:=DGuest.mk (z1.Live) (z1.C) z4 (z1.In) (z1.Out); let z6:=List.set s7.2.2.1 (Int.toNat s5.2.2.2) z5
 refine ys (.call 133 [(.t 31)]) (some 32) (op_call (r:=.own 3 1 (List.length v9) (fl (eI .i64) v9)) (v:=sw 5 v9) (Hr:=[z35]) (n':=6) (spec_HostFree_fn hv9) (clz_v (vs:=[.agg [sw 3 v1.2.Words,.sref 4 [] 0 (List.length s7.2.2.1) 17]]) kr (clz_c (clo_agg (clos_c (clo_own (c:=(eI .i64)) (xs:=v1.2.Words) (e:=3) eqn len_eI no_eI cl_eI kr) (clos_c (clo_flr (B:=B_55) (xs:=s7.2.2.1) (e:=55) oc_O_55 len_O_55 eqn kr) clos_n))) clz_n)) nrr nrr kr ?_)
 refine yt (sp 67 [z7,z10,z11,z21,z28,z36]) [z33,z9,z34,z16,z27,z35] 6 (Aw.sreg [0,2,3,4,5,6,53] [0,1,2,3,4,5] ?_)
 obtain ⟨hg1223,hh⟩:=grd_some hh
 refine yjc 5 [(0:Int)≤s5.2.2.2∧s5.2.2.2<(((List.length s7.2.2.1):Nat):Int)] (sp 67 [z7,z10,z11,z21,z28,z36,(33,.ptr 2 [] 1),z26,(35,ii s5.2.2.2),z19,z20]) [z33,z9,z34,z16,z27,z35] 6 (.cons hg1223 .nil) (ys (.load false 1 (.t 37)) (some 38) (op_load (c:=O_55) (xs:=s7.2.2.1) (e:=55) (r:=4) (π:=[]) (o:=0+(Int.toNat s5.2.2.2)*17+14) (i:=(Int.toNat s5.2.2.2)) (off:=14) (v:=.sref 4 [0+(Int.toNat s5.2.2.2)*17+14+0] 0 (List.length (z1.Pages)) 3) len_O_55 kr kr ltn ltn dd kr ?_))
 obtain ⟨hg1222,hh⟩:=grd_some hh
 refine yjc 3 [(0:Int)≤s7.2.2.2∧s7.2.2.2<(((List.length (z1.Pages)):Nat):Int)] (sp 67 [z7,z10,z11,z21,z28,z36,(33,.ptr 2 [] 1),z26,(35,ii s5.2.2.2),z19,z20,(38,.sref 4 [0+(Int.toNat s5.2.2.2)*17+14+0] 0 (List.length (z1.Pages)) 3),(39,ii s7.2.2.2),(40,.ptr 4 [0+(Int.toNat s5.2.2.2)*17+14+0] (0+(Int.toNat s7.2.2.2)*3)),(41,.ptr 4 [0+(Int.toNat s5.2.2.2)*17+14+0] (0+(Int.toNat s7.2.2.2)*3+0))]) [z33,z9,z34,z16,z27,z35] 6 (.cons hg1222 .nil) (ys (.load false 1 (.t 41)) (some 42) (op_load (c:=C_52) (xs:=z1.Pages) (e:=52) (r:=4) (π:=[0+(Int.toNat s5.2.2.2)*17+14+0]) (o:=0+(Int.toNat s7.2.2.2)*3+0) (i:=(Int.toNat s7.2.2.2)) (off:=0) (v:=ii (z3.Frame)) len_C_52 kr (get_fl (e:=55) (e':=52) (sz':=3) (m':=(List.length (z1.Pages))) (cs':=(fl C_52 (z1.Pages))) (c:=O_55) (xs:=s7.2.2.1) (i:=(Int.toNat s5.2.2.2)) (off:=14) len_O_55 kr ltn ltn dd rfl kr) ltn ltn dd kr ?_))
 refine yu 2 [(42,ii (z3.Frame)),(43,bb (decide ((z3.Frame)<(0:Int)))),(44,bb (decide ((z3.Frame)<(0:Int))))] [z33,z9,z34,z16,z27,z35] 6 ?_
 rcases cond_sf hh with ⟨hb,hh⟩ | ⟨hb,hh⟩
 · refine yb 43 hb (yb 44 hb (yt (sp 67 [z7,z10,z11,z21,z28,z36,(53,bb false)]) [z33,z9,z34,z16,z27,z35] 6 (cF rfl (Aw.skip (blk_m ?_)))))
   obtain rfl:=some_some hh
   exact hN8 (s7.1,s7.2.1,s7.2.2.1) _ _ _ hk8 (el [some 0,some 1,some 2,some 3,some 4] (rens_sp kr (rp 0 (rp 1 (rp 2 (ri (ri rl_n)))))) (hq q9 rz (hq ⟨41,[.nil,.nil]⟩ rz (hq q10 rz (hn nr_eI (hn nr_O_55 hs_nil))))))
 refine yb 43 hb (yb 44 hb (yu 5 [(43,bb true),(44,bb true),(45,sw 5 v9),(46,ii (((List.length v9):Nat):Int)),(47,bb (decide ((0:Int)<(((List.length v9):Nat):Int)))),(48,bb (decide ((0:Int)<(((List.length v9):Nat):Int)))),(49,bb (decide ((0:Int)<(((List.length v9):Nat):Int))))] [z33,z9,z34,z16,z27,z35] 6 ?_))
 rcases cond_sf hh with ⟨hb,hh⟩ | ⟨hb,hh⟩
 · refine yb 47 hb (yb 48 hb (yb 49 hb (yt (sp 67 [z7,z10,z11,z21,z28,z36,(53,bb false)]) [z33,z9,z34,z16,z27,z35] 6 (cF rfl (Aw.skip (blk_m ?_))))))
   obtain rfl:=some_some hh
   exact hN8 (s7.1,s7.2.1,s7.2.2.1) _ _ _ hk8 (el [some 0,some 1,some 2,some 3,some 4] (rens_sp kr (rp 0 (rp 1 (rp 2 (ri (ri rl_n)))))) (hq q9 rz (hq ⟨41,[.nil,.nil]⟩ rz (hq q10 rz (hn nr_eI (hn nr_O_55 hs_nil))))))
 refine yb 47 hb (yb 48 hb (yb 49 hb (yu 1 [(47,bb true),(48,bb true),(49,bb true),(50,pp 0)] [z33,z9,z34,z16,z27,z35] 6 ?_)))
 obtain ⟨v10,hv10,hh⟩:=bind_some hh
 let z38:EH:=(0,some (rB134 v10.1)); let z39:=(53,bb (decide ((0:Int)<v10.2)))
 refine yg (.call 49 [(.t 50),(.c (ii 6))]) (some 51) 49 true (cf (ii v10.2) [z38] 6 [0] (__spec_l20Rd__pick_fn hv10) [pp 0,ii 6] rz (hq q9 rz hs_nil) ren_i (hq (rB134 v10.1) (rens_same (nr_B_134 _)) hs_nil) ?_)
 refine yt (sp 67 [z7,z10,z11,z21,z28,z36,z39]) [z38,z9,z34,z16,z27,z35] 6 ?_
 rcases cond_sf hh with ⟨hb,hh⟩ | ⟨hb,hh⟩
 · refine cF hb (Aw.skip (blk_m ?_))
   obtain rfl:=some_some hh
   exact hN8 (v10.1.b,v10.1.p,s7.2.2.1) _ _ _ hk8 (el [some 0,some 1,some 2,some 3,some 4] (rens_sp kr (rp 0 (rp 1 (rp 2 (ri (ri rl_n)))))) (hq (rB134 v10.1) rz (hq ⟨41,[.nil,.nil]⟩ rz (hq q10 rz (hn nr_eI (hn nr_O_55 hs_nil))))))
 refine cT hb (Aw.oregt ?_)
 obtain ⟨hg1221,hh⟩:=grd_some hh
 refine qc (cs:=[(0:Int)≤s5.2.2.2∧s5.2.2.2<(((List.length s7.2.2.1):Nat):Int)]) (E':=(sp 67 [z7,z10,z11,z21,z28,z36,z39,z12,z29,z23,z24,z25])) (pre:=(List.take 5 (rg 74 9))) (L':=(List.drop 5 (rg 74 9))) kr (fun K=>by kernel_rfl) (.cons hg1221 .nil) (qs (.load false 1 (.t 58)) (some 59) (yq_q rfl (op_load (c:=O_55) (xs:=s7.2.2.1) (e:=55) (r:=4) (π:=[]) (o:=0+(Int.toNat s5.2.2.2)*17+14) (i:=(Int.toNat s5.2.2.2)) (off:=14) (v:=.sref 4 [0+(Int.toNat s5.2.2.2)*17+14+0] 0 (List.length (z1.Pages)) 3) len_O_55 kr kr ltn ltn dd kr ?_)))
 obtain ⟨hg1220,hh⟩:=grd_some hh
 refine qc (cs:=[(0:Int)≤(0:Int)∧(0:Int)<(((List.length v9):Nat):Int)]) (E':=(sp 67 [z7,z10,z11,z21,z28,z36,z39,z12,z29,z23,z24,z25,z32,(60,ii s7.2.2.2),(61,sw 5 v9),(62,pp 5)])) (pre:=(List.take 3 (List.drop 6 (rg 74 9)))) (L':=(List.drop 9 (rg 74 9))) kr (fun K=>by kernel_rfl) (.cons hg1220 .nil) (qs (.load false 1 (.t 62)) (some 63) (yq_q rfl (op_load (c:=(eI .i64)) (xs:=v9) (e:=3) (r:=5) (π:=[]) (o:=0) (i:=0) (off:=0) (v:=ii (List.getD v9 0 default)) len_eI kr kr ltn ltn dd kr ?_)))
 obtain ⟨hg1219,hh⟩:=grd_some hh
 refine qtt (cs:=[(0:Int)≤s7.2.2.2∧s7.2.2.2<(((List.length (z1.Pages)):Nat):Int)]) (E':=(sp 67 [z7,z10,z11,z21,z28,z36,z39,z12,z29,z23,z24,z25,z32,(60,ii s7.2.2.2),(61,sw 5 v9),(62,pp 5),(63,ii (List.getD v9 0 default)),z37,z30])) (fun K=>by kernel_rfl) (.cons hg1219 .nil) ?_
 let q13:Root:=(rO55 z6)
 refine ys (.store 3 (.t 65) (.t 64)) none (op_store (c:=C_52) (xs:=z1.Pages) (e:=52) (r:=4) (π:=[0+(Int.toNat s5.2.2.2)*17+14+0]) (o:=0+(Int.toNat s7.2.2.2)*3) (i:=(Int.toNat s7.2.2.2)) (off:=0) (vs:=[ii (List.getD v9 0 default),bb true,bb false]) (y:=z2) (H':=[(4,some q13),z38,z9,z34,z16,z27,z35]) len_C_52 kr kr kr (get_fl (e:=55) (e':=52) (sz':=3) (m':=(List.length (z1.Pages))) (cs':=(fl C_52 (z1.Pages))) (c:=O_55) (xs:=s7.2.2.1) (i:=(Int.toNat s5.2.2.2)) (off:=14) len_O_55 kr ltn ltn dd rfl kr) ltn ltn dd kr (put_fl (e:=55) (e':=52) (sz':=3) (m':=(List.length (z1.Pages))) (cs':=(fl C_52 (z1.Pages))) (ds:=(fl C_52 z4)) (c:=O_55) (xs:=s7.2.2.1) (i:=(Int.toNat s5.2.2.2)) (off:=14) (y:=z5) (m2:=(List.length z4)) len_O_55 kr ltn ltn dd rfl kr eqn kr rfl kr) ?_)
 refine ye (sp 67 [z7,z10,z11,z21,z28,z36,z39,z12,z29,z23,z24,z25,z32,(60,ii s7.2.2.2),(61,sw 5 v9),(62,pp 5),(63,ii (List.getD v9 0 default)),z37,z30]) [(4,some q13),z38,z9,z34,z16,z27,z35] 6 (blk_m ?_)
 obtain rfl:=some_some hh
 exact hN8 (v10.1.b,v10.1.p,z6) _ _ _ hk8 (el [some 0,some 1,some 2,some 3,some 4] (rens_sp kr (rp 0 (rp 1 (rp 2 (ri (ri rl_n)))))) (hq (rB134 v10.1) rz (hq ⟨41,[.nil,.nil]⟩ rz (hq q10 rz (hn nr_eI (hn nr_O_55 hs_nil))))))
theorem low_spec_l20At:LW 75 ⟨31,[(.tmp 4)],(.seq (.reg false (rg 75 0)) (.seq (.reg false (rg 75 1)) (.seq (.seq (.reg false (rg 75 2)) (.cond (.t 25) (.reg false (rg 75 3)) .skip)) (.seq (.reg false (rg 75 4)) .ret))))⟩:=kr
noncomputable def F_spec_l20At_j2 (x_h:DHost) (s2:(List Int) × Int × Int):Option (Dl20Rd × (List Int) × (List DGuest) × Int) :=
 Option.bind (F___spec_l20Rd__pick (Dl20Rd.mk s2.1 s2.2.1) (25:Int)) fun v3 =>
 some (v3.1,x_h.Words,x_h.Guests,(w64 (s2.2.2 - (w64 (Int.tdiv v3.2 (24:Int))))))
noncomputable def F_spec_l20At (x_r:Dl20Rd) (x_h:DHost):Option (Dl20Rd × (List Int) × (List DGuest) × Int) :=
 Option.bind (F___spec_l20Rd__pick x_r (3:Int)) fun v1 =>
 Option.bind (cond (decide ((((List.length x_h.Guests):Nat):Int)=(3:Int)))
  (grd ((0:Int)≤v1.2∧v1.2<(((List.length x_h.Guests):Nat):Int)) (cond (!((List.getD x_h.Guests (Int.toNat v1.2) default).Live))
   (Option.bind (F___spec_l20Rd__pick v1.1 (6:Int)) fun v4 =>
   cond (decide ((0:Int)<v4.2))
    (some (.go (v4.1.b,v4.1.p,(0:Int))))
    (some (.go (v4.1.b,v4.1.p,v1.2))))
   (some (.go (v1.1.b,v1.1.p,v1.2)))))
  (some (.go (v1.1.b,v1.1.p,v1.2)))) fun j2 =>
  JO.run j2 (F_spec_l20At_j2 x_h)
theorem spec_l20At_fn {x_r:Dl20Rd} {x_h:DHost} {R_:Dl20Rd × (List Int) × (List DGuest) × Int} (hh:F_spec_l20At x_r x_h=some R_):Inl Try.prog 75 [pp 0,.agg [.sref 1 [] 0 (List.length x_h.Words) 1,.sref 2 [] 0 (List.length x_h.Guests) 17]] [(2,some (rO55 x_h.Guests)),(1,some (rI_3 x_h.Words)),(0,some (rB134 x_r))] 3 (.int .i64 R_.2.2.2) [(0,some ⟨134,[bo (eI .u8) R_.1.b,.int .i64 R_.1.p]⟩),(1,some (rI_3 R_.2.1)),(2,some (rO55 R_.2.2.1))] 3:=by
 let z2:=(0,pp 0); let z3:EH:=(0,some (rB134 x_r)); let z4:=(10,ii (((List.length x_h.Guests):Nat):Int)); let z5:EV:=(9,.sref 2 [] 0 (List.length x_h.Guests) 17)
 unfold F_spec_l20At at hh
 let q1:Root:=(rI_3 x_h.Words); let z6:=(1,some q1); let q2:Root:=(rO55 x_h.Guests); let z7:=(2,some q2)
 refine Inl.start low_spec_l20At [0,1] [0,1,2] (E:=sp 31 [z2,(1,.agg [sw 1 x_h.Words,.sref 2 [] 0 (List.length x_h.Guests) 17])]) (H1:=[z3,z6,z7]) kr kr (Aw.sreg [0,3] [0,1,2,3] ?_)
 let q3:Root:=⟨41,[sw 1 x_h.Words,.sref 2 [] 0 (List.length x_h.Guests) 17]⟩; let z8:=(3,some q3)
 refine yt (sp 31 [z2,(3,pp 3)]) [z3,z6,z7,z8] 4 (Aw.sreg [0,3,5] [0,1,2,3] (yu 1 [(6,pp 0)] [z3,z6,z7,z8] 4 ?_))
 obtain ⟨v1,hv1,hh⟩:=bind_some hh
 let z9:EH:=(0,some (rB134 v1.1)); let z10:=(5,ii v1.2); let z1:=List.getD x_h.Guests (Int.toNat v1.2) default
 refine ys (.call 49 [(.t 6),(.c (ii 3))]) (some 7) (cf (ii v1.2) [z9] 4 [0] (__spec_l20Rd__pick_fn hv1) [pp 0,ii 3] rz (hq (rB134 x_r) (rens_same (nr_B_134 _)) hs_nil) ren_i (hq (rB134 v1.1) (rens_same (nr_B_134 _)) hs_nil) ?_)
 refine yt (sp 31 [z2,(3,pp 3),z10]) [z9,z6,z7,z8] 4 ?_
 obtain ⟨j2,hh,hk2⟩:=bind_some hh
 refine Aw.join (S:=(List Int) × Int × Int) (fun s2=>sp 31 [(0,pp 0),(5,ii s2.2.2)]) (fun s2=>[(0,some ⟨134,[bo (eI .u8) s2.1,ii s2.2.1]⟩),(1,some (rI_3 x_h.Words)),(2,some (rO55 x_h.Guests))]) 3 (fun s2=>F_spec_l20At_j2 x_h s2=some R_) ?_ ?_
 · intro s2 hh
   unfold F_spec_l20At_j2 at hh
   refine Aw.sreg [4] [0,1,2] ?_
   let q4:Root:=⟨134,[bo (eI .u8) s2.1,ii s2.2.1]⟩
   refine yj 2  (sp 31 [z2,(5,ii s2.2.2),(26,ii s2.2.2),(27,pp 0)]) [(0,some q4),z6,z7] 3 ?_
   obtain ⟨v3,hv3,hh⟩:=bind_some hh
   refine ys (.call 49 [(.t 27),(.c (ii 25))]) (some 28) (cf (ii v3.2) [(0,some (rB134 v3.1))] 3 [0] (__spec_l20Rd__pick_fn hv3) [pp 0,ii 25] rz (hq q4 rz hs_nil) ren_i (hq (rB134 v3.1) (rens_same (nr_B_134 _)) hs_nil) ?_)
   refine ytc [(24:Int)≠0] (sp 31 [(4,ii (w64 (s2.2.2 - (w64 (Int.tdiv v3.2 (24:Int))))))]) [(0,some (rB134 v3.1)),z6,z7] 3 (.cons dd .nil) (Aw.ret ?_)
   rw [some_some hh]
   exact gives (r':=ii (w64 (s2.2.2 - (w64 (Int.tdiv v3.2 (24:Int)))))) kr (el [some 0,some 1,some 2] (rens_1 ren_i) (hq (rB134 v3.1) (rens_same (nr_B_134 _)) (hn nr_eI (hn nr_O_55 hs_nil))))
 intro Q2 hN2 hR2 hE2
 refine Aw.sreg [0,5,25] [0,1,2] (yj 5  (sp 31 [z2,(3,pp 3),z10,(8,.ptr 3 [] 1),z5,z4,(11,bb (decide ((((List.length x_h.Guests):Nat):Int)=(3:Int)))),(12,bb (decide ((((List.length x_h.Guests):Nat):Int)=(3:Int))))]) [z9,z6,z7,z8] 4 ?_)
 rcases cond_sf hh with ⟨hb,hh⟩ | ⟨hb,hh⟩
 · refine yb 11 hb (yb 12 hb (yt (sp 31 [z2,z10,(25,bb false)]) [z9,z6,z7] 4 (cF rfl (Aw.skip ?_))))
   obtain rfl:=some_some hh
   exact hN2 (v1.1.b,v1.1.p,v1.2) _ _ _ hk2 (el [some 0,some 1,some 2] (rens_sp kr (rp 0 (ri rl_n))) (hq (rB134 v1.1) rz (hn nr_eI (hn nr_O_55 hs_nil))))
 refine yb 11 hb (yb 12 hb ?_)
 obtain ⟨hg6,hh⟩:=grd_some hh
 refine yjc 5 [(0:Int)≤v1.2∧v1.2<(((List.length x_h.Guests):Nat):Int)] (sp 31 [z2,(3,pp 3),z10,(8,.ptr 3 [] 1),z5,z4,(11,bb true),(12,bb true),(13,.ptr 3 [] 1),(14,.sref 2 [] 0 (List.length x_h.Guests) 17),(15,ii v1.2),(16,.ptr 2 [] (0+(Int.toNat v1.2)*17)),(17,.ptr 2 [] (0+(Int.toNat v1.2)*17+0))]) [z9,z6,z7,z8] 4 (.cons hg6 .nil) (yg (.load false 1 (.t 17)) (some 18) 12 true (op_load (c:=O_55) (xs:=x_h.Guests) (e:=55) (r:=2) (π:=[]) (o:=0+(Int.toNat v1.2)*17+0) (i:=(Int.toNat v1.2)) (off:=0) (v:=bb (z1.Live)) len_O_55 kr kr ltn ltn dd kr ?_))
 refine yu 3 [(18,bb (z1.Live)),(19,bb (!(z1.Live))),(20,bb (!(z1.Live))),(21,bb (!(z1.Live)))] [z9,z6,z7,z8] 4 ?_
 rcases cond_sf hh with ⟨hb,hh⟩ | ⟨hb,hh⟩
 · refine yb 19 hb (yb 20 hb (yb 21 hb (yt (sp 31 [z2,z10,(25,bb false)]) [z9,z6,z7] 4 (cF rfl (Aw.skip ?_)))))
   obtain rfl:=some_some hh
   exact hN2 (v1.1.b,v1.1.p,v1.2) _ _ _ hk2 (el [some 0,some 1,some 2] (rens_sp kr (rp 0 (ri rl_n))) (hq (rB134 v1.1) rz (hn nr_eI (hn nr_O_55 hs_nil))))
 refine yb 19 hb (yb 20 hb (yb 21 hb (yu 1 [(19,bb true),(20,bb true),(21,bb true),(22,pp 0)] [z9,z6,z7,z8] 4 ?_)))
 obtain ⟨v4,hv4,hh⟩:=bind_some hh
 let z11:EH:=(0,some (rB134 v4.1)); let z12:=(25,bb (decide ((0:Int)<v4.2)))
 refine yg (.call 49 [(.t 22),(.c (ii 6))]) (some 23) 21 true (cf (ii v4.2) [z11] 4 [0] (__spec_l20Rd__pick_fn hv4) [pp 0,ii 6] rz (hq (rB134 v1.1) (rens_same (nr_B_134 _)) hs_nil) ren_i (hq (rB134 v4.1) (rens_same (nr_B_134 _)) hs_nil) ?_)
 refine yt (sp 31 [z2,z10,z12]) [z11,z6,z7] 4 ?_
 rcases cond_sf hh with ⟨hb,hh⟩ | ⟨hb,hh⟩
 · refine cF hb (Aw.skip ?_)
   obtain rfl:=some_some hh
   exact hN2 (v4.1.b,v4.1.p,v1.2) _ _ _ hk2 (el [some 0,some 1,some 2] (rens_sp kr (rp 0 (ri rl_n))) (hq (rB134 v4.1) rz (hn nr_eI (hn nr_O_55 hs_nil))))
 refine cT hb (Aw.oreg (ye (sp 31 [z2,(5,ii 0),z12]) [z11,z6,z7] 4 ?_))
 obtain rfl:=some_some hh
 exact hN2 (v4.1.b,v4.1.p,(0:Int)) _ _ _ hk2 (el [some 0,some 1,some 2] (rens_sp kr (rp 0 (ri rl_n))) (hq (rB134 v4.1) rz (hn nr_eI (hn nr_O_55 hs_nil))))
end Go.Proofs.Ytbanbjdcgdmkaaa
