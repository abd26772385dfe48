/- Plain functions of the program, and that it hands back what they say. Made by program. -/
import Derived.Test.YtbanbjdcgdmkaaaWT
import Derived.Test.YtbanbjdcgdmkaaaProg
import Derived.Test.YtbanbjdcgdmkaaaWH1
namespace Go.Proofs.Ytbanbjdcgdmkaaa
open Go.RowKit
set_option maxRecDepth 100000
set_option linter.all false
set_option maxHeartbeats 0
theorem low_laws_markSlotS:LW 153 ⟨38,[(.tmp 4)],(.seq (.reg false (rg 153 0)) (.seq (.seq (.reg false (rg 153 1)) (.block 0 (.loop (.seq (.seq (.reg false (rg 153 2)) (.cond (.t 9) .skip (.exit 0))) (.seq (.block 1 (.seq (.reg false (rg 153 3)) (.seq (.reg false (rg 153 4)) (.seq (.reg false (rg 153 5)) (.seq (.reg false (rg 153 6)) (.seq (.reg false (rg 153 7)) (.reg false (rg 153 8)))))))) (.reg false (rg 153 9))))))) (.seq (.reg false (rg 153 11)) .ret)))⟩:=kr
noncomputable def F_laws_markSlotS_j1  (s1:Int × (List DSlot)):Option ((List DSlot) × Int) :=
 some (s1.2,s1.1)
noncomputable def F_laws_markSlotS_l2  (s2:(List DSlot) × Int × Int):Option (LO ((List DSlot) × Int × Int) (JO (Int × (List DSlot)) ((List DSlot) × Int))) :=
 cond (decide (s2.2.2<(((List.length s2.1):Nat):Int)))
  (grd ((0:Int)≤s2.2.2∧s2.2.2<(((List.length s2.1):Nat):Int)) (grd ((0:Int)≤s2.2.2∧s2.2.2<(((List.length s2.1):Nat):Int)) (grd ((0:Int)≤s2.2.2∧s2.2.2<(((List.length s2.1):Nat):Int)) (some (.next ((List.set s2.1 (Int.toNat s2.2.2) (DSlot.mk s2.2.1 (decide ((Int.tmod (w64 (s2.2.1+(1:Int))) (3:Int))=(0:Int))) (decide ((Int.tmod (w64 ((w64 (s2.2.1+(1:Int)))+(1:Int))) (3:Int))=(0:Int))))),(w64 ((w64 ((w64 (s2.2.1+(1:Int)))+(1:Int)))+(1:Int))),(w64 (s2.2.2+(1:Int)))))))))
  (some (.ret (.go (s2.2.1,s2.1))))
noncomputable def F_laws_markSlotS (x_a:List DSlot) (x_k:Int):Option ((List DSlot) × Int) :=
 Option.bind (Option.bind (iter (F_laws_markSlotS_l2) (x_a,x_k,(0:Int))) LO.val) fun j1 =>
  JO.run j1 (F_laws_markSlotS_j1)
theorem laws_markSlotS_fn {x_a:List DSlot} {x_k:Int} {R_:(List DSlot) × Int} (hh:F_laws_markSlotS x_a x_k=some R_):Inl Try.prog 153 [.sref 0 [] 0 (List.length x_a) 3,.int .i64 x_k] [(0,some (rC52 x_a))] 1 (.int .i64 R_.2) [(0,some (rC52 R_.1))] 1:=by
 let z8:EV:=(0,.sref 0 [] 0 (List.length x_a) 3); let z9:EH:=(0,some (rC52 x_a))
 unfold F_laws_markSlotS at hh
 refine Inl.start low_laws_markSlotS [0,1] [0] (E:=sp 38 [z8,(1,ii x_k)]) (H1:=[z9]) kr kr (sy [0,1] [0] (sp 38 [z8,(1,ii x_k)]) [z9] 1 ?_)
 obtain ⟨j1,hh,hk1⟩:=bind_some hh
 refine Aw.join (S:=Int × (List DSlot)) (fun s1=>sp 38 [(1,ii s1.1)]) (fun s1=>[(0,some (rC52 s1.2))]) 1 (fun s1=>F_laws_markSlotS_j1 s1=some R_) ?_ ?_
 · intro s1 hh
   unfold F_laws_markSlotS_j1 at hh
   refine sy [4] [0] (sp 38 [(4,ii s1.1)]) [(0,some (rC52 s1.2))] 1 (Aw.ret ?_)
   rw [some_some hh]
   exact gives (r':=ii s1.1) kr (el [some 0] (rens_1 ren_i) (hn nr_C_52 hs_nil))
 intro Q1 hN1 hR1 hE1
 refine sy [0,1,5] [0] (sp 38 [z8,(1,ii x_k),(5,ii 0)]) [z9] 1 (Aw.block ?_)
 obtain ⟨o2,hi2,hk2⟩:=bind_some hh
 refine Aw.iter (fun (s2:(List DSlot) × Int × Int)=>sp 38 [(0,.sref 0 [] 0 (List.length s2.1) 3),(1,ii s2.2.1),(5,ii s2.2.2)]) (fun (s2:(List DSlot) × Int × Int)=>[(0,some (rC52 s2.1))]) 1 hi2 (el [some 0] (rens_sp kr (rs (.sref 0 [] 0 (List.length x_a) 3) (ri (ri rl_n)))) (hn nr_C_52 hs_nil)) ?_
 intro s2 u2 Q2 hh hN2 hX2 hR2
 let z10:EV:=(0,.sref 0 [] 0 (List.length s2.1) 3); let z11:EH:=(0,some (rC52 s2.1)); let z12:=(1,ii (w64 ((w64 ((w64 (s2.2.1+(1:Int)))+(1:Int)))+(1:Int)))); let z13:=(1,ii (w64 ((w64 (s2.2.1+(1:Int)))+(1:Int)))); let z14:=(1,ii (w64 (s2.2.1+(1:Int)))); let z15:=(5,ii s2.2.2); let z16:=(9,bb (decide (s2.2.2<(((List.length s2.1):Nat):Int)))); let z1:=DSlot.mk s2.2.1 (decide ((Int.tmod (w64 (s2.2.1+(1:Int))) (3:Int))=(0:Int))) (decide ((Int.tmod (w64 ((w64 (s2.2.1+(1:Int)))+(1:Int))) (3:Int))=(0:Int))); let z3:=List.set s2.1 (Int.toNat s2.2.2) z1; let z2:=List.getD s2.1 (Int.toNat s2.2.2) default; let z4:=DSlot.mk s2.2.1 (decide ((Int.tmod (w64 (s2.2.1+(1:Int))) (3:Int))=(0:Int))) (z2.Dirty); let z6:=List.set s2.1 (Int.toNat s2.2.2) z4; let z5:=DSlot.mk s2.2.1 (z2.Write) (z2.Dirty); let z7:=List.set s2.1 (Int.toNat s2.2.2) z5
 unfold F_laws_markSlotS_l2 at hh
 refine Aw.seq (sy [0,1,5,9] [0] (sp 38 [z10,(1,ii s2.2.1),z15,z16]) [z11] 1 ?_)
 rcases cond_sf hh with ⟨hb,hh⟩ | ⟨hb,hh⟩
 · refine cF hb (Aw.exit (then_x (hX2 _ _ _ _ _ (some_some hh) ?_)))
   intro hout
   rw [hout] at hk2
   refine blk_x ?_
   obtain rfl:=some_some hk2
   exact hN1 (s2.2.1,s2.1) _ _ _ hk1 (el [some 0] (rens_sp kr (ri rl_n)) (hn nr_C_52 hs_nil))
 refine cT hb (Aw.xskip (fun _ _ _ hq=>then_m hq) (Aw.seq (Aw.block (Aw.sreg [0,1,5] [0] ?_))))
 obtain ⟨hg72,hh⟩:=grd_some hh
 refine yjc 5 [(0:Int)≤s2.2.2∧s2.2.2<(((List.length s2.1):Nat):Int)] (sp 38 [z10,(1,ii s2.2.1),z15,z16,(12,.sref 0 [] 0 (List.length s2.1) 3),(13,ii s2.2.2),(14,ii s2.2.1),(15,.ptr 0 [] (0+(Int.toNat s2.2.2)*3)),(16,.ptr 0 [] (0+(Int.toNat s2.2.2)*3+0))]) [z11] 1 (.cons hg72 .nil) ?_
 let q1:Root:=(rC52 z7); let z17:=(0,some q1)
 refine ys (.store 1 (.t 16) (.t 14)) none (op_store (c:=C_52) (xs:=s2.1) (e:=52) (r:=0) (π:=[]) (o:=0+(Int.toNat s2.2.2)*3+0) (i:=(Int.toNat s2.2.2)) (off:=0) (vs:=[ii s2.2.1]) (y:=z5) (H':=[z17,z11]) len_C_52 kr kr kr kr ltn ltn dd kr kr ?_)
 refine yt (sp 38 [z10,(1,ii s2.2.1),z15]) [z17] 1 (sy [0,1,5] [0] (sp 38 [z10,z14,z15]) [z17] 1 (Aw.sreg [0,1,5] [0] ?_))
 obtain ⟨hg71,hh⟩:=grd_some hh
 refine yjc 7 [(3:Int)≠0,(0:Int)≤s2.2.2∧s2.2.2<(((List.length s2.1):Nat):Int)] (sp 38 [z10,z14,z15,(19,.sref 0 [] 0 (List.length s2.1) 3),(20,ii s2.2.2),(21,ii (w64 (s2.2.1+(1:Int)))),(22,ii (Int.tmod (w64 (s2.2.1+(1:Int))) (3:Int))),(23,bb (decide ((Int.tmod (w64 (s2.2.1+(1:Int))) (3:Int))=(0:Int)))),(24,.ptr 0 [] (0+(Int.toNat s2.2.2)*3)),(25,.ptr 0 [] (0+(Int.toNat s2.2.2)*3+1))]) [z17] 1 (.cons dd (.cons hg71 .nil)) ?_
 let q2:Root:=(rC52 z6); let z18:=(0,some q2)
 refine ys (.store 1 (.t 25) (.t 23)) none (op_storeE (getD_set_self ltn) (List.set_set ..) (c:=C_52) (xs:=z7) (e:=52) (r:=0) (π:=[]) (o:=0+(Int.toNat s2.2.2)*3+1) (i:=(Int.toNat s2.2.2)) (off:=1) (vs:=[bb (decide ((Int.tmod (w64 (s2.2.1+(1:Int))) (3:Int))=(0:Int)))]) (y:=z4) (H':=[z18,z17]) len_C_52 kr kr kr kr ltn ltn dd kr kr ?_)
 refine yt (sp 38 [z10,z14,z15]) [z18] 1 (sy [0,1,5] [0] (sp 38 [z10,z13,z15]) [z18] 1 (Aw.sreg [0,1,5] [0] ?_))
 obtain ⟨hg70,hh⟩:=grd_some hh
 refine yjc 7 [(3:Int)≠0,(0:Int)≤s2.2.2∧s2.2.2<(((List.length s2.1):Nat):Int)] (sp 38 [z10,z13,z15,(28,.sref 0 [] 0 (List.length s2.1) 3),(29,ii s2.2.2),(30,ii (w64 ((w64 (s2.2.1+(1:Int)))+(1:Int)))),(31,ii (Int.tmod (w64 ((w64 (s2.2.1+(1:Int)))+(1:Int))) (3:Int))),(32,bb (decide ((Int.tmod (w64 ((w64 (s2.2.1+(1:Int)))+(1:Int))) (3:Int))=(0:Int)))),(33,.ptr 0 [] (0+(Int.toNat s2.2.2)*3)),(34,.ptr 0 [] (0+(Int.toNat s2.2.2)*3+2))]) [z18] 1 (.cons dd (.cons hg70 .nil)) ?_
 let q3:Root:=(rC52 z3)
 refine ys (.store 1 (.t 34) (.t 32)) none (op_storeE (getD_set_self ltn) (List.set_set ..) (c:=C_52) (xs:=z6) (e:=52) (r:=0) (π:=[]) (o:=0+(Int.toNat s2.2.2)*3+2) (i:=(Int.toNat s2.2.2)) (off:=2) (vs:=[bb (decide ((Int.tmod (w64 ((w64 (s2.2.1+(1:Int)))+(1:Int))) (3:Int))=(0:Int)))]) (y:=z1) (H':=[(0,some q3),z18]) len_C_52 kr kr kr kr ltn ltn dd kr kr ?_)
 exact yt (sp 38 [z10,z13,z15]) [(0,some q3)] 1 (Aw.xreg [0,1,5] [0] (fun _ _ _ hq=>blk_m (then_m hq)) (yt (sp 38 [z10,z12,z15]) [(0,some q3)] 1 (Aw.oreg (ye (sp 38 [z10,z12,(5,ii (w64 (s2.2.2+(1:Int)))),(10,ii s2.2.2),(11,ii (w64 (s2.2.2+(1:Int))))]) [(0,some q3)] 1 (hN2 (z3,(w64 ((w64 ((w64 (s2.2.1+(1:Int)))+(1:Int)))+(1:Int))),(w64 (s2.2.2+(1:Int)))) _ _ _ (some_some hh) (el [some 0] (rens_sp kr (rs (.sref 0 [] 0 (List.length s2.1) 3) (ri (ri rl_n)))) (hn nr_C_52 hs_nil)))))))
theorem low_laws_markGuestS:LW 112 ⟨157,[(.tmp 4)],(.seq (.reg false (rg 112 0)) (.seq (.seq (.reg false (rg 112 1)) (.block 0 (.loop (.seq (.seq (.reg false (rg 112 2)) (.cond (.t 9) .skip (.exit 0))) (.seq (.block 1 (.seq (.reg false (rg 112 3)) (.seq (.reg false (rg 112 4)) (.seq (.reg false (rg 112 5)) (.seq (.reg false (rg 112 6)) (.seq (.reg false (rg 112 7)) (.seq (.reg false (rg 112 8)) (.seq (.reg false (rg 112 9)) (.seq (.reg false (rg 112 10)) (.seq (.reg false (rg 112 11)) (.seq (.reg false (rg 112 12)) (.seq (.reg false (rg 112 13)) (.seq (.reg false (rg 112 14)) (.seq (.reg false (rg 112 15)) (.seq (.reg false (rg 112 16)) (.seq (.reg false (rg 112 17)) (.seq (.reg false (rg 112 18)) (.seq (.reg false (rg 112 19)) (.seq (.reg false (rg 112 20)) (.seq (.reg false (rg 112 21)) (.seq (.reg false (rg 112 22)) (.seq (.reg false (rg 112 23)) (.seq (.reg false (rg 112 24)) (.seq (.reg false (rg 112 25)) (.seq (.reg false (rg 112 26)) (.seq (.reg false (rg 112 27)) (.seq (.reg false (rg 112 28)) (.seq (.reg false (rg 112 29)) (.seq (.reg false (rg 112 30)) (.seq (.reg false (rg 112 31)) (.reg false (rg 112 32)))))))))))))))))))))))))))))))) (.reg false (rg 112 33))))))) (.seq (.reg false (rg 112 35)) .ret)))⟩:=kr
noncomputable def F_laws_markGuestS_j1  (s1:Int × (List DGuest)):Option ((List DGuest) × Int) :=
 some (s1.2,s1.1)
noncomputable def F_laws_markGuestS_l2  (s2:(List DGuest) × Int × Int):Option (LO ((List DGuest) × Int × Int) (JO (Int × (List DGuest)) ((List DGuest) × Int))) :=
 cond (decide (s2.2.2<(((List.length s2.1):Nat):Int)))
  (grd ((0:Int)≤s2.2.2∧s2.2.2<(((List.length s2.1):Nat):Int)) (grd ((0:Int)≤s2.2.2∧s2.2.2<(((List.length s2.1):Nat):Int)) (Option.bind (F_laws_markIntS (((List.getD s2.1 (Int.toNat s2.2.2) default).C).Regs) (w64 (s2.2.1+(1:Int)))) fun v3 =>
   grd (List.length v3.1=(List.length (((List.getD s2.1 (Int.toNat s2.2.2) default).C).Regs))) (grd ((0:Int)≤s2.2.2∧s2.2.2<(((List.length s2.1):Nat):Int)) (grd ((0:Int)≤s2.2.2∧s2.2.2<(((List.length s2.1):Nat):Int)) (grd ((0:Int)≤s2.2.2∧s2.2.2<(((List.length s2.1):Nat):Int)) (grd ((0:Int)≤s2.2.2∧s2.2.2<(((List.length s2.1):Nat):Int)) (grd ((0:Int)≤s2.2.2∧s2.2.2<(((List.length s2.1):Nat):Int)) (grd ((0:Int)≤s2.2.2∧s2.2.2<(((List.length s2.1):Nat):Int)) (grd ((0:Int)≤s2.2.2∧s2.2.2<(((List.length s2.1):Nat):Int)) (grd ((0:Int)≤s2.2.2∧s2.2.2<(((List.length s2.1):Nat):Int)) (grd ((0:Int)≤s2.2.2∧s2.2.2<(((List.length s2.1):Nat):Int)) (grd ((0:Int)≤s2.2.2∧s2.2.2<(((List.length s2.1):Nat):Int)) (grd ((0:Int)≤s2.2.2∧s2.2.2<(((List.length s2.1):Nat):Int)) (grd ((0:Int)≤s2.2.2∧s2.2.2<(((List.length s2.1):Nat):Int)) (grd ((0:Int)≤s2.2.2∧s2.2.2<(((List.length s2.1):Nat):Int)) (Option.bind (F_laws_markSlotS ((List.getD s2.1 (Int.toNat s2.2.2) default).Pages) (w64 ((w64 ((w64 ((w64 ((w64 ((w64 ((w64 ((w64 ((w64 ((w64 ((w64 ((w64 (v3.2+(1:Int)))+(1:Int)))+(1:Int)))+(1:Int)))+(1:Int)))+(1:Int)))+(1:Int)))+(1:Int)))+(1:Int)))+(1:Int)))+(1:Int)))+(1:Int)))) fun v4 =>
    grd (List.length v4.1=(List.length ((List.getD s2.1 (Int.toNat s2.2.2) default).Pages))) (grd ((0:Int)≤s2.2.2∧s2.2.2<(((List.length s2.1):Nat):Int)) (Option.bind (F_laws_markIntS ((List.getD s2.1 (Int.toNat s2.2.2) default).In) v4.2) fun v5 =>
     grd (List.length v5.1=(List.length ((List.getD s2.1 (Int.toNat s2.2.2) default).In))) (grd ((0:Int)≤s2.2.2∧s2.2.2<(((List.length s2.1):Nat):Int)) (Option.bind (F_laws_markIntS ((List.getD s2.1 (Int.toNat s2.2.2) default).Out) v5.2) fun v6 =>
      grd (List.length v6.1=(List.length ((List.getD s2.1 (Int.toNat s2.2.2) default).Out))) (some (.next ((List.set s2.1 (Int.toNat s2.2.2) (DGuest.mk (decide ((Int.tmod s2.2.1 (3:Int))=(0:Int))) (DCore.mk v3.1 v3.2 (w64 (v3.2+(1:Int))) (w64 ((w64 (v3.2+(1:Int)))+(1:Int))) (w64 ((w64 ((w64 (v3.2+(1:Int)))+(1:Int)))+(1:Int))) (decide ((Int.tmod (w64 ((w64 ((w64 ((w64 (v3.2+(1:Int)))+(1:Int)))+(1:Int)))+(1:Int))) (3:Int))=(0:Int))) (w64 ((w64 ((w64 ((w64 ((w64 (v3.2+(1:Int)))+(1:Int)))+(1:Int)))+(1:Int)))+(1:Int))) (w64 ((w64 ((w64 ((w64 ((w64 ((w64 (v3.2+(1:Int)))+(1:Int)))+(1:Int)))+(1:Int)))+(1:Int)))+(1:Int))) (w64 ((w64 ((w64 ((w64 ((w64 ((w64 ((w64 (v3.2+(1:Int)))+(1:Int)))+(1:Int)))+(1:Int)))+(1:Int)))+(1:Int)))+(1:Int))) (decide ((Int.tmod (w64 ((w64 ((w64 ((w64 ((w64 ((w64 ((w64 ((w64 (v3.2+(1:Int)))+(1:Int)))+(1:Int)))+(1:Int)))+(1:Int)))+(1:Int)))+(1:Int)))+(1:Int))) (3:Int))=(0:Int))) (decide ((Int.tmod (w64 ((w64 ((w64 ((w64 ((w64 ((w64 ((w64 ((w64 ((w64 (v3.2+(1:Int)))+(1:Int)))+(1:Int)))+(1:Int)))+(1:Int)))+(1:Int)))+(1:Int)))+(1:Int)))+(1:Int))) (3:Int))=(0:Int))) (decide ((Int.tmod (w64 ((w64 ((w64 ((w64 ((w64 ((w64 ((w64 ((w64 ((w64 ((w64 (v3.2+(1:Int)))+(1:Int)))+(1:Int)))+(1:Int)))+(1:Int)))+(1:Int)))+(1:Int)))+(1:Int)))+(1:Int)))+(1:Int))) (3:Int))=(0:Int))) (decide ((Int.tmod (w64 ((w64 ((w64 ((w64 ((w64 ((w64 ((w64 ((w64 ((w64 ((w64 ((w64 (v3.2+(1:Int)))+(1:Int)))+(1:Int)))+(1:Int)))+(1:Int)))+(1:Int)))+(1:Int)))+(1:Int)))+(1:Int)))+(1:Int)))+(1:Int))) (3:Int))=(0:Int)))) v4.1 v5.1 v6.1)),v6.2,(w64 (s2.2.2+(1:Int)))))))))))))))))))))))))))
  (some (.ret (.go (s2.2.1,s2.1))))
noncomputable def F_laws_markGuestS (x_a:List DGuest) (x_k:Int):Option ((List DGuest) × Int) :=
 Option.bind (Option.bind (iter (F_laws_markGuestS_l2) (x_a,x_k,(0:Int))) LO.val) fun j1 =>
  JO.run j1 (F_laws_markGuestS_j1)
theorem laws_markGuestS_fn {x_a:List DGuest} {x_k:Int} {R_:(List DGuest) × Int} (hh:F_laws_markGuestS x_a x_k=some R_):Inl Try.prog 112 [.sref 0 [] 0 (List.length x_a) 17,.int .i64 x_k] [(0,some (rO55 x_a))] 1 (.int .i64 R_.2) [(0,some (rO55 R_.1))] 1:=by
 let z49:EV:=(0,.sref 0 [] 0 (List.length x_a) 17); let z50:EH:=(0,some (rO55 x_a))
 unfold F_laws_markGuestS at hh
 refine Inl.start low_laws_markGuestS [0,1] [0] (E:=sp 157 [z49,(1,ii x_k)]) (H1:=[z50]) kr kr (sy [0,1] [0] (sp 157 [z49,(1,ii x_k)]) [z50] 1 ?_)
 obtain ⟨j1,hh,hk1⟩:=bind_some hh
 refine Aw.join (S:=Int × (List DGuest)) (fun s1=>sp 157 [(1,ii s1.1)]) (fun s1=>[(0,some (rO55 s1.2))]) 1 (fun s1=>F_laws_markGuestS_j1 s1=some R_) ?_ ?_
 · intro s1 hh
   unfold F_laws_markGuestS_j1 at hh
   refine sy [4] [0] (sp 157 [(4,ii s1.1)]) [(0,some (rO55 s1.2))] 1 (Aw.ret ?_)
   rw [some_some hh]
   exact gives (r':=ii s1.1) kr (el [some 0] (rens_1 ren_i) (hn nr_O_55 hs_nil))
 intro Q1 hN1 hR1 hE1
 refine sy [0,1,5] [0] (sp 157 [z49,(1,ii x_k),(5,ii 0)]) [z50] 1 (Aw.block ?_)
 obtain ⟨o2,hi2,hk2⟩:=bind_some hh
 refine Aw.iter (fun (s2:(List DGuest) × Int × Int)=>sp 157 [(0,.sref 0 [] 0 (List.length s2.1) 17),(1,ii s2.2.1),(5,ii s2.2.2)]) (fun (s2:(List DGuest) × Int × Int)=>[(0,some (rO55 s2.1))]) 1 hi2 (el [some 0] (rens_sp kr (rs (.sref 0 [] 0 (List.length x_a) 17) (ri (ri rl_n)))) (hn nr_O_55 hs_nil)) ?_
 intro s2 u2 Q2 hh hN2 hX2 hR2
 let z51:EV:=(0,.sref 0 [] 0 (List.length s2.1) 17); let z52:EH:=(0,some (rO55 s2.1)); let z53:=(1,ii (w64 (s2.2.1+(1:Int)))); let z54:=(5,ii s2.2.2); let z55:=(9,bb (decide (s2.2.2<(((List.length s2.1):Nat):Int)))); let z1:=List.getD s2.1 (Int.toNat s2.2.2) default; let z3:=DGuest.mk (decide ((Int.tmod s2.2.1 (3:Int))=(0:Int))) (z1.C) (z1.Pages) (z1.In) (z1.Out); let z20:=List.set s2.1 (Int.toNat s2.2.2) z3
 unfold F_laws_markGuestS_l2 at hh
 refine Aw.seq (sy [0,1,5,9] [0] (sp 157 [z51,(1,ii s2.2.1),z54,z55]) [z52] 1 ?_)
 rcases cond_sf hh with ⟨hb,hh⟩ | ⟨hb,hh⟩
 · refine cF hb (Aw.exit (then_x (hX2 _ _ _ _ _ (some_some hh) ?_)))
   intro hout
   rw [hout] at hk2
   refine blk_x ?_
   obtain rfl:=some_some hk2
   exact hN1 (s2.2.1,s2.1) _ _ _ hk1 (el [some 0] (rens_sp kr (ri rl_n)) (hn nr_O_55 hs_nil))
 refine cT hb (Aw.xskip (fun _ _ _ hq=>then_m hq) (Aw.seq (Aw.block (Aw.sreg [0,1,5] [0] ?_))))
 obtain ⟨hg504,hh⟩:=grd_some hh
 refine yjc 7 [(3:Int)≠0,(0:Int)≤s2.2.2∧s2.2.2<(((List.length s2.1):Nat):Int)] (sp 157 [z51,(1,ii s2.2.1),z54,z55,(12,.sref 0 [] 0 (List.length s2.1) 17),(13,ii s2.2.2),(14,ii s2.2.1),(15,ii (Int.tmod s2.2.1 (3:Int))),(16,bb (decide ((Int.tmod s2.2.1 (3:Int))=(0:Int)))),(17,.ptr 0 [] (0+(Int.toNat s2.2.2)*17)),(18,.ptr 0 [] (0+(Int.toNat s2.2.2)*17+0))]) [z52] 1 (.cons dd (.cons hg504 .nil)) ?_
 let q1:Root:=(rO55 z20); let z56:=(0,some q1)
 refine ys (.store 1 (.t 18) (.t 16)) none (op_store (c:=O_55) (xs:=s2.1) (e:=55) (r:=0) (π:=[]) (o:=0+(Int.toNat s2.2.2)*17+0) (i:=(Int.toNat s2.2.2)) (off:=0) (vs:=[bb (decide ((Int.tmod s2.2.1 (3:Int))=(0:Int)))]) (y:=z3) (H':=[z56,z52]) len_O_55 kr kr kr kr ltn ltn dd kr kr ?_)
 refine yt (sp 157 [z51,(1,ii s2.2.1),z54]) [z56] 1 (sy [0,1,5] [0] (sp 157 [z51,z53,z54]) [z56] 1 (Aw.sreg [0,1,5] [0] ?_))
 obtain ⟨hg503,hh⟩:=grd_some hh
 refine yjc 5 [(0:Int)≤s2.2.2∧s2.2.2<(((List.length s2.1):Nat):Int)] (sp 157 [z51,z53,z54,(21,.sref 0 [] 0 (List.length s2.1) 17),(22,ii s2.2.2),(23,.ptr 0 [] (0+(Int.toNat s2.2.2)*17)),(24,.ptr 0 [] (0+(Int.toNat s2.2.2)*17+1)),(25,.ptr 0 [] (0+(Int.toNat s2.2.2)*17+1+0))]) [z56] 1 (.cons hg503 .nil) (ys (.load false 1 (.t 25)) (some 26) (op_loadE (getD_set_self ltn) (c:=O_55) (xs:=z20) (e:=55) (r:=0) (π:=[]) (o:=0+(Int.toNat s2.2.2)*17+1+0) (i:=(Int.toNat s2.2.2)) (off:=1) (v:=.sref 0 [0+(Int.toNat s2.2.2)*17+1+0+0] 0 (List.length ((z1.C).Regs)) 1) len_O_55 kr kr ltn ltn dd kr ?_))
 refine yu 1 [(26,.sref 0 [0+(Int.toNat s2.2.2)*17+1+0+0] 0 (List.length ((z1.C).Regs)) 1),(27,ii (w64 (s2.2.1+(1:Int))))] [z56] 1 ?_
 obtain ⟨v3,hv3,hh⟩:=bind_some hh
 let z57:=(1,ii (w64 ((w64 ((w64 ((w64 ((w64 ((w64 ((w64 ((w64 ((w64 ((w64 ((w64 ((w64 (v3.2+(1:Int)))+(1:Int)))+(1:Int)))+(1:Int)))+(1:Int)))+(1:Int)))+(1:Int)))+(1:Int)))+(1:Int)))+(1:Int)))+(1:Int)))+(1:Int)))); let z58:=(1,ii (w64 ((w64 ((w64 ((w64 ((w64 ((w64 ((w64 ((w64 ((w64 ((w64 ((w64 (v3.2+(1:Int)))+(1:Int)))+(1:Int)))+(1:Int)))+(1:Int)))+(1:Int)))+(1:Int)))+(1:Int)))+(1:Int)))+(1:Int)))+(1:Int)))); let z59:=(1,ii (w64 ((w64 ((w64 ((w64 ((w64 ((w64 ((w64 ((w64 ((w64 ((w64 (v3.2+(1:Int)))+(1:Int)))+(1:Int)))+(1:Int)))+(1:Int)))+(1:Int)))+(1:Int)))+(1:Int)))+(1:Int)))+(1:Int)))); let z60:=(1,ii (w64 ((w64 ((w64 ((w64 ((w64 ((w64 ((w64 ((w64 ((w64 (v3.2+(1:Int)))+(1:Int)))+(1:Int)))+(1:Int)))+(1:Int)))+(1:Int)))+(1:Int)))+(1:Int)))+(1:Int)))); let z61:=(1,ii (w64 ((w64 ((w64 ((w64 ((w64 ((w64 ((w64 ((w64 (v3.2+(1:Int)))+(1:Int)))+(1:Int)))+(1:Int)))+(1:Int)))+(1:Int)))+(1:Int)))+(1:Int)))); let z62:=(1,ii (w64 ((w64 ((w64 ((w64 ((w64 ((w64 ((w64 (v3.2+(1:Int)))+(1:Int)))+(1:Int)))+(1:Int)))+(1:Int)))+(1:Int)))+(1:Int)))); let z63:=(1,ii (w64 ((w64 ((w64 ((w64 ((w64 ((w64 (v3.2+(1:Int)))+(1:Int)))+(1:Int)))+(1:Int)))+(1:Int)))+(1:Int)))); let z64:=(1,ii (w64 ((w64 ((w64 ((w64 ((w64 (v3.2+(1:Int)))+(1:Int)))+(1:Int)))+(1:Int)))+(1:Int)))); let z65:=(1,ii (w64 ((w64 ((w64 ((w64 (v3.2+(1:Int)))+(1:Int)))+(1:Int)))+(1:Int)))); let z66:=(1,ii (w64 ((w64 ((w64 (v3.2+(1:Int)))+(1:Int)))+(1:Int)))); let z67:=(1,ii (w64 ((w64 (v3.2+(1:Int)))+(1:Int)))); let z68:=(1,ii (w64 (v3.2+(1:Int)))); let z4:=DCore.mk v3.1 ((z1.C).Pc) ((z1.C).Root) ((z1.C).Vector) ((z1.C).Saved) ((z1.C).SavedUser) ((z1.C).Cause) ((z1.C).Bad) ((z1.C).Timer) ((z1.C).Waits) ((z1.C).User) ((z1.C).On) ((z1.C).Stopped)
 let z21:=DGuest.mk (decide ((Int.tmod s2.2.1 (3:Int))=(0:Int))) z4 (z1.Pages) (z1.In) (z1.Out); let z37:=List.set s2.1 (Int.toNat s2.2.2) z21; let z5:=DCore.mk v3.1 v3.2 ((z1.C).Root) ((z1.C).Vector) ((z1.C).Saved) ((z1.C).SavedUser) ((z1.C).Cause) ((z1.C).Bad) ((z1.C).Timer) ((z1.C).Waits) ((z1.C).User) ((z1.C).On) ((z1.C).Stopped); let z22:=DGuest.mk (decide ((Int.tmod s2.2.1 (3:Int))=(0:Int))) z5 (z1.Pages) (z1.In) (z1.Out); let z38:=List.set s2.1 (Int.toNat s2.2.2) z22; let z6:=DCore.mk v3.1 v3.2 (w64 (v3.2+(1:Int))) ((z1.C).Vector) ((z1.C).Saved) ((z1.C).SavedUser) ((z1.C).Cause) ((z1.C).Bad) ((z1.C).Timer) ((z1.C).Waits) ((z1.C).User) ((z1.C).On) ((z1.C).Stopped); let z23:=DGuest.mk (decide ((Int.tmod s2.2.1 (3:Int))=(0:Int))) z6 (z1.Pages) (z1.In) (z1.Out); let z39:=List.set s2.1 (Int.toNat s2.2.2) z23; let z7:=DCore.mk v3.1 v3.2 (w64 (v3.2+(1:Int))) (w64 ((w64 (v3.2+(1:Int)))+(1:Int))) ((z1.C).Saved) ((z1.C).SavedUser) ((z1.C).Cause) ((z1.C).Bad) ((z1.C).Timer) ((z1.C).Waits) ((z1.C).User) ((z1.C).On) ((z1.C).Stopped); let z24:=DGuest.mk (decide ((Int.tmod s2.2.1 (3:Int))=(0:Int))) z7 (z1.Pages) (z1.In) (z1.Out); let z40:=List.set s2.1 (Int.toNat s2.2.2) z24; let z8:=DCore.mk v3.1 v3.2 (w64 (v3.2+(1:Int))) (w64 ((w64 (v3.2+(1:Int)))+(1:Int))) (w64 ((w64 ((w64 (v3.2+(1:Int)))+(1:Int)))+(1:Int))) ((z1.C).SavedUser) ((z1.C).Cause) ((z1.C).Bad) ((z1.C).Timer) ((z1.C).Waits) ((z1.C).User) ((z1.C).On) ((z1.C).Stopped); let z25:=DGuest.mk (decide ((Int.tmod s2.2.1 (3:Int))=(0:Int))) z8 (z1.Pages) (z1.In) (z1.Out); let z41:=List.set s2.1 (Int.toNat s2.2.2) z25; let z9:=DCore.mk v3.1 v3.2 (w64 (v3.2+(1:Int))) (w64 ((w64 (v3.2+(1:Int)))+(1:Int))) (w64 ((w64 ((w64 (v3.2+(1:Int)))+(1:Int)))+(1:Int))) (decide ((Int.tmod (w64 ((w64 ((w64 ((w64 (v3.2+(1:Int)))+(1:Int)))+(1:Int)))+(1:Int))) (3:Int))=(0:Int))) ((z1.C).Cause) ((z1.C).Bad) ((z1.C).Timer) ((z1.C).Waits) ((z1.C).User) ((z1.C).On) ((z1.C).Stopped)
 let z26:=DGuest.mk (decide ((Int.tmod s2.2.1 (3:Int))=(0:Int))) z9 (z1.Pages) (z1.In) (z1.Out); let z42:=List.set s2.1 (Int.toNat s2.2.2) z26; let z10:=DCore.mk v3.1 v3.2 (w64 (v3.2+(1:Int))) (w64 ((w64 (v3.2+(1:Int)))+(1:Int))) (w64 ((w64 ((w64 (v3.2+(1:Int)))+(1:Int)))+(1:Int))) (decide ((Int.tmod (w64 ((w64 ((w64 ((w64 (v3.2+(1:Int)))+(1:Int)))+(1:Int)))+(1:Int))) (3:Int))=(0:Int))) (w64 ((w64 ((w64 ((w64 ((w64 (v3.2+(1:Int)))+(1:Int)))+(1:Int)))+(1:Int)))+(1:Int))) ((z1.C).Bad) ((z1.C).Timer) ((z1.C).Waits) ((z1.C).User) ((z1.C).On) ((z1.C).Stopped); let z27:=DGuest.mk (decide ((Int.tmod s2.2.1 (3:Int))=(0:Int))) z10 (z1.Pages) (z1.In) (z1.Out); let z43:=List.set s2.1 (Int.toNat s2.2.2) z27; let z11:=DCore.mk v3.1 v3.2 (w64 (v3.2+(1:Int))) (w64 ((w64 (v3.2+(1:Int)))+(1:Int))) (w64 ((w64 ((w64 (v3.2+(1:Int)))+(1:Int)))+(1:Int))) (decide ((Int.tmod (w64 ((w64 ((w64 ((w64 (v3.2+(1:Int)))+(1:Int)))+(1:Int)))+(1:Int))) (3:Int))=(0:Int))) (w64 ((w64 ((w64 ((w64 ((w64 (v3.2+(1:Int)))+(1:Int)))+(1:Int)))+(1:Int)))+(1:Int))) (w64 ((w64 ((w64 ((w64 ((w64 ((w64 (v3.2+(1:Int)))+(1:Int)))+(1:Int)))+(1:Int)))+(1:Int)))+(1:Int))) ((z1.C).Timer) ((z1.C).Waits) ((z1.C).User) ((z1.C).On) ((z1.C).Stopped); let z28:=DGuest.mk (decide ((Int.tmod s2.2.1 (3:Int))=(0:Int))) z11 (z1.Pages) (z1.In) (z1.Out); let z44:=List.set s2.1 (Int.toNat s2.2.2) z28; let z12:=DCore.mk v3.1 v3.2 (w64 (v3.2+(1:Int))) (w64 ((w64 (v3.2+(1:Int)))+(1:Int))) (w64 ((w64 ((w64 (v3.2+(1:Int)))+(1:Int)))+(1:Int))) (decide ((Int.tmod (w64 ((w64 ((w64 ((w64 (v3.2+(1:Int)))+(1:Int)))+(1:Int)))+(1:Int))) (3:Int))=(0:Int))) (w64 ((w64 ((w64 ((w64 ((w64 (v3.2+(1:Int)))+(1:Int)))+(1:Int)))+(1:Int)))+(1:Int))) (w64 ((w64 ((w64 ((w64 ((w64 ((w64 (v3.2+(1:Int)))+(1:Int)))+(1:Int)))+(1:Int)))+(1:Int)))+(1:Int))) (w64 ((w64 ((w64 ((w64 ((w64 ((w64 ((w64 (v3.2+(1:Int)))+(1:Int)))+(1:Int)))+(1:Int)))+(1:Int)))+(1:Int)))+(1:Int))) ((z1.C).Waits) ((z1.C).User) ((z1.C).On) ((z1.C).Stopped)
 let z29:=DGuest.mk (decide ((Int.tmod s2.2.1 (3:Int))=(0:Int))) z12 (z1.Pages) (z1.In) (z1.Out); let z45:=List.set s2.1 (Int.toNat s2.2.2) z29; let z13:=DCore.mk v3.1 v3.2 (w64 (v3.2+(1:Int))) (w64 ((w64 (v3.2+(1:Int)))+(1:Int))) (w64 ((w64 ((w64 (v3.2+(1:Int)))+(1:Int)))+(1:Int))) (decide ((Int.tmod (w64 ((w64 ((w64 ((w64 (v3.2+(1:Int)))+(1:Int)))+(1:Int)))+(1:Int))) (3:Int))=(0:Int))) (w64 ((w64 ((w64 ((w64 ((w64 (v3.2+(1:Int)))+(1:Int)))+(1:Int)))+(1:Int)))+(1:Int))) (w64 ((w64 ((w64 ((w64 ((w64 ((w64 (v3.2+(1:Int)))+(1:Int)))+(1:Int)))+(1:Int)))+(1:Int)))+(1:Int))) (w64 ((w64 ((w64 ((w64 ((w64 ((w64 ((w64 (v3.2+(1:Int)))+(1:Int)))+(1:Int)))+(1:Int)))+(1:Int)))+(1:Int)))+(1:Int))) (decide ((Int.tmod (w64 ((w64 ((w64 ((w64 ((w64 ((w64 ((w64 ((w64 (v3.2+(1:Int)))+(1:Int)))+(1:Int)))+(1:Int)))+(1:Int)))+(1:Int)))+(1:Int)))+(1:Int))) (3:Int))=(0:Int))) ((z1.C).User) ((z1.C).On) ((z1.C).Stopped); let z30:=DGuest.mk (decide ((Int.tmod s2.2.1 (3:Int))=(0:Int))) z13 (z1.Pages) (z1.In) (z1.Out); let z46:=List.set s2.1 (Int.toNat s2.2.2) z30; let z14:=DCore.mk v3.1 v3.2 (w64 (v3.2+(1:Int))) (w64 ((w64 (v3.2+(1:Int)))+(1:Int))) (w64 ((w64 ((w64 (v3.2+(1:Int)))+(1:Int)))+(1:Int))) (decide ((Int.tmod (w64 ((w64 ((w64 ((w64 (v3.2+(1:Int)))+(1:Int)))+(1:Int)))+(1:Int))) (3:Int))=(0:Int))) (w64 ((w64 ((w64 ((w64 ((w64 (v3.2+(1:Int)))+(1:Int)))+(1:Int)))+(1:Int)))+(1:Int))) (w64 ((w64 ((w64 ((w64 ((w64 ((w64 (v3.2+(1:Int)))+(1:Int)))+(1:Int)))+(1:Int)))+(1:Int)))+(1:Int))) (w64 ((w64 ((w64 ((w64 ((w64 ((w64 ((w64 (v3.2+(1:Int)))+(1:Int)))+(1:Int)))+(1:Int)))+(1:Int)))+(1:Int)))+(1:Int))) (decide ((Int.tmod (w64 ((w64 ((w64 ((w64 ((w64 ((w64 ((w64 ((w64 (v3.2+(1:Int)))+(1:Int)))+(1:Int)))+(1:Int)))+(1:Int)))+(1:Int)))+(1:Int)))+(1:Int))) (3:Int))=(0:Int))) (decide ((Int.tmod (w64 ((w64 ((w64 ((w64 ((w64 ((w64 ((w64 ((w64 ((w64 (v3.2+(1:Int)))+(1:Int)))+(1:Int)))+(1:Int)))+(1:Int)))+(1:Int)))+(1:Int)))+(1:Int)))+(1:Int))) (3:Int))=(0:Int))) ((z1.C).On) ((z1.C).Stopped)
 let z31:=DGuest.mk (decide ((Int.tmod s2.2.1 (3:Int))=(0:Int))) z14 (z1.Pages) (z1.In) (z1.Out); let z47:=List.set s2.1 (Int.toNat s2.2.2) z31; let z15:=DCore.mk v3.1 v3.2 (w64 (v3.2+(1:Int))) (w64 ((w64 (v3.2+(1:Int)))+(1:Int))) (w64 ((w64 ((w64 (v3.2+(1:Int)))+(1:Int)))+(1:Int))) (decide ((Int.tmod (w64 ((w64 ((w64 ((w64 (v3.2+(1:Int)))+(1:Int)))+(1:Int)))+(1:Int))) (3:Int))=(0:Int))) (w64 ((w64 ((w64 ((w64 ((w64 (v3.2+(1:Int)))+(1:Int)))+(1:Int)))+(1:Int)))+(1:Int))) (w64 ((w64 ((w64 ((w64 ((w64 ((w64 (v3.2+(1:Int)))+(1:Int)))+(1:Int)))+(1:Int)))+(1:Int)))+(1:Int))) (w64 ((w64 ((w64 ((w64 ((w64 ((w64 ((w64 (v3.2+(1:Int)))+(1:Int)))+(1:Int)))+(1:Int)))+(1:Int)))+(1:Int)))+(1:Int))) (decide ((Int.tmod (w64 ((w64 ((w64 ((w64 ((w64 ((w64 ((w64 ((w64 (v3.2+(1:Int)))+(1:Int)))+(1:Int)))+(1:Int)))+(1:Int)))+(1:Int)))+(1:Int)))+(1:Int))) (3:Int))=(0:Int))) (decide ((Int.tmod (w64 ((w64 ((w64 ((w64 ((w64 ((w64 ((w64 ((w64 ((w64 (v3.2+(1:Int)))+(1:Int)))+(1:Int)))+(1:Int)))+(1:Int)))+(1:Int)))+(1:Int)))+(1:Int)))+(1:Int))) (3:Int))=(0:Int))) (decide ((Int.tmod (w64 ((w64 ((w64 ((w64 ((w64 ((w64 ((w64 ((w64 ((w64 ((w64 (v3.2+(1:Int)))+(1:Int)))+(1:Int)))+(1:Int)))+(1:Int)))+(1:Int)))+(1:Int)))+(1:Int)))+(1:Int)))+(1:Int))) (3:Int))=(0:Int))) ((z1.C).Stopped); let z32:=DGuest.mk (decide ((Int.tmod s2.2.1 (3:Int))=(0:Int))) z15 (z1.Pages) (z1.In) (z1.Out); let z48:=List.set s2.1 (Int.toNat s2.2.2) z32; let z2:=DCore.mk v3.1 v3.2 (w64 (v3.2+(1:Int))) (w64 ((w64 (v3.2+(1:Int)))+(1:Int))) (w64 ((w64 ((w64 (v3.2+(1:Int)))+(1:Int)))+(1:Int))) (decide ((Int.tmod (w64 ((w64 ((w64 ((w64 (v3.2+(1:Int)))+(1:Int)))+(1:Int)))+(1:Int))) (3:Int))=(0:Int))) (w64 ((w64 ((w64 ((w64 ((w64 (v3.2+(1:Int)))+(1:Int)))+(1:Int)))+(1:Int)))+(1:Int))) (w64 ((w64 ((w64 ((w64 ((w64 ((w64 (v3.2+(1:Int)))+(1:Int)))+(1:Int)))+(1:Int)))+(1:Int)))+(1:Int))) (w64 ((w64 ((w64 ((w64 ((w64 ((w64 ((w64 (v3.2+(1:Int)))+(1:Int)))+(1:Int)))+(1:Int)))+(1:Int)))+(1:Int)))+(1:Int))) (decide ((Int.tmod (w64 ((w64 ((w64 ((w64 ((w64 ((w64 ((w64 ((w64 (v3.2+(1:Int)))+(1:Int)))+(1:Int)))+(1:Int)))+(1:Int)))+(1:Int)))+(1:Int)))+(1:Int))) (3:Int))=(0:Int))) (decide ((Int.tmod (w64 ((w64 ((w64 ((w64 ((w64 ((w64 ((w64 ((w64 ((w64 (v3.2+(1:Int)))+(1:Int)))+(1:Int)))+(1:Int)))+(1:Int)))+(1:Int)))+(1:Int)))+(1:Int)))+(1:Int))) (3:Int))=(0:Int))) (decide ((Int.tmod (w64 ((w64 ((w64 ((w64 ((w64 ((w64 ((w64 ((w64 ((w64 ((w64 (v3.2+(1:Int)))+(1:Int)))+(1:Int)))+(1:Int)))+(1:Int)))+(1:Int)))+(1:Int)))+(1:Int)))+(1:Int)))+(1:Int))) (3:Int))=(0:Int))) (decide ((Int.tmod (w64 ((w64 ((w64 ((w64 ((w64 ((w64 ((w64 ((w64 ((w64 ((w64 ((w64 (v3.2+(1:Int)))+(1:Int)))+(1:Int)))+(1:Int)))+(1:Int)))+(1:Int)))+(1:Int)))+(1:Int)))+(1:Int)))+(1:Int)))+(1:Int))) (3:Int))=(0:Int)))
 let z16:=DGuest.mk (decide ((Int.tmod s2.2.1 (3:Int))=(0:Int))) z2 (z1.Pages) (z1.In) (z1.Out); let z33:=List.set s2.1 (Int.toNat s2.2.2) z16
 obtain ⟨hg466,hh⟩:=grd_some hh
 have hgqv3:=Eq.symm hg466
 refine ys (.call 105 [(.t 26),(.t 27)]) (some 28) (op_callg (e':=3) (sz':=1) (m':=(List.length ((z1.C).Regs))) (cs':=(fl (eI .i64) ((z1.C).Regs))) (ds:=(fl (eI .i64) v3.1)) (c:=O_55) (xs:=z20) (R:=0) (e:=55) (o:=0+(Int.toNat s2.2.2)*17+1+0+0) (i:=(Int.toNat s2.2.2)) (off:=1) (y:=z21) (m2:=(List.length v3.1)) (args:=[.sref 0 [0+(Int.toNat s2.2.2)*17+1+0+0] 0 (List.length ((z1.C).Regs)) 1,ii (w64 (s2.2.1+(1:Int)))]) (args2:=[.sref 1 [] 0 (List.length ((z1.C).Regs)) 1,ii (w64 (s2.2.1+(1:Int)))]) kr len_O_55 kr ltn ltn dd (getD_set_self ltn) kr (dts_c (.sref _ _ _) (dts_c (.same _) dts_n)) (Inl.frameB (v':=ii v3.2) (Hp':=[(1,some (rI_3 v3.1))]) (n':=2) [1] (laws_markIntS_fn hv3) rfl rfl rfl rz rfl (hn nr_eI hs_nil) ren_i rfl (hn nr_eI hs_nil) rfl) kr kr hgqv3 kr (List.set_set ..) ?_)
 let q2:Root:=(rO55 z37)
 refine yt (sp 157 [z51,(1,ii v3.2),z54]) [(0,some q2)] 2 (Aw.sreg [0,1,5] [0] ?_)
 obtain ⟨hg502,hh⟩:=grd_some hh
 refine yjc 6 [(0:Int)≤s2.2.2∧s2.2.2<(((List.length s2.1):Nat):Int)] (sp 157 [z51,(1,ii v3.2),z54,(29,.sref 0 [] 0 (List.length s2.1) 17),(30,ii s2.2.2),(31,ii v3.2),(32,.ptr 0 [] (0+(Int.toNat s2.2.2)*17)),(33,.ptr 0 [] (0+(Int.toNat s2.2.2)*17+1)),(34,.ptr 0 [] (0+(Int.toNat s2.2.2)*17+1+1))]) [(0,some q2)] 2 (.cons hg502 .nil) ?_
 let q3:Root:=(rO55 z38); let z69:=(0,some q3)
 refine ys (.store 1 (.t 34) (.t 31)) none (op_storeE (getD_set_self ltn) (List.set_set ..) (c:=O_55) (xs:=z37) (e:=55) (r:=0) (π:=[]) (o:=0+(Int.toNat s2.2.2)*17+1+1) (i:=(Int.toNat s2.2.2)) (off:=2) (vs:=[ii v3.2]) (y:=z22) (H':=[z69,(0,some q2)]) len_O_55 kr kr kr kr ltn ltn dd kr kr ?_)
 refine yt (sp 157 [z51,(1,ii v3.2),z54]) [z69] 2 (sy [0,1,5] [0] (sp 157 [z51,z68,z54]) [z69] 2 (Aw.sreg [0,1,5] [0] ?_))
 obtain ⟨hg501,hh⟩:=grd_some hh
 refine yjc 6 [(0:Int)≤s2.2.2∧s2.2.2<(((List.length s2.1):Nat):Int)] (sp 157 [z51,z68,z54,(37,.sref 0 [] 0 (List.length s2.1) 17),(38,ii s2.2.2),(39,ii (w64 (v3.2+(1:Int)))),(40,.ptr 0 [] (0+(Int.toNat s2.2.2)*17)),(41,.ptr 0 [] (0+(Int.toNat s2.2.2)*17+1)),(42,.ptr 0 [] (0+(Int.toNat s2.2.2)*17+1+2))]) [z69] 2 (.cons hg501 .nil) ?_
 let q4:Root:=(rO55 z39); let z70:=(0,some q4)
 refine ys (.store 1 (.t 42) (.t 39)) none (op_storeE (getD_set_self ltn) (List.set_set ..) (c:=O_55) (xs:=z38) (e:=55) (r:=0) (π:=[]) (o:=0+(Int.toNat s2.2.2)*17+1+2) (i:=(Int.toNat s2.2.2)) (off:=3) (vs:=[ii (w64 (v3.2+(1:Int)))]) (y:=z23) (H':=[z70,z69]) len_O_55 kr kr kr kr ltn ltn dd kr kr ?_)
 refine yt (sp 157 [z51,z68,z54]) [z70] 2 (sy [0,1,5] [0] (sp 157 [z51,z67,z54]) [z70] 2 (Aw.sreg [0,1,5] [0] ?_))
 obtain ⟨hg500,hh⟩:=grd_some hh
 refine yjc 6 [(0:Int)≤s2.2.2∧s2.2.2<(((List.length s2.1):Nat):Int)] (sp 157 [z51,z67,z54,(45,.sref 0 [] 0 (List.length s2.1) 17),(46,ii s2.2.2),(47,ii (w64 ((w64 (v3.2+(1:Int)))+(1:Int)))),(48,.ptr 0 [] (0+(Int.toNat s2.2.2)*17)),(49,.ptr 0 [] (0+(Int.toNat s2.2.2)*17+1)),(50,.ptr 0 [] (0+(Int.toNat s2.2.2)*17+1+3))]) [z70] 2 (.cons hg500 .nil) ?_
 let q5:Root:=(rO55 z40); let z71:=(0,some q5)
 refine ys (.store 1 (.t 50) (.t 47)) none (op_storeE (getD_set_self ltn) (List.set_set ..) (c:=O_55) (xs:=z39) (e:=55) (r:=0) (π:=[]) (o:=0+(Int.toNat s2.2.2)*17+1+3) (i:=(Int.toNat s2.2.2)) (off:=4) (vs:=[ii (w64 ((w64 (v3.2+(1:Int)))+(1:Int)))]) (y:=z24) (H':=[z71,z70]) len_O_55 kr kr kr kr ltn ltn dd kr kr ?_)
 refine yt (sp 157 [z51,z67,z54]) [z71] 2 (sy [0,1,5] [0] (sp 157 [z51,z66,z54]) [z71] 2 (Aw.sreg [0,1,5] [0] ?_))
 obtain ⟨hg499,hh⟩:=grd_some hh
 refine yjc 6 [(0:Int)≤s2.2.2∧s2.2.2<(((List.length s2.1):Nat):Int)] (sp 157 [z51,z66,z54,(53,.sref 0 [] 0 (List.length s2.1) 17),(54,ii s2.2.2),(55,ii (w64 ((w64 ((w64 (v3.2+(1:Int)))+(1:Int)))+(1:Int)))),(56,.ptr 0 [] (0+(Int.toNat s2.2.2)*17)),(57,.ptr 0 [] (0+(Int.toNat s2.2.2)*17+1)),(58,.ptr 0 [] (0+(Int.toNat s2.2.2)*17+1+4))]) [z71] 2 (.cons hg499 .nil) ?_
 let q6:Root:=(rO55 z41); let z72:=(0,some q6)
 refine ys (.store 1 (.t 58) (.t 55)) none (op_storeE (getD_set_self ltn) (List.set_set ..) (c:=O_55) (xs:=z40) (e:=55) (r:=0) (π:=[]) (o:=0+(Int.toNat s2.2.2)*17+1+4) (i:=(Int.toNat s2.2.2)) (off:=5) (vs:=[ii (w64 ((w64 ((w64 (v3.2+(1:Int)))+(1:Int)))+(1:Int)))]) (y:=z25) (H':=[z72,z71]) len_O_55 kr kr kr kr ltn ltn dd kr kr ?_)
 refine yt (sp 157 [z51,z66,z54]) [z72] 2 (sy [0,1,5] [0] (sp 157 [z51,z65,z54]) [z72] 2 (Aw.sreg [0,1,5] [0] ?_))
 obtain ⟨hg498,hh⟩:=grd_some hh
 refine yjc 8 [(3:Int)≠0,(0:Int)≤s2.2.2∧s2.2.2<(((List.length s2.1):Nat):Int)] (sp 157 [z51,z65,z54,(61,.sref 0 [] 0 (List.length s2.1) 17),(62,ii s2.2.2),(63,ii (w64 ((w64 ((w64 ((w64 (v3.2+(1:Int)))+(1:Int)))+(1:Int)))+(1:Int)))),(64,ii (Int.tmod (w64 ((w64 ((w64 ((w64 (v3.2+(1:Int)))+(1:Int)))+(1:Int)))+(1:Int))) (3:Int))),(65,bb (decide ((Int.tmod (w64 ((w64 ((w64 ((w64 (v3.2+(1:Int)))+(1:Int)))+(1:Int)))+(1:Int))) (3:Int))=(0:Int)))),(66,.ptr 0 [] (0+(Int.toNat s2.2.2)*17)),(67,.ptr 0 [] (0+(Int.toNat s2.2.2)*17+1)),(68,.ptr 0 [] (0+(Int.toNat s2.2.2)*17+1+5))]) [z72] 2 (.cons dd (.cons hg498 .nil)) ?_
 let q7:Root:=(rO55 z42); let z73:=(0,some q7)
 refine ys (.store 1 (.t 68) (.t 65)) none (op_storeE (getD_set_self ltn) (List.set_set ..) (c:=O_55) (xs:=z41) (e:=55) (r:=0) (π:=[]) (o:=0+(Int.toNat s2.2.2)*17+1+5) (i:=(Int.toNat s2.2.2)) (off:=6) (vs:=[bb (decide ((Int.tmod (w64 ((w64 ((w64 ((w64 (v3.2+(1:Int)))+(1:Int)))+(1:Int)))+(1:Int))) (3:Int))=(0:Int)))]) (y:=z26) (H':=[z73,z72]) len_O_55 kr kr kr kr ltn ltn dd kr kr ?_)
 refine yt (sp 157 [z51,z65,z54]) [z73] 2 (sy [0,1,5] [0] (sp 157 [z51,z64,z54]) [z73] 2 (Aw.sreg [0,1,5] [0] ?_))
 obtain ⟨hg497,hh⟩:=grd_some hh
 refine yjc 6 [(0:Int)≤s2.2.2∧s2.2.2<(((List.length s2.1):Nat):Int)] (sp 157 [z51,z64,z54,(71,.sref 0 [] 0 (List.length s2.1) 17),(72,ii s2.2.2),(73,ii (w64 ((w64 ((w64 ((w64 ((w64 (v3.2+(1:Int)))+(1:Int)))+(1:Int)))+(1:Int)))+(1:Int)))),(74,.ptr 0 [] (0+(Int.toNat s2.2.2)*17)),(75,.ptr 0 [] (0+(Int.toNat s2.2.2)*17+1)),(76,.ptr 0 [] (0+(Int.toNat s2.2.2)*17+1+6))]) [z73] 2 (.cons hg497 .nil) ?_
 let q8:Root:=(rO55 z43); let z74:=(0,some q8)
 refine ys (.store 1 (.t 76) (.t 73)) none (op_storeE (getD_set_self ltn) (List.set_set ..) (c:=O_55) (xs:=z42) (e:=55) (r:=0) (π:=[]) (o:=0+(Int.toNat s2.2.2)*17+1+6) (i:=(Int.toNat s2.2.2)) (off:=7) (vs:=[ii (w64 ((w64 ((w64 ((w64 ((w64 (v3.2+(1:Int)))+(1:Int)))+(1:Int)))+(1:Int)))+(1:Int)))]) (y:=z27) (H':=[z74,z73]) len_O_55 kr kr kr kr ltn ltn dd kr kr ?_)
 refine yt (sp 157 [z51,z64,z54]) [z74] 2 (sy [0,1,5] [0] (sp 157 [z51,z63,z54]) [z74] 2 (Aw.sreg [0,1,5] [0] ?_))
 obtain ⟨hg496,hh⟩:=grd_some hh
 refine yjc 6 [(0:Int)≤s2.2.2∧s2.2.2<(((List.length s2.1):Nat):Int)] (sp 157 [z51,z63,z54,(79,.sref 0 [] 0 (List.length s2.1) 17),(80,ii s2.2.2),(81,ii (w64 ((w64 ((w64 ((w64 ((w64 ((w64 (v3.2+(1:Int)))+(1:Int)))+(1:Int)))+(1:Int)))+(1:Int)))+(1:Int)))),(82,.ptr 0 [] (0+(Int.toNat s2.2.2)*17)),(83,.ptr 0 [] (0+(Int.toNat s2.2.2)*17+1)),(84,.ptr 0 [] (0+(Int.toNat s2.2.2)*17+1+7))]) [z74] 2 (.cons hg496 .nil) ?_
 let q9:Root:=(rO55 z44); let z75:=(0,some q9)
 refine ys (.store 1 (.t 84) (.t 81)) none (op_storeE (getD_set_self ltn) (List.set_set ..) (c:=O_55) (xs:=z43) (e:=55) (r:=0) (π:=[]) (o:=0+(Int.toNat s2.2.2)*17+1+7) (i:=(Int.toNat s2.2.2)) (off:=8) (vs:=[ii (w64 ((w64 ((w64 ((w64 ((w64 ((w64 (v3.2+(1:Int)))+(1:Int)))+(1:Int)))+(1:Int)))+(1:Int)))+(1:Int)))]) (y:=z28) (H':=[z75,z74]) len_O_55 kr kr kr kr ltn ltn dd kr kr ?_)
 refine yt (sp 157 [z51,z63,z54]) [z75] 2 (sy [0,1,5] [0] (sp 157 [z51,z62,z54]) [z75] 2 (Aw.sreg [0,1,5] [0] ?_))
 obtain ⟨hg495,hh⟩:=grd_some hh
 refine yjc 6 [(0:Int)≤s2.2.2∧s2.2.2<(((List.length s2.1):Nat):Int)] (sp 157 [z51,z62,z54,(87,.sref 0 [] 0 (List.length s2.1) 17),(88,ii s2.2.2),(89,ii (w64 ((w64 ((w64 ((w64 ((w64 ((w64 ((w64 (v3.2+(1:Int)))+(1:Int)))+(1:Int)))+(1:Int)))+(1:Int)))+(1:Int)))+(1:Int)))),(90,.ptr 0 [] (0+(Int.toNat s2.2.2)*17)),(91,.ptr 0 [] (0+(Int.toNat s2.2.2)*17+1)),(92,.ptr 0 [] (0+(Int.toNat s2.2.2)*17+1+8))]) [z75] 2 (.cons hg495 .nil) ?_
 let q10:Root:=(rO55 z45); let z76:=(0,some q10)
 refine ys (.store 1 (.t 92) (.t 89)) none (op_storeE (getD_set_self ltn) (List.set_set ..) (c:=O_55) (xs:=z44) (e:=55) (r:=0) (π:=[]) (o:=0+(Int.toNat s2.2.2)*17+1+8) (i:=(Int.toNat s2.2.2)) (off:=9) (vs:=[ii (w64 ((w64 ((w64 ((w64 ((w64 ((w64 ((w64 (v3.2+(1:Int)))+(1:Int)))+(1:Int)))+(1:Int)))+(1:Int)))+(1:Int)))+(1:Int)))]) (y:=z29) (H':=[z76,z75]) len_O_55 kr kr kr kr ltn ltn dd kr kr ?_)
 refine yt (sp 157 [z51,z62,z54]) [z76] 2 (sy [0,1,5] [0] (sp 157 [z51,z61,z54]) [z76] 2 (Aw.sreg [0,1,5] [0] ?_))
 obtain ⟨hg494,hh⟩:=grd_some hh
 refine yjc 8 [(3:Int)≠0,(0:Int)≤s2.2.2∧s2.2.2<(((List.length s2.1):Nat):Int)] (sp 157 [z51,z61,z54,(95,.sref 0 [] 0 (List.length s2.1) 17),(96,ii s2.2.2),(97,ii (w64 ((w64 ((w64 ((w64 ((w64 ((w64 ((w64 ((w64 (v3.2+(1:Int)))+(1:Int)))+(1:Int)))+(1:Int)))+(1:Int)))+(1:Int)))+(1:Int)))+(1:Int)))),(98,ii (Int.tmod (w64 ((w64 ((w64 ((w64 ((w64 ((w64 ((w64 ((w64 (v3.2+(1:Int)))+(1:Int)))+(1:Int)))+(1:Int)))+(1:Int)))+(1:Int)))+(1:Int)))+(1:Int))) (3:Int))),(99,bb (decide ((Int.tmod (w64 ((w64 ((w64 ((w64 ((w64 ((w64 ((w64 ((w64 (v3.2+(1:Int)))+(1:Int)))+(1:Int)))+(1:Int)))+(1:Int)))+(1:Int)))+(1:Int)))+(1:Int))) (3:Int))=(0:Int)))),(100,.ptr 0 [] (0+(Int.toNat s2.2.2)*17)),(101,.ptr 0 [] (0+(Int.toNat s2.2.2)*17+1)),(102,.ptr 0 [] (0+(Int.toNat s2.2.2)*17+1+9))]) [z76] 2 (.cons dd (.cons hg494 .nil)) ?_
 let q11:Root:=(rO55 z46); let z77:=(0,some q11)
 refine ys (.store 1 (.t 102) (.t 99)) none (op_storeE (getD_set_self ltn) (List.set_set ..) (c:=O_55) (xs:=z45) (e:=55) (r:=0) (π:=[]) (o:=0+(Int.toNat s2.2.2)*17+1+9) (i:=(Int.toNat s2.2.2)) (off:=10) (vs:=[bb (decide ((Int.tmod (w64 ((w64 ((w64 ((w64 ((w64 ((w64 ((w64 ((w64 (v3.2+(1:Int)))+(1:Int)))+(1:Int)))+(1:Int)))+(1:Int)))+(1:Int)))+(1:Int)))+(1:Int))) (3:Int))=(0:Int)))]) (y:=z30) (H':=[z77,z76]) len_O_55 kr kr kr kr ltn ltn dd kr kr ?_)
 refine yt (sp 157 [z51,z61,z54]) [z77] 2 (sy [0,1,5] [0] (sp 157 [z51,z60,z54]) [z77] 2 (Aw.sreg [0,1,5] [0] ?_))
 obtain ⟨hg493,hh⟩:=grd_some hh
 refine yjc 8 [(3:Int)≠0,(0:Int)≤s2.2.2∧s2.2.2<(((List.length s2.1):Nat):Int)] (sp 157 [z51,z60,z54,(105,.sref 0 [] 0 (List.length s2.1) 17),(106,ii s2.2.2),(107,ii (w64 ((w64 ((w64 ((w64 ((w64 ((w64 ((w64 ((w64 ((w64 (v3.2+(1:Int)))+(1:Int)))+(1:Int)))+(1:Int)))+(1:Int)))+(1:Int)))+(1:Int)))+(1:Int)))+(1:Int)))),(108,ii (Int.tmod (w64 ((w64 ((w64 ((w64 ((w64 ((w64 ((w64 ((w64 ((w64 (v3.2+(1:Int)))+(1:Int)))+(1:Int)))+(1:Int)))+(1:Int)))+(1:Int)))+(1:Int)))+(1:Int)))+(1:Int))) (3:Int))),(109,bb (decide ((Int.tmod (w64 ((w64 ((w64 ((w64 ((w64 ((w64 ((w64 ((w64 ((w64 (v3.2+(1:Int)))+(1:Int)))+(1:Int)))+(1:Int)))+(1:Int)))+(1:Int)))+(1:Int)))+(1:Int)))+(1:Int))) (3:Int))=(0:Int)))),(110,.ptr 0 [] (0+(Int.toNat s2.2.2)*17)),(111,.ptr 0 [] (0+(Int.toNat s2.2.2)*17+1)),(112,.ptr 0 [] (0+(Int.toNat s2.2.2)*17+1+10))]) [z77] 2 (.cons dd (.cons hg493 .nil)) ?_
 let q12:Root:=(rO55 z47); let z78:=(0,some q12)
 refine ys (.store 1 (.t 112) (.t 109)) none (op_storeE (getD_set_self ltn) (List.set_set ..) (c:=O_55) (xs:=z46) (e:=55) (r:=0) (π:=[]) (o:=0+(Int.toNat s2.2.2)*17+1+10) (i:=(Int.toNat s2.2.2)) (off:=11) (vs:=[bb (decide ((Int.tmod (w64 ((w64 ((w64 ((w64 ((w64 ((w64 ((w64 ((w64 ((w64 (v3.2+(1:Int)))+(1:Int)))+(1:Int)))+(1:Int)))+(1:Int)))+(1:Int)))+(1:Int)))+(1:Int)))+(1:Int))) (3:Int))=(0:Int)))]) (y:=z31) (H':=[z78,z77]) len_O_55 kr kr kr kr ltn ltn dd kr kr ?_)
 refine yt (sp 157 [z51,z60,z54]) [z78] 2 (sy [0,1,5] [0] (sp 157 [z51,z59,z54]) [z78] 2 (Aw.sreg [0,1,5] [0] ?_))
 obtain ⟨hg492,hh⟩:=grd_some hh
 refine yjc 8 [(3:Int)≠0,(0:Int)≤s2.2.2∧s2.2.2<(((List.length s2.1):Nat):Int)] (sp 157 [z51,z59,z54,(115,.sref 0 [] 0 (List.length s2.1) 17),(116,ii s2.2.2),(117,ii (w64 ((w64 ((w64 ((w64 ((w64 ((w64 ((w64 ((w64 ((w64 ((w64 (v3.2+(1:Int)))+(1:Int)))+(1:Int)))+(1:Int)))+(1:Int)))+(1:Int)))+(1:Int)))+(1:Int)))+(1:Int)))+(1:Int)))),(118,ii (Int.tmod (w64 ((w64 ((w64 ((w64 ((w64 ((w64 ((w64 ((w64 ((w64 ((w64 (v3.2+(1:Int)))+(1:Int)))+(1:Int)))+(1:Int)))+(1:Int)))+(1:Int)))+(1:Int)))+(1:Int)))+(1:Int)))+(1:Int))) (3:Int))),(119,bb (decide ((Int.tmod (w64 ((w64 ((w64 ((w64 ((w64 ((w64 ((w64 ((w64 ((w64 ((w64 (v3.2+(1:Int)))+(1:Int)))+(1:Int)))+(1:Int)))+(1:Int)))+(1:Int)))+(1:Int)))+(1:Int)))+(1:Int)))+(1:Int))) (3:Int))=(0:Int)))),(120,.ptr 0 [] (0+(Int.toNat s2.2.2)*17)),(121,.ptr 0 [] (0+(Int.toNat s2.2.2)*17+1)),(122,.ptr 0 [] (0+(Int.toNat s2.2.2)*17+1+11))]) [z78] 2 (.cons dd (.cons hg492 .nil)) ?_
 let q13:Root:=(rO55 z48); let z79:=(0,some q13)
 refine ys (.store 1 (.t 122) (.t 119)) none (op_storeE (getD_set_self ltn) (List.set_set ..) (c:=O_55) (xs:=z47) (e:=55) (r:=0) (π:=[]) (o:=0+(Int.toNat s2.2.2)*17+1+11) (i:=(Int.toNat s2.2.2)) (off:=12) (vs:=[bb (decide ((Int.tmod (w64 ((w64 ((w64 ((w64 ((w64 ((w64 ((w64 ((w64 ((w64 ((w64 (v3.2+(1:Int)))+(1:Int)))+(1:Int)))+(1:Int)))+(1:Int)))+(1:Int)))+(1:Int)))+(1:Int)))+(1:Int)))+(1:Int))) (3:Int))=(0:Int)))]) (y:=z32) (H':=[z79,z78]) len_O_55 kr kr kr kr ltn ltn dd kr kr ?_)
 refine yt (sp 157 [z51,z59,z54]) [z79] 2 (sy [0,1,5] [0] (sp 157 [z51,z58,z54]) [z79] 2 (Aw.sreg [0,1,5] [0] ?_))
 obtain ⟨hg491,hh⟩:=grd_some hh
 refine yjc 8 [(3:Int)≠0,(0:Int)≤s2.2.2∧s2.2.2<(((List.length s2.1):Nat):Int)] (sp 157 [z51,z58,z54,(125,.sref 0 [] 0 (List.length s2.1) 17),(126,ii s2.2.2),(127,ii (w64 ((w64 ((w64 ((w64 ((w64 ((w64 ((w64 ((w64 ((w64 ((w64 ((w64 (v3.2+(1:Int)))+(1:Int)))+(1:Int)))+(1:Int)))+(1:Int)))+(1:Int)))+(1:Int)))+(1:Int)))+(1:Int)))+(1:Int)))+(1:Int)))),(128,ii (Int.tmod (w64 ((w64 ((w64 ((w64 ((w64 ((w64 ((w64 ((w64 ((w64 ((w64 ((w64 (v3.2+(1:Int)))+(1:Int)))+(1:Int)))+(1:Int)))+(1:Int)))+(1:Int)))+(1:Int)))+(1:Int)))+(1:Int)))+(1:Int)))+(1:Int))) (3:Int))),(129,bb (decide ((Int.tmod (w64 ((w64 ((w64 ((w64 ((w64 ((w64 ((w64 ((w64 ((w64 ((w64 ((w64 (v3.2+(1:Int)))+(1:Int)))+(1:Int)))+(1:Int)))+(1:Int)))+(1:Int)))+(1:Int)))+(1:Int)))+(1:Int)))+(1:Int)))+(1:Int))) (3:Int))=(0:Int)))),(130,.ptr 0 [] (0+(Int.toNat s2.2.2)*17)),(131,.ptr 0 [] (0+(Int.toNat s2.2.2)*17+1)),(132,.ptr 0 [] (0+(Int.toNat s2.2.2)*17+1+12))]) [z79] 2 (.cons dd (.cons hg491 .nil)) ?_
 let q14:Root:=(rO55 z33); let z80:=(0,some q14)
 refine ys (.store 1 (.t 132) (.t 129)) none (op_storeE (getD_set_self ltn) (List.set_set ..) (c:=O_55) (xs:=z48) (e:=55) (r:=0) (π:=[]) (o:=0+(Int.toNat s2.2.2)*17+1+12) (i:=(Int.toNat s2.2.2)) (off:=13) (vs:=[bb (decide ((Int.tmod (w64 ((w64 ((w64 ((w64 ((w64 ((w64 ((w64 ((w64 ((w64 ((w64 ((w64 (v3.2+(1:Int)))+(1:Int)))+(1:Int)))+(1:Int)))+(1:Int)))+(1:Int)))+(1:Int)))+(1:Int)))+(1:Int)))+(1:Int)))+(1:Int))) (3:Int))=(0:Int)))]) (y:=z16) (H':=[z80,z79]) len_O_55 kr kr kr kr ltn ltn dd kr kr ?_)
 refine yt (sp 157 [z51,z58,z54]) [z80] 2 (sy [0,1,5] [0] (sp 157 [z51,z57,z54]) [z80] 2 (Aw.sreg [0,1,5] [0] ?_))
 obtain ⟨hg490,hh⟩:=grd_some hh
 refine yjc 4 [(0:Int)≤s2.2.2∧s2.2.2<(((List.length s2.1):Nat):Int)] (sp 157 [z51,z57,z54,(135,.sref 0 [] 0 (List.length s2.1) 17),(136,ii s2.2.2),(137,.ptr 0 [] (0+(Int.toNat s2.2.2)*17)),(138,.ptr 0 [] (0+(Int.toNat s2.2.2)*17+14))]) [z80] 2 (.cons hg490 .nil) (ys (.load false 1 (.t 138)) (some 139) (op_loadE (getD_set_self ltn) (c:=O_55) (xs:=z33) (e:=55) (r:=0) (π:=[]) (o:=0+(Int.toNat s2.2.2)*17+14) (i:=(Int.toNat s2.2.2)) (off:=14) (v:=.sref 0 [0+(Int.toNat s2.2.2)*17+14+0] 0 (List.length (z1.Pages)) 3) len_O_55 kr kr ltn ltn dd kr ?_))
 refine yu 1 [(139,.sref 0 [0+(Int.toNat s2.2.2)*17+14+0] 0 (List.length (z1.Pages)) 3),(140,ii (w64 ((w64 ((w64 ((w64 ((w64 ((w64 ((w64 ((w64 ((w64 ((w64 ((w64 ((w64 (v3.2+(1:Int)))+(1:Int)))+(1:Int)))+(1:Int)))+(1:Int)))+(1:Int)))+(1:Int)))+(1:Int)))+(1:Int)))+(1:Int)))+(1:Int)))+(1:Int))))] [z80] 2 ?_
 obtain ⟨v4,hv4,hh⟩:=bind_some hh
 let z17:=DGuest.mk (decide ((Int.tmod s2.2.1 (3:Int))=(0:Int))) z2 v4.1 (z1.In) (z1.Out); let z34:=List.set s2.1 (Int.toNat s2.2.2) z17
 obtain ⟨hg481,hh⟩:=grd_some hh
 have hgqv4:=Eq.symm hg481
 refine ys (.call 153 [(.t 139),(.t 140)]) (some 141) (op_callg (e':=52) (sz':=3) (m':=(List.length (z1.Pages))) (cs':=(fl C_52 (z1.Pages))) (ds:=(fl C_52 v4.1)) (c:=O_55) (xs:=z33) (R:=0) (e:=55) (o:=0+(Int.toNat s2.2.2)*17+14+0) (i:=(Int.toNat s2.2.2)) (off:=14) (y:=z17) (m2:=(List.length v4.1)) (args:=[.sref 0 [0+(Int.toNat s2.2.2)*17+14+0] 0 (List.length (z1.Pages)) 3,ii (w64 ((w64 ((w64 ((w64 ((w64 ((w64 ((w64 ((w64 ((w64 ((w64 ((w64 ((w64 (v3.2+(1:Int)))+(1:Int)))+(1:Int)))+(1:Int)))+(1:Int)))+(1:Int)))+(1:Int)))+(1:Int)))+(1:Int)))+(1:Int)))+(1:Int)))+(1:Int)))]) (args2:=[.sref 2 [] 0 (List.length (z1.Pages)) 3,ii (w64 ((w64 ((w64 ((w64 ((w64 ((w64 ((w64 ((w64 ((w64 ((w64 ((w64 ((w64 (v3.2+(1:Int)))+(1:Int)))+(1:Int)))+(1:Int)))+(1:Int)))+(1:Int)))+(1:Int)))+(1:Int)))+(1:Int)))+(1:Int)))+(1:Int)))+(1:Int)))]) kr len_O_55 kr ltn ltn dd (getD_set_self ltn) kr (dts_c (.sref _ _ _) (dts_c (.same _) dts_n)) (Inl.frameB (v':=ii v4.2) (Hp':=[(2,some (rC52 v4.1))]) (n':=3) [2] (laws_markSlotS_fn hv4) rfl rfl rfl rz rfl (hn nr_C_52 hs_nil) ren_i rfl (hn nr_C_52 hs_nil) rfl) kr kr hgqv4 kr (List.set_set ..) ?_)
 let q15:Root:=(rO55 z34)
 refine yt (sp 157 [z51,(1,ii v4.2),z54]) [(0,some q15)] 3 (Aw.sreg [0,1,5] [0] ?_)
 obtain ⟨hg489,hh⟩:=grd_some hh
 refine yjc 4 [(0:Int)≤s2.2.2∧s2.2.2<(((List.length s2.1):Nat):Int)] (sp 157 [z51,(1,ii v4.2),z54,(142,.sref 0 [] 0 (List.length s2.1) 17),(143,ii s2.2.2),(144,.ptr 0 [] (0+(Int.toNat s2.2.2)*17)),(145,.ptr 0 [] (0+(Int.toNat s2.2.2)*17+15))]) [(0,some q15)] 3 (.cons hg489 .nil) (ys (.load false 1 (.t 145)) (some 146) (op_loadE (getD_set_self ltn) (c:=O_55) (xs:=z34) (e:=55) (r:=0) (π:=[]) (o:=0+(Int.toNat s2.2.2)*17+15) (i:=(Int.toNat s2.2.2)) (off:=15) (v:=.sref 0 [0+(Int.toNat s2.2.2)*17+15+0] 0 (List.length (z1.In)) 1) len_O_55 kr kr ltn ltn dd kr ?_))
 refine yu 1 [(146,.sref 0 [0+(Int.toNat s2.2.2)*17+15+0] 0 (List.length (z1.In)) 1),(147,ii v4.2)] [(0,some q15)] 3 ?_
 obtain ⟨v5,hv5,hh⟩:=bind_some hh
 let z18:=DGuest.mk (decide ((Int.tmod s2.2.1 (3:Int))=(0:Int))) z2 v4.1 v5.1 (z1.Out); let z35:=List.set s2.1 (Int.toNat s2.2.2) z18
 obtain ⟨hg484,hh⟩:=grd_some hh
 have hgqv5:=Eq.symm hg484
 refine ys (.call 105 [(.t 146),(.t 147)]) (some 148) (op_callg (e':=3) (sz':=1) (m':=(List.length (z1.In))) (cs':=(fl (eI .i64) (z1.In))) (ds:=(fl (eI .i64) v5.1)) (c:=O_55) (xs:=z34) (R:=0) (e:=55) (o:=0+(Int.toNat s2.2.2)*17+15+0) (i:=(Int.toNat s2.2.2)) (off:=15) (y:=z18) (m2:=(List.length v5.1)) (args:=[.sref 0 [0+(Int.toNat s2.2.2)*17+15+0] 0 (List.length (z1.In)) 1,ii v4.2]) (args2:=[.sref 3 [] 0 (List.length (z1.In)) 1,ii v4.2]) kr len_O_55 kr ltn ltn dd (getD_set_self ltn) kr (dts_c (.sref _ _ _) (dts_c (.same _) dts_n)) (Inl.frameB (v':=ii v5.2) (Hp':=[(3,some (rI_3 v5.1))]) (n':=4) [3] (laws_markIntS_fn hv5) rfl rfl rfl rz rfl (hn nr_eI hs_nil) ren_i rfl (hn nr_eI hs_nil) rfl) kr kr hgqv5 kr (List.set_set ..) ?_)
 let q16:Root:=(rO55 z35)
 refine yt (sp 157 [z51,(1,ii v5.2),z54]) [(0,some q16)] 4 (Aw.xreg [0,1,5] [0] (fun _ _ _ hq=>blk_m (then_m hq)) ?_)
 obtain ⟨hg488,hh⟩:=grd_some hh
 refine yjc 4 [(0:Int)≤s2.2.2∧s2.2.2<(((List.length s2.1):Nat):Int)] (sp 157 [z51,(1,ii v5.2),z54,(149,.sref 0 [] 0 (List.length s2.1) 17),(150,ii s2.2.2),(151,.ptr 0 [] (0+(Int.toNat s2.2.2)*17)),(152,.ptr 0 [] (0+(Int.toNat s2.2.2)*17+16))]) [(0,some q16)] 4 (.cons hg488 .nil) (ys (.load false 1 (.t 152)) (some 153) (op_loadE (getD_set_self ltn) (c:=O_55) (xs:=z35) (e:=55) (r:=0) (π:=[]) (o:=0+(Int.toNat s2.2.2)*17+16) (i:=(Int.toNat s2.2.2)) (off:=16) (v:=.sref 0 [0+(Int.toNat s2.2.2)*17+16+0] 0 (List.length (z1.Out)) 1) len_O_55 kr kr ltn ltn dd kr ?_))
 refine yu 1 [(153,.sref 0 [0+(Int.toNat s2.2.2)*17+16+0] 0 (List.length (z1.Out)) 1),(154,ii v5.2)] [(0,some q16)] 4 ?_
 obtain ⟨v6,hv6,hh⟩:=bind_some hh
 let z19:=DGuest.mk (decide ((Int.tmod s2.2.1 (3:Int))=(0:Int))) z2 v4.1 v5.1 v6.1; let z36:=List.set s2.1 (Int.toNat s2.2.2) z19
 obtain ⟨hg487,hh⟩:=grd_some hh
 have hgqv6:=Eq.symm hg487
 refine ys (.call 105 [(.t 153),(.t 154)]) (some 155) (op_callg (e':=3) (sz':=1) (m':=(List.length (z1.Out))) (cs':=(fl (eI .i64) (z1.Out))) (ds:=(fl (eI .i64) v6.1)) (c:=O_55) (xs:=z35) (R:=0) (e:=55) (o:=0+(Int.toNat s2.2.2)*17+16+0) (i:=(Int.toNat s2.2.2)) (off:=16) (y:=z19) (m2:=(List.length v6.1)) (args:=[.sref 0 [0+(Int.toNat s2.2.2)*17+16+0] 0 (List.length (z1.Out)) 1,ii v5.2]) (args2:=[.sref 4 [] 0 (List.length (z1.Out)) 1,ii v5.2]) kr len_O_55 kr ltn ltn dd (getD_set_self ltn) kr (dts_c (.sref _ _ _) (dts_c (.same _) dts_n)) (Inl.frameB (v':=ii v6.2) (Hp':=[(4,some (rI_3 v6.1))]) (n':=5) [4] (laws_markIntS_fn hv6) rfl rfl rfl rz rfl (hn nr_eI hs_nil) ren_i rfl (hn nr_eI hs_nil) rfl) kr kr hgqv6 kr (List.set_set ..) ?_)
 let q17:Root:=(rO55 z36)
 exact yt (sp 157 [z51,(1,ii v6.2),z54]) [(0,some q17)] 5 (Aw.oreg (ye (sp 157 [z51,(1,ii v6.2),(5,ii (w64 (s2.2.2+(1:Int)))),(10,ii s2.2.2),(11,ii (w64 (s2.2.2+(1:Int))))]) [(0,some q17)] 5 (hN2 (z36,v6.2,(w64 (s2.2.2+(1:Int)))) _ _ _ (some_some hh) (el [some 0] (rens_sp kr (rs (.sref 0 [] 0 (List.length s2.1) 17) (ri (ri rl_n)))) (hn nr_O_55 hs_nil)))))
theorem low_laws_markHost:LW 45 ⟨14,[(.tmp 4)],(.seq (.reg false (rg 45 0)) (.seq (.reg false (rg 45 1)) (.seq (.reg false (rg 45 2)) (.seq (.reg false (rg 45 3)) .ret))))⟩:=kr
noncomputable def F_laws_markHost (x_a:DHost) (x_k:Int):Option ((List Int) × (List DGuest) × Int) :=
 Option.bind (F_laws_markIntS x_a.Words x_k) fun v1 =>
 grd (List.length v1.1=(List.length x_a.Words)) (Option.bind (F_laws_markGuestS x_a.Guests v1.2) fun v2 =>
  grd (List.length v2.1=(List.length x_a.Guests)) (some (v1.1,v2.1,v2.2)))
theorem laws_markHost_fn {x_a:DHost} {x_k:Int} {R_:(List Int) × (List DGuest) × Int} (hh:F_laws_markHost x_a x_k=some R_):Inl Try.prog 45 [.agg [.sref 0 [] 0 (List.length x_a.Words) 1,.sref 1 [] 0 (List.length x_a.Guests) 17],.int .i64 x_k] [(1,some (rO55 x_a.Guests)),(0,some (rI_3 x_a.Words))] 2 (.int .i64 R_.2.2) [(0,some (rI_3 R_.1)),(1,some (rO55 R_.2.1))] 2:=by
 unfold F_laws_markHost at hh
 let q1:Root:=(rI_3 x_a.Words); let q2:Root:=(rO55 x_a.Guests); let z1:=(1,some q2)
 refine Inl.start low_laws_markHost [0,1] [0,1] (E:=sp 14 [(0,.agg [sw 0 x_a.Words,.sref 1 [] 0 (List.length x_a.Guests) 17]),(1,ii x_k)]) (H1:=[(0,some q1),z1]) kr kr (Aw.sreg [1,2] [0,1,2] ?_)
 let q3:Root:=⟨41,[sw 0 x_a.Words,.sref 1 [] 0 (List.length x_a.Guests) 17]⟩
 refine yt (sp 14 [(1,ii x_k),(2,pp 2)]) [(0,some q1),z1,(2,some q3)] 3 (Aw.sreg [1,2] [0,1,2] (yu 3 [(5,pp 2),(6,sw 0 x_a.Words),(7,ii x_k)] [(0,some q1),z1,(2,some q3)] 3 ?_))
 obtain ⟨v1,hv1,hh⟩:=bind_some hh
 let z2:EH:=(0,some (rI_3 v1.1))
 obtain ⟨hg2,hh⟩:=grd_some hh
 refine ys (.call 105 [(.t 6),(.t 7)]) (some 8) (cf (ii v1.2) [z2] 3 [0] (laws_markIntS_fn hv1) [sw 0 x_a.Words,ii x_k] rz (hn nr_eI hs_nil) ren_i (hn nr_eI hs_nil) ?_)
 refine yt (sp 14 [(1,ii v1.2),(2,pp 2)]) [z2,z1,(2,some q3)] 3 (Aw.sreg [1] [0,1] (yu 3 [(9,.ptr 2 [] 1),(10,.sref 1 [] 0 (List.length x_a.Guests) 17),(11,ii v1.2)] [z2,z1,(2,some q3)] 3 ?_))
 obtain ⟨v2,hv2,hh⟩:=bind_some hh
 let z3:EH:=(1,some (rO55 v2.1))
 obtain ⟨hg4,hh⟩:=grd_some hh
 refine ys (.call 112 [(.t 10),(.t 11)]) (some 12) (cf (ii v2.2) [z3] 3 [1] (laws_markGuestS_fn hv2) [.sref 1 [] 0 (List.length x_a.Guests) 17,ii v1.2] rz (hn nr_O_55 hs_nil) ren_i (hn nr_O_55 hs_nil) ?_)
 refine yt (sp 14 [(1,ii v2.2)]) [z2,z3] 3 (sy [4] [0,1] (sp 14 [(4,ii v2.2)]) [z2,z3] 3 (Aw.ret ?_))
 rw [some_some hh]
 exact gives (r':=ii v2.2) kr (el [some 0,some 1] (rens_1 ren_i) (hn nr_eI (hn nr_O_55 hs_nil)))
theorem low_laws_heldSlotS:LW 154 ⟨44,[(.tmp 4)],(.seq (.reg false (rg 154 0)) (.seq (.seq (.reg false (rg 154 1)) (.block 0 (.loop (.seq (.seq (.reg false (rg 154 2)) (.cond (.t 9) .skip (.exit 0))) (.seq (.block 1 (.seq (.seq (.reg false (rg 154 3)) (.cond (.t 18) (.seq (.reg false (rg 154 4)) .ret) .skip)) (.seq (.reg false (rg 154 5)) (.seq (.seq (.reg false (rg 154 6)) (.cond (.t 29) (.seq (.reg false (rg 154 7)) .ret) .skip)) (.seq (.reg false (rg 154 8)) (.seq (.seq (.reg false (rg 154 9)) (.cond (.t 40) (.seq (.reg false (rg 154 10)) .ret) .skip)) (.reg false (rg 154 11)))))))) (.reg false (rg 154 12))))))) (.seq (.reg false (rg 154 14)) .ret)))⟩:=kr
noncomputable def F_laws_heldSlotS_j1  (s1:Int):Option Int :=
 some s1
noncomputable def F_laws_heldSlotS_l2 (x_a:List DSlot) (s2:Int × Int):Option (LO (Int × Int) (JO Int Int)) :=
 cond (decide (s2.2<(((List.length x_a):Nat):Int)))
  (grd ((0:Int)≤s2.2∧s2.2<((List.length x_a:Nat):Int)) (cond (!decide (((List.getD x_a (Int.toNat s2.2) default).Frame)=s2.1))
   (some (.ret (.out (-1:Int))))
   (grd ((0:Int)≤s2.2∧s2.2<((List.length x_a:Nat):Int)) (cond (!(((List.getD x_a (Int.toNat s2.2) default).Write) == (decide ((Int.tmod (w64 (s2.1+(1:Int))) (3:Int))=(0:Int)))))
    (some (.ret (.out (-1:Int))))
    (grd ((0:Int)≤s2.2∧s2.2<((List.length x_a:Nat):Int)) (cond (!(((List.getD x_a (Int.toNat s2.2) default).Dirty) == (decide ((Int.tmod (w64 ((w64 (s2.1+(1:Int)))+(1:Int))) (3:Int))=(0:Int)))))
     (some (.ret (.out (-1:Int))))
     (some (.next ((w64 ((w64 ((w64 (s2.1+(1:Int)))+(1:Int)))+(1:Int))),(w64 (s2.2+(1:Int))))))))))))
  (some (.ret (.go s2.1)))
noncomputable def F_laws_heldSlotS (x_a:List DSlot) (x_k:Int):Option Int :=
 Option.bind (Option.bind (iter (F_laws_heldSlotS_l2 x_a) (x_k,(0:Int))) LO.val) fun j1 =>
  JO.run j1 (F_laws_heldSlotS_j1)
theorem laws_heldSlotS_fn {x_a:List DSlot} {x_k:Int} {R_:Int} (hh:F_laws_heldSlotS x_a x_k=some R_):Fn Try.prog 154 [bo C_52 x_a,.int .i64 x_k] (.int .i64 R_):=by
 let z2:=(0,bo C_52 x_a)
 unfold F_laws_heldSlotS at hh
 refine Fn.start low_laws_heldSlotS [0,1] (E:=sp 44 [z2,(1,ii x_k)]) kr (v:=ii R_) (Hr:=[]) (k:=0) kr (sy [0,1] [] (sp 44 [z2,(1,ii x_k)]) [] 0 ?_)
 obtain ⟨j1,hh,hk1⟩:=bind_some hh
 refine Aw.join (S:=Int) (fun s1=>sp 44 [(1,ii s1)]) (fun s1=>[]) 0 (fun s1=>F_laws_heldSlotS_j1 s1=some R_) ?_ ?_
 · intro s1 hh
   unfold F_laws_heldSlotS_j1 at hh
   exact sy [4] [] (sp 44 [(4,ii s1)]) [] 0 (Aw.ret (gvis hh))
 intro Q1 hN1 hR1 hE1
 refine sy [0,1,5] [] (sp 44 [z2,(1,ii x_k),(5,ii 0)]) [] 0 (Aw.block ?_)
 obtain ⟨o2,hi2,hk2⟩:=bind_some hh
 refine Aw.iter (fun (s2:Int × Int)=>sp 44 [(0,bo C_52 x_a),(1,ii s2.1),(5,ii s2.2)]) (fun (s2:Int × Int)=>[]) 0 hi2 (el [] (rens_sp kr (ro nr_C_52 (ri (ri rl_n)))) hs_nil) ?_
 intro s2 u2 Q2 hh hN2 hX2 hR2
 let z3:=(1,ii (w64 ((w64 ((w64 (s2.1+(1:Int)))+(1:Int)))+(1:Int)))); let z4:=(1,ii (w64 ((w64 (s2.1+(1:Int)))+(1:Int)))); let z5:=(1,ii (w64 (s2.1+(1:Int)))); let z6:=(5,ii s2.2); let z7:=(9,bb (decide (s2.2<(((List.length x_a):Nat):Int)))); let z1:=List.getD x_a (Int.toNat s2.2) default
 unfold F_laws_heldSlotS_l2 at hh
 refine Aw.seq (sy [0,1,5,9] [] (sp 44 [z2,(1,ii s2.1),z6,z7]) [] 0 ?_)
 rcases cond_sf hh with ⟨hb,hh⟩ | ⟨hb,hh⟩
 · refine cF hb (Aw.exit (then_x (hX2 _ _ _ _ _ (some_some hh) ?_)))
   intro hout
   rw [hout] at hk2
   refine blk_x ?_
   obtain rfl:=some_some hk2
   exact hN1 s2.1 _ _ _ hk1 (el [] (rens_sp kr (ri rl_n)) hs_nil)
 refine cT hb (Aw.xskip (fun _ _ _ hq=>then_m hq) (Aw.seq (Aw.block (Aw.seq (Aw.sreg [0,1,5,18] [] (yj 2  (sp 44 [z2,(1,ii s2.1),z6,z7,(12,bo C_52 x_a),(13,ii s2.2)]) [] 0 ?_))))))
 obtain ⟨hg136,hh⟩:=grd_some hh
 refine ys (.iadr 3 (.t 12) (.t 13)) (some 14) (op_iadr (kd:=.i64) (c:=C_52) (xs:=x_a) len_C_52 dd kr kr hg136 ?_)
 refine yu 1 [(14,.bptr (fl C_52 x_a) (Int.toNat s2.2*3)),(15,.bptr (fl C_52 x_a) (Int.toNat s2.2*3+0))] [] 0 (ys (.load false 1 (.t 15)) (some 16) (op_loadb (c:=C_52) (xs:=x_a) (o:=Int.toNat s2.2*3+0) (i:=(Int.toNat s2.2)) (off:=0) (v:=ii (z1.Frame)) len_C_52 kr ltn ltn dd kr ?_))
 refine yt (sp 44 [z2,(1,ii s2.1),z6,(18,bb (!decide ((z1.Frame)=s2.1)))]) [] 0 ?_
 rcases cond_some hh with ⟨hb,hh⟩ | ⟨hb,hh⟩
 · refine cT hb (sy [4] [] (sp 44 [(4,ii (-1))]) [] 0 (Aw.ret (then_r (blk_r (then_r ?_)))))
   refine hR2 _ _ _ _ (some_some hh) ?_
   intro hout
   rw [hout] at hk2
   refine blk_r ?_
   obtain rfl:=some_some hk2
   refine hR1 _ _ _ ?_
   rw [some_some hk1]
   exact gvi
 refine cF hb (Aw.xskip (fun _ _ _ hq=>then_m hq) (sy [0,1,5] [] (sp 44 [z2,z5,z6]) [] 0 (Aw.seq (Aw.sreg [0,1,5,29] [] (yj 2  (sp 44 [z2,z5,z6,(21,bo C_52 x_a),(22,ii s2.2)]) [] 0 ?_)))))
 obtain ⟨hg140,hh⟩:=grd_some hh
 refine ys (.iadr 3 (.t 21) (.t 22)) (some 23) (op_iadr (kd:=.i64) (c:=C_52) (xs:=x_a) len_C_52 dd kr kr hg140 ?_)
 refine yu 1 [(23,.bptr (fl C_52 x_a) (Int.toNat s2.2*3)),(24,.bptr (fl C_52 x_a) (Int.toNat s2.2*3+1))] [] 0 (ys (.load false 1 (.t 24)) (some 25) (op_loadb (c:=C_52) (xs:=x_a) (o:=Int.toNat s2.2*3+1) (i:=(Int.toNat s2.2)) (off:=1) (v:=bb (z1.Write)) len_C_52 kr ltn ltn dd kr ?_))
 refine ytc [(3:Int)≠0] (sp 44 [z2,z5,z6,(29,bb (!((z1.Write) == (decide ((Int.tmod (w64 (s2.1+(1:Int))) (3:Int))=(0:Int))))))]) [] 0 (.cons dd .nil) ?_
 rcases cond_some hh with ⟨hb,hh⟩ | ⟨hb,hh⟩
 · refine cT hb (sy [4] [] (sp 44 [(4,ii (-1))]) [] 0 (Aw.ret (then_r (blk_r (then_r ?_)))))
   refine hR2 _ _ _ _ (some_some hh) ?_
   intro hout
   rw [hout] at hk2
   refine blk_r ?_
   obtain rfl:=some_some hk2
   refine hR1 _ _ _ ?_
   rw [some_some hk1]
   exact gvi
 refine cF hb (Aw.xskip (fun _ _ _ hq=>then_m hq) (sy [0,1,5] [] (sp 44 [z2,z4,z6]) [] 0 (Aw.seq (Aw.sreg [0,1,5,40] [] (yj 2  (sp 44 [z2,z4,z6,(32,bo C_52 x_a),(33,ii s2.2)]) [] 0 ?_)))))
 obtain ⟨hg144,hh⟩:=grd_some hh
 refine ys (.iadr 3 (.t 32) (.t 33)) (some 34) (op_iadr (kd:=.i64) (c:=C_52) (xs:=x_a) len_C_52 dd kr kr hg144 ?_)
 refine yu 1 [(34,.bptr (fl C_52 x_a) (Int.toNat s2.2*3)),(35,.bptr (fl C_52 x_a) (Int.toNat s2.2*3+2))] [] 0 (ys (.load false 1 (.t 35)) (some 36) (op_loadb (c:=C_52) (xs:=x_a) (o:=Int.toNat s2.2*3+2) (i:=(Int.toNat s2.2)) (off:=2) (v:=bb (z1.Dirty)) len_C_52 kr ltn ltn dd kr ?_))
 refine ytc [(3:Int)≠0] (sp 44 [z2,z4,z6,(40,bb (!((z1.Dirty) == (decide ((Int.tmod (w64 ((w64 (s2.1+(1:Int)))+(1:Int))) (3:Int))=(0:Int))))))]) [] 0 (.cons dd .nil) ?_
 rcases cond_some hh with ⟨hb,hh⟩ | ⟨hb,hh⟩
 · refine cT hb (sy [4] [] (sp 44 [(4,ii (-1))]) [] 0 (Aw.ret (then_r (blk_r (then_r ?_)))))
   refine hR2 _ _ _ _ (some_some hh) ?_
   intro hout
   rw [hout] at hk2
   refine blk_r ?_
   obtain rfl:=some_some hk2
   refine hR1 _ _ _ ?_
   rw [some_some hk1]
   exact gvi
 exact cF hb (Aw.xskip (fun _ _ _ hq=>then_m hq) (Aw.xreg [0,1,5] [] (fun _ _ _ hq=>blk_m (then_m hq)) (yt (sp 44 [z2,z3,z6]) [] 0 (Aw.oreg (ye (sp 44 [z2,z3,(5,ii (w64 (s2.2+(1:Int)))),(10,ii s2.2),(11,ii (w64 (s2.2+(1:Int))))]) [] 0 (hN2 ((w64 ((w64 ((w64 (s2.1+(1:Int)))+(1:Int)))+(1:Int))),(w64 (s2.2+(1:Int)))) _ _ _ (some_some hh) (el [] (rens_sp kr (ro nr_C_52 (ri (ri rl_n)))) hs_nil)))))))
theorem low_laws_heldGuestS:LW 113 ⟨191,[(.tmp 4)],(.seq (.reg false (rg 113 0)) (.seq (.seq (.reg false (rg 113 1)) (.block 0 (.loop (.seq (.seq (.reg false (rg 113 2)) (.cond (.t 9) .skip (.exit 0))) (.seq (.block 1 (.seq (.seq (.reg false (rg 113 3)) (.cond (.t 20) (.seq (.reg false (rg 113 4)) .ret) .skip)) (.seq (.reg false (rg 113 5)) (.seq (.reg false (rg 113 6)) (.seq (.seq (.reg false (rg 113 7)) (.cond (.t 32) (.seq (.reg false (rg 113 8)) .ret) .skip)) (.seq (.seq (.reg false (rg 113 9)) (.cond (.t 40) (.seq (.reg false (rg 113 10)) .ret) .skip)) (.seq (.reg false (rg 113 11)) (.seq (.seq (.reg false (rg 113 12)) (.cond (.t 50) (.seq (.reg false (rg 113 13)) .ret) .skip)) (.seq (.reg false (rg 113 14)) (.seq (.seq (.reg false (rg 113 15)) (.cond (.t 60) (.seq (.reg false (rg 113 16)) .ret) .skip)) (.seq (.reg false (rg 113 17)) (.seq (.seq (.reg false (rg 113 18)) (.cond (.t 70) (.seq (.reg false (rg 113 19)) .ret) .skip)) (.seq (.reg false (rg 113 20)) (.seq (.seq (.reg false (rg 113 21)) (.cond (.t 82) (.seq (.reg false (rg 113 22)) .ret) .skip)) (.seq (.reg false (rg 113 23)) (.seq (.seq (.reg false (rg 113 24)) (.cond (.t 92) (.seq (.reg false (rg 113 25)) .ret) .skip)) (.seq (.reg false (rg 113 26)) (.seq (.seq (.reg false (rg 113 27)) (.cond (.t 102) (.seq (.reg false (rg 113 28)) .ret) .skip)) (.seq (.reg false (rg 113 29)) (.seq (.seq (.reg false (rg 113 30)) (.cond (.t 112) (.seq (.reg false (rg 113 31)) .ret) .skip)) (.seq (.reg false (rg 113 32)) (.seq (.seq (.reg false (rg 113 33)) (.cond (.t 124) (.seq (.reg false (rg 113 34)) .ret) .skip)) (.seq (.reg false (rg 113 35)) (.seq (.seq (.reg false (rg 113 36)) (.cond (.t 136) (.seq (.reg false (rg 113 37)) .ret) .skip)) (.seq (.reg false (rg 113 38)) (.seq (.seq (.reg false (rg 113 39)) (.cond (.t 148) (.seq (.reg false (rg 113 40)) .ret) .skip)) (.seq (.reg false (rg 113 41)) (.seq (.seq (.reg false (rg 113 42)) (.cond (.t 160) (.seq (.reg false (rg 113 43)) .ret) .skip)) (.seq (.reg false (rg 113 44)) (.seq (.reg false (rg 113 45)) (.seq (.seq (.reg false (rg 113 46)) (.cond (.t 171) (.seq (.reg false (rg 113 47)) .ret) .skip)) (.seq (.reg false (rg 113 48)) (.seq (.seq (.reg false (rg 113 49)) (.cond (.t 180) (.seq (.reg false (rg 113 50)) .ret) .skip)) (.seq (.reg false (rg 113 51)) (.seq (.reg false (rg 113 52)) (.cond (.t 189) (.seq (.reg false (rg 113 53)) .ret) .skip)))))))))))))))))))))))))))))))))))) (.reg false (rg 113 54))))))) (.seq (.reg false (rg 113 56)) .ret)))⟩:=kr
noncomputable def F_laws_heldGuestS_j1  (s1:Int):Option Int :=
 some s1
noncomputable def F_laws_heldGuestS_l2 (x_a:List DGuest) (s2:Int × Int):Option (LO (Int × Int) (JO Int Int)) :=
 cond (decide (s2.2<(((List.length x_a):Nat):Int)))
  (grd ((0:Int)≤s2.2∧s2.2<((List.length x_a:Nat):Int)) (cond (!(((List.getD x_a (Int.toNat s2.2) default).Live) == (decide ((Int.tmod s2.1 (3:Int))=(0:Int)))))
   (some (.ret (.out (-1:Int))))
   (grd ((0:Int)≤s2.2∧s2.2<((List.length x_a:Nat):Int)) (Option.bind (F_laws_heldIntS (((List.getD x_a (Int.toNat s2.2) default).C).Regs) (w64 (s2.1+(1:Int)))) fun v3 =>
    cond (decide (v3<(0:Int)))
     (some (.ret (.out (-1:Int))))
     (grd ((0:Int)≤s2.2∧s2.2<((List.length x_a:Nat):Int)) (cond (!decide ((((List.getD x_a (Int.toNat s2.2) default).C).Pc)=v3))
      (some (.ret (.out (-1:Int))))
      (grd ((0:Int)≤s2.2∧s2.2<((List.length x_a:Nat):Int)) (cond (!decide ((((List.getD x_a (Int.toNat s2.2) default).C).Root)=(w64 (v3+(1:Int)))))
       (some (.ret (.out (-1:Int))))
       (grd ((0:Int)≤s2.2∧s2.2<((List.length x_a:Nat):Int)) (cond (!decide ((((List.getD x_a (Int.toNat s2.2) default).C).Vector)=(w64 ((w64 (v3+(1:Int)))+(1:Int)))))
        (some (.ret (.out (-1:Int))))
        (grd ((0:Int)≤s2.2∧s2.2<((List.length x_a:Nat):Int)) (cond (!decide ((((List.getD x_a (Int.toNat s2.2) default).C).Saved)=(w64 ((w64 ((w64 (v3+(1:Int)))+(1:Int)))+(1:Int)))))
         (some (.ret (.out (-1:Int))))
         (grd ((0:Int)≤s2.2∧s2.2<((List.length x_a:Nat):Int)) (cond (!((((List.getD x_a (Int.toNat s2.2) default).C).SavedUser) == (decide ((Int.tmod (w64 ((w64 ((w64 ((w64 (v3+(1:Int)))+(1:Int)))+(1:Int)))+(1:Int))) (3:Int))=(0:Int)))))
          (some (.ret (.out (-1:Int))))
          (grd ((0:Int)≤s2.2∧s2.2<((List.length x_a:Nat):Int)) (cond (!decide ((((List.getD x_a (Int.toNat s2.2) default).C).Cause)=(w64 ((w64 ((w64 ((w64 ((w64 (v3+(1:Int)))+(1:Int)))+(1:Int)))+(1:Int)))+(1:Int)))))
           (some (.ret (.out (-1:Int))))
           (grd ((0:Int)≤s2.2∧s2.2<((List.length x_a:Nat):Int)) (cond (!decide ((((List.getD x_a (Int.toNat s2.2) default).C).Bad)=(w64 ((w64 ((w64 ((w64 ((w64 ((w64 (v3+(1:Int)))+(1:Int)))+(1:Int)))+(1:Int)))+(1:Int)))+(1:Int)))))
            (some (.ret (.out (-1:Int))))
            (grd ((0:Int)≤s2.2∧s2.2<((List.length x_a:Nat):Int)) (cond (!decide ((((List.getD x_a (Int.toNat s2.2) default).C).Timer)=(w64 ((w64 ((w64 ((w64 ((w64 ((w64 ((w64 (v3+(1:Int)))+(1:Int)))+(1:Int)))+(1:Int)))+(1:Int)))+(1:Int)))+(1:Int)))))
             (some (.ret (.out (-1:Int))))
             (grd ((0:Int)≤s2.2∧s2.2<((List.length x_a:Nat):Int)) (cond (!((((List.getD x_a (Int.toNat s2.2) default).C).Waits) == (decide ((Int.tmod (w64 ((w64 ((w64 ((w64 ((w64 ((w64 ((w64 ((w64 (v3+(1:Int)))+(1:Int)))+(1:Int)))+(1:Int)))+(1:Int)))+(1:Int)))+(1:Int)))+(1:Int))) (3:Int))=(0:Int)))))
              (some (.ret (.out (-1:Int))))
              (grd ((0:Int)≤s2.2∧s2.2<((List.length x_a:Nat):Int)) (cond (!((((List.getD x_a (Int.toNat s2.2) default).C).User) == (decide ((Int.tmod (w64 ((w64 ((w64 ((w64 ((w64 ((w64 ((w64 ((w64 ((w64 (v3+(1:Int)))+(1:Int)))+(1:Int)))+(1:Int)))+(1:Int)))+(1:Int)))+(1:Int)))+(1:Int)))+(1:Int))) (3:Int))=(0:Int)))))
               (some (.ret (.out (-1:Int))))
               (grd ((0:Int)≤s2.2∧s2.2<((List.length x_a:Nat):Int)) (cond (!((((List.getD x_a (Int.toNat s2.2) default).C).On) == (decide ((Int.tmod (w64 ((w64 ((w64 ((w64 ((w64 ((w64 ((w64 ((w64 ((w64 ((w64 (v3+(1:Int)))+(1:Int)))+(1:Int)))+(1:Int)))+(1:Int)))+(1:Int)))+(1:Int)))+(1:Int)))+(1:Int)))+(1:Int))) (3:Int))=(0:Int)))))
                (some (.ret (.out (-1:Int))))
                (grd ((0:Int)≤s2.2∧s2.2<((List.length x_a:Nat):Int)) (cond (!((((List.getD x_a (Int.toNat s2.2) default).C).Stopped) == (decide ((Int.tmod (w64 ((w64 ((w64 ((w64 ((w64 ((w64 ((w64 ((w64 ((w64 ((w64 ((w64 (v3+(1:Int)))+(1:Int)))+(1:Int)))+(1:Int)))+(1:Int)))+(1:Int)))+(1:Int)))+(1:Int)))+(1:Int)))+(1:Int)))+(1:Int))) (3:Int))=(0:Int)))))
                 (some (.ret (.out (-1:Int))))
                 (grd ((0:Int)≤s2.2∧s2.2<((List.length x_a:Nat):Int)) (Option.bind (F_laws_heldSlotS ((List.getD x_a (Int.toNat s2.2) default).Pages) (w64 ((w64 ((w64 ((w64 ((w64 ((w64 ((w64 ((w64 ((w64 ((w64 ((w64 ((w64 (v3+(1:Int)))+(1:Int)))+(1:Int)))+(1:Int)))+(1:Int)))+(1:Int)))+(1:Int)))+(1:Int)))+(1:Int)))+(1:Int)))+(1:Int)))+(1:Int)))) fun v4 =>
                  cond (decide (v4<(0:Int)))
                   (some (.ret (.out (-1:Int))))
                   (grd ((0:Int)≤s2.2∧s2.2<((List.length x_a:Nat):Int)) (Option.bind (F_laws_heldIntS ((List.getD x_a (Int.toNat s2.2) default).In) v4) fun v5 =>
                    cond (decide (v5<(0:Int)))
                     (some (.ret (.out (-1:Int))))
                     (grd ((0:Int)≤s2.2∧s2.2<((List.length x_a:Nat):Int)) (Option.bind (F_laws_heldIntS ((List.getD x_a (Int.toNat s2.2) default).Out) v5) fun v6 =>
                      cond (decide (v6<(0:Int)))
                       (some (.ret (.out (-1:Int))))
                       (some (.next (v6,(w64 (s2.2+(1:Int))))))))))))))))))))))))))))))))))))))))
  (some (.ret (.go s2.1)))
noncomputable def F_laws_heldGuestS (x_a:List DGuest) (x_k:Int):Option Int :=
 Option.bind (Option.bind (iter (F_laws_heldGuestS_l2 x_a) (x_k,(0:Int))) LO.val) fun j1 =>
  JO.run j1 (F_laws_heldGuestS_j1)
theorem laws_heldGuestS_fn {x_a:List DGuest} {x_k:Int} {R_:Int} (hh:F_laws_heldGuestS x_a x_k=some R_):Fn Try.prog 113 [bo B_55 x_a,.int .i64 x_k] (.int .i64 R_):=by
 let z2:=(0,bo B_55 x_a); let z3:=(4,ii (-1))
 unfold F_laws_heldGuestS at hh
 refine Fn.start low_laws_heldGuestS [0,1] (E:=sp 191 [z2,(1,ii x_k)]) kr (v:=ii R_) (Hr:=[]) (k:=0) kr (sy [0,1] [] (sp 191 [z2,(1,ii x_k)]) [] 0 ?_)
 obtain ⟨j1,hh,hk1⟩:=bind_some hh
 refine Aw.join (S:=Int) (fun s1=>sp 191 [(1,ii s1)]) (fun s1=>[]) 0 (fun s1=>F_laws_heldGuestS_j1 s1=some R_) ?_ ?_
 · intro s1 hh
   unfold F_laws_heldGuestS_j1 at hh
   exact sy [4] [] (sp 191 [(4,ii s1)]) [] 0 (Aw.ret (gvis hh))
 intro Q1 hN1 hR1 hE1
 refine sy [0,1,5] [] (sp 191 [z2,(1,ii x_k),(5,ii 0)]) [] 0 (Aw.block ?_)
 obtain ⟨o2,hi2,hk2⟩:=bind_some hh
 refine Aw.iter (fun (s2:Int × Int)=>sp 191 [(0,bo B_55 x_a),(1,ii s2.1),(5,ii s2.2)]) (fun (s2:Int × Int)=>[]) 0 hi2 (el [] (rens_sp kr (ro nr_B_55 (ri (ri rl_n)))) hs_nil) ?_
 intro s2 u2 Q2 hh hN2 hX2 hR2
 let z4:=(5,ii s2.2); let z5:=(9,bb (decide (s2.2<(((List.length x_a):Nat):Int)))); let z1:=List.getD x_a (Int.toNat s2.2) default
 unfold F_laws_heldGuestS_l2 at hh
 refine Aw.seq (sy [0,1,5,9] [] (sp 191 [z2,(1,ii s2.1),z4,z5]) [] 0 ?_)
 rcases cond_sf hh with ⟨hb,hh⟩ | ⟨hb,hh⟩
 · refine cF hb (Aw.exit (then_x (hX2 _ _ _ _ _ (some_some hh) ?_)))
   intro hout
   rw [hout] at hk2
   refine blk_x ?_
   obtain rfl:=some_some hk2
   exact hN1 s2.1 _ _ _ hk1 (el [] (rens_sp kr (ri rl_n)) hs_nil)
 refine cT hb (Aw.xskip (fun _ _ _ hq=>then_m hq) (Aw.seq (Aw.block (Aw.seq (Aw.sreg [0,1,5,20] [] (yj 2  (sp 191 [z2,(1,ii s2.1),z4,z5,(12,bo B_55 x_a),(13,ii s2.2)]) [] 0 ?_))))))
 obtain ⟨hg664,hh⟩:=grd_some hh
 refine ys (.iadr 17 (.t 12) (.t 13)) (some 14) (op_iadr (kd:=.i64) (c:=B_55) (xs:=x_a) len_B_55 dd kr kr hg664 ?_)
 refine yu 1 [(14,.bptr (fl B_55 x_a) (Int.toNat s2.2*17)),(15,.bptr (fl B_55 x_a) (Int.toNat s2.2*17+0))] [] 0 (ys (.load false 1 (.t 15)) (some 16) (op_loadb (c:=B_55) (xs:=x_a) (o:=Int.toNat s2.2*17+0) (i:=(Int.toNat s2.2)) (off:=0) (v:=bb (z1.Live)) len_B_55 kr ltn ltn dd kr ?_))
 refine ytc [(3:Int)≠0] (sp 191 [z2,(1,ii s2.1),z4,(20,bb (!((z1.Live) == (decide ((Int.tmod s2.1 (3:Int))=(0:Int))))))]) [] 0 (.cons dd .nil) ?_
 rcases cond_some hh with ⟨hb,hh⟩ | ⟨hb,hh⟩
 · refine cT hb (sy [4] [] (sp 191 [z3]) [] 0 (Aw.ret (then_r (blk_r (then_r ?_)))))
   refine hR2 _ _ _ _ (some_some hh) ?_
   intro hout
   rw [hout] at hk2
   refine blk_r ?_
   obtain rfl:=some_some hk2
   refine hR1 _ _ _ ?_
   rw [some_some hk1]
   exact gvi
 refine cF hb (Aw.xskip (fun _ _ _ hq=>then_m hq) (sy [0,1,5] [] (sp 191 [z2,(1,ii (w64 (s2.1+(1:Int)))),z4]) [] 0 (Aw.sreg [0,1,5] [] (yu 2 [(23,bo B_55 x_a),(24,ii s2.2)] [] 0 ?_))))
 obtain ⟨hg666,hh⟩:=grd_some hh
 refine ys (.iadr 17 (.t 23) (.t 24)) (some 25) (op_iadr (kd:=.i64) (c:=B_55) (xs:=x_a) len_B_55 dd kr kr hg666 ?_)
 refine yu 2 [(25,.bptr (fl B_55 x_a) (Int.toNat s2.2*17)),(26,.bptr (fl B_55 x_a) (Int.toNat s2.2*17+1)),(27,.bptr (fl B_55 x_a) (Int.toNat s2.2*17+1+0))] [] 0 (ys (.load false 1 (.t 27)) (some 28) (op_loadb (c:=B_55) (xs:=x_a) (o:=Int.toNat s2.2*17+1+0) (i:=(Int.toNat s2.2)) (off:=1) (v:=bo (eI .i64) ((z1.C).Regs)) len_B_55 kr ltn ltn dd kr ?_))
 refine yu 1 [(28,bo (eI .i64) ((z1.C).Regs)),(29,ii (w64 (s2.1+(1:Int))))] [] 0 ?_
 obtain ⟨v3,hv3,hh⟩:=bind_some hh
 let z6:=(1,ii (w64 ((w64 ((w64 ((w64 ((w64 ((w64 ((w64 ((w64 ((w64 ((w64 ((w64 (v3+(1:Int)))+(1:Int)))+(1:Int)))+(1:Int)))+(1:Int)))+(1:Int)))+(1:Int)))+(1:Int)))+(1:Int)))+(1:Int)))+(1:Int)))); let z7:=(1,ii (w64 ((w64 ((w64 ((w64 ((w64 ((w64 ((w64 ((w64 ((w64 ((w64 (v3+(1:Int)))+(1:Int)))+(1:Int)))+(1:Int)))+(1:Int)))+(1:Int)))+(1:Int)))+(1:Int)))+(1:Int)))+(1:Int)))); let z8:=(1,ii (w64 ((w64 ((w64 ((w64 ((w64 ((w64 ((w64 ((w64 ((w64 (v3+(1:Int)))+(1:Int)))+(1:Int)))+(1:Int)))+(1:Int)))+(1:Int)))+(1:Int)))+(1:Int)))+(1:Int)))); let z9:=(1,ii (w64 ((w64 ((w64 ((w64 ((w64 ((w64 ((w64 ((w64 (v3+(1:Int)))+(1:Int)))+(1:Int)))+(1:Int)))+(1:Int)))+(1:Int)))+(1:Int)))+(1:Int)))); let z10:=(1,ii (w64 ((w64 ((w64 ((w64 ((w64 ((w64 ((w64 (v3+(1:Int)))+(1:Int)))+(1:Int)))+(1:Int)))+(1:Int)))+(1:Int)))+(1:Int)))); let z11:=(1,ii (w64 ((w64 ((w64 ((w64 ((w64 ((w64 (v3+(1:Int)))+(1:Int)))+(1:Int)))+(1:Int)))+(1:Int)))+(1:Int)))); let z12:=(1,ii (w64 ((w64 ((w64 ((w64 ((w64 (v3+(1:Int)))+(1:Int)))+(1:Int)))+(1:Int)))+(1:Int)))); let z13:=(1,ii (w64 ((w64 ((w64 ((w64 (v3+(1:Int)))+(1:Int)))+(1:Int)))+(1:Int)))); let z14:=(1,ii (w64 ((w64 ((w64 (v3+(1:Int)))+(1:Int)))+(1:Int)))); let z15:=(1,ii (w64 ((w64 (v3+(1:Int)))+(1:Int)))); let z16:=(1,ii (w64 (v3+(1:Int)))); let z17:=(32,bb (decide (v3<(0:Int))))
 refine ys (.call 107 [(.t 28),(.t 29)]) (some 30) (oc (laws_heldIntS_fn hv3) ?_)
 refine yt (sp 191 [z2,(1,ii v3),z4]) [] 0 (Aw.seq (sy [0,1,5,32] [] (sp 191 [z2,(1,ii v3),z4,z17]) [] 0 ?_))
 rcases cond_some hh with ⟨hb,hh⟩ | ⟨hb,hh⟩
 · refine cT hb (sy [4] [] (sp 191 [z3]) [] 0 (Aw.ret (then_r (blk_r (then_r ?_)))))
   refine hR2 _ _ _ _ (some_some hh) ?_
   intro hout
   rw [hout] at hk2
   refine blk_r ?_
   obtain rfl:=some_some hk2
   refine hR1 _ _ _ ?_
   rw [some_some hk1]
   exact gvi
 refine cF hb (Aw.xskip (fun _ _ _ hq=>then_m hq) (Aw.seq (Aw.sreg [0,1,5,40] [] (yj 2  (sp 191 [z2,(1,ii v3),z4,z17,(33,bo B_55 x_a),(34,ii s2.2)]) [] 0 ?_))))
 obtain ⟨hg670,hh⟩:=grd_some hh
 refine ys (.iadr 17 (.t 33) (.t 34)) (some 35) (op_iadr (kd:=.i64) (c:=B_55) (xs:=x_a) len_B_55 dd kr kr hg670 ?_)
 refine yu 2 [(35,.bptr (fl B_55 x_a) (Int.toNat s2.2*17)),(36,.bptr (fl B_55 x_a) (Int.toNat s2.2*17+1)),(37,.bptr (fl B_55 x_a) (Int.toNat s2.2*17+1+1))] [] 0 (ys (.load false 1 (.t 37)) (some 38) (op_loadb (c:=B_55) (xs:=x_a) (o:=Int.toNat s2.2*17+1+1) (i:=(Int.toNat s2.2)) (off:=2) (v:=ii ((z1.C).Pc)) len_B_55 kr ltn ltn dd kr ?_))
 refine yt (sp 191 [z2,(1,ii v3),z4,(40,bb (!decide (((z1.C).Pc)=v3)))]) [] 0 ?_
 rcases cond_some hh with ⟨hb,hh⟩ | ⟨hb,hh⟩
 · refine cT hb (sy [4] [] (sp 191 [z3]) [] 0 (Aw.ret (then_r (blk_r (then_r ?_)))))
   refine hR2 _ _ _ _ (some_some hh) ?_
   intro hout
   rw [hout] at hk2
   refine blk_r ?_
   obtain rfl:=some_some hk2
   refine hR1 _ _ _ ?_
   rw [some_some hk1]
   exact gvi
 refine cF hb (Aw.xskip (fun _ _ _ hq=>then_m hq) (sy [0,1,5] [] (sp 191 [z2,z16,z4]) [] 0 (Aw.seq (Aw.sreg [0,1,5,50] [] (yj 2  (sp 191 [z2,z16,z4,(43,bo B_55 x_a),(44,ii s2.2)]) [] 0 ?_)))))
 obtain ⟨hg674,hh⟩:=grd_some hh
 refine ys (.iadr 17 (.t 43) (.t 44)) (some 45) (op_iadr (kd:=.i64) (c:=B_55) (xs:=x_a) len_B_55 dd kr kr hg674 ?_)
 refine yu 2 [(45,.bptr (fl B_55 x_a) (Int.toNat s2.2*17)),(46,.bptr (fl B_55 x_a) (Int.toNat s2.2*17+1)),(47,.bptr (fl B_55 x_a) (Int.toNat s2.2*17+1+2))] [] 0 (ys (.load false 1 (.t 47)) (some 48) (op_loadb (c:=B_55) (xs:=x_a) (o:=Int.toNat s2.2*17+1+2) (i:=(Int.toNat s2.2)) (off:=3) (v:=ii ((z1.C).Root)) len_B_55 kr ltn ltn dd kr ?_))
 refine yt (sp 191 [z2,z16,z4,(50,bb (!decide (((z1.C).Root)=(w64 (v3+(1:Int))))))]) [] 0 ?_
 rcases cond_some hh with ⟨hb,hh⟩ | ⟨hb,hh⟩
 · refine cT hb (sy [4] [] (sp 191 [z3]) [] 0 (Aw.ret (then_r (blk_r (then_r ?_)))))
   refine hR2 _ _ _ _ (some_some hh) ?_
   intro hout
   rw [hout] at hk2
   refine blk_r ?_
   obtain rfl:=some_some hk2
   refine hR1 _ _ _ ?_
   rw [some_some hk1]
   exact gvi
 refine cF hb (Aw.xskip (fun _ _ _ hq=>then_m hq) (sy [0,1,5] [] (sp 191 [z2,z15,z4]) [] 0 (Aw.seq (Aw.sreg [0,1,5,60] [] (yj 2  (sp 191 [z2,z15,z4,(53,bo B_55 x_a),(54,ii s2.2)]) [] 0 ?_)))))
 obtain ⟨hg678,hh⟩:=grd_some hh
 refine ys (.iadr 17 (.t 53) (.t 54)) (some 55) (op_iadr (kd:=.i64) (c:=B_55) (xs:=x_a) len_B_55 dd kr kr hg678 ?_)
 refine yu 2 [(55,.bptr (fl B_55 x_a) (Int.toNat s2.2*17)),(56,.bptr (fl B_55 x_a) (Int.toNat s2.2*17+1)),(57,.bptr (fl B_55 x_a) (Int.toNat s2.2*17+1+3))] [] 0 (ys (.load false 1 (.t 57)) (some 58) (op_loadb (c:=B_55) (xs:=x_a) (o:=Int.toNat s2.2*17+1+3) (i:=(Int.toNat s2.2)) (off:=4) (v:=ii ((z1.C).Vector)) len_B_55 kr ltn ltn dd kr ?_))
 refine yt (sp 191 [z2,z15,z4,(60,bb (!decide (((z1.C).Vector)=(w64 ((w64 (v3+(1:Int)))+(1:Int))))))]) [] 0 ?_
 rcases cond_some hh with ⟨hb,hh⟩ | ⟨hb,hh⟩
 · refine cT hb (sy [4] [] (sp 191 [z3]) [] 0 (Aw.ret (then_r (blk_r (then_r ?_)))))
   refine hR2 _ _ _ _ (some_some hh) ?_
   intro hout
   rw [hout] at hk2
   refine blk_r ?_
   obtain rfl:=some_some hk2
   refine hR1 _ _ _ ?_
   rw [some_some hk1]
   exact gvi
 refine cF hb (Aw.xskip (fun _ _ _ hq=>then_m hq) (sy [0,1,5] [] (sp 191 [z2,z14,z4]) [] 0 (Aw.seq (Aw.sreg [0,1,5,70] [] (yj 2  (sp 191 [z2,z14,z4,(63,bo B_55 x_a),(64,ii s2.2)]) [] 0 ?_)))))
 obtain ⟨hg682,hh⟩:=grd_some hh
 refine ys (.iadr 17 (.t 63) (.t 64)) (some 65) (op_iadr (kd:=.i64) (c:=B_55) (xs:=x_a) len_B_55 dd kr kr hg682 ?_)
 refine yu 2 [(65,.bptr (fl B_55 x_a) (Int.toNat s2.2*17)),(66,.bptr (fl B_55 x_a) (Int.toNat s2.2*17+1)),(67,.bptr (fl B_55 x_a) (Int.toNat s2.2*17+1+4))] [] 0 (ys (.load false 1 (.t 67)) (some 68) (op_loadb (c:=B_55) (xs:=x_a) (o:=Int.toNat s2.2*17+1+4) (i:=(Int.toNat s2.2)) (off:=5) (v:=ii ((z1.C).Saved)) len_B_55 kr ltn ltn dd kr ?_))
 refine yt (sp 191 [z2,z14,z4,(70,bb (!decide (((z1.C).Saved)=(w64 ((w64 ((w64 (v3+(1:Int)))+(1:Int)))+(1:Int))))))]) [] 0 ?_
 rcases cond_some hh with ⟨hb,hh⟩ | ⟨hb,hh⟩
 · refine cT hb (sy [4] [] (sp 191 [z3]) [] 0 (Aw.ret (then_r (blk_r (then_r ?_)))))
   refine hR2 _ _ _ _ (some_some hh) ?_
   intro hout
   rw [hout] at hk2
   refine blk_r ?_
   obtain rfl:=some_some hk2
   refine hR1 _ _ _ ?_
   rw [some_some hk1]
   exact gvi
 refine cF hb (Aw.xskip (fun _ _ _ hq=>then_m hq) (sy [0,1,5] [] (sp 191 [z2,z13,z4]) [] 0 (Aw.seq (Aw.sreg [0,1,5,82] [] (yj 2  (sp 191 [z2,z13,z4,(73,bo B_55 x_a),(74,ii s2.2)]) [] 0 ?_)))))
 obtain ⟨hg686,hh⟩:=grd_some hh
 refine ys (.iadr 17 (.t 73) (.t 74)) (some 75) (op_iadr (kd:=.i64) (c:=B_55) (xs:=x_a) len_B_55 dd kr kr hg686 ?_)
 refine yu 2 [(75,.bptr (fl B_55 x_a) (Int.toNat s2.2*17)),(76,.bptr (fl B_55 x_a) (Int.toNat s2.2*17+1)),(77,.bptr (fl B_55 x_a) (Int.toNat s2.2*17+1+5))] [] 0 (ys (.load false 1 (.t 77)) (some 78) (op_loadb (c:=B_55) (xs:=x_a) (o:=Int.toNat s2.2*17+1+5) (i:=(Int.toNat s2.2)) (off:=6) (v:=bb ((z1.C).SavedUser)) len_B_55 kr ltn ltn dd kr ?_))
 refine ytc [(3:Int)≠0] (sp 191 [z2,z13,z4,(82,bb (!(((z1.C).SavedUser) == (decide ((Int.tmod (w64 ((w64 ((w64 ((w64 (v3+(1:Int)))+(1:Int)))+(1:Int)))+(1:Int))) (3:Int))=(0:Int))))))]) [] 0 (.cons dd .nil) ?_
 rcases cond_some hh with ⟨hb,hh⟩ | ⟨hb,hh⟩
 · refine cT hb (sy [4] [] (sp 191 [z3]) [] 0 (Aw.ret (then_r (blk_r (then_r ?_)))))
   refine hR2 _ _ _ _ (some_some hh) ?_
   intro hout
   rw [hout] at hk2
   refine blk_r ?_
   obtain rfl:=some_some hk2
   refine hR1 _ _ _ ?_
   rw [some_some hk1]
   exact gvi
 refine cF hb (Aw.xskip (fun _ _ _ hq=>then_m hq) (sy [0,1,5] [] (sp 191 [z2,z12,z4]) [] 0 (Aw.seq (Aw.sreg [0,1,5,92] [] (yj 2  (sp 191 [z2,z12,z4,(85,bo B_55 x_a),(86,ii s2.2)]) [] 0 ?_)))))
 obtain ⟨hg690,hh⟩:=grd_some hh
 refine ys (.iadr 17 (.t 85) (.t 86)) (some 87) (op_iadr (kd:=.i64) (c:=B_55) (xs:=x_a) len_B_55 dd kr kr hg690 ?_)
 refine yu 2 [(87,.bptr (fl B_55 x_a) (Int.toNat s2.2*17)),(88,.bptr (fl B_55 x_a) (Int.toNat s2.2*17+1)),(89,.bptr (fl B_55 x_a) (Int.toNat s2.2*17+1+6))] [] 0 (ys (.load false 1 (.t 89)) (some 90) (op_loadb (c:=B_55) (xs:=x_a) (o:=Int.toNat s2.2*17+1+6) (i:=(Int.toNat s2.2)) (off:=7) (v:=ii ((z1.C).Cause)) len_B_55 kr ltn ltn dd kr ?_))
 refine yt (sp 191 [z2,z12,z4,(92,bb (!decide (((z1.C).Cause)=(w64 ((w64 ((w64 ((w64 ((w64 (v3+(1:Int)))+(1:Int)))+(1:Int)))+(1:Int)))+(1:Int))))))]) [] 0 ?_
 rcases cond_some hh with ⟨hb,hh⟩ | ⟨hb,hh⟩
 · refine cT hb (sy [4] [] (sp 191 [z3]) [] 0 (Aw.ret (then_r (blk_r (then_r ?_)))))
   refine hR2 _ _ _ _ (some_some hh) ?_
   intro hout
   rw [hout] at hk2
   refine blk_r ?_
   obtain rfl:=some_some hk2
   refine hR1 _ _ _ ?_
   rw [some_some hk1]
   exact gvi
 refine cF hb (Aw.xskip (fun _ _ _ hq=>then_m hq) (sy [0,1,5] [] (sp 191 [z2,z11,z4]) [] 0 (Aw.seq (Aw.sreg [0,1,5,102] [] (yj 2  (sp 191 [z2,z11,z4,(95,bo B_55 x_a),(96,ii s2.2)]) [] 0 ?_)))))
 obtain ⟨hg694,hh⟩:=grd_some hh
 refine ys (.iadr 17 (.t 95) (.t 96)) (some 97) (op_iadr (kd:=.i64) (c:=B_55) (xs:=x_a) len_B_55 dd kr kr hg694 ?_)
 refine yu 2 [(97,.bptr (fl B_55 x_a) (Int.toNat s2.2*17)),(98,.bptr (fl B_55 x_a) (Int.toNat s2.2*17+1)),(99,.bptr (fl B_55 x_a) (Int.toNat s2.2*17+1+7))] [] 0 (ys (.load false 1 (.t 99)) (some 100) (op_loadb (c:=B_55) (xs:=x_a) (o:=Int.toNat s2.2*17+1+7) (i:=(Int.toNat s2.2)) (off:=8) (v:=ii ((z1.C).Bad)) len_B_55 kr ltn ltn dd kr ?_))
 refine yt (sp 191 [z2,z11,z4,(102,bb (!decide (((z1.C).Bad)=(w64 ((w64 ((w64 ((w64 ((w64 ((w64 (v3+(1:Int)))+(1:Int)))+(1:Int)))+(1:Int)))+(1:Int)))+(1:Int))))))]) [] 0 ?_
 rcases cond_some hh with ⟨hb,hh⟩ | ⟨hb,hh⟩
 · refine cT hb (sy [4] [] (sp 191 [z3]) [] 0 (Aw.ret (then_r (blk_r (then_r ?_)))))
   refine hR2 _ _ _ _ (some_some hh) ?_
   intro hout
   rw [hout] at hk2
   refine blk_r ?_
   obtain rfl:=some_some hk2
   refine hR1 _ _ _ ?_
   rw [some_some hk1]
   exact gvi
 refine cF hb (Aw.xskip (fun _ _ _ hq=>then_m hq) (sy [0,1,5] [] (sp 191 [z2,z10,z4]) [] 0 (Aw.seq (Aw.sreg [0,1,5,112] [] (yj 2  (sp 191 [z2,z10,z4,(105,bo B_55 x_a),(106,ii s2.2)]) [] 0 ?_)))))
 obtain ⟨hg698,hh⟩:=grd_some hh
 refine ys (.iadr 17 (.t 105) (.t 106)) (some 107) (op_iadr (kd:=.i64) (c:=B_55) (xs:=x_a) len_B_55 dd kr kr hg698 ?_)
 refine yu 2 [(107,.bptr (fl B_55 x_a) (Int.toNat s2.2*17)),(108,.bptr (fl B_55 x_a) (Int.toNat s2.2*17+1)),(109,.bptr (fl B_55 x_a) (Int.toNat s2.2*17+1+8))] [] 0 (ys (.load false 1 (.t 109)) (some 110) (op_loadb (c:=B_55) (xs:=x_a) (o:=Int.toNat s2.2*17+1+8) (i:=(Int.toNat s2.2)) (off:=9) (v:=ii ((z1.C).Timer)) len_B_55 kr ltn ltn dd kr ?_))
 refine yt (sp 191 [z2,z10,z4,(112,bb (!decide (((z1.C).Timer)=(w64 ((w64 ((w64 ((w64 ((w64 ((w64 ((w64 (v3+(1:Int)))+(1:Int)))+(1:Int)))+(1:Int)))+(1:Int)))+(1:Int)))+(1:Int))))))]) [] 0 ?_
 rcases cond_some hh with ⟨hb,hh⟩ | ⟨hb,hh⟩
 · refine cT hb (sy [4] [] (sp 191 [z3]) [] 0 (Aw.ret (then_r (blk_r (then_r ?_)))))
   refine hR2 _ _ _ _ (some_some hh) ?_
   intro hout
   rw [hout] at hk2
   refine blk_r ?_
   obtain rfl:=some_some hk2
   refine hR1 _ _ _ ?_
   rw [some_some hk1]
   exact gvi
 refine cF hb (Aw.xskip (fun _ _ _ hq=>then_m hq) (sy [0,1,5] [] (sp 191 [z2,z9,z4]) [] 0 (Aw.seq (Aw.sreg [0,1,5,124] [] (yj 2  (sp 191 [z2,z9,z4,(115,bo B_55 x_a),(116,ii s2.2)]) [] 0 ?_)))))
 obtain ⟨hg702,hh⟩:=grd_some hh
 refine ys (.iadr 17 (.t 115) (.t 116)) (some 117) (op_iadr (kd:=.i64) (c:=B_55) (xs:=x_a) len_B_55 dd kr kr hg702 ?_)
 refine yu 2 [(117,.bptr (fl B_55 x_a) (Int.toNat s2.2*17)),(118,.bptr (fl B_55 x_a) (Int.toNat s2.2*17+1)),(119,.bptr (fl B_55 x_a) (Int.toNat s2.2*17+1+9))] [] 0 (ys (.load false 1 (.t 119)) (some 120) (op_loadb (c:=B_55) (xs:=x_a) (o:=Int.toNat s2.2*17+1+9) (i:=(Int.toNat s2.2)) (off:=10) (v:=bb ((z1.C).Waits)) len_B_55 kr ltn ltn dd kr ?_))
 refine ytc [(3:Int)≠0] (sp 191 [z2,z9,z4,(124,bb (!(((z1.C).Waits) == (decide ((Int.tmod (w64 ((w64 ((w64 ((w64 ((w64 ((w64 ((w64 ((w64 (v3+(1:Int)))+(1:Int)))+(1:Int)))+(1:Int)))+(1:Int)))+(1:Int)))+(1:Int)))+(1:Int))) (3:Int))=(0:Int))))))]) [] 0 (.cons dd .nil) ?_
 rcases cond_some hh with ⟨hb,hh⟩ | ⟨hb,hh⟩
 · refine cT hb (sy [4] [] (sp 191 [z3]) [] 0 (Aw.ret (then_r (blk_r (then_r ?_)))))
   refine hR2 _ _ _ _ (some_some hh) ?_
   intro hout
   rw [hout] at hk2
   refine blk_r ?_
   obtain rfl:=some_some hk2
   refine hR1 _ _ _ ?_
   rw [some_some hk1]
   exact gvi
 refine cF hb (Aw.xskip (fun _ _ _ hq=>then_m hq) (sy [0,1,5] [] (sp 191 [z2,z8,z4]) [] 0 (Aw.seq (Aw.sreg [0,1,5,136] [] (yj 2  (sp 191 [z2,z8,z4,(127,bo B_55 x_a),(128,ii s2.2)]) [] 0 ?_)))))
 obtain ⟨hg706,hh⟩:=grd_some hh
 refine ys (.iadr 17 (.t 127) (.t 128)) (some 129) (op_iadr (kd:=.i64) (c:=B_55) (xs:=x_a) len_B_55 dd kr kr hg706 ?_)
 refine yu 2 [(129,.bptr (fl B_55 x_a) (Int.toNat s2.2*17)),(130,.bptr (fl B_55 x_a) (Int.toNat s2.2*17+1)),(131,.bptr (fl B_55 x_a) (Int.toNat s2.2*17+1+10))] [] 0 (ys (.load false 1 (.t 131)) (some 132) (op_loadb (c:=B_55) (xs:=x_a) (o:=Int.toNat s2.2*17+1+10) (i:=(Int.toNat s2.2)) (off:=11) (v:=bb ((z1.C).User)) len_B_55 kr ltn ltn dd kr ?_))
 refine ytc [(3:Int)≠0] (sp 191 [z2,z8,z4,(136,bb (!(((z1.C).User) == (decide ((Int.tmod (w64 ((w64 ((w64 ((w64 ((w64 ((w64 ((w64 ((w64 ((w64 (v3+(1:Int)))+(1:Int)))+(1:Int)))+(1:Int)))+(1:Int)))+(1:Int)))+(1:Int)))+(1:Int)))+(1:Int))) (3:Int))=(0:Int))))))]) [] 0 (.cons dd .nil) ?_
 rcases cond_some hh with ⟨hb,hh⟩ | ⟨hb,hh⟩
 · refine cT hb (sy [4] [] (sp 191 [z3]) [] 0 (Aw.ret (then_r (blk_r (then_r ?_)))))
   refine hR2 _ _ _ _ (some_some hh) ?_
   intro hout
   rw [hout] at hk2
   refine blk_r ?_
   obtain rfl:=some_some hk2
   refine hR1 _ _ _ ?_
   rw [some_some hk1]
   exact gvi
 refine cF hb (Aw.xskip (fun _ _ _ hq=>then_m hq) (sy [0,1,5] [] (sp 191 [z2,z7,z4]) [] 0 (Aw.seq (Aw.sreg [0,1,5,148] [] (yj 2  (sp 191 [z2,z7,z4,(139,bo B_55 x_a),(140,ii s2.2)]) [] 0 ?_)))))
 obtain ⟨hg710,hh⟩:=grd_some hh
 refine ys (.iadr 17 (.t 139) (.t 140)) (some 141) (op_iadr (kd:=.i64) (c:=B_55) (xs:=x_a) len_B_55 dd kr kr hg710 ?_)
 refine yu 2 [(141,.bptr (fl B_55 x_a) (Int.toNat s2.2*17)),(142,.bptr (fl B_55 x_a) (Int.toNat s2.2*17+1)),(143,.bptr (fl B_55 x_a) (Int.toNat s2.2*17+1+11))] [] 0 (ys (.load false 1 (.t 143)) (some 144) (op_loadb (c:=B_55) (xs:=x_a) (o:=Int.toNat s2.2*17+1+11) (i:=(Int.toNat s2.2)) (off:=12) (v:=bb ((z1.C).On)) len_B_55 kr ltn ltn dd kr ?_))
 refine ytc [(3:Int)≠0] (sp 191 [z2,z7,z4,(148,bb (!(((z1.C).On) == (decide ((Int.tmod (w64 ((w64 ((w64 ((w64 ((w64 ((w64 ((w64 ((w64 ((w64 ((w64 (v3+(1:Int)))+(1:Int)))+(1:Int)))+(1:Int)))+(1:Int)))+(1:Int)))+(1:Int)))+(1:Int)))+(1:Int)))+(1:Int))) (3:Int))=(0:Int))))))]) [] 0 (.cons dd .nil) ?_
 rcases cond_some hh with ⟨hb,hh⟩ | ⟨hb,hh⟩
 · refine cT hb (sy [4] [] (sp 191 [z3]) [] 0 (Aw.ret (then_r (blk_r (then_r ?_)))))
   refine hR2 _ _ _ _ (some_some hh) ?_
   intro hout
   rw [hout] at hk2
   refine blk_r ?_
   obtain rfl:=some_some hk2
   refine hR1 _ _ _ ?_
   rw [some_some hk1]
   exact gvi
 refine cF hb (Aw.xskip (fun _ _ _ hq=>then_m hq) (sy [0,1,5] [] (sp 191 [z2,z6,z4]) [] 0 (Aw.seq (Aw.sreg [0,1,5,160] [] (yj 2  (sp 191 [z2,z6,z4,(151,bo B_55 x_a),(152,ii s2.2)]) [] 0 ?_)))))
 obtain ⟨hg714,hh⟩:=grd_some hh
 refine ys (.iadr 17 (.t 151) (.t 152)) (some 153) (op_iadr (kd:=.i64) (c:=B_55) (xs:=x_a) len_B_55 dd kr kr hg714 ?_)
 refine yu 2 [(153,.bptr (fl B_55 x_a) (Int.toNat s2.2*17)),(154,.bptr (fl B_55 x_a) (Int.toNat s2.2*17+1)),(155,.bptr (fl B_55 x_a) (Int.toNat s2.2*17+1+12))] [] 0 (ys (.load false 1 (.t 155)) (some 156) (op_loadb (c:=B_55) (xs:=x_a) (o:=Int.toNat s2.2*17+1+12) (i:=(Int.toNat s2.2)) (off:=13) (v:=bb ((z1.C).Stopped)) len_B_55 kr ltn ltn dd kr ?_))
 refine ytc [(3:Int)≠0] (sp 191 [z2,z6,z4,(160,bb (!(((z1.C).Stopped) == (decide ((Int.tmod (w64 ((w64 ((w64 ((w64 ((w64 ((w64 ((w64 ((w64 ((w64 ((w64 ((w64 (v3+(1:Int)))+(1:Int)))+(1:Int)))+(1:Int)))+(1:Int)))+(1:Int)))+(1:Int)))+(1:Int)))+(1:Int)))+(1:Int)))+(1:Int))) (3:Int))=(0:Int))))))]) [] 0 (.cons dd .nil) ?_
 rcases cond_some hh with ⟨hb,hh⟩ | ⟨hb,hh⟩
 · refine cT hb (sy [4] [] (sp 191 [z3]) [] 0 (Aw.ret (then_r (blk_r (then_r ?_)))))
   refine hR2 _ _ _ _ (some_some hh) ?_
   intro hout
   rw [hout] at hk2
   refine blk_r ?_
   obtain rfl:=some_some hk2
   refine hR1 _ _ _ ?_
   rw [some_some hk1]
   exact gvi
 refine cF hb (Aw.xskip (fun _ _ _ hq=>then_m hq) (sy [0,1,5] [] (sp 191 [z2,(1,ii (w64 ((w64 ((w64 ((w64 ((w64 ((w64 ((w64 ((w64 ((w64 ((w64 ((w64 ((w64 (v3+(1:Int)))+(1:Int)))+(1:Int)))+(1:Int)))+(1:Int)))+(1:Int)))+(1:Int)))+(1:Int)))+(1:Int)))+(1:Int)))+(1:Int)))+(1:Int)))),z4]) [] 0 (Aw.sreg [0,1,5] [] (yu 2 [(163,bo B_55 x_a),(164,ii s2.2)] [] 0 ?_))))
 obtain ⟨hg716,hh⟩:=grd_some hh
 refine ys (.iadr 17 (.t 163) (.t 164)) (some 165) (op_iadr (kd:=.i64) (c:=B_55) (xs:=x_a) len_B_55 dd kr kr hg716 ?_)
 refine yu 1 [(165,.bptr (fl B_55 x_a) (Int.toNat s2.2*17)),(166,.bptr (fl B_55 x_a) (Int.toNat s2.2*17+14))] [] 0 (ys (.load false 1 (.t 166)) (some 167) (op_loadb (c:=B_55) (xs:=x_a) (o:=Int.toNat s2.2*17+14) (i:=(Int.toNat s2.2)) (off:=14) (v:=bo C_52 (z1.Pages)) len_B_55 kr ltn ltn dd kr ?_))
 refine yu 1 [(167,bo C_52 (z1.Pages)),(168,ii (w64 ((w64 ((w64 ((w64 ((w64 ((w64 ((w64 ((w64 ((w64 ((w64 ((w64 ((w64 (v3+(1:Int)))+(1:Int)))+(1:Int)))+(1:Int)))+(1:Int)))+(1:Int)))+(1:Int)))+(1:Int)))+(1:Int)))+(1:Int)))+(1:Int)))+(1:Int))))] [] 0 ?_
 obtain ⟨v4,hv4,hh⟩:=bind_some hh
 let z18:=(171,bb (decide (v4<(0:Int))))
 refine ys (.call 154 [(.t 167),(.t 168)]) (some 169) (op_call (r:=ii v4) (v:=ii v4) (Hr:=[]) (n':=0) (laws_heldSlotS_fn hv4) (clz_v (vs:=[bo C_52 (z1.Pages),ii (w64 ((w64 ((w64 ((w64 ((w64 ((w64 ((w64 ((w64 ((w64 ((w64 ((w64 ((w64 (v3+(1:Int)))+(1:Int)))+(1:Int)))+(1:Int)))+(1:Int)))+(1:Int)))+(1:Int)))+(1:Int)))+(1:Int)))+(1:Int)))+(1:Int)))+(1:Int)))]) kr (clz_c (clo_same (clean_bor (cleans_fl cl_C_52))) (cz1 clz_n))) rfl rfl kr ?_)
 refine yt (sp 191 [z2,(1,ii v4),z4]) [] 0 (Aw.seq (sy [0,1,5,171] [] (sp 191 [z2,(1,ii v4),z4,z18]) [] 0 ?_))
 rcases cond_some hh with ⟨hb,hh⟩ | ⟨hb,hh⟩
 · refine cT hb (sy [4] [] (sp 191 [z3]) [] 0 (Aw.ret (then_r (blk_r (then_r ?_)))))
   refine hR2 _ _ _ _ (some_some hh) ?_
   intro hout
   rw [hout] at hk2
   refine blk_r ?_
   obtain rfl:=some_some hk2
   refine hR1 _ _ _ ?_
   rw [some_some hk1]
   exact gvi
 refine cF hb (Aw.xskip (fun _ _ _ hq=>then_m hq) (Aw.sreg [0,1,5] [] (yj 2  (sp 191 [z2,(1,ii v4),z4,z18,(172,bo B_55 x_a),(173,ii s2.2)]) [] 0 ?_)))
 obtain ⟨hg718,hh⟩:=grd_some hh
 refine ys (.iadr 17 (.t 172) (.t 173)) (some 174) (op_iadr (kd:=.i64) (c:=B_55) (xs:=x_a) len_B_55 dd kr kr hg718 ?_)
 refine yu 1 [(174,.bptr (fl B_55 x_a) (Int.toNat s2.2*17)),(175,.bptr (fl B_55 x_a) (Int.toNat s2.2*17+15))] [] 0 (ys (.load false 1 (.t 175)) (some 176) (op_loadb (c:=B_55) (xs:=x_a) (o:=Int.toNat s2.2*17+15) (i:=(Int.toNat s2.2)) (off:=15) (v:=bo (eI .i64) (z1.In)) len_B_55 kr ltn ltn dd kr ?_))
 refine yu 1 [(176,bo (eI .i64) (z1.In)),(177,ii v4)] [] 0 ?_
 obtain ⟨v5,hv5,hh⟩:=bind_some hh
 let z19:=(180,bb (decide (v5<(0:Int))))
 refine ys (.call 107 [(.t 176),(.t 177)]) (some 178) (oc (laws_heldIntS_fn hv5) ?_)
 refine yt (sp 191 [z2,(1,ii v5),z4]) [] 0 (Aw.seq (sy [0,1,5,180] [] (sp 191 [z2,(1,ii v5),z4,z19]) [] 0 ?_))
 rcases cond_some hh with ⟨hb,hh⟩ | ⟨hb,hh⟩
 · refine cT hb (sy [4] [] (sp 191 [z3]) [] 0 (Aw.ret (then_r (blk_r (then_r ?_)))))
   refine hR2 _ _ _ _ (some_some hh) ?_
   intro hout
   rw [hout] at hk2
   refine blk_r ?_
   obtain rfl:=some_some hk2
   refine hR1 _ _ _ ?_
   rw [some_some hk1]
   exact gvi
 refine cF hb (Aw.xskip (fun _ _ _ hq=>then_m hq) (Aw.sreg [0,1,5] [] (yj 2  (sp 191 [z2,(1,ii v5),z4,z19,(181,bo B_55 x_a),(182,ii s2.2)]) [] 0 ?_)))
 obtain ⟨hg720,hh⟩:=grd_some hh
 refine ys (.iadr 17 (.t 181) (.t 182)) (some 183) (op_iadr (kd:=.i64) (c:=B_55) (xs:=x_a) len_B_55 dd kr kr hg720 ?_)
 refine yu 1 [(183,.bptr (fl B_55 x_a) (Int.toNat s2.2*17)),(184,.bptr (fl B_55 x_a) (Int.toNat s2.2*17+16))] [] 0 (ys (.load false 1 (.t 184)) (some 185) (op_loadb (c:=B_55) (xs:=x_a) (o:=Int.toNat s2.2*17+16) (i:=(Int.toNat s2.2)) (off:=16) (v:=bo (eI .i64) (z1.Out)) len_B_55 kr ltn ltn dd kr ?_))
 refine yu 1 [(185,bo (eI .i64) (z1.Out)),(186,ii v5)] [] 0 ?_
 obtain ⟨v6,hv6,hh⟩:=bind_some hh
 let z20:=(189,bb (decide (v6<(0:Int))))
 refine ys (.call 107 [(.t 185),(.t 186)]) (some 187) (oc (laws_heldIntS_fn hv6) ?_)
 refine yt (sp 191 [z2,(1,ii v6),z4]) [] 0 (sy [0,1,5,189] [] (sp 191 [z2,(1,ii v6),z4,z20]) [] 0 ?_)
 rcases cond_some hh with ⟨hb,hh⟩ | ⟨hb,hh⟩
 · refine cT hb (sy [4] [] (sp 191 [z3]) [] 0 (Aw.ret (blk_r (then_r ?_))))
   refine hR2 _ _ _ _ (some_some hh) ?_
   intro hout
   rw [hout] at hk2
   refine blk_r ?_
   obtain rfl:=some_some hk2
   refine hR1 _ _ _ ?_
   rw [some_some hk1]
   exact gvi
 exact cF hb (Aw.xskip (fun _ _ _ hq=>blk_m (then_m hq)) (Aw.oreg (ye (sp 191 [z2,(1,ii v6),(5,ii (w64 (s2.2+(1:Int)))),(10,ii s2.2),(11,ii (w64 (s2.2+(1:Int)))),z20]) [] 0 (hN2 (v6,(w64 (s2.2+(1:Int)))) _ _ _ (some_some hh) (el [] (rens_sp kr (ro nr_B_55 (ri (ri rl_n)))) hs_nil)))))
theorem low_laws_heldHost:LW 46 ⟨18,[(.tmp 4)],(.seq (.reg false (rg 46 0)) (.seq (.reg false (rg 46 1)) (.seq (.seq (.reg false (rg 46 2)) (.cond (.t 10) (.seq (.reg false (rg 46 3)) .ret) .skip)) (.seq (.reg false (rg 46 4)) (.seq (.seq (.reg false (rg 46 5)) (.cond (.t 16) (.seq (.reg false (rg 46 6)) .ret) .skip)) (.seq (.reg false (rg 46 7)) .ret))))))⟩:=kr
noncomputable def F_laws_heldHost (x_a:DHost) (x_k:Int):Option Int :=
 Option.bind (F_laws_heldIntS x_a.Words x_k) fun v1 =>
 cond (decide (v1<(0:Int)))
  (some (-1:Int))
  (Option.bind (F_laws_heldGuestS x_a.Guests v1) fun v2 =>
  cond (decide (v2<(0:Int)))
   (some (-1:Int))
   (some v2))
theorem laws_heldHost_fn {x_a:DHost} {x_k:Int} {R_:Int} (hh:F_laws_heldHost x_a x_k=some R_):Fn Try.prog 46 [.agg [bo (eI .i64) x_a.Words,bo B_55 x_a.Guests],.int .i64 x_k] (.int .i64 R_):=by
 unfold F_laws_heldHost at hh
 refine Fn.start low_laws_heldHost [0,1] (E:=sp 18 [(0,.agg (B_41 x_a)),(1,ii x_k)]) kr (v:=ii R_) (Hr:=[]) (k:=0) kr (Aw.sreg [1,2] [0] ?_)
 let q1:Root:=⟨41,[bo (eI .i64) x_a.Words,bo B_55 x_a.Guests]⟩; let z1:=(0,some q1)
 refine yt (sp 18 [(1,ii x_k),(2,pp 0)]) [z1] 1 (Aw.sreg [1,2] [0] (yu 3 [(5,pp 0),(6,bo (eI .i64) x_a.Words),(7,ii x_k)] [z1] 1 ?_))
 obtain ⟨v1,hv1,hh⟩:=bind_some hh
 let z2:=(10,bb (decide (v1<(0:Int))))
 refine ys (.call 107 [(.t 6),(.t 7)]) (some 8) (oc (laws_heldIntS_fn hv1) ?_)
 refine yt (sp 18 [(1,ii v1),(2,pp 0)]) [z1] 1 (Aw.seq (sy [1,2,10] [0] (sp 18 [(1,ii v1),(2,pp 0),z2]) [z1] 1 ?_))
 rcases cond_some hh with ⟨hb,hh⟩ | ⟨hb,hh⟩
 · exact cT hb (sy [4] [] (sp 18 [(4,ii (-1))]) [] 1 (Aw.ret (then_r (gvis hh))))
 refine cF hb (Aw.xskip (fun _ _ _ hq=>then_m hq) (Aw.sreg [1] [] (yj 3  (sp 18 [(1,ii v1),(2,pp 0),z2,(11,.ptr 0 [] 1),(12,bo B_55 x_a.Guests),(13,ii v1)]) [z1] 1 ?_)))
 obtain ⟨v2,hv2,hh⟩:=bind_some hh
 refine ys (.call 113 [(.t 12),(.t 13)]) (some 14) (op_call (r:=ii v2) (v:=ii v2) (Hr:=[]) (n':=1) (laws_heldGuestS_fn hv2) (clz_v (vs:=[bo B_55 x_a.Guests,ii v1]) kr (clz_c (clo_same (clean_bor (cleans_fl cl_B_55))) (cz1 clz_n))) rfl rfl kr ?_)
 refine yt (sp 18 [(1,ii v2)]) [] 1 (Aw.seq (sy [1,16] [] (sp 18 [(1,ii v2),(16,bb (decide (v2<(0:Int))))]) [] 1 ?_))
 rcases cond_some hh with ⟨hb,hh⟩ | ⟨hb,hh⟩
 · exact cT hb (sy [4] [] (sp 18 [(4,ii (-1))]) [] 1 (Aw.ret (then_r (gvis hh))))
 exact cF hb (Aw.xskip (fun _ _ _ hq=>then_m hq) (sy [4] [] (sp 18 [(4,ii v2)]) [] 1 (Aw.ret (gvis hh))))
end Go.Proofs.Ytbanbjdcgdmkaaa
