/- Plain functions of the program, and that it hands back what they say. Made by program. -/
import Derived.Test.YtbnjdmclnojlmaaWT
import Derived.Test.YtbnjdmclnojlmaaProg
namespace Go.Proofs.Ytbnjdmclnojlmaa
open Go.RowKit
set_option maxRecDepth 100000
set_option linter.all false
set_option maxHeartbeats 0
theorem low_laws_toShade : LW 81 ⟨23, [(.cell 2 true 6)], (.seq (.reg false (rg 81 0)) (.seq (.reg false (rg 81 1)) (.seq (.reg false (rg 81 2)) (.seq (.reg false (rg 81 3)) (.seq (.reg false (rg 81 4)) (.seq (.reg false (rg 81 5)) (.seq (.reg false (rg 81 6)) (.seq (.reg false (rg 81 7)) (.seq (.reg false (rg 81 8)) .ret)))))))))⟩ := kr
noncomputable def F_laws_toShade (x_a : DShade) : Option DShade :=
 some x_a
theorem laws_toShade_fn {x_a : DShade} {R_ : DShade} (hh : F_laws_toShade x_a = some R_) : Fn Try.prog 81 [.agg (C_45 x_a)] (.agg (ru45 R_ [])) := by
 let z1 : EH := (0, some ⟨88, (C_45 x_a)⟩); let z2 := (1, pp 0); let z3 : EH := (1, some ⟨45, (zru45 [])⟩); let z4 := (2, pp 1); let z5 := (3, pp 2)
 unfold F_laws_toShade at hh
 refine Fn.start low_laws_toShade [0] (E := sp 23 [(0, .agg (C_45 x_a))]) kr (v := .agg (ru45 R_ [])) (Hr := []) (k := 0) kr (sy [1, 2] [0, 1] (sp 23 [z2, z4]) [z1, z3] 2 (sy [1, 2, 3] [0, 1, 2] (sp 23 [z2, z4, z5]) [z1, z3, (2, some ⟨45, (zru45 [])⟩)] 3 (sy [1, 2, 3] [0, 1, 2] (sp 23 [z2, z4, z5]) [z1, z3, (2, some ⟨45, [bb x_a.There, bb false, bb false, ii 0, ii 0, bb false]⟩)] 3 (sy [1, 2, 3] [0, 1, 2] (sp 23 [z2, z4, z5]) [z1, z3, (2, some ⟨45, [bb x_a.There, bb x_a.Write, bb false, ii 0, ii 0, bb false]⟩)] 3 (sy [1, 2, 3] [0, 1, 2] (sp 23 [z2, z4, z5]) [z1, z3, (2, some ⟨45, [bb x_a.There, bb x_a.Write, bb x_a.User, ii 0, ii 0, bb false]⟩)] 3 (sy [1, 2, 3] [0, 1, 2] (sp 23 [z2, z4, z5]) [z1, z3, (2, some ⟨45, [bb x_a.There, bb x_a.Write, bb x_a.User, ii x_a.Page, ii 0, bb false]⟩)] 3 (sy [1, 2, 3] [0, 1, 2] (sp 23 [z2, z4, z5]) [z1, z3, (2, some ⟨45, [bb x_a.There, bb x_a.Write, bb x_a.User, ii x_a.Page, ii x_a.Frame, bb false]⟩)] 3 (sy [2, 3] [1, 2] (sp 23 [z4, z5]) [z3, (2, some ⟨45, (C_45 x_a)⟩)] 3 (sy [2] [1] (sp 23 [z4]) [(1, some ⟨45, (C_45 x_a)⟩)] 3 (Aw.ret ?_))))))))))
 rw [some_some hh]
 exact gives (r' := .agg (C_45 x_a)) kr (Ent.list [] rfl rfl (Nat.zero_le _) (rens_1 (ren_agg rz)) hs_nil)
theorem low_laws_toLine : LW 58 ⟨15, [(.cell 2 true 8)], (.seq (.reg false (rg 58 0)) (.seq (.reg false (rg 58 1)) (.seq (.reg false (rg 58 2)) (.seq (.reg false (rg 58 3)) (.seq (.reg false (rg 58 4)) (.seq (.reg false (rg 58 5)) .ret))))))⟩ := kr
noncomputable def F_laws_toLine (x_a : DLine) : Option DLine :=
 Option.bind (F_laws_toShade x_a.What) fun v1 =>
 some (DLine.mk x_a.Tag x_a.At v1)
theorem laws_toLine_fn {x_a : DLine} {R_ : DLine} (hh : F_laws_toLine x_a = some R_) : Fn Try.prog 58 [.agg (.int .i64 x_a.Tag :: .int .i64 x_a.At :: ru45 x_a.What [])] (.agg (.int .i64 R_.Tag :: .int .i64 R_.At :: ru45 R_.What [])) := by
 let z1 := (2, pp 1)
 unfold F_laws_toLine at hh
 refine Fn.start low_laws_toLine [0] (E := sp 15 [(0, .agg (C_47 x_a))]) kr (v := .agg (ii R_.Tag :: ii R_.At :: ru45 R_.What [])) (Hr := []) (k := 0) kr (Aw.sreg [1, 2] [0, 1] ?_)
 let q1 : Root := ⟨90, (ii x_a.Tag :: ii x_a.At :: ru45 x_a.What [])⟩; let z2 := (0, some q1); let q2 : Root := ⟨47, (ii 0 :: ii 0 :: zru45 [])⟩; let z3 := (1, some q2)
 refine yt (sp 15 [(1, pp 0), z1]) [z2, z3] 2 (sy [1, 2, 3] [0, 1, 2] (sp 15 [(1, pp 0), z1, (3, pp 2)]) [z2, z3, (2, some q2)] 3 (sy [1, 2, 3] [0, 1, 2] (sp 15 [(1, pp 0), z1, (3, pp 2)]) [z2, z3, (2, some ⟨47, (ii x_a.Tag :: ii 0 :: zru45 [])⟩)] 3 (Aw.sreg [1, 2, 3] [0, 1, 2] ?_)))
 let q3 : Root := ⟨47, (ii x_a.Tag :: ii x_a.At :: zru45 [])⟩
 refine yt (sp 15 [(1, pp 0), z1, (3, pp 2)]) [z2, z3, (2, some q3)] 3 (Aw.sreg [2, 3] [1, 2] (yu 2 [(10, .ptr 0 [] 2), (11, .agg (C_45 x_a.What))] [z2, z3, (2, some q3)] 3 ?_))
 obtain ⟨v1, hv1, hh⟩ := bind_some hh
 refine ys (.call 81 [(.t 11)]) (some 12) (oc (laws_toShade_fn hv1) ?_)
 let q4 : Root := ⟨47, (ii x_a.Tag :: ii x_a.At :: ru45 v1 [])⟩
 refine yt (sp 15 [z1, (3, pp 2)]) [z3, (2, some q4)] 3 (sy [2] [1] (sp 15 [z1]) [(1, some q4)] 3 (Aw.ret ?_))
 rw [some_some hh]
 exact gives (r' := .agg (ii x_a.Tag :: ii x_a.At :: ru45 v1 [])) kr (Ent.list [] rfl rfl (Nat.zero_le _) (rens_1 (ren_agg rz)) hs_nil)
theorem low_laws_toLineS : LW 25 ⟨23, [(.tmp 2)], (.seq (.reg false (rg 25 0)) (.seq (.reg false (rg 25 1)) (.seq (.seq (.reg false (rg 25 2)) (.block 0 (.loop (.seq (.seq (.reg false (rg 25 3)) (.cond (.t 11) .skip (.exit 0))) (.seq (.block 1 (.reg false (rg 25 4))) (.reg false (rg 25 5))))))) (.seq (.reg false (rg 25 7)) .ret))))⟩ := kr
noncomputable def F_laws_toLineS_j1  (s1 : (List DLine)) : Option (List DLine) :=
 some s1
noncomputable def F_laws_toLineS_l2 (x_a : List DLine) (s2 : (List DLine) × Int) : Option (LO ((List DLine) × Int) (JO (List DLine) (List DLine))) :=
 cond (decide (s2.2 < (((List.length x_a) : Nat) : Int)))
  (grd ((0 : Int) ≤ s2.2 ∧ s2.2 < ((List.length x_a : Nat) : Int)) (Option.bind (F_laws_toLine (DLine.mk ((List.getD x_a (Int.toNat s2.2) default).Tag) ((List.getD x_a (Int.toNat s2.2) default).At) (DShade.mk (((List.getD x_a (Int.toNat s2.2) default).What).There) (((List.getD x_a (Int.toNat s2.2) default).What).Write) (((List.getD x_a (Int.toNat s2.2) default).What).User) (((List.getD x_a (Int.toNat s2.2) default).What).Page) (((List.getD x_a (Int.toNat s2.2) default).What).Frame) (((List.getD x_a (Int.toNat s2.2) default).What).Ready)))) fun v3 =>
   grd ((0 : Int) ≤ s2.2 ∧ s2.2 < (((List.length s2.1) : Nat) : Int)) (some (.next ((List.set s2.1 (Int.toNat s2.2) v3), (w64 (s2.2 + (1 : Int))))))))
  (some (.ret (.go s2.1)))
noncomputable def F_laws_toLineS (x_a : List DLine) : Option (List DLine) :=
 grd ((0 : Int) ≤ (((List.length x_a) : Nat) : Int) ∧ (((List.length x_a) : Nat) : Int) * 48 ≤ 2 ^ 47 ∧ (((List.length x_a) : Nat) : Int) ≤ 2 ^ 47) (Option.bind (Option.bind (iter (F_laws_toLineS_l2 x_a) ((List.replicate (Int.toNat (((List.length x_a) : Nat) : Int)) (DLine.mk (0 : Int) (0 : Int) (DShade.mk false false false (0 : Int) (0 : Int) false))), (0 : Int))) LO.val) fun j1 =>
  JO.run j1 (F_laws_toLineS_j1))
theorem laws_toLineS_fn {x_a : List DLine} {R_ : (List DLine)} (hh : F_laws_toLineS x_a = some R_) : Fn Try.prog 25 [bo C_90 x_a] (.own 47 8 (List.length R_) (fl C_47 R_)) := by
 let z5 := (0, bo C_90 x_a); let z1 := DShade.mk false false false (0 : Int) (0 : Int) false; let z4 := DLine.mk (0 : Int) (0 : Int) z1; let z6 : EV := (3, .sref 0 [] 0 (List.length (List.replicate (Int.toNat (((List.length x_a) : Nat) : Int)) z4)) 8)
 unfold F_laws_toLineS at hh
 refine Fn.start low_laws_toLineS [0] (E := sp 23 [z5]) kr (v := .sref 0 [] 0 (List.length R_) 8) (Hr := [(0, some (rC47 R_))]) (k := 1) kr (sy [0] [] (sp 23 [z5]) [] 0 (Aw.sreg [0, 3] [0] (yu 2 [(5, bo C_90 x_a), (6, ii (((List.length x_a) : Nat) : Int))] [] 0 ?_)))
 obtain ⟨hg50, hh⟩ := grd_some hh
 refine ys (.mk 47 8 48 zc2 (.t 6)) (some 7) (op_mk (c := C_47) (d := z4) (k := (((List.length x_a) : Nat) : Int)) kr hg50 kr ?_)
 let q1 : Root := (rC47 (List.replicate (Int.toNat (((List.length x_a) : Nat) : Int)) z4))
 refine yt (sp 23 [z5, z6]) [(0, some q1)] 1 ?_
 obtain ⟨j1, hh, hk1⟩ := bind_some hh
 refine Aw.join (S := (List DLine)) (fun s1 => sp 23 [(3, .sref 0 [] 0 (List.length s1) 8)]) (fun s1 => [(0, some (rC47 s1))]) 1 (fun s1 => F_laws_toLineS_j1 s1 = some R_) ?_ ?_
 · intro s1 hh
   unfold F_laws_toLineS_j1 at hh
   refine sy [2] [0] (sp 23 [(2, .sref 0 [] 0 (List.length s1) 8)]) [(0, some (rC47 s1))] 1 (Aw.ret ?_)
   rw [some_some hh]
   exact gives (r' := .sref 0 [] 0 (List.length s1) 8) kr (Ent.list [some 0] rfl rfl (Nat.zero_le _) (rens_1 ren_sy) (hn nr_C_47 hs_nil))
 intro Q1 hN1 hR1 hE1
 refine sy [0, 3, 4] [0] (sp 23 [z5, z6, (4, ii 0)]) [(0, some q1)] 1 (Aw.block ?_)
 obtain ⟨o2, hi2, hk2⟩ := bind_some hh
 refine Aw.iter (fun (s2 : (List DLine) × Int) => sp 23 [(0, bo C_90 x_a), (3, .sref 0 [] 0 (List.length s2.1) 8), (4, ii s2.2)]) (fun (s2 : (List DLine) × Int) => [(0, some (rC47 s2.1))]) 1 hi2 (el [some 0] (rens_sp kr (ro nr_C_90 (rs (.sref 0 [] 0 (List.length (List.replicate (Int.toNat (((List.length x_a) : Nat) : Int)) (DLine.mk (0 : Int) (0 : Int) (DShade.mk false false false (0 : Int) (0 : Int) false)))) 8) (ri rl_n)))) (hn nr_C_47 hs_nil)) ?_
 intro s2 u2 Q2 hh hN2 hX2 hR2
 let z7 : EH := (0, some (rC47 s2.1)); let z8 := (11, bb (decide (s2.2 < (((List.length x_a) : Nat) : Int)))); let z9 : EV := (14, .sref 0 [] 0 (List.length s2.1) 8); let z10 : EV := (3, .sref 0 [] 0 (List.length s2.1) 8); let z2 := List.getD x_a (Int.toNat s2.2) default
 unfold F_laws_toLineS_l2 at hh
 refine Aw.seq (sy [0, 3, 4, 11] [0] (sp 23 [z5, z10, (4, ii s2.2), z8]) [z7] 1 ?_)
 rcases cond_sf hh with ⟨hb, hh⟩ | ⟨hb, hh⟩
 · refine cF hb (Aw.exit (then_x (hX2 _ _ _ _ _ (some_some hh) ?_)))
   intro hout
   rw [hout] at hk2
   refine blk_x ?_
   obtain rfl := some_some hk2
   exact hN1 s2.1 _ _ _ hk1 (el [some 0] (rens_sp kr (rs (.sref 0 [] 0 (List.length s2.1) 8) rl_n)) (hn nr_C_47 hs_nil))
 refine cT hb (Aw.xskip (fun _ _ _ hq => then_m hq) (Aw.seq (Aw.block (Aw.xreg [0, 3, 4] [0] (fun _ _ _ hq => blk_m (then_m hq)) (yj 4  (sp 23 [z5, z10, (4, ii s2.2), z8, z9, (15, ii s2.2), (16, bo C_90 x_a), (17, ii s2.2)]) [z7] 1 ?_)))))
 obtain ⟨hg48, hh⟩ := grd_some hh
 refine ys (.iadr 8 (.t 16) (.t 17)) (some 18) (op_iadr (kd := .i64) (c := C_90) (xs := x_a) len_C_90 dd kr kr hg48 ?_)
 refine ys (.load true 8 (.t 18)) (some 19) (op_loadbA (c := C_90) (xs := x_a) (o := Int.toNat s2.2 * 8) (i := (Int.toNat s2.2)) (off := 0) (v := .agg [ii (z2.Tag), ii (z2.At), bb ((z2.What).There), bb ((z2.What).Write), bb ((z2.What).User), ii ((z2.What).Page), ii ((z2.What).Frame), bb ((z2.What).Ready)]) len_C_90 kr ltn ltn dd kr ?_)
 obtain ⟨v3, hv3, hh⟩ := bind_some hh
 let z3 := List.set s2.1 (Int.toNat s2.2) v3
 refine ys (.call 58 [(.t 19)]) (some 20) (oc (laws_toLine_fn hv3) ?_)
 obtain ⟨hg49, hh⟩ := grd_some hh
 refine yjc 1 [(0 : Int) ≤ s2.2 ∧ s2.2 < (((List.length s2.1) : Nat) : Int)] (sp 23 [z5, z10, (4, ii s2.2), z8, z9, (15, ii s2.2), (16, bo C_90 x_a), (17, ii s2.2), (18, .bptr (fl C_90 x_a) (Int.toNat s2.2 * 8)), (19, .agg [ii (z2.Tag), ii (z2.At), bb ((z2.What).There), bb ((z2.What).Write), bb ((z2.What).User), ii ((z2.What).Page), ii ((z2.What).Frame), bb ((z2.What).Ready)]), (20, .agg (C_47 v3)), (21, .ptr 0 [] (0 + (Int.toNat s2.2) * 8))]) [z7] 1 (.cons hg49 .nil) ?_
 let q2 : Root := (rC47 z3)
 refine ys (.store 8 (.t 21) (.t 20)) none (op_store (c := C_47) (xs := s2.1) (e := 47) (r := 0) (π := []) (o := 0 + (Int.toNat s2.2) * 8) (i := (Int.toNat s2.2)) (off := 0) (vs := (ii v3.Tag :: ii v3.At :: ru45 v3.What [])) (y := v3) (H' := [(0, some q2), z7]) len_C_47 kr kr kr kr ltn ltn dd kr kr ?_)
 exact yt (sp 23 [z5, z10, (4, ii s2.2)]) [(0, some q2)] 1 (Aw.oreg (ye (sp 23 [z5, z10, (4, ii (w64 (s2.2 + (1 : Int)))), (12, ii s2.2), (13, ii (w64 (s2.2 + (1 : Int))))]) [(0, some q2)] 1 (hN2 (z3, (w64 (s2.2 + (1 : Int)))) _ _ _ (some_some hh) (el [some 0] (rens_sp kr (ro nr_C_90 (rs (.sref 0 [] 0 (List.length s2.1) 8) (ri rl_n)))) (hn nr_C_47 hs_nil)))))
theorem low_laws_eqShade : LW 83 ⟨35, [(.tmp 4)], (.seq (.reg false (rg 83 0)) (.seq (.seq (.reg false (rg 83 1)) (.cond (.t 9) (.seq (.reg false (rg 83 2)) .ret) .skip)) (.seq (.seq (.reg false (rg 83 3)) (.cond (.t 14) (.seq (.reg false (rg 83 4)) .ret) .skip)) (.seq (.seq (.reg false (rg 83 5)) (.cond (.t 19) (.seq (.reg false (rg 83 6)) .ret) .skip)) (.seq (.seq (.reg false (rg 83 7)) (.cond (.t 24) (.seq (.reg false (rg 83 8)) .ret) .skip)) (.seq (.seq (.reg false (rg 83 9)) (.cond (.t 29) (.seq (.reg false (rg 83 10)) .ret) .skip)) (.seq (.seq (.reg false (rg 83 11)) (.cond (.t 34) (.seq (.reg false (rg 83 12)) .ret) .skip)) (.seq (.reg false (rg 83 13)) .ret))))))))⟩ := kr
noncomputable def F_laws_eqShade (x_a : DShade) (x_b : DShade) : Option Bool :=
 cond (!(x_a.There == x_b.There))
  (some false)
  (cond (!(x_a.Write == x_b.Write))
   (some false)
   (cond (!(x_a.User == x_b.User))
    (some false)
    (cond (!decide (x_a.Page = x_b.Page))
     (some false)
     (cond (!decide (x_a.Frame = x_b.Frame))
      (some false)
      (cond (!(x_a.Ready == x_b.Ready))
       (some false)
       (some true))))))
theorem laws_eqShade_fn {x_a : DShade} {x_b : DShade} {R_ : Bool} (hh : F_laws_eqShade x_a x_b = some R_) : Fn Try.prog 83 [.agg (C_45 x_a), .agg (C_45 x_b)] (.bool R_) := by
 let z1 : EH := (0, some ⟨45, (C_45 x_a)⟩); let z2 : EH := (1, some ⟨45, (C_45 x_b)⟩); let z3 := (2, pp 0); let z4 := (3, pp 1); let z5 := (4, bb false)
 unfold F_laws_eqShade at hh
 refine Fn.start low_laws_eqShade [0, 1] (E := sp 35 [(0, .agg (C_45 x_a)), (1, .agg (C_45 x_b))]) kr (v := bb R_) (Hr := []) (k := 0) kr (sy [2, 3] [0, 1] (sp 35 [z3, z4]) [z1, z2] 2 (Aw.seq (sy [2, 3, 9] [0, 1] (sp 35 [z3, z4, (9, bb (!(x_a.There == x_b.There)))]) [z1, z2] 2 ?_)))
 rcases cond_some hh with ⟨hb, hh⟩ | ⟨hb, hh⟩
 · exact cT hb (sy [4] [] (sp 35 [z5]) [] 2 (Aw.ret (then_r (gvbs hh))))
 refine cF hb (Aw.xskip (fun _ _ _ hq => then_m hq) (Aw.seq (sy [2, 3, 14] [0, 1] (sp 35 [z3, z4, (14, bb (!(x_a.Write == x_b.Write)))]) [z1, z2] 2 ?_)))
 rcases cond_some hh with ⟨hb, hh⟩ | ⟨hb, hh⟩
 · exact cT hb (sy [4] [] (sp 35 [z5]) [] 2 (Aw.ret (then_r (gvbs hh))))
 refine cF hb (Aw.xskip (fun _ _ _ hq => then_m hq) (Aw.seq (sy [2, 3, 19] [0, 1] (sp 35 [z3, z4, (19, bb (!(x_a.User == x_b.User)))]) [z1, z2] 2 ?_)))
 rcases cond_some hh with ⟨hb, hh⟩ | ⟨hb, hh⟩
 · exact cT hb (sy [4] [] (sp 35 [z5]) [] 2 (Aw.ret (then_r (gvbs hh))))
 refine cF hb (Aw.xskip (fun _ _ _ hq => then_m hq) (Aw.seq (sy [2, 3, 24] [0, 1] (sp 35 [z3, z4, (24, bb (!decide (x_a.Page = x_b.Page)))]) [z1, z2] 2 ?_)))
 rcases cond_some hh with ⟨hb, hh⟩ | ⟨hb, hh⟩
 · exact cT hb (sy [4] [] (sp 35 [z5]) [] 2 (Aw.ret (then_r (gvbs hh))))
 refine cF hb (Aw.xskip (fun _ _ _ hq => then_m hq) (Aw.seq (sy [2, 3, 29] [0, 1] (sp 35 [z3, z4, (29, bb (!decide (x_a.Frame = x_b.Frame)))]) [z1, z2] 2 ?_)))
 rcases cond_some hh with ⟨hb, hh⟩ | ⟨hb, hh⟩
 · exact cT hb (sy [4] [] (sp 35 [z5]) [] 2 (Aw.ret (then_r (gvbs hh))))
 refine cF hb (Aw.xskip (fun _ _ _ hq => then_m hq) (Aw.seq (sy [34] [] (sp 35 [(34, bb (!(x_a.Ready == x_b.Ready)))]) [] 2 ?_)))
 rcases cond_some hh with ⟨hb, hh⟩ | ⟨hb, hh⟩
 · exact cT hb (sy [4] [] (sp 35 [z5]) [] 2 (Aw.ret (then_r (gvbs hh))))
 exact cF hb (Aw.xskip (fun _ _ _ hq => then_m hq) (sy [4] [] (sp 35 [(4, bb true)]) [] 2 (Aw.ret (gvbs hh))))
theorem low_laws_eqLine : LW 61 ⟨21, [(.tmp 4)], (.seq (.reg false (rg 61 0)) (.seq (.seq (.reg false (rg 61 1)) (.cond (.t 9) (.seq (.reg false (rg 61 2)) .ret) .skip)) (.seq (.seq (.reg false (rg 61 3)) (.cond (.t 14) (.seq (.reg false (rg 61 4)) .ret) .skip)) (.seq (.seq (.reg false (rg 61 5)) (.cond (.t 20) (.seq (.reg false (rg 61 6)) .ret) .skip)) (.seq (.reg false (rg 61 7)) .ret)))))⟩ := kr
noncomputable def F_laws_eqLine (x_a : DLine) (x_b : DLine) : Option Bool :=
 cond (!decide (x_a.Tag = x_b.Tag))
  (some false)
  (cond (!decide (x_a.At = x_b.At))
   (some false)
   (Option.bind (F_laws_eqShade x_a.What x_b.What) fun v1 =>
   cond (!v1)
    (some false)
    (some true)))
theorem laws_eqLine_fn {x_a : DLine} {x_b : DLine} {R_ : Bool} (hh : F_laws_eqLine x_a x_b = some R_) : Fn Try.prog 61 [.agg (.int .i64 x_a.Tag :: .int .i64 x_a.At :: ru45 x_a.What []), .agg (.int .i64 x_b.Tag :: .int .i64 x_b.At :: ru45 x_b.What [])] (.bool R_) := by
 let z1 := (14, bb (!decide (x_a.At = x_b.At)))
 unfold F_laws_eqLine at hh
 refine Fn.start low_laws_eqLine [0, 1] (E := sp 21 [(0, .agg (C_47 x_a)), (1, .agg (C_47 x_b))]) kr (v := bb R_) (Hr := []) (k := 0) kr (Aw.sreg [2, 3] [0, 1] ?_)
 let q1 : Root := ⟨47, (ii x_a.Tag :: ii x_a.At :: ru45 x_a.What [])⟩; let q2 : Root := ⟨47, (ii x_b.Tag :: ii x_b.At :: ru45 x_b.What [])⟩
 refine yt (sp 21 [(2, pp 0), (3, pp 1)]) [(0, some q1), (1, some q2)] 2 (Aw.seq (sy [2, 3, 9] [0, 1] (sp 21 [(2, pp 0), (3, pp 1), (9, bb (!decide (x_a.Tag = x_b.Tag)))]) [(0, some q1), (1, some q2)] 2 ?_))
 rcases cond_some hh with ⟨hb, hh⟩ | ⟨hb, hh⟩
 · exact cT hb (sy [4] [] (sp 21 [(4, bb false)]) [] 2 (Aw.ret (then_r (gvbs hh))))
 refine cF hb (Aw.xskip (fun _ _ _ hq => then_m hq) (Aw.seq (sy [2, 3, 14] [0, 1] (sp 21 [(2, pp 0), (3, pp 1), z1]) [(0, some q1), (1, some q2)] 2 ?_)))
 rcases cond_some hh with ⟨hb, hh⟩ | ⟨hb, hh⟩
 · exact cT hb (sy [4] [] (sp 21 [(4, bb false)]) [] 2 (Aw.ret (then_r (gvbs hh))))
 refine cF hb (Aw.xskip (fun _ _ _ hq => then_m hq) (Aw.seq (Aw.sreg [20] [] (yj 4  (sp 21 [(2, pp 0), (3, pp 1), z1, (15, .ptr 0 [] 2), (16, .agg (C_45 x_a.What)), (17, .ptr 1 [] 2), (18, .agg (C_45 x_b.What))]) [(0, some q1), (1, some q2)] 2 ?_))))
 obtain ⟨v1, hv1, hh⟩ := bind_some hh
 refine ys (.call 83 [(.t 16), (.t 18)]) (some 19) (oc (laws_eqShade_fn hv1) ?_)
 refine yt (sp 21 [(20, bb (!v1))]) [] 2 ?_
 rcases cond_some hh with ⟨hb, hh⟩ | ⟨hb, hh⟩
 · exact cT hb (sy [4] [] (sp 21 [(4, bb false)]) [] 2 (Aw.ret (then_r (gvbs hh))))
 exact cF hb (Aw.xskip (fun _ _ _ hq => then_m hq) (sy [4] [] (sp 21 [(4, bb true)]) [] 2 (Aw.ret (gvbs hh))))
theorem low_laws_eqLineS : LW 27 ⟨27, [(.tmp 4)], (.seq (.reg false (rg 27 0)) (.seq (.seq (.reg false (rg 27 1)) (.cond (.t 10) (.seq (.reg false (rg 27 2)) .ret) .skip)) (.seq (.seq (.reg false (rg 27 3)) (.block 0 (.loop (.seq (.seq (.reg false (rg 27 4)) (.cond (.t 14) .skip (.exit 0))) (.seq (.block 1 (.seq (.regd (rg 27 5) (rg 27 6)) (.cond (.t 26) (.seq (.reg false (rg 27 7)) .ret) .skip))) (.reg false (rg 27 8))))))) (.seq (.reg false (rg 27 10)) .ret))))⟩ := kr
noncomputable def F_laws_eqLineS_j1  (s1 : Unit) : Option Bool :=
 some true
noncomputable def F_laws_eqLineS_l2 (x_a : List DLine) (x_b : List DLine) (s2 : Int) : Option (LO Int (JO Unit Bool)) :=
 cond (decide (s2 < (((List.length x_a) : Nat) : Int)))
  (grd ((0 : Int) ≤ s2 ∧ s2 < ((List.length x_a : Nat) : Int)) (grd ((0 : Int) ≤ s2 ∧ s2 < ((List.length x_b : Nat) : Int)) (Option.bind (F_laws_eqLine (DLine.mk ((List.getD x_a (Int.toNat s2) default).Tag) ((List.getD x_a (Int.toNat s2) default).At) (DShade.mk (((List.getD x_a (Int.toNat s2) default).What).There) (((List.getD x_a (Int.toNat s2) default).What).Write) (((List.getD x_a (Int.toNat s2) default).What).User) (((List.getD x_a (Int.toNat s2) default).What).Page) (((List.getD x_a (Int.toNat s2) default).What).Frame) (((List.getD x_a (Int.toNat s2) default).What).Ready))) (DLine.mk ((List.getD x_b (Int.toNat s2) default).Tag) ((List.getD x_b (Int.toNat s2) default).At) (DShade.mk (((List.getD x_b (Int.toNat s2) default).What).There) (((List.getD x_b (Int.toNat s2) default).What).Write) (((List.getD x_b (Int.toNat s2) default).What).User) (((List.getD x_b (Int.toNat s2) default).What).Page) (((List.getD x_b (Int.toNat s2) default).What).Frame) (((List.getD x_b (Int.toNat s2) default).What).Ready)))) fun v3 =>
   cond (!v3)
    (some (.ret (.out false)))
    (some (.next (w64 (s2 + (1 : Int))))))))
  (some (.ret (.go ())))
noncomputable def F_laws_eqLineS (x_a : List DLine) (x_b : List DLine) : Option Bool :=
 cond (!decide ((((List.length x_a) : Nat) : Int) = (((List.length x_b) : Nat) : Int)))
  (some false)
  (Option.bind (Option.bind (iter (F_laws_eqLineS_l2 x_a x_b) (0 : Int)) LO.val) fun j1 =>
   JO.run j1 (F_laws_eqLineS_j1))
theorem laws_eqLineS_fn {x_a : List DLine} {x_b : List DLine} {R_ : Bool} (hh : F_laws_eqLineS x_a x_b = some R_) : Fn Try.prog 27 [bo C_47 x_a, bo C_47 x_b] (.bool R_) := by
 let z3 := (0, bo C_47 x_a); let z4 := (1, bo C_47 x_b); let z5 := (17, bo C_47 x_a)
 unfold F_laws_eqLineS at hh
 refine Fn.start low_laws_eqLineS [0, 1] (E := sp 27 [z3, z4]) kr (v := bb R_) (Hr := []) (k := 0) kr (sy [0, 1] [] (sp 27 [z3, z4]) [] 0 (Aw.seq (sy [0, 1, 10] [] (sp 27 [z3, z4, (10, bb (!decide ((((List.length x_a) : Nat) : Int) = (((List.length x_b) : Nat) : Int))))]) [] 0 ?_)))
 rcases cond_some hh with ⟨hb, hh⟩ | ⟨hb, hh⟩
 · exact cT hb (sy [4] [] (sp 27 [(4, bb false)]) [] 0 (Aw.ret (then_r (gvbs hh))))
 refine cF hb (Aw.xskip (fun _ _ _ hq => then_m hq) ?_)
 obtain ⟨j1, hh, hk1⟩ := bind_some hh
 refine Aw.join (S := Unit) (fun s1 => sp 27 []) (fun s1 => []) 0 (fun s1 => F_laws_eqLineS_j1 s1 = some R_) ?_ ?_
 · intro s1 hh
   unfold F_laws_eqLineS_j1 at hh
   exact sy [4] [] (sp 27 [(4, bb true)]) [] 0 (Aw.ret (gvbs hh))
 intro Q1 hN1 hR1 hE1
 refine sy [0, 1, 5] [] (sp 27 [z3, z4, (5, ii 0)]) [] 0 (Aw.block ?_)
 obtain ⟨o2, hi2, hk2⟩ := bind_some hh
 refine Aw.iter (fun (s2 : Int) => sp 27 [(0, bo C_47 x_a), (1, bo C_47 x_b), (5, ii s2)]) (fun (s2 : Int) => []) 0 hi2 (el [] (rens_sp kr (ro nr_C_47 (ro nr_C_47 (ri rl_n)))) hs_nil) ?_
 intro s2 u2 Q2 hh hN2 hX2 hR2
 let z6 := (14, bb (decide (s2 < (((List.length x_a) : Nat) : Int)))); let z7 : EV := (19, .bptr (fl C_47 x_a) (Int.toNat s2 * 8)); let z1 := List.getD x_a (Int.toNat s2) default; let z8 : EV := (20, .agg [ii (z1.Tag), ii (z1.At), bb ((z1.What).There), bb ((z1.What).Write), bb ((z1.What).User), ii ((z1.What).Page), ii ((z1.What).Frame), bb ((z1.What).Ready)]); let z2 := List.getD x_b (Int.toNat s2) default
 unfold F_laws_eqLineS_l2 at hh
 refine Aw.seq (sy [0, 1, 5, 14] [] (sp 27 [z3, z4, (5, ii s2), z6]) [] 0 ?_)
 rcases cond_sf hh with ⟨hb, hh⟩ | ⟨hb, hh⟩
 · refine cF hb (Aw.exit (then_x (hX2 _ _ _ _ _ (some_some hh) ?_)))
   intro hout
   rw [hout] at hk2
   refine blk_x ?_
   obtain rfl := some_some hk2
   exact hN1 () _ _ _ hk1 (el [] (rens_sp kr rl_n) hs_nil)
 refine cT hb (Aw.xskip (fun _ _ _ hq => then_m hq) (Aw.seq (Aw.block (Aw.sregd [0, 1, 5, 26] [] [] kr (dj 2 (sp 27 [z3, z4, (5, ii s2), z6, z5, (18, ii s2)]) [] 0 ?_)))))
 obtain ⟨hg47, hh⟩ := grd_some hh
 refine ds (.iadr 8 (.t 17) (.t 18)) (some 19) (ydo_q rfl kr (op_iadr (kd := .i64) (c := C_47) (xs := x_a) len_C_47 dd kr kr hg47 ?_))
 refine ds (.load true 8 (.t 19)) (some 20) (ydo_q rfl kr (op_loadbA (c := C_47) (xs := x_a) (o := Int.toNat s2 * 8) (i := (Int.toNat s2)) (off := 0) (v := .agg [ii (z1.Tag), ii (z1.At), bb ((z1.What).There), bb ((z1.What).Write), bb ((z1.What).User), ii ((z1.What).Page), ii ((z1.What).Frame), bb ((z1.What).Ready)]) len_C_47 kr ltn ltn dd kr ?_))
 refine dj 2 (sp 27 [z3, z4, (5, ii s2), z6, z5, (18, ii s2), z7, z8, (21, bo C_47 x_b), (22, ii s2)]) [] 0 ?_
 obtain ⟨hg48, hh⟩ := grd_some hh
 refine ds (.iadr 8 (.t 21) (.t 22)) (some 23) (ydo_q rfl kr (op_iadr (kd := .i64) (c := C_47) (xs := x_b) len_C_47 dd kr kr hg48 ?_))
 refine ds (.load true 8 (.t 23)) (some 24) (ydo_q rfl kr (op_loadbA (c := C_47) (xs := x_b) (o := Int.toNat s2 * 8) (i := (Int.toNat s2)) (off := 0) (v := .agg [ii (z2.Tag), ii (z2.At), bb ((z2.What).There), bb ((z2.What).Write), bb ((z2.What).User), ii ((z2.What).Page), ii ((z2.What).Frame), bb ((z2.What).Ready)]) len_C_47 kr ltn ltn dd kr ?_))
 refine dt (sp 27 [z3, z4, (5, ii s2), z6, z5, (18, ii s2), z7, z8, (21, bo C_47 x_b), (22, ii s2), (23, .bptr (fl C_47 x_b) (Int.toNat s2 * 8)), (24, .agg [ii (z2.Tag), ii (z2.At), bb ((z2.What).There), bb ((z2.What).Write), bb ((z2.What).User), ii ((z2.What).Page), ii ((z2.What).Frame), bb ((z2.What).Ready)])]) [] 0 ?_
 obtain ⟨v3, hv3, hh⟩ := bind_some hh
 refine ys (.call 61 [(.t 20), (.t 24)]) (some 25) (oc (laws_eqLine_fn hv3) ?_)
 refine yt (sp 27 [z3, z4, (5, ii s2), (26, bb (!v3))]) [] 0 ?_
 rcases cond_some hh with ⟨hb, hh⟩ | ⟨hb, hh⟩
 · refine cT hb (sy [4] [] (sp 27 [(4, bb false)]) [] 0 (Aw.ret (blk_r (then_r ?_))))
   refine hR2 _ _ _ _ (some_some hh) ?_
   intro hout
   rw [hout] at hk2
   refine blk_r ?_
   obtain rfl := some_some hk2
   refine hR1 _ _ _ ?_
   rw [some_some hk1]
   exact gvb
 exact cF hb (Aw.xskip (fun _ _ _ hq => blk_m (then_m hq)) (Aw.oreg (ye (sp 27 [z3, z4, (5, ii (w64 (s2 + (1 : Int)))), (15, ii s2), (16, ii (w64 (s2 + (1 : Int)))), (26, bb (!v3))]) [] 0 (hN2 (w64 (s2 + (1 : Int))) _ _ _ (some_some hh) (el [] (rens_sp kr (ro nr_C_47 (ro nr_C_47 (ri rl_n)))) hs_nil)))))
theorem low_laws_szLineS : LW 23 ⟨12, [(.tmp 4)], (.seq (.reg false (rg 23 0)) (.seq (.reg false (rg 23 1)) (.seq (.seq (.reg false (rg 23 2)) (.cond (.t 10) (.seq (.reg false (rg 23 3)) .ret) .skip)) (.seq (.reg false (rg 23 4)) .ret))))⟩ := kr
noncomputable def F_laws_szLineS (x_a : List DLine) (x_left : Int) : Option Int :=
 cond (decide ((w64 (x_left - (((List.length x_a) : Nat) : Int))) < (0 : Int)))
  (some (-1 : Int))
  (some (w64 (x_left - (((List.length x_a) : Nat) : Int))))
theorem laws_szLineS_fn {x_a : List DLine} {x_left : Int} {R_ : Int} (hh : F_laws_szLineS x_a x_left = some R_) : Fn Try.prog 23 [bo C_90 x_a, .int .i64 x_left] (.int .i64 R_) := by
 let z1 := (1, ii (w64 (x_left - (((List.length x_a) : Nat) : Int))))
 unfold F_laws_szLineS at hh
 refine Fn.start low_laws_szLineS [0, 1] (E := sp 12 [(0, bo C_90 x_a), (1, ii x_left)]) kr (v := ii R_) (Hr := []) (k := 0) kr (sy [0, 1] [] (sp 12 [(0, bo C_90 x_a), (1, ii x_left)]) [] 0 (sy [1] [] (sp 12 [z1]) [] 0 (Aw.seq (sy [1, 10] [] (sp 12 [z1, (10, bb (decide ((w64 (x_left - (((List.length x_a) : Nat) : Int))) < (0 : Int))))]) [] 0 ?_))))
 rcases cond_some hh with ⟨hb, hh⟩ | ⟨hb, hh⟩
 · exact cT hb (sy [4] [] (sp 12 [(4, ii (-1))]) [] 0 (Aw.ret (then_r (gvis hh))))
 exact cF hb (Aw.xskip (fun _ _ _ hq => then_m hq) (sy [4] [] (sp 12 [(4, ii (w64 (x_left - (((List.length x_a) : Nat) : Int))))]) [] 0 (Aw.ret (gvis hh))))
end Go.Proofs.Ytbnjdmclnojlmaa
