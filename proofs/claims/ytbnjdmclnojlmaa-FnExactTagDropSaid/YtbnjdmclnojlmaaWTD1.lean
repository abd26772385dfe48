/- Plain functions of the program, and that it hands back what they say. Made by program. -/
import Derived.Test.YtbnjdmclnojlmaaWT
import Derived.Test.YtbnjdmclnojlmaaProg
namespace Go.Proofs.Ytbnjdmclnojlmaa
open Go.RowKit
set_option maxRecDepth 100000
set_option linter.all false
set_option maxHeartbeats 0
theorem low_impl_TagDrop : LW 20 ⟨25, [(.tmp 4)], (.seq (.reg false (rg 20 0)) (.seq (.reg false (rg 20 1)) (.seq (.seq (.reg false (rg 20 2)) (.block 0 (.loop (.seq (.reg false (rg 20 3)) (.seq (.cond (.t 12) .skip (.exit 0)) (.seq (.block 1 (.seq (.reg false (rg 20 4)) (.seq (.reg false (rg 20 5)) (.cond (.t 18) (.reg false (rg 20 6)) .skip)))) (.reg false (rg 20 7)))))))) (.seq (.reg false (rg 20 9)) .ret))))⟩ := kr
noncomputable def F_impl_TagDrop_j1  (s1 : (List DLine)) : Option (List DLine) :=
 some s1
noncomputable def F_impl_TagDrop_j3 (s2 : (List DLine) × Int) (s3 : (List DLine)) : Option (LO ((List DLine) × Int) (JO (List DLine) (List DLine))) :=
 some (.next (s3, (w64 (s2.2 + (1 : Int)))))
noncomputable def F_impl_TagDrop_l2 (x_tags : List DLine) (x_g : Int) (s2 : (List DLine) × Int) : Option (LO ((List DLine) × Int) (JO (List DLine) (List DLine))) :=
 cond (decide (s2.2 < (((List.length x_tags) : Nat) : Int)))
  (Option.bind (grd ((0 : Int) ≤ s2.2 ∧ s2.2 < ((List.length x_tags : Nat) : Int)) (cond (!decide (((List.getD x_tags (Int.toNat s2.2) default).Tag) = x_g))
   (grd ((List.length s2.1 + List.length ([(DLine.mk ((List.getD x_tags (Int.toNat s2.2) default).Tag) ((List.getD x_tags (Int.toNat s2.2) default).At) (DShade.mk (((List.getD x_tags (Int.toNat s2.2) default).What).There) (((List.getD x_tags (Int.toNat s2.2) default).What).Write) (((List.getD x_tags (Int.toNat s2.2) default).What).User) (((List.getD x_tags (Int.toNat s2.2) default).What).Page) (((List.getD x_tags (Int.toNat s2.2) default).What).Frame) (((List.getD x_tags (Int.toNat s2.2) default).What).Ready)))] : List DLine)) * 48 ≤ 2 ^ 47 ∧ List.length s2.1 + List.length ([(DLine.mk ((List.getD x_tags (Int.toNat s2.2) default).Tag) ((List.getD x_tags (Int.toNat s2.2) default).At) (DShade.mk (((List.getD x_tags (Int.toNat s2.2) default).What).There) (((List.getD x_tags (Int.toNat s2.2) default).What).Write) (((List.getD x_tags (Int.toNat s2.2) default).What).User) (((List.getD x_tags (Int.toNat s2.2) default).What).Page) (((List.getD x_tags (Int.toNat s2.2) default).What).Frame) (((List.getD x_tags (Int.toNat s2.2) default).What).Ready)))] : List DLine) ≤ 2 ^ 47) (some (.go (s2.1 ++ ([(DLine.mk ((List.getD x_tags (Int.toNat s2.2) default).Tag) ((List.getD x_tags (Int.toNat s2.2) default).At) (DShade.mk (((List.getD x_tags (Int.toNat s2.2) default).What).There) (((List.getD x_tags (Int.toNat s2.2) default).What).Write) (((List.getD x_tags (Int.toNat s2.2) default).What).User) (((List.getD x_tags (Int.toNat s2.2) default).What).Page) (((List.getD x_tags (Int.toNat s2.2) default).What).Frame) (((List.getD x_tags (Int.toNat s2.2) default).What).Ready)))] : List DLine)))))
   (some (.go s2.1)))) fun j3 =>
   JO.run j3 (F_impl_TagDrop_j3 s2))
  (some (.ret (.go s2.1)))
noncomputable def F_impl_TagDrop (x_tags : List DLine) (x_g : Int) : Option (List DLine) :=
 Option.bind (Option.bind (iter (F_impl_TagDrop_l2 x_tags x_g) (([] : List DLine), (0 : Int))) LO.val) fun j1 =>
  JO.run j1 (F_impl_TagDrop_j1)
theorem impl_TagDrop_fn {x_tags : List DLine} {x_g : Int} {R_ : (List DLine)} (hh : F_impl_TagDrop x_tags x_g = some R_) : Fn Try.prog 20 [bo C_47 x_tags, .int .i64 x_g] (.own 47 8 (List.length R_) (fl C_47 R_)) := by
 let z2 := (0, bo C_47 x_tags); let z3 := (1, ii x_g); let z4 := (10, ii (((List.length x_tags) : Nat) : Int)); let z5 := (9, bo C_47 x_tags)
 unfold F_impl_TagDrop at hh
 refine Fn.start low_impl_TagDrop [0, 1] (E := sp 25 [z2, z3]) kr (v := .sref 0 [] 0 (List.length R_) 8) (Hr := [(0, some (rC47 R_))]) (k := 1) kr (sy [0, 1] [] (sp 25 [z2, z3]) [] 0 (sy [0, 1, 5] [0] (sp 25 [z2, z3, (5, .sref 0 [] 0 0 8)]) [(0, some ⟨47, []⟩)] 1 ?_))
 obtain ⟨j1, hh, hk1⟩ := bind_some hh
 refine Aw.join (S := (List DLine)) (fun s1 => sp 25 [(5, .sref 0 [] 0 (List.length s1) 8)]) (fun s1 => [(0, some (rC47 s1))]) 1 (fun s1 => F_impl_TagDrop_j1 s1 = some R_) ?_ ?_
 · intro s1 hh
   unfold F_impl_TagDrop_j1 at hh
   refine sy [4] [0] (sp 25 [(4, .sref 0 [] 0 (List.length s1) 8)]) [(0, some (rC47 s1))] 1 (Aw.ret ?_)
   rw [some_some hh]
   exact gives (r' := .sref 0 [] 0 (List.length s1) 8) kr (Ent.list [some 0] rfl rfl (Nat.zero_le _) (rens_1 ren_sy) (hn nr_C_47 hs_nil))
 intro Q1 hN1 hR1 hE1
 refine sy [1, 5, 9, 10, 11] [0] (sp 25 [z3, (5, .sref 0 [] 0 0 8), z5, z4, (11, ii 0)]) [(0, some ⟨47, []⟩)] 1 (Aw.block ?_)
 obtain ⟨o2, hi2, hk2⟩ := bind_some hh
 refine Aw.iter (fun (s2 : (List DLine) × Int) => sp 25 [(1, ii x_g), (5, .sref 0 [] 0 (List.length s2.1) 8), (9, bo C_47 x_tags), (10, ii (((List.length x_tags) : Nat) : Int)), (11, ii s2.2)]) (fun (s2 : (List DLine) × Int) => [(0, some (rC47 s2.1))]) 1 hi2 (el [some 0] (rens_sp kr (ri (rs (.sref 0 [] 0 0 8) (ro nr_C_47 (ri (ri rl_n)))))) (hn nr_C_47 hs_nil)) ?_
 intro s2 u2 Q2 hh hN2 hX2 hR2
 let z6 : EH := (0, some (rC47 s2.1)); let z7 := (11, ii s2.2); let z8 : EV := (19, .sref 0 [] 0 (List.length s2.1) 8); let z9 : EV := (5, .sref 0 [] 0 (List.length s2.1) 8); let z1 := List.getD x_tags (Int.toNat s2.2) default; let z10 := (18, bb (!decide ((z1.Tag) = x_g))); let z11 : EV := (20, .agg [ii (z1.Tag), ii (z1.At), bb ((z1.What).There), bb ((z1.What).Write), bb ((z1.What).User), ii ((z1.What).Page), ii ((z1.What).Frame), bb ((z1.What).Ready)])
 unfold F_impl_TagDrop_l2 at hh
 refine sy [1, 5, 9, 10, 11, 12] [0] (sp 25 [z3, z9, z5, z4, z7, (12, bb (decide (s2.2 < (((List.length x_tags) : Nat) : Int))))]) [z6] 1 (Aw.seq ?_)
 rcases cond_sf hh with ⟨hb, hh⟩ | ⟨hb, hh⟩
 · refine cF hb (Aw.exit (then_x (hX2 _ _ _ _ _ (some_some hh) ?_)))
   intro hout
   rw [hout] at hk2
   refine blk_x ?_
   obtain rfl := some_some hk2
   exact hN1 s2.1 _ _ _ hk1 (el [some 0] (rens_sp kr (rs (.sref 0 [] 0 (List.length s2.1) 8) rl_n)) (hn nr_C_47 hs_nil))
 refine cT hb (Aw.xskip (fun _ _ _ hq => then_m hq) ?_)
 obtain ⟨j3, hh, hk3⟩ := bind_some hh
 refine Aw.join (S := (List DLine)) (fun s3 => sp 25 [(1, ii x_g), (5, .sref 0 [] 0 (List.length s3) 8), (9, bo C_47 x_tags), (10, ii (((List.length x_tags) : Nat) : Int)), (11, ii s2.2)]) (fun s3 => [(0, some (rC47 s3))]) 1 (fun s3 => F_impl_TagDrop_j3 s2 s3 = some u2) ?_ ?_
 · intro s3 hh
   unfold F_impl_TagDrop_j3 at hh
   exact Aw.oreg (ye (sp 25 [z3, (5, .sref 0 [] 0 (List.length s3) 8), z5, z4, (11, ii (w64 (s2.2 + (1 : Int)))), (23, ii (w64 (s2.2 + (1 : Int))))]) [(0, some (rC47 s3))] 1 (hN2 (s3, (w64 (s2.2 + (1 : Int)))) _ _ _ (some_some hh) (el [some 0] (rens_sp kr (ri (rs (.sref 0 [] 0 (List.length s3) 8) (ro nr_C_47 (ri (ri rl_n)))))) (hn nr_C_47 hs_nil))))
 intro Q3 hN3 hR3 hE3
 refine Aw.block (Aw.sreg [1, 5, 7, 9, 10, 11] [0, 1] ?_)
 obtain ⟨hg58, hh⟩ := grd_some hh
 refine ys (.iadr 8 (.t 9) (.t 11)) (some 13) (op_iadr (kd := .i64) (c := C_47) (xs := x_tags) len_C_47 dd kr kr hg58 ?_)
 refine ys (.load true 8 (.t 13)) (some 14) (op_loadbA (c := C_47) (xs := x_tags) (o := Int.toNat s2.2 * 8) (i := (Int.toNat s2.2)) (off := 0) (v := .agg [ii (z1.Tag), ii (z1.At), bb ((z1.What).There), bb ((z1.What).Write), bb ((z1.What).User), ii ((z1.What).Page), ii ((z1.What).Frame), bb ((z1.What).Ready)]) len_C_47 kr ltn ltn dd kr ?_)
 let q1 : Root := ⟨47, [ii (z1.Tag), ii (z1.At), bb ((z1.What).There), bb ((z1.What).Write), bb ((z1.What).User), ii ((z1.What).Page), ii ((z1.What).Frame), bb ((z1.What).Ready)]⟩
 refine yt (sp 25 [z3, z9, (7, pp 1), z5, z4, z7]) [z6, (1, some q1)] 2 (sy [1, 5, 7, 9, 10, 11, 18] [0, 1] (sp 25 [z3, z9, (7, pp 1), z5, z4, z7, z10]) [z6, (1, some q1)] 2 ?_)
 rcases cond_sf hh with ⟨hb, hh⟩ | ⟨hb, hh⟩
 · refine cF hb (Aw.skip (blk_m ?_))
   obtain rfl := some_some hh
   exact hN3 s2.1 _ _ _ hk3 (el [some 0] (rens_sp kr (ri (rs (.sref 0 [] 0 (List.length s2.1) 8) (ro nr_C_47 (ri (ri rl_n)))))) (hn nr_C_47 hs_nil))
 refine cT hb (Aw.oreg (yu 3 [z8, z11, (21, .sref 2 [] 0 1 8)] [(2, some q1), z6, (1, some q1)] 3 ?_))
 obtain ⟨hg60, hh⟩ := grd_some hh
 refine ys (.app 47 8 48 zc2 (.t 19) (.t 21)) (some 22) (op_app (c := C_47) (xs := s2.1) (ys := ([z1] : List DLine)) (r := 0) (k := (List.length s2.1)) (π := []) eqn len_C_47 kr kr kr hg60 ?_)
 let q2 : Root := (rC47 (s2.1 ++ ([z1] : List DLine)))
 refine ye (sp 25 [z3, (5, .sref 3 [] 0 (List.length (s2.1 ++ ([z1] : List DLine))) 8), (7, pp 1), z5, z4, z7, z10, z8, z11, (21, .sref 2 [] 0 1 8), (22, .sref 3 [] 0 (List.length (s2.1 ++ ([z1] : List DLine))) 8)]) [(3, some q2), (0, none), (2, some q1), z6, (1, some q1)] 4 (blk_m ?_)
 obtain rfl := some_some hh
 exact hN3 (s2.1 ++ ([z1] : List DLine)) _ _ _ hk3 (el [some 3] (rens_sp kr (ri (rs (.sref 3 [] 0 (List.length (s2.1 ++ ([z1] : List DLine))) 8) (ro nr_C_47 (ri (ri rl_n)))))) (hn nr_C_47 hs_nil))
theorem low_spec_TagDrop : LW 21 ⟨29, [(.tmp 4)], (.seq (.reg false (rg 21 0)) (.seq (.reg false (rg 21 1)) (.seq (.seq (.reg false (rg 21 2)) (.block 0 (.loop (.seq (.seq (.reg false (rg 21 3)) (.cond (.t 11) .skip (.exit 0))) (.seq (.block 1 (.seq (.reg false (rg 21 4)) (.cond (.t 20) (.reg false (rg 21 5)) .skip))) (.reg false (rg 21 6))))))) (.seq (.reg false (rg 21 8)) .ret))))⟩ := kr
noncomputable def F_spec_TagDrop_j1  (s1 : (List DLine)) : Option (List DLine) :=
 some s1
noncomputable def F_spec_TagDrop_j3 (s2 : (List DLine) × Int) (s3 : (List DLine)) : Option (LO ((List DLine) × Int) (JO (List DLine) (List DLine))) :=
 some (.next (s3, (w64 (s2.2 + (1 : Int)))))
noncomputable def F_spec_TagDrop_l2 (x_tags : List DLine) (x_g : Int) (s2 : (List DLine) × Int) : Option (LO ((List DLine) × Int) (JO (List DLine) (List DLine))) :=
 cond (decide (s2.2 < (((List.length x_tags) : Nat) : Int)))
  (Option.bind (grd ((0 : Int) ≤ s2.2 ∧ s2.2 < ((List.length x_tags : Nat) : Int)) (cond (!decide (((List.getD x_tags (Int.toNat s2.2) default).Tag) = x_g))
   (grd ((0 : Int) ≤ s2.2 ∧ s2.2 < ((List.length x_tags : Nat) : Int)) (grd ((List.length s2.1 + List.length ([(DLine.mk ((List.getD x_tags (Int.toNat s2.2) default).Tag) ((List.getD x_tags (Int.toNat s2.2) default).At) (DShade.mk (((List.getD x_tags (Int.toNat s2.2) default).What).There) (((List.getD x_tags (Int.toNat s2.2) default).What).Write) (((List.getD x_tags (Int.toNat s2.2) default).What).User) (((List.getD x_tags (Int.toNat s2.2) default).What).Page) (((List.getD x_tags (Int.toNat s2.2) default).What).Frame) (((List.getD x_tags (Int.toNat s2.2) default).What).Ready)))] : List DLine)) * 48 ≤ 2 ^ 47 ∧ List.length s2.1 + List.length ([(DLine.mk ((List.getD x_tags (Int.toNat s2.2) default).Tag) ((List.getD x_tags (Int.toNat s2.2) default).At) (DShade.mk (((List.getD x_tags (Int.toNat s2.2) default).What).There) (((List.getD x_tags (Int.toNat s2.2) default).What).Write) (((List.getD x_tags (Int.toNat s2.2) default).What).User) (((List.getD x_tags (Int.toNat s2.2) default).What).Page) (((List.getD x_tags (Int.toNat s2.2) default).What).Frame) (((List.getD x_tags (Int.toNat s2.2) default).What).Ready)))] : List DLine) ≤ 2 ^ 47) (some (.go (s2.1 ++ ([(DLine.mk ((List.getD x_tags (Int.toNat s2.2) default).Tag) ((List.getD x_tags (Int.toNat s2.2) default).At) (DShade.mk (((List.getD x_tags (Int.toNat s2.2) default).What).There) (((List.getD x_tags (Int.toNat s2.2) default).What).Write) (((List.getD x_tags (Int.toNat s2.2) default).What).User) (((List.getD x_tags (Int.toNat s2.2) default).What).Page) (((List.getD x_tags (Int.toNat s2.2) default).What).Frame) (((List.getD x_tags (Int.toNat s2.2) default).What).Ready)))] : List DLine))))))
   (some (.go s2.1)))) fun j3 =>
   JO.run j3 (F_spec_TagDrop_j3 s2))
  (some (.ret (.go s2.1)))
noncomputable def F_spec_TagDrop (x_tags : List DLine) (x_g : Int) : Option (List DLine) :=
 Option.bind (Option.bind (iter (F_spec_TagDrop_l2 x_tags x_g) (([] : List DLine), (0 : Int))) LO.val) fun j1 =>
  JO.run j1 (F_spec_TagDrop_j1)
theorem spec_TagDrop_fn {x_tags : List DLine} {x_g : Int} {R_ : (List DLine)} (hh : F_spec_TagDrop x_tags x_g = some R_) : Fn Try.prog 21 [bo C_47 x_tags, .int .i64 x_g] (.own 47 8 (List.length R_) (fl C_47 R_)) := by
 let z2 := (0, bo C_47 x_tags); let z3 := (1, ii x_g)
 unfold F_spec_TagDrop at hh
 refine Fn.start low_spec_TagDrop [0, 1] (E := sp 29 [z2, z3]) kr (v := .sref 0 [] 0 (List.length R_) 8) (Hr := [(0, some (rC47 R_))]) (k := 1) kr (sy [0, 1] [] (sp 29 [z2, z3]) [] 0 (sy [0, 1, 5] [0] (sp 29 [z2, z3, (5, .sref 0 [] 0 0 8)]) [(0, some ⟨47, []⟩)] 1 ?_))
 obtain ⟨j1, hh, hk1⟩ := bind_some hh
 refine Aw.join (S := (List DLine)) (fun s1 => sp 29 [(5, .sref 0 [] 0 (List.length s1) 8)]) (fun s1 => [(0, some (rC47 s1))]) 1 (fun s1 => F_spec_TagDrop_j1 s1 = some R_) ?_ ?_
 · intro s1 hh
   unfold F_spec_TagDrop_j1 at hh
   refine sy [4] [0] (sp 29 [(4, .sref 0 [] 0 (List.length s1) 8)]) [(0, some (rC47 s1))] 1 (Aw.ret ?_)
   rw [some_some hh]
   exact gives (r' := .sref 0 [] 0 (List.length s1) 8) kr (Ent.list [some 0] rfl rfl (Nat.zero_le _) (rens_1 ren_sy) (hn nr_C_47 hs_nil))
 intro Q1 hN1 hR1 hE1
 refine sy [0, 1, 5, 6] [0] (sp 29 [z2, z3, (5, .sref 0 [] 0 0 8), (6, ii 0)]) [(0, some ⟨47, []⟩)] 1 (Aw.block ?_)
 obtain ⟨o2, hi2, hk2⟩ := bind_some hh
 refine Aw.iter (fun (s2 : (List DLine) × Int) => sp 29 [(0, bo C_47 x_tags), (1, ii x_g), (5, .sref 0 [] 0 (List.length s2.1) 8), (6, ii s2.2)]) (fun (s2 : (List DLine) × Int) => [(0, some (rC47 s2.1))]) 1 hi2 (el [some 0] (rens_sp kr (ro nr_C_47 (ri (rs (.sref 0 [] 0 0 8) (ri rl_n))))) (hn nr_C_47 hs_nil)) ?_
 intro s2 u2 Q2 hh hN2 hX2 hR2
 let z4 : EH := (0, some (rC47 s2.1)); let z5 := (11, bb (decide (s2.2 < (((List.length x_tags) : Nat) : Int)))); let z6 : EV := (21, .sref 0 [] 0 (List.length s2.1) 8); let z7 : EV := (24, .bptr (fl C_47 x_tags) (Int.toNat s2.2 * 8)); let z8 : EV := (5, .sref 0 [] 0 (List.length s2.1) 8); let z1 := List.getD x_tags (Int.toNat s2.2) default; let z9 := (20, bb (!decide ((z1.Tag) = x_g))); let z10 : EV := (25, .agg [ii (z1.Tag), ii (z1.At), bb ((z1.What).There), bb ((z1.What).Write), bb ((z1.What).User), ii ((z1.What).Page), ii ((z1.What).Frame), bb ((z1.What).Ready)])
 unfold F_spec_TagDrop_l2 at hh
 refine Aw.seq (sy [0, 1, 5, 6, 11] [0] (sp 29 [z2, z3, z8, (6, ii s2.2), z5]) [z4] 1 ?_)
 rcases cond_sf hh with ⟨hb, hh⟩ | ⟨hb, hh⟩
 · refine cF hb (Aw.exit (then_x (hX2 _ _ _ _ _ (some_some hh) ?_)))
   intro hout
   rw [hout] at hk2
   refine blk_x ?_
   obtain rfl := some_some hk2
   exact hN1 s2.1 _ _ _ hk1 (el [some 0] (rens_sp kr (rs (.sref 0 [] 0 (List.length s2.1) 8) rl_n)) (hn nr_C_47 hs_nil))
 refine cT hb (Aw.xskip (fun _ _ _ hq => then_m hq) ?_)
 obtain ⟨j3, hh, hk3⟩ := bind_some hh
 refine Aw.join (S := (List DLine)) (fun s3 => sp 29 [(0, bo C_47 x_tags), (1, ii x_g), (5, .sref 0 [] 0 (List.length s3) 8), (6, ii s2.2)]) (fun s3 => [(0, some (rC47 s3))]) 1 (fun s3 => F_spec_TagDrop_j3 s2 s3 = some u2) ?_ ?_
 · intro s3 hh
   unfold F_spec_TagDrop_j3 at hh
   exact Aw.oreg (ye (sp 29 [z2, z3, (5, .sref 0 [] 0 (List.length s3) 8), (6, ii (w64 (s2.2 + (1 : Int)))), (12, ii s2.2), (13, ii (w64 (s2.2 + (1 : Int))))]) [(0, some (rC47 s3))] 1 (hN2 (s3, (w64 (s2.2 + (1 : Int)))) _ _ _ (some_some hh) (el [some 0] (rens_sp kr (ro nr_C_47 (ri (rs (.sref 0 [] 0 (List.length s3) 8) (ri rl_n))))) (hn nr_C_47 hs_nil))))
 intro Q3 hN3 hR3 hE3
 refine Aw.block (Aw.sreg [0, 1, 5, 6, 20] [0] (yj 2  (sp 29 [z2, z3, z8, (6, ii s2.2), z5, (14, bo C_47 x_tags), (15, ii s2.2)]) [z4] 1 ?_))
 obtain ⟨hg92, hh⟩ := grd_some hh
 refine ys (.iadr 8 (.t 14) (.t 15)) (some 16) (op_iadr (kd := .i64) (c := C_47) (xs := x_tags) len_C_47 dd kr kr hg92 ?_)
 refine yu 1 [(16, .bptr (fl C_47 x_tags) (Int.toNat s2.2 * 8)), (17, .bptr (fl C_47 x_tags) (Int.toNat s2.2 * 8 + 0))] [z4] 1 (ys (.load false 1 (.t 17)) (some 18) (op_loadb (c := C_47) (xs := x_tags) (o := Int.toNat s2.2 * 8 + 0) (i := (Int.toNat s2.2)) (off := 0) (v := ii (z1.Tag)) len_C_47 kr ltn ltn dd kr ?_))
 refine yt (sp 29 [z2, z3, z8, (6, ii s2.2), z9]) [z4] 1 ?_
 rcases cond_sf hh with ⟨hb, hh⟩ | ⟨hb, hh⟩
 · refine cF hb (Aw.skip (blk_m ?_))
   obtain rfl := some_some hh
   exact hN3 s2.1 _ _ _ hk3 (el [some 0] (rens_sp kr (ro nr_C_47 (ri (rs (.sref 0 [] 0 (List.length s2.1) 8) (ri rl_n))))) (hn nr_C_47 hs_nil))
 refine cT hb (Aw.oreg (yu 3 [z6, (22, bo C_47 x_tags), (23, ii s2.2)] [z4] 1 ?_))
 obtain ⟨hg95, hh⟩ := grd_some hh
 refine ys (.iadr 8 (.t 22) (.t 23)) (some 24) (op_iadr (kd := .i64) (c := C_47) (xs := x_tags) len_C_47 dd kr kr hg95 ?_)
 refine ys (.load true 8 (.t 24)) (some 25) (op_loadbA (c := C_47) (xs := x_tags) (o := Int.toNat s2.2 * 8) (i := (Int.toNat s2.2)) (off := 0) (v := .agg [ii (z1.Tag), ii (z1.At), bb ((z1.What).There), bb ((z1.What).Write), bb ((z1.What).User), ii ((z1.What).Page), ii ((z1.What).Frame), bb ((z1.What).Ready)]) len_C_47 kr ltn ltn dd kr ?_)
 let q1 : Root := ⟨47, [ii (z1.Tag), ii (z1.At), bb ((z1.What).There), bb ((z1.What).Write), bb ((z1.What).User), ii ((z1.What).Page), ii ((z1.What).Frame), bb ((z1.What).Ready)]⟩
 refine yu 1 [z7, z10, (26, .sref 1 [] 0 1 8)] [(1, some q1), z4] 2 ?_
 obtain ⟨hg96, hh⟩ := grd_some hh
 refine ys (.app 47 8 48 zc2 (.t 21) (.t 26)) (some 27) (op_app (c := C_47) (xs := s2.1) (ys := ([z1] : List DLine)) (r := 0) (k := (List.length s2.1)) (π := []) eqn len_C_47 kr kr kr hg96 ?_)
 let q2 : Root := (rC47 (s2.1 ++ ([z1] : List DLine)))
 refine ye (sp 29 [z2, z3, (5, .sref 2 [] 0 (List.length (s2.1 ++ ([z1] : List DLine))) 8), (6, ii s2.2), z9, z6, (22, bo C_47 x_tags), (23, ii s2.2), z7, z10, (26, .sref 1 [] 0 1 8), (27, .sref 2 [] 0 (List.length (s2.1 ++ ([z1] : List DLine))) 8)]) [(2, some q2), (0, none), (1, some q1), z4] 3 (blk_m ?_)
 obtain rfl := some_some hh
 exact hN3 (s2.1 ++ ([z1] : List DLine)) _ _ _ hk3 (el [some 2] (rens_sp kr (ro nr_C_47 (ri (rs (.sref 2 [] 0 (List.length (s2.1 ++ ([z1] : List DLine))) 8) (ri rl_n))))) (hn nr_C_47 hs_nil))
end Go.Proofs.Ytbnjdmclnojlmaa
