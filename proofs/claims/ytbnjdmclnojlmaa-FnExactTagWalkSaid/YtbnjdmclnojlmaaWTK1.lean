/- Plain functions of the program, and that it hands back what they say. Made by program. -/
import Derived.Test.YtbnjdmclnojlmaaWT
import Derived.Test.YtbnjdmclnojlmaaProg
import Derived.Test.YtbnjdmclnojlmaaWHC1
import Derived.Test.YtbnjdmclnojlmaaWHO1
import Derived.Test.YtbnjdmclnojlmaaWO1
import Derived.Test.YtbnjdmclnojlmaaWSO1
namespace Go.Proofs.Ytbnjdmclnojlmaa
open Go.RowKit
set_option maxRecDepth 100000
set_option linter.all false
set_option maxHeartbeats 0
theorem low_impl_lineOk : LW 34 ⟨26, [(.tmp 4)], (.seq (.reg false (rg 34 0)) (.seq (.regd (rg 34 1) (rg 34 2)) .ret))⟩ := kr
noncomputable def F_impl_lineOk (x_h : DHost) (x_line : DLine) : Option Bool :=
 Option.bind (F_impl_isThere x_h.Guests x_line.Tag) fun v1 =>
 cond v1
  (Option.bind (F_impl_pageOk x_line.At) fun v2 =>
  cond v2
   (Option.bind (F_impl_shadeOf x_h x_line.Tag x_line.At) fun v3 =>
   some ((x_line.What.There == v3.There) && ((x_line.What.Write == v3.Write) && ((x_line.What.User == v3.User) && (decide (x_line.What.Page = v3.Page) && (decide (x_line.What.Frame = v3.Frame) && ((x_line.What.Ready == v3.Ready) && true)))))))
   (some false))
  (some false)
theorem impl_lineOk_fn {x_h : DHost} {x_line : DLine} {R_ : Bool} (hh : F_impl_lineOk x_h x_line = some R_) : Fn Try.prog 34 [.agg (B_26 x_h), .agg (C_47 x_line)] (.bool R_) := by
 let z1 : EH := (0, some (rB26 x_h)); let z2 : EH := (1, some ⟨47, (C_47 x_line)⟩); let z3 := (10, bb true); let z4 : EV := (11, .ptr 1 [] 1); let z5 := (12, ii x_line.At); let z6 := (2, pp 0); let z7 := (3, pp 1); let z8 : EV := (5, .ptr 0 [] 1); let z9 := (6, bo B_108 x_h.Guests); let z10 := (7, pp 1); let z11 := (8, ii x_line.Tag); let z12 := (9, bb true)
 unfold F_impl_lineOk at hh
 refine Fn.start low_impl_lineOk [0, 1] (E := sp 26 [(0, .agg (B_26 x_h)), (1, .agg (C_47 x_line))]) kr (v := bb R_) (Hr := []) (k := 0) kr (sy [2, 3] [0, 1] (sp 26 [z6, z7]) [z1, z2] 2 (Aw.sregd [4] [] [] kr (dj 4 (sp 26 [z6, z7, z8, z9, z10, z11]) [z1, z2] 2 ?_)))
 obtain ⟨v1, hv1, hh⟩ := bind_some hh
 refine ds (.call 46 [(.t 6), (.t 8)]) (some 9) (ydo_n rfl (op_call (r := bb v1) (v := bb v1) (Hr := []) (n' := 2) (impl_isThere_fn hv1) (clz_v (vs := [bo B_108 x_h.Guests, ii x_line.Tag]) kr (clz_c (clo_same (clean_bor (cleans_fl cl_B_108))) (cz1 clz_n))) rfl rfl kr ⟨⟨⟨by decide, agr_name (n := 2) (n0 := 2) (r := bb v1) (v := bb v1) (Hr := []) (n' := 2) kr dd⟩, Hld.un ?_⟩⟩))
 refine dj 1 (sp 26 [z6, z7, z8, z9, z10, z11, (9, bb v1), (10, bb v1)]) [z1, z2] 2 ?_
 rcases cond_sf hh with ⟨hb, hh⟩ | ⟨hb, hh⟩
 · exact dbs (t := 9) hb kr (dbs (t := 10) hb kr (dt (sp 26 [z6, z7, z8, z9, z10, z11, (9, bb false), (10, bb false), (11, .und), (12, .und), (13, .und), (14, bb false), (15, bb false), (16, .und), (17, .und), (18, .und), (19, .und), (20, .und), (21, .und), (22, .und), (23, .und)]) [z1, z2] 2 (yt (sp 26 [(4, bb false)]) [] 2 (Aw.ret (gvbs hh)))))
 refine dbs (t := 9) hb kr (dbs (t := 10) hb kr (dj 2 (sp 26 [z6, z7, z8, z9, z10, z11, z12, z3, z4, z5]) [z1, z2] 2 ?_))
 obtain ⟨v2, hv2, hh⟩ := bind_some hh
 refine dsg (op := (.call 69 [(.t 12)])) (d := (some 13)) (t := 10) (want := true) (os := (List.drop 9 (rg 34 1))) kr kr rfl (ydo_n rfl (op_call (r := bb v2) (v := bb v2) (Hr := []) (n' := 2) (impl_pageOk_fn hv2) (clz_v (vs := [ii x_line.At]) kr (cz1 clz_n)) rfl rfl kr ⟨⟨⟨by decide, agr_name (n := 2) (n0 := 2) (r := bb v2) (v := bb v2) (Hr := []) (n' := 2) kr dd⟩, Hld.un ?_⟩⟩))
 refine dj 2 (sp 26 [z6, z7, z8, z9, z10, z11, z12, z3, z4, z5, (13, bb v2), (14, bb v2), (15, bb v2)]) [z1, z2] 2 ?_
 rcases cond_sf hh with ⟨hb, hh⟩ | ⟨hb, hh⟩
 · exact dbs (t := 13) hb kr (dbs (t := 14) hb kr (dbs (t := 15) hb kr (dt (sp 26 [z6, z7, z8, z9, z10, z11, z12, z3, z4, z5, (13, bb false), (14, bb false), (15, bb false), (16, .und), (17, .und), (18, .und), (19, .und), (20, .und), (21, .und), (22, .und), (23, .und)]) [z1, z2] 2 (yt (sp 26 [(4, bb false)]) [] 2 (Aw.ret (gvbs hh))))))
 refine dbs (t := 13) hb kr (dbs (t := 14) hb kr (dbs (t := 15) hb kr (dj 7 (sp 26 [z6, z7, z8, z9, z10, z11, z12, z3, z4, z5, (13, bb true), (14, bb true), (15, bb true), (16, .ptr 1 [] 2), (17, .agg (C_45 x_line.What)), (18, .agg (B_26 x_h)), (19, pp 1), (20, ii x_line.Tag), (21, .ptr 1 [] 1), (22, ii x_line.At)]) [z1, z2] 2 ?_)))
 obtain ⟨v3, hv3, hh⟩ := bind_some hh
 refine dsg (op := (.call 48 [(.t 18), (.t 20), (.t 22)])) (d := (some 23)) (t := 15) (want := true) (os := (List.drop 19 (rg 34 1))) kr kr rfl (ydo_n rfl (op_call (r := .agg (C_45 v3)) (v := .agg (C_45 v3)) (Hr := []) (n' := 2) (impl_shadeOf_fn hv3) (clz_v (vs := [.agg (B_26 x_h), ii x_line.Tag, ii x_line.At]) kr (clz_c (clo_same (clean_agg (cl_B_26 _))) (cz1 (cz1 clz_n)))) rfl rfl kr ⟨⟨⟨by decide, agr_name (n := 2) (n0 := 2) (r := .agg (C_45 v3)) (v := .agg (C_45 v3)) (Hr := []) (n' := 2) kr dd⟩, Hld.un ?_⟩⟩))
 exact dt (sp 26 [z6, z7, z8, z9, z10, z11, z12, z3, z4, z5, (13, bb true), (14, bb true), (15, bb true), (16, .ptr 1 [] 2), (17, .agg (C_45 x_line.What)), (18, .agg (B_26 x_h)), (19, pp 1), (20, ii x_line.Tag), (21, .ptr 1 [] 1), (22, ii x_line.At), (23, .agg (C_45 v3))]) [z1, z2] 2 (yt (sp 26 [(4, bb ((x_line.What.There == v3.There) && ((x_line.What.Write == v3.Write) && ((x_line.What.User == v3.User) && (decide (x_line.What.Page = v3.Page) && (decide (x_line.What.Frame = v3.Frame) && ((x_line.What.Ready == v3.Ready) && true)))))))]) [] 2 (Aw.ret (gvbs hh)))
theorem low_impl_lineFor : LW 35 ⟨28, [(.tmp 6)], (.seq (.reg false (rg 35 0)) (.seq (.seq (.reg false (rg 35 1)) (.block 0 (.loop (.seq (.reg false (rg 35 2)) (.seq (.cond (.t 12) .skip (.exit 0)) (.seq (.block 1 (.seq (.reg false (rg 35 3)) (.seq (.reg false (rg 35 4)) (.cond (.t 25) (.seq (.reg false (rg 35 5)) .ret) .skip)))) (.reg false (rg 35 6)))))))) (.seq (.reg false (rg 35 8)) .ret)))⟩ := kr
noncomputable def F_impl_lineFor_j1  (s1 : Unit) : Option Int :=
 some (-1 : Int)
noncomputable def F_impl_lineFor_j3 (s2 : Int) (s3 : Unit) : Option (LO Int (JO Unit Int)) :=
 some (.next (w64 (s2 + (1 : Int))))
noncomputable def F_impl_lineFor_l2 (x_tags : List DLine) (x_g : Int) (x_number : Int) (s2 : Int) : Option (LO Int (JO Unit Int)) :=
 cond (decide (s2 < (((List.length x_tags) : Nat) : Int)))
  (Option.bind (grd ((0 : Int) ≤ s2 ∧ s2 < ((List.length x_tags : Nat) : Int)) (cond (decide (((List.getD x_tags (Int.toNat s2) default).Tag) = x_g))
   (cond (decide (((List.getD x_tags (Int.toNat s2) default).At) = x_number))
    (some (.out (.ret (.out s2))))
    (some (.go ())))
   (some (.go ())))) fun j3 =>
   JO.run j3 (F_impl_lineFor_j3 s2))
  (some (.ret (.go ())))
noncomputable def F_impl_lineFor (x_tags : List DLine) (x_g : Int) (x_number : Int) : Option Int :=
 Option.bind (Option.bind (iter (F_impl_lineFor_l2 x_tags x_g x_number) (0 : Int)) LO.val) fun j1 =>
  JO.run j1 (F_impl_lineFor_j1)
theorem impl_lineFor_fn {x_tags : List DLine} {x_g : Int} {x_number : Int} {R_ : Int} (hh : F_impl_lineFor x_tags x_g x_number = some R_) : Fn Try.prog 35 [bo C_47 x_tags, .int .i64 x_g, .int .i64 x_number] (.int .i64 R_) := by
 let z2 := (1, ii x_g); let z3 := (10, ii (((List.length x_tags) : Nat) : Int)); let z4 := (2, ii x_number); let z5 := (9, bo C_47 x_tags)
 unfold F_impl_lineFor at hh
 refine Fn.start low_impl_lineFor [0, 1, 2] (E := sp 28 [(0, bo C_47 x_tags), z2, z4]) kr (v := ii R_) (Hr := []) (k := 0) kr (sy [0, 1, 2] [] (sp 28 [(0, bo C_47 x_tags), z2, z4]) [] 0 ?_)
 obtain ⟨j1, hh, hk1⟩ := bind_some hh
 refine Aw.join (S := Unit) (fun s1 => sp 28 []) (fun s1 => []) 0 (fun s1 => F_impl_lineFor_j1 s1 = some R_) ?_ ?_
 · intro s1 hh
   unfold F_impl_lineFor_j1 at hh
   exact sy [6] [] (sp 28 [(6, ii (-1))]) [] 0 (Aw.ret (gvis hh))
 intro Q1 hN1 hR1 hE1
 refine sy [1, 2, 9, 10, 11] [] (sp 28 [z2, z4, z5, z3, (11, ii 0)]) [] 0 (Aw.block ?_)
 obtain ⟨o2, hi2, hk2⟩ := bind_some hh
 refine Aw.iter (fun (s2 : Int) => sp 28 [(1, ii x_g), (2, ii x_number), (9, bo C_47 x_tags), (10, ii (((List.length x_tags) : Nat) : Int)), (11, ii s2)]) (fun (s2 : Int) => []) 0 hi2 (el [] (rens_sp kr (ri (ri (ro nr_C_47 (ri (ri rl_n)))))) hs_nil) ?_
 intro s2 u2 Q2 hh hN2 hX2 hR2
 let z6 := (11, ii s2); let z7 := (12, bb (decide (s2 < (((List.length x_tags) : Nat) : Int)))); let z1 := List.getD x_tags (Int.toNat s2) default
 unfold F_impl_lineFor_l2 at hh
 refine sy [1, 2, 9, 10, 11, 12] [] (sp 28 [z2, z4, z5, z3, z6, z7]) [] 0 (Aw.seq ?_)
 rcases cond_sf hh with ⟨hb, hh⟩ | ⟨hb, hh⟩
 · refine cF hb (Aw.exit (then_x (hX2 _ _ _ _ _ (some_some hh) ?_)))
   intro hout
   rw [hout] at hk2
   refine blk_x ?_
   obtain rfl := some_some hk2
   exact hN1 () _ _ _ hk1 (el [] (rens_sp kr rl_n) hs_nil)
 refine cT hb (Aw.xskip (fun _ _ _ hq => then_m hq) ?_)
 obtain ⟨j3, hh, hk3⟩ := bind_some hh
 refine Aw.join (S := Unit) (fun s3 => sp 28 [(1, ii x_g), (2, ii x_number), (9, bo C_47 x_tags), (10, ii (((List.length x_tags) : Nat) : Int)), (11, ii s2)]) (fun s3 => []) 0 (fun s3 => F_impl_lineFor_j3 s2 s3 = some u2) ?_ ?_
 · intro s3 hh
   unfold F_impl_lineFor_j3 at hh
   exact Aw.oreg (ye (sp 28 [z2, z4, z5, z3, (11, ii (w64 (s2 + (1 : Int)))), (27, ii (w64 (s2 + (1 : Int))))]) [] 0 (hN2 (w64 (s2 + (1 : Int))) _ _ _ (some_some hh) (el [] (rens_sp kr (ri (ri (ro nr_C_47 (ri (ri rl_n)))))) hs_nil)))
 intro Q3 hN3 hR3 hE3
 refine Aw.block (Aw.sreg [1, 2, 7, 8, 9, 10, 11] [0] (yj 1  (sp 28 [z2, z4, z5, z3, z6, z7, (13, ii s2)]) [] 0 ?_))
 obtain ⟨hg36, hh⟩ := grd_some hh
 refine ys (.iadr 8 (.t 9) (.t 11)) (some 14) (op_iadr (kd := .i64) (c := C_47) (xs := x_tags) len_C_47 dd kr kr hg36 ?_)
 refine ys (.load true 8 (.t 14)) (some 15) (op_loadbA (c := C_47) (xs := x_tags) (o := Int.toNat s2 * 8) (i := (Int.toNat s2)) (off := 0) (v := .agg [ii (z1.Tag), ii (z1.At), bb ((z1.What).There), bb ((z1.What).Write), bb ((z1.What).User), ii ((z1.What).Page), ii ((z1.What).Frame), bb ((z1.What).Ready)]) len_C_47 kr ltn ltn dd kr ?_)
 let q1 : Root := ⟨47, [ii (z1.Tag), ii (z1.At), bb ((z1.What).There), bb ((z1.What).Write), bb ((z1.What).User), ii ((z1.What).Page), ii ((z1.What).Frame), bb ((z1.What).Ready)]⟩
 refine yt (sp 28 [z2, z4, (7, ii s2), (8, pp 0), z5, z3, z6]) [(0, some q1)] 1 (Aw.sreg [1, 2, 7, 9, 10, 11, 25] [] (yu 5 [(16, pp 0), (17, ii (z1.Tag)), (18, ii x_g), (19, bb (decide ((z1.Tag) = x_g))), (20, bb (decide ((z1.Tag) = x_g)))] [(0, some q1)] 1 ?_))
 rcases cond_sf hh with ⟨hb, hh⟩ | ⟨hb, hh⟩
 · refine yb 19 hb (yb 20 hb (yt (sp 28 [z2, z4, (7, ii s2), z5, z3, z6, (25, bb false)]) [] 1 (cF rfl (Aw.skip (blk_m ?_)))))
   obtain rfl := some_some hh
   exact hN3 () _ _ _ hk3 (el [] (rens_sp kr (ri (ri (ro nr_C_47 (ri (ri rl_n)))))) hs_nil)
 refine yb 19 hb (yb 20 hb (yt (sp 28 [z2, z4, (7, ii s2), z5, z3, z6, (25, bb (decide ((z1.At) = x_number)))]) [] 1 ?_))
 rcases cond_sf hh with ⟨hb, hh⟩ | ⟨hb, hh⟩
 · refine cF hb (Aw.skip (blk_m ?_))
   obtain rfl := some_some hh
   exact hN3 () _ _ _ hk3 (el [] (rens_sp kr (ri (ri (ro nr_C_47 (ri (ri rl_n)))))) hs_nil)
 refine cT hb (sy [6] [] (sp 28 [(6, ii s2)]) [] 1 (Aw.ret (blk_r ?_)))
 obtain rfl := some_some hh
 refine hR3 _ _ _ ((hR2 _ _ _ _ (some_some hk3) ?_))
 intro hout
 rw [hout] at hk2
 refine blk_r ?_
 obtain rfl := some_some hk2
 refine hR1 _ _ _ ?_
 rw [some_some hk1]
 exact gvi
theorem low_impl_TagsOk : LW 10 ⟨38, [(.tmp 4)], (.seq (.reg false (rg 10 0)) (.seq (.seq (.reg false (rg 10 1)) (.cond (.t 14) (.seq (.reg false (rg 10 2)) .ret) .skip)) (.seq (.seq (.reg false (rg 10 3)) (.block 0 (.loop (.seq (.reg false (rg 10 4)) (.seq (.cond (.t 18) .skip (.exit 0)) (.seq (.block 1 (.seq (.reg false (rg 10 5)) (.seq (.regd (rg 10 6) (rg 10 7)) (.cond (.t 36) (.seq (.reg false (rg 10 8)) .ret) .skip)))) (.reg false (rg 10 9)))))))) (.seq (.reg false (rg 10 11)) .ret))))⟩ := kr
noncomputable def F_impl_TagsOk_j2  (s2 : Unit) : Option Bool :=
 some true
noncomputable def F_impl_TagsOk_l3 (x_h : DHost) (x_tags : List DLine) (s3 : Int) : Option (LO Int (JO Unit Bool)) :=
 cond (decide (s3 < (((List.length x_tags) : Nat) : Int)))
  (grd ((0 : Int) ≤ s3 ∧ s3 < ((List.length x_tags : Nat) : Int)) (Option.bind (F_impl_lineOk x_h (DLine.mk ((List.getD x_tags (Int.toNat s3) default).Tag) ((List.getD x_tags (Int.toNat s3) default).At) (DShade.mk (((List.getD x_tags (Int.toNat s3) default).What).There) (((List.getD x_tags (Int.toNat s3) default).What).Write) (((List.getD x_tags (Int.toNat s3) default).What).User) (((List.getD x_tags (Int.toNat s3) default).What).Page) (((List.getD x_tags (Int.toNat s3) default).What).Frame) (((List.getD x_tags (Int.toNat s3) default).What).Ready)))) fun v4 =>
   cond (!v4)
    (some (.ret (.out false)))
    (grd ((0 : Int) ≤ (0 : Int) ∧ (0 : Int) ≤ s3 ∧ s3 ≤ ((List.length x_tags : Nat) : Int)) (Option.bind (F_impl_lineFor (List.take (Int.toNat s3 - Int.toNat (0 : Int)) (List.drop (Int.toNat (0 : Int)) x_tags)) ((List.getD x_tags (Int.toNat s3) default).Tag) ((List.getD x_tags (Int.toNat s3) default).At)) fun v5 =>
     cond (!decide (v5 = (-1 : Int)))
      (some (.ret (.out false)))
      (some (.next (w64 (s3 + (1 : Int)))))))))
  (some (.ret (.go ())))
noncomputable def F_impl_TagsOk (x_h : DHost) (x_tags : List DLine) : Option Bool :=
 Option.bind (F_impl_HostOk x_h) fun v1 =>
 cond (!v1)
  (some false)
  (cond (decide ((6 : Int) < (((List.length x_tags) : Nat) : Int)))
   (some false)
   (Option.bind (Option.bind (iter (F_impl_TagsOk_l3 x_h x_tags) (0 : Int)) LO.val) fun j2 =>
    JO.run j2 (F_impl_TagsOk_j2)))
theorem impl_TagsOk_fn {x_h : DHost} {x_tags : List DLine} {R_ : Bool} (hh : F_impl_TagsOk x_h x_tags = some R_) : Fn Try.prog 10 [.agg (B_26 x_h), bo C_47 x_tags] (.bool R_) := by
 let z4 : EH := (0, some (rB26 x_h)); let z5 := (1, bo C_47 x_tags); let z6 := (15, bo C_47 x_tags); let z7 := (16, ii (((List.length x_tags) : Nat) : Int)); let z8 := (2, pp 0); let z9 : EV := (22, .agg (B_26 x_h)); let z10 := (4, bb false); let z11 := (6, pp 1); let z1 := List.drop (Int.toNat (0 : Int)) x_tags
 unfold F_impl_TagsOk at hh
 refine Fn.start low_impl_TagsOk [0, 1] (E := sp 38 [(0, .agg (B_26 x_h)), z5]) kr (v := bb R_) (Hr := []) (k := 0) kr (sy [1, 2] [0] (sp 38 [z5, z8]) [z4] 1 (Aw.seq (Aw.sreg [1, 2, 14] [0] (yj 1  (sp 38 [z5, z8, (7, .agg (B_26 x_h))]) [z4] 1 ?_))))
 obtain ⟨v1, hv1, hh⟩ := bind_some hh
 refine ys (.call 12 [(.t 7)]) (some 8) (op_call (r := bb v1) (v := bb v1) (Hr := []) (n' := 1) (impl_HostOk_fn hv1) (clz_v (vs := [.agg (B_26 x_h)]) kr (clz_c (clo_same (clean_agg (cl_B_26 _))) clz_n)) rfl rfl kr ?_)
 refine yu 2 [(8, bb v1), (9, bb (!v1)), (10, bb (!v1))] [z4] 1 ?_
 rcases cond_some hh with ⟨hb, hh⟩ | ⟨hb, hh⟩
 · exact yb 9 hb (yb 10 hb (yt (sp 38 [z5, z8, (14, bb true)]) [z4] 1 (cT rfl (sy [4] [] (sp 38 [z10]) [] 1 (Aw.ret (then_r (gvbs hh)))))))
 refine yb 9 hb (yb 10 hb (yt (sp 38 [z5, z8, (14, bb (decide ((6 : Int) < (((List.length x_tags) : Nat) : Int))))]) [z4] 1 ?_))
 rcases cond_some hh with ⟨hb, hh⟩ | ⟨hb, hh⟩
 · exact cT hb (sy [4] [] (sp 38 [z10]) [] 1 (Aw.ret (then_r (gvbs hh))))
 refine cF hb (Aw.xskip (fun _ _ _ hq => then_m hq) ?_)
 obtain ⟨j2, hh, hk2⟩ := bind_some hh
 refine Aw.join (S := Unit) (fun s2 => sp 38 []) (fun s2 => []) 0 (fun s2 => F_impl_TagsOk_j2 s2 = some R_) ?_ ?_
 · intro s2 hh
   unfold F_impl_TagsOk_j2 at hh
   exact sy [4] [] (sp 38 [(4, bb true)]) [] 0 (Aw.ret (gvbs hh))
 intro Q2 hN2 hR2 hE2
 refine sy [1, 2, 15, 16, 17] [0] (sp 38 [z5, z8, z6, z7, (17, ii 0)]) [z4] 1 (Aw.block ?_)
 obtain ⟨o3, hi3, hk3⟩ := bind_some hh
 refine Aw.iter (fun (s3 : Int) => sp 38 [(1, bo C_47 x_tags), (2, pp 0), (15, bo C_47 x_tags), (16, ii (((List.length x_tags) : Nat) : Int)), (17, ii s3)]) (fun (s3 : Int) => [(0, some (rB26 x_h))]) 1 hi3 (el [some 0] (rens_sp kr (ro nr_C_47 (rp 0 (ro nr_C_47 (ri (ri rl_n)))))) (hq (rB26 x_h) (rens_same (nr_B_26 _)) hs_nil)) ?_
 intro s3 u3 Q3 hh hN3 hX3 hR3
 let z12 := (17, ii s3); let z13 := (18, bb (decide (s3 < (((List.length x_tags) : Nat) : Int)))); let z14 := (5, ii s3); let z3 := List.take (Int.toNat s3 - Int.toNat (0 : Int)) z1; let z2 := List.getD x_tags (Int.toNat s3) default; let z15 : EV := (23, .agg [ii (z2.Tag), ii (z2.At), bb ((z2.What).There), bb ((z2.What).Write), bb ((z2.What).User), ii ((z2.What).Page), ii ((z2.What).Frame), bb ((z2.What).Ready)])
 unfold F_impl_TagsOk_l3 at hh
 refine sy [1, 2, 15, 16, 17, 18] [0] (sp 38 [z5, z8, z6, z7, z12, z13]) [z4] 1 (Aw.seq ?_)
 rcases cond_sf hh with ⟨hb, hh⟩ | ⟨hb, hh⟩
 · refine cF hb (Aw.exit (then_x (hX3 _ _ _ _ _ (some_some hh) ?_)))
   intro hout
   rw [hout] at hk3
   refine blk_x ?_
   obtain rfl := some_some hk3
   exact hN2 () _ _ _ hk2 (el [] (rens_sp kr rl_n) hs_nil)
 refine cT hb (Aw.xskip (fun _ _ _ hq => then_m hq) (Aw.seq (Aw.block (Aw.sreg [1, 2, 5, 6, 15, 16, 17] [0, 1] (yj 1  (sp 38 [z5, z8, z6, z7, z12, z13, (19, ii s3)]) [z4] 1 ?_)))))
 obtain ⟨hg46, hh⟩ := grd_some hh
 refine ys (.iadr 8 (.t 15) (.t 17)) (some 20) (op_iadr (kd := .i64) (c := C_47) (xs := x_tags) len_C_47 dd kr kr hg46 ?_)
 refine ys (.load true 8 (.t 20)) (some 21) (op_loadbA (c := C_47) (xs := x_tags) (o := Int.toNat s3 * 8) (i := (Int.toNat s3)) (off := 0) (v := .agg [ii (z2.Tag), ii (z2.At), bb ((z2.What).There), bb ((z2.What).Write), bb ((z2.What).User), ii ((z2.What).Page), ii ((z2.What).Frame), bb ((z2.What).Ready)]) len_C_47 kr ltn ltn dd kr ?_)
 let q1 : Root := ⟨47, [ii (z2.Tag), ii (z2.At), bb ((z2.What).There), bb ((z2.What).Write), bb ((z2.What).User), ii ((z2.What).Page), ii ((z2.What).Frame), bb ((z2.What).Ready)]⟩; let z16 := (1, some q1)
 refine yt (sp 38 [z5, z8, z14, z11, z6, z7, z12]) [z4, z16] 2 (Aw.sregd [1, 2, 15, 16, 17, 36] [0] [] kr (dj 2 (sp 38 [z5, z8, z14, z11, z6, z7, z12, z9, z15]) [z4, z16] 2 ?_))
 obtain ⟨v4, hv4, hh⟩ := bind_some hh
 refine ds (.call 34 [(.t 22), (.t 23)]) (some 24) (ydo_n rfl (op_call (r := bb v4) (v := bb v4) (Hr := []) (n' := 2) (impl_lineOk_fn hv4) (clz_v (vs := [.agg (B_26 x_h), .agg [ii (z2.Tag), ii (z2.At), bb ((z2.What).There), bb ((z2.What).Write), bb ((z2.What).User), ii ((z2.What).Page), ii ((z2.What).Frame), bb ((z2.What).Ready)]]) kr (clz_c (clo_same (clean_agg (cl_B_26 _))) (cz1 clz_n))) rfl rfl kr ⟨⟨⟨by decide, agr_name (n := 2) (n0 := 2) (r := bb v4) (v := bb v4) (Hr := []) (n' := 2) kr dd⟩, Hld.un ?_⟩⟩))
 refine dj 2 (sp 38 [z5, z8, z14, z11, z6, z7, z12, z9, z15, (24, bb v4), (25, bb (!v4)), (26, bb (!v4))]) [z4, z16] 2 ?_
 rcases cond_some hh with ⟨hb, hh⟩ | ⟨hb, hh⟩
 · refine dbs (t := 25) hb kr (dbs (t := 26) hb kr (dt (sp 38 [z5, z8, z14, z11, z6, z7, z12, z9, z15, (24, bb v4), (25, bb true), (26, bb true), (27, .und), (28, .und), (29, .und), (30, .und), (31, .und), (32, .und), (33, .und)]) [z4, z16] 2 (yt (sp 38 [z5, z8, z6, z7, z12, (36, bb true)]) [z4] 2 (cT rfl (sy [4] [] (sp 38 [z10]) [] 2 (Aw.ret (blk_r (then_r ?_))))))))
   refine hR3 _ _ _ _ (some_some hh) ?_
   intro hout
   rw [hout] at hk3
   refine blk_r ?_
   obtain rfl := some_some hk3
   refine hR2 _ _ _ ?_
   rw [some_some hk2]
   exact gvb
 refine dbs (t := 25) hb kr (dbs (t := 26) hb kr (dj 2 (sp 38 [z5, z8, z14, z11, z6, z7, z12, z9, z15, (24, bb v4), (25, bb false), (26, bb false), (27, bo C_47 x_tags), (28, ii s3)]) [z4, z16] 2 ?_))
 obtain ⟨hg48, hh⟩ := grd_some hh
 refine dsg (op := (.slc 8 (.t 27) none (some (.t 28)))) (d := (some 29)) (t := 26) (want := false) (os := (List.drop 8 (rg 10 6))) kr kr rfl (ydo_q rfl kr (op_slc (c := C_47) (xs := x_tags) (l := (0 : Int)) (h := s3) len_C_47 kr kr kr hg48 ?_))
 refine dt (sp 38 [z5, z8, z14, z11, z6, z7, z12, z9, z15, (24, bb v4), (25, bb false), (26, bb false), (27, bo C_47 x_tags), (28, ii s3), (29, bo C_47 z3), (30, pp 1), (31, ii (z2.Tag)), (32, .ptr 1 [] 1), (33, ii (z2.At))]) [z4, z16] 2 ?_
 obtain ⟨v5, hv5, hh⟩ := bind_some hh
 let z17 := (36, bb (!decide (v5 = (-1 : Int))))
 refine yg (.call 35 [(.t 29), (.t 31), (.t 33)]) (some 34) 26 false (op_call (r := ii v5) (v := ii v5) (Hr := []) (n' := 2) (impl_lineFor_fn hv5) (clz_v (vs := [bo C_47 z3, ii (z2.Tag), ii (z2.At)]) kr (clz_c (clo_same (clean_bor (cleans_fl cl_C_47))) (cz1 (cz1 clz_n)))) rfl rfl kr ?_)
 refine yt (sp 38 [z5, z8, z6, z7, z12, z17]) [z4] 2 ?_
 rcases cond_some hh with ⟨hb, hh⟩ | ⟨hb, hh⟩
 · refine cT hb (sy [4] [] (sp 38 [z10]) [] 2 (Aw.ret (blk_r (then_r ?_))))
   refine hR3 _ _ _ _ (some_some hh) ?_
   intro hout
   rw [hout] at hk3
   refine blk_r ?_
   obtain rfl := some_some hk3
   refine hR2 _ _ _ ?_
   rw [some_some hk2]
   exact gvb
 exact cF hb (Aw.xskip (fun _ _ _ hq => blk_m (then_m hq)) (Aw.oreg (ye (sp 38 [z5, z8, z6, z7, (17, ii (w64 (s3 + (1 : Int)))), z17, (37, ii (w64 (s3 + (1 : Int))))]) [z4] 2 (hN3 (w64 (s3 + (1 : Int))) _ _ _ (some_some hh) (el [some 0] (rens_sp kr (ro nr_C_47 (rp 0 (ro nr_C_47 (ri (ri rl_n)))))) (hq (rB26 x_h) (rens_same (nr_B_26 _)) hs_nil))))))
theorem low_spec_TagsOk : LW 11 ⟨73, [(.tmp 4)], (.seq (.reg false (rg 11 0)) (.seq (.seq (.reg false (rg 11 1)) (.cond (.t 15) (.seq (.reg false (rg 11 2)) .ret) .skip)) (.seq (.seq (.reg false (rg 11 3)) (.block 0 (.loop (.seq (.seq (.reg false (rg 11 4)) (.cond (.t 19) .skip (.exit 0))) (.seq (.block 1 (.seq (.reg false (rg 11 5)) (.seq (.seq (.regd (rg 11 6) (rg 11 7)) (.cond (.t 49) (.seq (.reg false (rg 11 8)) .ret) .skip)) (.seq (.reg false (rg 11 9)) (.block 2 (.loop (.seq (.seq (.reg false (rg 11 10)) (.cond (.t 52) .skip (.exit 2))) (.seq (.block 3 (.seq (.reg true (rg 11 11)) (.cond (.t 72) (.seq (.reg false (rg 11 12)) .ret) .skip))) (.reg false (rg 11 13)))))))))) (.reg false (rg 11 15))))))) (.seq (.reg false (rg 11 17)) .ret))))⟩ := kr
noncomputable def F_spec_TagsOk_j2  (s2 : Unit) : Option Bool :=
 some true
noncomputable def F_spec_TagsOk_j4 (s3 : Int) (s4 : Unit) : Option (LO Int (JO Unit Bool)) :=
 some (.next (w64 (s3 + (1 : Int))))
noncomputable def F_spec_TagsOk_j9 (s8 : Int) (s9 : Unit) : Option (LO Int (JO Unit (LO Int (JO Unit Bool)))) :=
 some (.next (w64 (s8 + (1 : Int))))
noncomputable def F_spec_TagsOk_l8 (x_tags : List DLine) (s3 : Int) (s8 : Int) : Option (LO Int (JO Unit (LO Int (JO Unit Bool)))) :=
 cond (decide (s8 < s3))
  (Option.bind (grd ((0 : Int) ≤ s8 ∧ s8 < ((List.length x_tags : Nat) : Int)) (cond (decide (((List.getD x_tags (Int.toNat s8) default).Tag) = ((List.getD x_tags (Int.toNat s3) default).Tag)))
   (grd ((0 : Int) ≤ s8 ∧ s8 < ((List.length x_tags : Nat) : Int)) (cond (decide (((List.getD x_tags (Int.toNat s8) default).At) = ((List.getD x_tags (Int.toNat s3) default).At)))
    (some (.out (.ret (.out (.ret (.out false))))))
    (some (.go ()))))
   (some (.go ())))) fun j9 =>
   JO.run j9 (F_spec_TagsOk_j9 s8))
  (some (.ret (.go ())))
noncomputable def F_spec_TagsOk_l3 (x_h : DHost) (x_tags : List DLine) (s3 : Int) : Option (LO Int (JO Unit Bool)) :=
 cond (decide (s3 < (((List.length x_tags) : Nat) : Int)))
  (Option.bind (grd ((0 : Int) ≤ s3 ∧ s3 < ((List.length x_tags : Nat) : Int)) (Option.bind (F_spec_l4Live x_h ((List.getD x_tags (Int.toNat s3) default).Tag)) fun v5 =>
   cond (!v5)
    (some (.out (.ret (.out false))))
    (Option.bind (F_spec_l1In ((List.getD x_tags (Int.toNat s3) default).At) (0 : Int) (7 : Int)) fun v6 =>
    cond (!v6)
     (some (.out (.ret (.out false))))
     (Option.bind (F_spec_ShadowOf x_h ((List.getD x_tags (Int.toNat s3) default).Tag)) fun v7 =>
     grd ((0 : Int) ≤ ((List.getD x_tags (Int.toNat s3) default).At) ∧ ((List.getD x_tags (Int.toNat s3) default).At) < (((List.length v7) : Nat) : Int)) (cond (!((((List.getD v7 (Int.toNat ((List.getD x_tags (Int.toNat s3) default).At)) default).There) == (((List.getD x_tags (Int.toNat s3) default).What).There)) && ((((List.getD v7 (Int.toNat ((List.getD x_tags (Int.toNat s3) default).At)) default).Write) == (((List.getD x_tags (Int.toNat s3) default).What).Write)) && ((((List.getD v7 (Int.toNat ((List.getD x_tags (Int.toNat s3) default).At)) default).User) == (((List.getD x_tags (Int.toNat s3) default).What).User)) && (decide (((List.getD v7 (Int.toNat ((List.getD x_tags (Int.toNat s3) default).At)) default).Page) = (((List.getD x_tags (Int.toNat s3) default).What).Page)) && (decide (((List.getD v7 (Int.toNat ((List.getD x_tags (Int.toNat s3) default).At)) default).Frame) = (((List.getD x_tags (Int.toNat s3) default).What).Frame)) && ((((List.getD v7 (Int.toNat ((List.getD x_tags (Int.toNat s3) default).At)) default).Ready) == (((List.getD x_tags (Int.toNat s3) default).What).Ready)) && true)))))))
      (some (.out (.ret (.out false))))
      (Option.bind (iter (F_spec_TagsOk_l8 x_tags s3) (0 : Int)) LO.val)))))) fun j4 =>
   JO.run j4 (F_spec_TagsOk_j4 s3))
  (some (.ret (.go ())))
noncomputable def F_spec_TagsOk (x_h : DHost) (x_tags : List DLine) : Option Bool :=
 Option.bind (F_spec_HostOk x_h) fun v1 =>
 cond (!v1)
  (some false)
  (cond (decide ((6 : Int) < (((List.length x_tags) : Nat) : Int)))
   (some false)
   (Option.bind (Option.bind (iter (F_spec_TagsOk_l3 x_h x_tags) (0 : Int)) LO.val) fun j2 =>
    JO.run j2 (F_spec_TagsOk_j2)))
theorem spec_TagsOk_fn {x_h : DHost} {x_tags : List DLine} {R_ : Bool} (hh : F_spec_TagsOk x_h x_tags = some R_) : Fn Try.prog 11 [.agg (B_26 x_h), bo C_47 x_tags] (.bool R_) := by
 let z7 : EH := (0, some (rB26 x_h)); let z8 := (1, bo C_47 x_tags); let z9 := (2, pp 0); let z10 : EV := (26, .agg (B_26 x_h)); let z11 := (27, pp 1); let z12 := (30, bb false); let z13 := (31, bb false); let z14 : EV := (32, .ptr 1 [] 1); let z15 : EV := (38, .agg (B_26 x_h)); let z16 := (4, bb false); let z17 := (55, bo C_47 x_tags); let z18 := (6, pp 1); let z1 := List.drop 12 (rg 11 11); let z2 := List.drop 16 (rg 11 6); let z3 := List.drop 9 (rg 11 11)
 unfold F_spec_TagsOk at hh
 refine Fn.start low_spec_TagsOk [0, 1] (E := sp 73 [(0, .agg (B_26 x_h)), z8]) kr (v := bb R_) (Hr := []) (k := 0) kr (sy [1, 2] [0] (sp 73 [z8, z9]) [z7] 1 (Aw.seq (Aw.sreg [1, 2, 15] [0] (yj 1  (sp 73 [z8, z9, (8, .agg (B_26 x_h))]) [z7] 1 ?_))))
 obtain ⟨v1, hv1, hh⟩ := bind_some hh
 refine ys (.call 36 [(.t 8)]) (some 9) (op_call (r := bb v1) (v := bb v1) (Hr := []) (n' := 1) (spec_HostOk_fn hv1) (clz_v (vs := [.agg (B_26 x_h)]) kr (clz_c (clo_same (clean_agg (cl_B_26 _))) clz_n)) rfl rfl kr ?_)
 refine yu 2 [(9, bb v1), (10, bb (!v1)), (11, bb (!v1))] [z7] 1 ?_
 rcases cond_some hh with ⟨hb, hh⟩ | ⟨hb, hh⟩
 · exact yb 10 hb (yb 11 hb (yt (sp 73 [z8, z9, (15, bb true)]) [z7] 1 (cT rfl (sy [4] [] (sp 73 [z16]) [] 1 (Aw.ret (then_r (gvbs hh)))))))
 refine yb 10 hb (yb 11 hb (yt (sp 73 [z8, z9, (15, bb (decide ((6 : Int) < (((List.length x_tags) : Nat) : Int))))]) [z7] 1 ?_))
 rcases cond_some hh with ⟨hb, hh⟩ | ⟨hb, hh⟩
 · exact cT hb (sy [4] [] (sp 73 [z16]) [] 1 (Aw.ret (then_r (gvbs hh))))
 refine cF hb (Aw.xskip (fun _ _ _ hq => then_m hq) ?_)
 obtain ⟨j2, hh, hk2⟩ := bind_some hh
 refine Aw.join (S := Unit) (fun s2 => sp 73 []) (fun s2 => []) 0 (fun s2 => F_spec_TagsOk_j2 s2 = some R_) ?_ ?_
 · intro s2 hh
   unfold F_spec_TagsOk_j2 at hh
   exact sy [4] [] (sp 73 [(4, bb true)]) [] 0 (Aw.ret (gvbs hh))
 intro Q2 hN2 hR2 hE2
 refine sy [1, 2, 5] [0] (sp 73 [z8, z9, (5, ii 0)]) [z7] 1 (Aw.block ?_)
 obtain ⟨o3, hi3, hk3⟩ := bind_some hh
 refine Aw.iter (fun (s3 : Int) => sp 73 [(1, bo C_47 x_tags), (2, pp 0), (5, ii s3)]) (fun (s3 : Int) => [(0, some (rB26 x_h))]) 1 hi3 (el [some 0] (rens_sp kr (ro nr_C_47 (rp 0 (ri rl_n)))) (hq (rB26 x_h) (rens_same (nr_B_26 _)) hs_nil)) ?_
 intro s3 u3 Q3 hh hN3 hX3 hR3
 let z19 := (19, bb (decide (s3 < (((List.length x_tags) : Nat) : Int)))); let z20 := (5, ii s3); let z4 := List.getD x_tags (Int.toNat s3) default; let z21 := (28, ii (z4.Tag)); let z22 := (33, ii (z4.At)); let z23 := (40, ii (z4.Tag)); let z24 : EV := (44, .ptr 2 [] (0 + (Int.toNat (z4.At)) * 6)); let z25 := (61, ii (z4.Tag))
 unfold F_spec_TagsOk_l3 at hh
 refine Aw.seq (sy [1, 2, 5, 19] [0] (sp 73 [z8, z9, z20, z19]) [z7] 1 ?_)
 rcases cond_sf hh with ⟨hb, hh⟩ | ⟨hb, hh⟩
 · refine cF hb (Aw.exit (then_x (hX3 _ _ _ _ _ (some_some hh) ?_)))
   intro hout
   rw [hout] at hk3
   refine blk_x ?_
   obtain rfl := some_some hk3
   exact hN2 () _ _ _ hk2 (el [] (rens_sp kr rl_n) hs_nil)
 refine cT hb (Aw.xskip (fun _ _ _ hq => then_m hq) ?_)
 obtain ⟨j4, hh, hk4⟩ := bind_some hh
 refine Aw.join (S := Unit) (fun s4 => sp 73 [(1, bo C_47 x_tags), (2, pp 0), (5, ii s3)]) (fun s4 => [(0, some (rB26 x_h))]) 1 (fun s4 => F_spec_TagsOk_j4 s3 s4 = some u3) ?_ ?_
 · intro s4 hh
   unfold F_spec_TagsOk_j4 at hh
   exact Aw.oreg (ye (sp 73 [z8, z9, (5, ii (w64 (s3 + (1 : Int)))), (20, ii s3), (21, ii (w64 (s3 + (1 : Int))))]) [z7] 1 (hN3 (w64 (s3 + (1 : Int))) _ _ _ (some_some hh) (el [some 0] (rens_sp kr (ro nr_C_47 (rp 0 (ri rl_n)))) (hq (rB26 x_h) (rens_same (nr_B_26 _)) hs_nil))))
 intro Q4 hN4 hR4 hE4
 refine Aw.block (Aw.sreg [1, 2, 5, 6] [0, 1] (yj 2  (sp 73 [z8, z9, z20, z19, (22, bo C_47 x_tags), (23, ii s3)]) [z7] 1 ?_))
 obtain ⟨hg464, hh⟩ := grd_some hh
 refine ys (.iadr 8 (.t 22) (.t 23)) (some 24) (op_iadr (kd := .i64) (c := C_47) (xs := x_tags) len_C_47 dd kr kr hg464 ?_)
 refine ys (.load true 8 (.t 24)) (some 25) (op_loadbA (c := C_47) (xs := x_tags) (o := Int.toNat s3 * 8) (i := (Int.toNat s3)) (off := 0) (v := .agg [ii (z4.Tag), ii (z4.At), bb ((z4.What).There), bb ((z4.What).Write), bb ((z4.What).User), ii ((z4.What).Page), ii ((z4.What).Frame), bb ((z4.What).Ready)]) len_C_47 kr ltn ltn dd kr ?_)
 let q1 : Root := ⟨47, [ii (z4.Tag), ii (z4.At), bb ((z4.What).There), bb ((z4.What).Write), bb ((z4.What).User), ii ((z4.What).Page), ii ((z4.What).Frame), bb ((z4.What).Ready)]⟩; let z26 := (1, some q1)
 refine yt (sp 73 [z8, z9, z20, z18]) [z7, z26] 2 (Aw.seq (Aw.sregd [1, 2, 5, 6, 49] [0, 1] [] kr (dj 3 (sp 73 [z8, z9, z20, z18, z10, z11, z21]) [z7, z26] 2 ?_)))
 obtain ⟨v5, hv5, hh⟩ := bind_some hh
 let z27 := (29, bb v5)
 refine ds (.call 37 [(.t 26), (.t 28)]) (some 29) (ydo_n rfl (op_call (r := bb v5) (v := bb v5) (Hr := []) (n' := 2) (spec_l4Live_fn hv5) (clz_v (vs := [.agg (B_26 x_h), ii (z4.Tag)]) kr (clz_c (clo_same (clean_agg (cl_B_26 _))) (cz1 clz_n))) rfl rfl kr ⟨⟨⟨by decide, agr_name (n := 2) (n0 := 2) (r := bb v5) (v := bb v5) (Hr := []) (n' := 2) kr dd⟩, Hld.un ?_⟩⟩))
 refine dj 2 (sp 73 [z8, z9, z20, z18, z10, z11, z21, z27, (30, bb (!v5)), (31, bb (!v5))]) [z7, z26] 2 ?_
 rcases cond_some hh with ⟨hb, hh⟩ | ⟨hb, hh⟩
 · refine dbs (t := 30) hb kr (dbs (t := 31) hb kr (dt (sp 73 [z8, z9, z20, z18, z10, z11, z21, z27, (30, bb true), (31, bb true), (32, .und), (33, .und), (34, .und), (35, .und), (36, bb true), (37, bb true), (38, .und), (39, .und), (40, .und), (41, .und), (42, .und), (43, .und), (44, .und), (45, .und), (46, .und), (47, .und)]) [z7, z26] 2 (yt (sp 73 [z8, z9, z20, z18, (49, bb true)]) [z7, z26] 2 (cT rfl (sy [4] [] (sp 73 [z16]) [] 2 (Aw.ret (then_r (blk_r ?_))))))))
   obtain rfl := some_some hh
   refine hR4 _ _ _ ((hR3 _ _ _ _ (some_some hk4) ?_))
   intro hout
   rw [hout] at hk3
   refine blk_r ?_
   obtain rfl := some_some hk3
   refine hR2 _ _ _ ?_
   rw [some_some hk2]
   exact gvb
 refine dbs (t := 30) hb kr (dbs (t := 31) hb kr (dj 2 (sp 73 [z8, z9, z20, z18, z10, z11, z21, z27, z12, z13, z14, z22]) [z7, z26] 2 ?_))
 obtain ⟨v6, hv6, hh⟩ := bind_some hh
 let z28 := (34, bb v6)
 refine dsg (op := (.call 38 [(.t 33), (.c (ii 0)), (.c (ii 7))])) (d := (some 34)) (t := 31) (want := false) (os := (List.drop 9 (rg 11 6))) kr kr rfl (ydo_n rfl (op_call (r := bb v6) (v := bb v6) (Hr := []) (n' := 2) (spec_l1In_fn hv6) (clz_v (vs := [ii (z4.At), ii 0, ii 7]) kr (cz1 (cz1 (cz1 clz_n)))) rfl rfl kr ⟨⟨⟨by decide, agr_name (n := 2) (n0 := 2) (r := bb v6) (v := bb v6) (Hr := []) (n' := 2) kr dd⟩, Hld.un ?_⟩⟩))
 refine dj 3 (sp 73 [z8, z9, z20, z18, z10, z11, z21, z27, z12, z13, z14, z22, z28, (35, bb (!v6)), (36, bb (!v6)), (37, bb (!v6))]) [z7, z26] 2 ?_
 rcases cond_some hh with ⟨hb, hh⟩ | ⟨hb, hh⟩
 · refine dbs (t := 35) hb kr (dbs (t := 36) hb kr (dbs (t := 37) hb kr (dt (sp 73 [z8, z9, z20, z18, z10, z11, z21, z27, z12, z13, z14, z22, z28, (35, bb true), (36, bb true), (37, bb true), (38, .und), (39, .und), (40, .und), (41, .und), (42, .und), (43, .und), (44, .und), (45, .und), (46, .und), (47, .und)]) [z7, z26] 2 (yt (sp 73 [z8, z9, z20, z18, (49, bb true)]) [z7, z26] 2 (cT rfl (sy [4] [] (sp 73 [z16]) [] 2 (Aw.ret (then_r (blk_r ?_)))))))))
   obtain rfl := some_some hh
   refine hR4 _ _ _ ((hR3 _ _ _ _ (some_some hk4) ?_))
   intro hout
   rw [hout] at hk3
   refine blk_r ?_
   obtain rfl := some_some hk3
   refine hR2 _ _ _ ?_
   rw [some_some hk2]
   exact gvb
 refine dbs (t := 35) hb kr (dbs (t := 36) hb kr (dbs (t := 37) hb kr (dj 3 (sp 73 [z8, z9, z20, z18, z10, z11, z21, z27, z12, z13, z14, z22, z28, (35, bb false), (36, bb false), (37, bb false), z15, (39, pp 1), z23]) [z7, z26] 2 ?_)))
 obtain ⟨v7, hv7, hh⟩ := bind_some hh
 let z29 : EH := (2, some (rC45 v7)); let z30 : EV := (41, .sref 2 [] 0 (List.length v7) 6); let z6 := List.getD v7 (Int.toNat (z4.At)) default
 refine dsg (op := (.call 39 [(.t 38), (.t 40)])) (d := (some 41)) (t := 37) (want := false) (os := z2) kr kr rfl (ydo_n rfl (op_call (r := .own 45 6 (List.length v7) (fl C_45 v7)) (v := .sref 2 [] 0 (List.length v7) 6) (Hr := [z29]) (n' := 3) (spec_ShadowOf_fn hv7) (clz_v (vs := [.agg (B_26 x_h), ii (z4.Tag)]) kr (clz_c (clo_same (clean_agg (cl_B_26 _))) (cz1 clz_n))) nrr nrr kr ⟨⟨⟨by decide, agr_name (n := 2) (n0 := 2) (r := .own 45 6 (List.length v7) (fl C_45 v7)) (v := .sref 2 [] 0 (List.length v7) 6) (Hr := [z29]) (n' := 3) kr dd⟩, Hld.un ?_⟩⟩))
 obtain ⟨hg504, hh⟩ := grd_some hh
 refine dc (cs := [(0 : Int) ≤ (z4.At) ∧ (z4.At) < (((List.length v7) : Nat) : Int)]) (E' := (sp 73 [z8, z9, z20, z18, z10, z11, z21, z27, z12, z13, z14, z22, z28, (35, bb false), (36, bb false), (37, bb false), z15, (39, pp 1), z23, z30, (42, .ptr 1 [] 1), (43, ii (z4.At)), z24])) (H' := [z29, z7, z26]) (n' := 3) (fs' := none) (pre := (List.take 3 z2)) (L' := (List.drop 19 (rg 11 6))) kr (fun K => by kernel_rfl) (.cons hg504 .nil) (dsg (op := (.load true 6 (.t 44))) (d := (some 45)) (t := 37) (want := false) (os := (List.drop 20 (rg 11 6))) kr kr rfl (ydo_q rfl kr (op_loadA (c := C_45) (xs := v7) (e := 45) (r := 2) (π := []) (o := 0 + (Int.toNat (z4.At)) * 6) (i := (Int.toNat (z4.At))) (off := 0) (v := .agg [bb (z6.There), bb (z6.Write), bb (z6.User), ii (z6.Page), ii (z6.Frame), bb (z6.Ready)]) len_C_45 kr kr ltn ltn dd kr ?_)))
 refine dt (sp 73 [z8, z9, z20, z18, z10, z11, z21, z27, z12, z13, z14, z22, z28, (35, bb false), (36, bb false), (37, bb false), z15, (39, pp 1), z23, z30, (42, .ptr 1 [] 1), (43, ii (z4.At)), z24, (45, .agg [bb (z6.There), bb (z6.Write), bb (z6.User), ii (z6.Page), ii (z6.Frame), bb (z6.Ready)]), (46, .ptr 1 [] 2), (47, .agg [bb ((z4.What).There), bb ((z4.What).Write), bb ((z4.What).User), ii ((z4.What).Page), ii ((z4.What).Frame), bb ((z4.What).Ready)])]) [z29, z7, z26] 3 (yt (sp 73 [z8, z9, z20, z18, (49, bb (!(((z6.There) == ((z4.What).There)) && (((z6.Write) == ((z4.What).Write)) && (((z6.User) == ((z4.What).User)) && (decide ((z6.Page) = ((z4.What).Page)) && (decide ((z6.Frame) = ((z4.What).Frame)) && (((z6.Ready) == ((z4.What).Ready)) && true))))))))]) [z7, z26] 3 ?_)
 rcases cond_some hh with ⟨hb, hh⟩ | ⟨hb, hh⟩
 · refine cT hb (sy [4] [] (sp 73 [z16]) [] 3 (Aw.ret (then_r (blk_r ?_))))
   obtain rfl := some_some hh
   refine hR4 _ _ _ ((hR3 _ _ _ _ (some_some hk4) ?_))
   intro hout
   rw [hout] at hk3
   refine blk_r ?_
   obtain rfl := some_some hk3
   refine hR2 _ _ _ ?_
   rw [some_some hk2]
   exact gvb
 refine cF hb (Aw.xskip (fun _ _ _ hq => then_m hq) (sy [1, 2, 5, 6, 7] [0, 1] (sp 73 [z8, z9, z20, z18, (7, ii 0)]) [z7, z26] 3 (Aw.block ?_)))
 obtain ⟨o8, hi8, hk8⟩ := bind_some hh
 refine Aw.iter (fun (s8 : Int) => sp 73 [(1, bo C_47 x_tags), (2, pp 0), (5, ii s3), (6, pp 1), (7, ii s8)]) (fun (s8 : Int) => [(0, some (rB26 x_h)), (1, some ⟨47, [ii ((List.getD x_tags (Int.toNat s3) default).Tag), ii ((List.getD x_tags (Int.toNat s3) default).At), bb (((List.getD x_tags (Int.toNat s3) default).What).There), bb (((List.getD x_tags (Int.toNat s3) default).What).Write), bb (((List.getD x_tags (Int.toNat s3) default).What).User), ii (((List.getD x_tags (Int.toNat s3) default).What).Page), ii (((List.getD x_tags (Int.toNat s3) default).What).Frame), bb (((List.getD x_tags (Int.toNat s3) default).What).Ready)]⟩)]) 2 hi8 (el [some 0, some 1] (rens_sp kr (ro nr_C_47 (rp 0 (ri (rp 1 (ri rl_n)))))) (hq (rB26 x_h) (rens_same (nr_B_26 _)) (hq q1 rz hs_nil))) ?_
 intro s8 u8 Q8 hh hN8 hX8 hR8
 let z31 := (52, bb (decide (s8 < s3))); let z32 := (56, ii s8); let z33 : EV := (57, .bptr (fl C_47 x_tags) (Int.toNat s8 * 8)); let z34 : EV := (58, .bptr (fl C_47 x_tags) (Int.toNat s8 * 8 + 0)); let z35 := (7, ii s8); let z5 := List.getD x_tags (Int.toNat s8) default
 unfold F_spec_TagsOk_l8 at hh
 refine Aw.seq (sy [1, 2, 5, 6, 7, 52] [0, 1] (sp 73 [z8, z9, z20, z18, z35, z31]) [z7, z26] 2 ?_)
 rcases cond_sf hh with ⟨hb, hh⟩ | ⟨hb, hh⟩
 · refine cF hb (Aw.exit (then_x (hX8 _ _ _ _ _ (some_some hh) ?_)))
   intro hout
   rw [hout] at hk8
   refine blk_x (blk_m ?_)
   obtain rfl := some_some hk8
   exact hN4 () _ _ _ hk4 (el [some 0] (rens_sp kr (ro nr_C_47 (rp 0 (ri rl_n)))) (hq (rB26 x_h) (rens_same (nr_B_26 _)) hs_nil))
 refine cT hb (Aw.xskip (fun _ _ _ hq => then_m hq) ?_)
 obtain ⟨j9, hh, hk9⟩ := bind_some hh
 refine Aw.join (S := Unit) (fun s9 => sp 73 [(1, bo C_47 x_tags), (2, pp 0), (5, ii s3), (6, pp 1), (7, ii s8)]) (fun s9 => [(0, some (rB26 x_h)), (1, some ⟨47, [ii ((List.getD x_tags (Int.toNat s3) default).Tag), ii ((List.getD x_tags (Int.toNat s3) default).At), bb (((List.getD x_tags (Int.toNat s3) default).What).There), bb (((List.getD x_tags (Int.toNat s3) default).What).Write), bb (((List.getD x_tags (Int.toNat s3) default).What).User), ii (((List.getD x_tags (Int.toNat s3) default).What).Page), ii (((List.getD x_tags (Int.toNat s3) default).What).Frame), bb (((List.getD x_tags (Int.toNat s3) default).What).Ready)]⟩)]) 2 (fun s9 => F_spec_TagsOk_j9 s8 s9 = some u8) ?_ ?_
 · intro s9 hh
   unfold F_spec_TagsOk_j9 at hh
   exact Aw.oreg (ye (sp 73 [z8, z9, z20, z18, (7, ii (w64 (s8 + (1 : Int)))), (53, ii s8), (54, ii (w64 (s8 + (1 : Int))))]) [z7, z26] 2 (hN8 (w64 (s8 + (1 : Int))) _ _ _ (some_some hh) (el [some 0, some 1] (rens_sp kr (ro nr_C_47 (rp 0 (ri (rp 1 (ri rl_n)))))) (hq (rB26 x_h) (rens_same (nr_B_26 _)) (hq q1 rz hs_nil)))))
 intro Q9 hN9 hR9 hE9
 refine Aw.block (Aw.sregq [1, 2, 5, 6, 7, 72] (qc (cs := []) (E' := (sp 73 [z8, z9, z20, z18, z35, z31, z17, z32])) (pre := (List.take 2 (rg 11 11))) (L' := (List.drop 2 (rg 11 11))) kr (fun K => by kernel_rfl) .nil ?_))
 obtain ⟨hg502, hh⟩ := grd_some hh
 refine qs (.iadr 8 (.t 55) (.t 56)) (some 57) (yq_q rfl (op_iadr (kd := .i64) (c := C_47) (xs := x_tags) len_C_47 dd kr kr hg502 ?_))
 refine qc (cs := []) (E' := (sp 73 [z8, z9, z20, z18, z35, z31, z17, z32, z33, z34])) (pre := (List.take 1 (List.drop 3 (rg 11 11)))) (L' := (List.drop 4 (rg 11 11))) kr (fun K => by kernel_rfl) .nil (qs (.load false 1 (.t 58)) (some 59) (yq_q rfl (op_loadb (c := C_47) (xs := x_tags) (o := Int.toNat s8 * 8 + 0) (i := (Int.toNat s8)) (off := 0) (v := ii (z5.Tag)) len_C_47 kr ltn ltn dd kr ?_)))
 refine qc (cs := []) (E' := (sp 73 [z8, z9, z20, z18, z35, z31, z17, z32, z33, z34, (59, ii (z5.Tag)), (60, pp 1), z25, (62, bb (decide ((z5.Tag) = (z4.Tag)))), (63, bb (decide ((z5.Tag) = (z4.Tag))))])) (pre := (List.take 4 (List.drop 5 (rg 11 11)))) (L' := z3) kr (fun K => by kernel_rfl) .nil ?_
 rcases cond_sf hh with ⟨hb, hh⟩ | ⟨hb, hh⟩
 · refine qbs (t := 62) hb kr (qbs (t := 63) hb kr (qct (cs := []) (E' := (sp 73 [z8, z9, z20, z18, z35, (72, bb false)])) (fun K => by kernel_rfl) .nil (cF rfl (Aw.skip (blk_m ?_)))))
   obtain rfl := some_some hh
   exact hN9 () _ _ _ hk9 (el [some 0, some 1] (rens_sp kr (ro nr_C_47 (rp 0 (ri (rp 1 (ri rl_n)))))) (hq (rB26 x_h) (rens_same (nr_B_26 _)) (hq q1 rz hs_nil)))
 refine qbs (t := 62) hb kr (qbs (t := 63) hb kr (qc (cs := []) (E' := (sp 73 [z8, z9, z20, z18, z35, z31, z17, z32, z33, z34, (59, ii (z5.Tag)), (60, pp 1), z25, (62, bb true), (63, bb true), (64, bo C_47 x_tags), (65, ii s8)])) (pre := (List.take 2 z3)) (L' := (List.drop 11 (rg 11 11))) kr (fun K => by kernel_rfl) .nil ?_))
 obtain ⟨hg503, hh⟩ := grd_some hh
 refine qsg (op := (.iadr 8 (.t 64) (.t 65))) (d := (some 66)) (t := 63) (want := true) (os := z1) kr kr (yq_q rfl (op_iadr (kd := .i64) (c := C_47) (xs := x_tags) len_C_47 dd kr kr hg503 ?_))
 refine qc (cs := []) (E' := (sp 73 [z8, z9, z20, z18, z35, z31, z17, z32, z33, z34, (59, ii (z5.Tag)), (60, pp 1), z25, (62, bb true), (63, bb true), (64, bo C_47 x_tags), (65, ii s8), (66, .bptr (fl C_47 x_tags) (Int.toNat s8 * 8)), (67, .bptr (fl C_47 x_tags) (Int.toNat s8 * 8 + 1))])) (pre := (List.take 1 z1)) (L' := (List.drop 13 (rg 11 11))) kr (fun K => by kernel_rfl) .nil (qsg (op := (.load false 1 (.t 67))) (d := (some 68)) (t := 63) (want := true) (os := (List.drop 14 (rg 11 11))) kr kr (yq_q rfl (op_loadb (c := C_47) (xs := x_tags) (o := Int.toNat s8 * 8 + 1) (i := (Int.toNat s8)) (off := 1) (v := ii (z5.At)) len_C_47 kr ltn ltn dd kr ?_)))
 refine qct (cs := []) (E' := (sp 73 [z8, z9, z20, z18, z35, (72, bb (decide ((z5.At) = (z4.At))))])) (fun K => by kernel_rfl) .nil ?_
 rcases cond_sf hh with ⟨hb, hh⟩ | ⟨hb, hh⟩
 · refine cF hb (Aw.skip (blk_m ?_))
   obtain rfl := some_some hh
   exact hN9 () _ _ _ hk9 (el [some 0, some 1] (rens_sp kr (ro nr_C_47 (rp 0 (ri (rp 1 (ri rl_n)))))) (hq (rB26 x_h) (rens_same (nr_B_26 _)) (hq q1 rz hs_nil)))
 refine cT hb (sy [4] [] (sp 73 [z16]) [] 2 (Aw.ret (blk_r ?_)))
 obtain rfl := some_some hh
 refine hR9 _ _ _ ((hR8 _ _ _ _ (some_some hk9) ?_))
 intro hout
 rw [hout] at hk8
 refine blk_r (blk_r ?_)
 obtain rfl := some_some hk8
 refine hR4 _ _ _ ((hR3 _ _ _ _ (some_some hk4) ?_))
 intro hout
 rw [hout] at hk3
 refine blk_r ?_
 obtain rfl := some_some hk3
 refine hR2 _ _ _ ?_
 rw [some_some hk2]
 exact gvb
end Go.Proofs.Ytbnjdmclnojlmaa
