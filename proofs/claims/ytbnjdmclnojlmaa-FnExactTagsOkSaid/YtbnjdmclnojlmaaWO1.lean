/- Plain functions of the program, and that it hands back what they say. Made by program. -/
import Derived.Test.YtbnjdmclnojlmaaWT
import Derived.Test.YtbnjdmclnojlmaaProg
namespace Go.Proofs.Ytbnjdmclnojlmaa
open Go.RowKit
set_option maxRecDepth 100000
set_option linter.all false
set_option maxHeartbeats 0
theorem low_spec_l1In : LW 38 ⟨15, [(.tmp 6)], (.seq (.reg false (rg 38 0)) (.seq (.reg false (rg 38 1)) .ret))⟩ := kr
noncomputable def F_spec_l1In (x_n : Int) (x_low : Int) (x_high : Int) : Option Bool :=
 cond (decide (x_low ≤ x_n))
  (some (decide (x_n ≤ x_high)))
  (some false)
theorem spec_l1In_fn {x_n : Int} {x_low : Int} {x_high : Int} {R_ : Bool} (hh : F_spec_l1In x_n x_low x_high = some R_) : Fn Try.prog 38 [.int .i64 x_n, .int .i64 x_low, .int .i64 x_high] (.bool R_) := by
 unfold F_spec_l1In at hh
 refine Fn.start low_spec_l1In [0, 1, 2] (E := sp 15 [(0, ii x_n), (1, ii x_low), (2, ii x_high)]) kr (v := bb R_) (Hr := []) (k := 0) kr (sy [0, 1, 2] [] (sp 15 [(0, ii x_n), (1, ii x_low), (2, ii x_high)]) [] 0 (Aw.sreg [6] [] (yu 4 [(7, ii x_n), (8, ii x_low), (9, bb (decide (x_low ≤ x_n))), (10, bb (decide (x_low ≤ x_n)))] [] 0 ?_)))
 rcases cond_sf hh with ⟨hb, hh⟩ | ⟨hb, hh⟩
 · exact yb 9 hb (yb 10 hb (yt (sp 15 [(6, bb false)]) [] 0 (Aw.ret (gvbs hh))))
 exact yb 9 hb (yb 10 hb (yt (sp 15 [(6, bb (decide (x_n ≤ x_high)))]) [] 0 (Aw.ret (gvbs hh))))
theorem low_spec_WordOk : LW 92 ⟨5, [(.tmp 2)], (.seq (.reg false (rg 92 0)) (.seq (.reg false (rg 92 1)) .ret))⟩ := kr
noncomputable def F_spec_WordOk (x_n : Int) : Option Bool :=
 Option.bind (F_spec_l1In x_n (0 : Int) (4095 : Int)) fun v1 =>
 some v1
theorem spec_WordOk_fn {x_n : Int} {R_ : Bool} (hh : F_spec_WordOk x_n = some R_) : Fn Try.prog 92 [.int .i64 x_n] (.bool R_) := by
 unfold F_spec_WordOk at hh
 refine Fn.start low_spec_WordOk [0] (E := sp 5 [(0, ii x_n)]) kr (v := bb R_) (Hr := []) (k := 0) kr (sy [0] [] (sp 5 [(0, ii x_n)]) [] 0 (Aw.sreg [2] [] (yu 1 [(3, ii x_n)] [] 0 ?_)))
 obtain ⟨v1, hv1, hh⟩ := bind_some hh
 refine ys (.call 38 [(.t 3), (.c (ii 0)), (.c (ii 4095))]) (some 4) (oc (spec_l1In_fn hv1) ?_)
 exact yt (sp 5 [(2, bb v1)]) [] 0 (Aw.ret (gvbs hh))
theorem low_spec_l3Words : LW 70 ⟨22, [(.tmp 4)], (.seq (.reg false (rg 70 0)) (.seq (.seq (.reg false (rg 70 1)) (.block 0 (.loop (.seq (.seq (.reg false (rg 70 2)) (.cond (.t 9) .skip (.exit 0))) (.seq (.block 1 (.seq (.reg false (rg 70 3)) (.cond (.t 17) (.seq (.reg false (rg 70 4)) .ret) .skip))) (.reg false (rg 70 5))))))) (.seq (.reg false (rg 70 7)) .ret)))⟩ := kr
noncomputable def F_spec_l3Words_j1 (x_list : List Int) (x_most : Int) (s1 : Unit) : Option Bool :=
 some (decide ((((List.length x_list) : Nat) : Int) ≤ x_most))
noncomputable def F_spec_l3Words_l2 (x_list : List Int) (s2 : Int) : Option (LO Int (JO Unit Bool)) :=
 cond (decide (s2 < (((List.length x_list) : Nat) : Int)))
  (grd ((0 : Int) ≤ s2 ∧ s2 < ((List.length x_list : Nat) : Int)) (Option.bind (F_spec_WordOk (List.getD x_list (Int.toNat s2) default)) fun v3 =>
   cond (!v3)
    (some (.ret (.out false)))
    (some (.next (w64 (s2 + (1 : Int)))))))
  (some (.ret (.go ())))
noncomputable def F_spec_l3Words (x_list : List Int) (x_most : Int) : Option Bool :=
 Option.bind (Option.bind (iter (F_spec_l3Words_l2 x_list) (0 : Int)) LO.val) fun j1 =>
  JO.run j1 (F_spec_l3Words_j1 x_list x_most)
theorem spec_l3Words_fn {x_list : List Int} {x_most : Int} {R_ : Bool} (hh : F_spec_l3Words x_list x_most = some R_) : Fn Try.prog 70 [bo (eI .i64) x_list, .int .i64 x_most] (.bool R_) := by
 let z1 := (0, bo (eI .i64) x_list); let z2 := (1, ii x_most)
 unfold F_spec_l3Words at hh
 refine Fn.start low_spec_l3Words [0, 1] (E := sp 22 [z1, z2]) kr (v := bb R_) (Hr := []) (k := 0) kr (sy [0, 1] [] (sp 22 [z1, z2]) [] 0 ?_)
 obtain ⟨j1, hh, hk1⟩ := bind_some hh
 refine Aw.join (S := Unit) (fun s1 => sp 22 [(0, bo (eI .i64) x_list), (1, ii x_most)]) (fun s1 => []) 0 (fun s1 => F_spec_l3Words_j1 x_list x_most s1 = some R_) ?_ ?_
 · intro s1 hh
   unfold F_spec_l3Words_j1 at hh
   exact sy [4] [] (sp 22 [(4, bb (decide ((((List.length x_list) : Nat) : Int) ≤ x_most)))]) [] 0 (Aw.ret (gvbs hh))
 intro Q1 hN1 hR1 hE1
 refine sy [0, 1, 5] [] (sp 22 [z1, z2, (5, ii 0)]) [] 0 (Aw.block ?_)
 obtain ⟨o2, hi2, hk2⟩ := bind_some hh
 refine Aw.iter (fun (s2 : Int) => sp 22 [(0, bo (eI .i64) x_list), (1, ii x_most), (5, ii s2)]) (fun (s2 : Int) => []) 0 hi2 (el [] (rens_sp kr (ro nr_eI (ri (ri rl_n)))) hs_nil) ?_
 intro s2 u2 Q2 hh hN2 hX2 hR2
 let z3 := (9, bb (decide (s2 < (((List.length x_list) : Nat) : Int))))
 unfold F_spec_l3Words_l2 at hh
 refine Aw.seq (sy [0, 1, 5, 9] [] (sp 22 [z1, z2, (5, ii s2), z3]) [] 0 ?_)
 rcases cond_sf hh with ⟨hb, hh⟩ | ⟨hb, hh⟩
 · refine cF hb (Aw.exit (then_x (hX2 _ _ _ _ _ (some_some hh) ?_)))
   intro hout
   rw [hout] at hk2
   refine blk_x ?_
   obtain rfl := some_some hk2
   exact hN1 () _ _ _ hk1 (el [] (rens_sp kr (ro nr_eI (ri rl_n))) hs_nil)
 refine cT hb (Aw.xskip (fun _ _ _ hq => then_m hq) (Aw.seq (Aw.block (Aw.sreg [0, 1, 5, 17] [] (yj 2  (sp 22 [z1, z2, (5, ii s2), z3, (12, bo (eI .i64) x_list), (13, ii s2)]) [] 0 ?_)))))
 obtain ⟨hg24, hh⟩ := grd_some hh
 refine ys (.iadr 1 (.t 12) (.t 13)) (some 14) (op_iadr (kd := .i64) (c := (eI .i64)) (xs := x_list) len_eI dd kr kr hg24 ?_)
 refine ys (.load false 1 (.t 14)) (some 15) (op_loadb (c := (eI .i64)) (xs := x_list) (o := Int.toNat s2 * 1) (i := (Int.toNat s2)) (off := 0) (v := ii (List.getD x_list (Int.toNat s2) default)) len_eI kr ltn ltn dd kr ?_)
 obtain ⟨v3, hv3, hh⟩ := bind_some hh
 refine ys (.call 92 [(.t 15)]) (some 16) (oc (spec_WordOk_fn hv3) ?_)
 refine yt (sp 22 [z1, z2, (5, ii s2), (17, bb (!v3))]) [] 0 ?_
 rcases cond_some hh with ⟨hb, hh⟩ | ⟨hb, hh⟩
 · refine cT hb (sy [4] [] (sp 22 [(4, bb false)]) [] 0 (Aw.ret (blk_r (then_r ?_))))
   refine hR2 _ _ _ _ (some_some hh) ?_
   intro hout
   rw [hout] at hk2
   refine blk_r ?_
   obtain rfl := some_some hk2
   refine hR1 _ _ _ ?_
   rw [some_some hk1]
   exact gvb
 exact cF hb (Aw.xskip (fun _ _ _ hq => blk_m (then_m hq)) (Aw.oreg (ye (sp 22 [z1, z2, (5, ii (w64 (s2 + (1 : Int)))), (10, ii s2), (11, ii (w64 (s2 + (1 : Int)))), (17, bb (!v3))]) [] 0 (hN2 (w64 (s2 + (1 : Int))) _ _ _ (some_some hh) (el [] (rens_sp kr (ro nr_eI (ri (ri rl_n)))) hs_nil)))))
theorem low_spec_CoreOk : LW 72 ⟨57, [(.tmp 2)], (.seq (.reg false (rg 72 0)) (.seq (.seq (.reg false (rg 72 1)) (.block 0 (.loop (.seq (.seq (.reg false (rg 72 2)) (.cond (.t 8) .skip (.exit 0))) (.seq (.block 1 (.seq (.reg false (rg 72 3)) (.cond (.t 17) (.seq (.reg false (rg 72 4)) .ret) .skip))) (.reg false (rg 72 5))))))) (.seq (.reg false (rg 72 7)) .ret)))⟩ := kr
noncomputable def F_spec_CoreOk_j1 (x_c : DCore) (s1 : Unit) : Option Bool :=
 cond (decide ((((List.length x_c.Regs) : Nat) : Int) = (4 : Int)))
  (Option.bind (F_spec_l1In x_c.Pc (0 : Int) (63 : Int)) fun v2 =>
  cond v2
   (Option.bind (F_spec_l1In x_c.Vector (0 : Int) (63 : Int)) fun v3 =>
   cond v3
    (Option.bind (F_spec_l1In x_c.Saved (0 : Int) (63 : Int)) fun v4 =>
    cond v4
     (Option.bind (F_spec_l1In x_c.Bad (0 : Int) (63 : Int)) fun v5 =>
     cond v5
      (Option.bind (F_spec_l1In x_c.Root (-1 : Int) (7 : Int)) fun v6 =>
      cond v6
       (Option.bind (F_spec_l1In x_c.Cause (0 : Int) (4 : Int)) fun v7 =>
       cond v7
        (Option.bind (F_spec_WordOk x_c.Timer) fun v8 =>
        some v8)
        (some false))
       (some false))
      (some false))
     (some false))
    (some false))
   (some false))
  (some false)
noncomputable def F_spec_CoreOk_l9 (x_c : DCore) (s9 : Int) : Option (LO Int (JO Unit Bool)) :=
 cond (decide (s9 < (((List.length x_c.Regs) : Nat) : Int)))
  (grd ((0 : Int) ≤ s9 ∧ s9 < ((List.length x_c.Regs : Nat) : Int)) (Option.bind (F_spec_WordOk (List.getD x_c.Regs (Int.toNat s9) default)) fun v10 =>
   cond (!v10)
    (some (.ret (.out false)))
    (some (.next (w64 (s9 + (1 : Int)))))))
  (some (.ret (.go ())))
noncomputable def F_spec_CoreOk (x_c : DCore) : Option Bool :=
 Option.bind (Option.bind (iter (F_spec_CoreOk_l9 x_c) (0 : Int)) LO.val) fun j1 =>
  JO.run j1 (F_spec_CoreOk_j1 x_c)
theorem spec_CoreOk_fn {x_c : DCore} {R_ : Bool} (hh : F_spec_CoreOk x_c = some R_) : Fn Try.prog 72 [.agg (B_100 x_c)] (.bool R_) := by
 let z1 : EH := (0, some (rB100 x_c)); let z2 := (1, pp 0); let z3 := (2, bb false)
 unfold F_spec_CoreOk at hh
 refine Fn.start low_spec_CoreOk [0] (E := sp 57 [(0, .agg (B_100 x_c))]) kr (v := bb R_) (Hr := []) (k := 0) kr (sy [1] [0] (sp 57 [z2]) [z1] 1 ?_)
 obtain ⟨j1, hh, hk1⟩ := bind_some hh
 refine Aw.join (S := Unit) (fun s1 => sp 57 [(1, pp 0)]) (fun s1 => [(0, some (rB100 x_c))]) 1 (fun s1 => F_spec_CoreOk_j1 x_c s1 = some R_) ?_ ?_
 · intro s1 hh
   unfold F_spec_CoreOk_j1 at hh
   refine Aw.sreg [2] [] (yj 5  (sp 57 [z2, (18, pp 0), (19, bo (eI .i64) x_c.Regs), (20, ii (((List.length x_c.Regs) : Nat) : Int)), (21, bb (decide ((((List.length x_c.Regs) : Nat) : Int) = (4 : Int)))), (22, bb (decide ((((List.length x_c.Regs) : Nat) : Int) = (4 : Int))))]) [z1] 1 ?_)
   rcases cond_some hh with ⟨hb, hh⟩ | ⟨hb, hh⟩
   · refine yb 21 hb (yb 22 hb (yu 2 [(21, bb true), (22, bb true), (23, .ptr 0 [] 1), (24, ii x_c.Pc)] [z1] 1 ?_))
     obtain ⟨v2, hv2, hh⟩ := bind_some hh
     refine yg (.call 38 [(.t 24), (.c (ii 0)), (.c (ii 63))]) (some 25) 22 true (oc (spec_l1In_fn hv2) ?_)
     refine yu 2 [(25, bb v2), (26, bb v2), (27, bb v2)] [z1] 1 ?_
     rcases cond_sf hh with ⟨hb, hh⟩ | ⟨hb, hh⟩
     · exact yb 25 hb (yb 26 hb (yb 27 hb (yt (sp 57 [z3]) [] 1 (Aw.ret (gvbs hh)))))
     refine yb 25 hb (yb 26 hb (yb 27 hb (yu 2 [(25, bb true), (26, bb true), (27, bb true), (28, .ptr 0 [] 3), (29, ii x_c.Vector)] [z1] 1 ?_)))
     obtain ⟨v3, hv3, hh⟩ := bind_some hh
     refine yg (.call 38 [(.t 29), (.c (ii 0)), (.c (ii 63))]) (some 30) 27 true (oc (spec_l1In_fn hv3) ?_)
     refine yu 2 [(30, bb v3), (31, bb v3), (32, bb v3)] [z1] 1 ?_
     rcases cond_sf hh with ⟨hb, hh⟩ | ⟨hb, hh⟩
     · exact yb 30 hb (yb 31 hb (yb 32 hb (yt (sp 57 [z3]) [] 1 (Aw.ret (gvbs hh)))))
     refine yb 30 hb (yb 31 hb (yb 32 hb (yu 2 [(30, bb true), (31, bb true), (32, bb true), (33, .ptr 0 [] 4), (34, ii x_c.Saved)] [z1] 1 ?_)))
     obtain ⟨v4, hv4, hh⟩ := bind_some hh
     refine yg (.call 38 [(.t 34), (.c (ii 0)), (.c (ii 63))]) (some 35) 32 true (oc (spec_l1In_fn hv4) ?_)
     refine yu 2 [(35, bb v4), (36, bb v4), (37, bb v4)] [z1] 1 ?_
     rcases cond_sf hh with ⟨hb, hh⟩ | ⟨hb, hh⟩
     · exact yb 35 hb (yb 36 hb (yb 37 hb (yt (sp 57 [z3]) [] 1 (Aw.ret (gvbs hh)))))
     refine yb 35 hb (yb 36 hb (yb 37 hb (yu 2 [(35, bb true), (36, bb true), (37, bb true), (38, .ptr 0 [] 7), (39, ii x_c.Bad)] [z1] 1 ?_)))
     obtain ⟨v5, hv5, hh⟩ := bind_some hh
     refine yg (.call 38 [(.t 39), (.c (ii 0)), (.c (ii 63))]) (some 40) 37 true (oc (spec_l1In_fn hv5) ?_)
     refine yu 2 [(40, bb v5), (41, bb v5), (42, bb v5)] [z1] 1 ?_
     rcases cond_sf hh with ⟨hb, hh⟩ | ⟨hb, hh⟩
     · exact yb 40 hb (yb 41 hb (yb 42 hb (yt (sp 57 [z3]) [] 1 (Aw.ret (gvbs hh)))))
     refine yb 40 hb (yb 41 hb (yb 42 hb (yu 2 [(40, bb true), (41, bb true), (42, bb true), (43, .ptr 0 [] 2), (44, ii x_c.Root)] [z1] 1 ?_)))
     obtain ⟨v6, hv6, hh⟩ := bind_some hh
     refine yg (.call 38 [(.t 44), (.c (ii (-1))), (.c (ii 7))]) (some 45) 42 true (oc (spec_l1In_fn hv6) ?_)
     refine yu 2 [(45, bb v6), (46, bb v6), (47, bb v6)] [z1] 1 ?_
     rcases cond_sf hh with ⟨hb, hh⟩ | ⟨hb, hh⟩
     · exact yb 45 hb (yb 46 hb (yb 47 hb (yt (sp 57 [z3]) [] 1 (Aw.ret (gvbs hh)))))
     refine yb 45 hb (yb 46 hb (yb 47 hb (yu 2 [(45, bb true), (46, bb true), (47, bb true), (48, .ptr 0 [] 6), (49, ii x_c.Cause)] [z1] 1 ?_)))
     obtain ⟨v7, hv7, hh⟩ := bind_some hh
     refine yg (.call 38 [(.t 49), (.c (ii 0)), (.c (ii 4))]) (some 50) 47 true (oc (spec_l1In_fn hv7) ?_)
     refine yu 2 [(50, bb v7), (51, bb v7), (52, bb v7)] [z1] 1 ?_
     rcases cond_sf hh with ⟨hb, hh⟩ | ⟨hb, hh⟩
     · exact yb 50 hb (yb 51 hb (yb 52 hb (yt (sp 57 [z3]) [] 1 (Aw.ret (gvbs hh)))))
     refine yb 50 hb (yb 51 hb (yb 52 hb (yu 2 [(50, bb true), (51, bb true), (52, bb true), (53, .ptr 0 [] 8), (54, ii x_c.Timer)] [z1] 1 ?_)))
     obtain ⟨v8, hv8, hh⟩ := bind_some hh
     refine yg (.call 92 [(.t 54)]) (some 55) 52 true (oc (spec_WordOk_fn hv8) ?_)
     exact yt (sp 57 [(2, bb v8)]) [] 1 (Aw.ret (gvbs hh))
   exact yb 21 hb (yb 22 hb (yt (sp 57 [z3]) [] 1 (Aw.ret (gvbs hh))))
 intro Q1 hN1 hR1 hE1
 refine sy [1, 3] [0] (sp 57 [z2, (3, ii 0)]) [z1] 1 (Aw.block ?_)
 obtain ⟨o9, hi9, hk9⟩ := bind_some hh
 refine Aw.iter (fun (s9 : Int) => sp 57 [(1, pp 0), (3, ii s9)]) (fun (s9 : Int) => [(0, some (rB100 x_c))]) 1 hi9 (el [some 0] (rens_sp kr (rp 0 (ri rl_n))) (hq (rB100 x_c) (rens_same (nr_B_100 _)) hs_nil)) ?_
 intro s9 u9 Q9 hh hN9 hX9 hR9
 let z4 := (8, bb (decide (s9 < (((List.length x_c.Regs) : Nat) : Int))))
 unfold F_spec_CoreOk_l9 at hh
 refine Aw.seq (sy [1, 3, 8] [0] (sp 57 [z2, (3, ii s9), z4]) [z1] 1 ?_)
 rcases cond_sf hh with ⟨hb, hh⟩ | ⟨hb, hh⟩
 · refine cF hb (Aw.exit (then_x (hX9 _ _ _ _ _ (some_some hh) ?_)))
   intro hout
   rw [hout] at hk9
   refine blk_x ?_
   obtain rfl := some_some hk9
   exact hN1 () _ _ _ hk1 (el [some 0] (rens_sp kr (rp 0 rl_n)) (hq (rB100 x_c) (rens_same (nr_B_100 _)) hs_nil))
 refine cT hb (Aw.xskip (fun _ _ _ hq => then_m hq) (Aw.seq (Aw.block (Aw.sreg [1, 3, 17] [0] (yj 3  (sp 57 [z2, (3, ii s9), z4, (11, pp 0), (12, bo (eI .i64) x_c.Regs), (13, ii s9)]) [z1] 1 ?_)))))
 obtain ⟨hg24, hh⟩ := grd_some hh
 refine ys (.iadr 1 (.t 12) (.t 13)) (some 14) (op_iadr (kd := .i64) (c := (eI .i64)) (xs := x_c.Regs) len_eI dd kr kr hg24 ?_)
 refine ys (.load false 1 (.t 14)) (some 15) (op_loadb (c := (eI .i64)) (xs := x_c.Regs) (o := Int.toNat s9 * 1) (i := (Int.toNat s9)) (off := 0) (v := ii (List.getD x_c.Regs (Int.toNat s9) default)) len_eI kr ltn ltn dd kr ?_)
 obtain ⟨v10, hv10, hh⟩ := bind_some hh
 refine ys (.call 92 [(.t 15)]) (some 16) (oc (spec_WordOk_fn hv10) ?_)
 refine yt (sp 57 [z2, (3, ii s9), (17, bb (!v10))]) [z1] 1 ?_
 rcases cond_some hh with ⟨hb, hh⟩ | ⟨hb, hh⟩
 · refine cT hb (sy [2] [] (sp 57 [z3]) [] 1 (Aw.ret (blk_r (then_r ?_))))
   refine hR9 _ _ _ _ (some_some hh) ?_
   intro hout
   rw [hout] at hk9
   refine blk_r ?_
   obtain rfl := some_some hk9
   refine hR1 _ _ _ ?_
   rw [some_some hk1]
   exact gvb
 exact cF hb (Aw.xskip (fun _ _ _ hq => blk_m (then_m hq)) (Aw.oreg (ye (sp 57 [z2, (3, ii (w64 (s9 + (1 : Int)))), (9, ii s9), (10, ii (w64 (s9 + (1 : Int)))), (17, bb (!v10))]) [z1] 1 (hN9 (w64 (s9 + (1 : Int))) _ _ _ (some_some hh) (el [some 0] (rens_sp kr (rp 0 (ri rl_n))) (hq (rB100 x_c) (rens_same (nr_B_100 _)) hs_nil))))))
theorem low_impl_WordOk : LW 43 ⟨9, [(.tmp 2)], (.seq (.reg false (rg 43 0)) (.seq (.reg false (rg 43 1)) .ret))⟩ := kr
noncomputable def F_impl_WordOk (x_n : Int) : Option Bool :=
 cond (decide ((0 : Int) ≤ x_n))
  (some (decide (x_n ≤ (4095 : Int))))
  (some false)
theorem impl_WordOk_fn {x_n : Int} {R_ : Bool} (hh : F_impl_WordOk x_n = some R_) : Fn Try.prog 43 [.int .i64 x_n] (.bool R_) := by
 unfold F_impl_WordOk at hh
 refine Fn.start low_impl_WordOk [0] (E := sp 9 [(0, ii x_n)]) kr (v := bb R_) (Hr := []) (k := 0) kr (sy [0] [] (sp 9 [(0, ii x_n)]) [] 0 (Aw.sreg [2] [] (yu 3 [(3, ii x_n), (4, bb (decide ((0 : Int) ≤ x_n))), (5, bb (decide ((0 : Int) ≤ x_n)))] [] 0 ?_)))
 rcases cond_sf hh with ⟨hb, hh⟩ | ⟨hb, hh⟩
 · exact yb 4 hb (yb 5 hb (yt (sp 9 [(2, bb false)]) [] 0 (Aw.ret (gvbs hh))))
 exact yb 4 hb (yb 5 hb (yt (sp 9 [(2, bb (decide (x_n ≤ (4095 : Int))))]) [] 0 (Aw.ret (gvbs hh))))
theorem low_impl_wordsOk : LW 40 ⟨15, [(.tmp 2)], (.seq (.reg false (rg 40 0)) (.seq (.seq (.reg false (rg 40 1)) (.block 0 (.loop (.seq (.reg false (rg 40 2)) (.seq (.cond (.t 8) .skip (.exit 0)) (.seq (.block 1 (.seq (.reg false (rg 40 3)) (.seq (.reg false (rg 40 4)) (.cond (.t 13) (.seq (.reg false (rg 40 5)) .ret) .skip)))) (.reg false (rg 40 6)))))))) (.seq (.reg false (rg 40 8)) .ret)))⟩ := kr
noncomputable def F_impl_wordsOk_j1  (s1 : Unit) : Option Bool :=
 some true
noncomputable def F_impl_wordsOk_l2 (x_list : List Int) (s2 : Int) : Option (LO Int (JO Unit Bool)) :=
 cond (decide (s2 < (((List.length x_list) : Nat) : Int)))
  (grd ((0 : Int) ≤ s2 ∧ s2 < ((List.length x_list : Nat) : Int)) (Option.bind (F_impl_WordOk (List.getD x_list (Int.toNat s2) default)) fun v3 =>
   cond (!v3)
    (some (.ret (.out false)))
    (some (.next (w64 (s2 + (1 : Int)))))))
  (some (.ret (.go ())))
noncomputable def F_impl_wordsOk (x_list : List Int) : Option Bool :=
 Option.bind (Option.bind (iter (F_impl_wordsOk_l2 x_list) (0 : Int)) LO.val) fun j1 =>
  JO.run j1 (F_impl_wordsOk_j1)
theorem impl_wordsOk_fn {x_list : List Int} {R_ : Bool} (hh : F_impl_wordsOk x_list = some R_) : Fn Try.prog 40 [bo (eI .i64) x_list] (.bool R_) := by
 let z2 := (5, bo (eI .i64) x_list); let z3 := (6, ii (((List.length x_list) : Nat) : Int))
 unfold F_impl_wordsOk at hh
 refine Fn.start low_impl_wordsOk [0] (E := sp 15 [(0, bo (eI .i64) x_list)]) kr (v := bb R_) (Hr := []) (k := 0) kr (sy [0] [] (sp 15 [(0, bo (eI .i64) x_list)]) [] 0 ?_)
 obtain ⟨j1, hh, hk1⟩ := bind_some hh
 refine Aw.join (S := Unit) (fun s1 => sp 15 []) (fun s1 => []) 0 (fun s1 => F_impl_wordsOk_j1 s1 = some R_) ?_ ?_
 · intro s1 hh
   unfold F_impl_wordsOk_j1 at hh
   exact sy [2] [] (sp 15 [(2, bb true)]) [] 0 (Aw.ret (gvbs hh))
 intro Q1 hN1 hR1 hE1
 refine sy [5, 6, 7] [] (sp 15 [z2, z3, (7, ii 0)]) [] 0 (Aw.block ?_)
 obtain ⟨o2, hi2, hk2⟩ := bind_some hh
 refine Aw.iter (fun (s2 : Int) => sp 15 [(5, bo (eI .i64) x_list), (6, ii (((List.length x_list) : Nat) : Int)), (7, ii s2)]) (fun (s2 : Int) => []) 0 hi2 (el [] (rens_sp kr (ro nr_eI (ri (ri rl_n)))) hs_nil) ?_
 intro s2 u2 Q2 hh hN2 hX2 hR2
 let z1 := List.getD x_list (Int.toNat s2) default
 unfold F_impl_wordsOk_l2 at hh
 refine sy [5, 6, 7, 8] [] (sp 15 [z2, z3, (7, ii s2), (8, bb (decide (s2 < (((List.length x_list) : Nat) : Int))))]) [] 0 (Aw.seq ?_)
 rcases cond_sf hh with ⟨hb, hh⟩ | ⟨hb, hh⟩
 · refine cF hb (Aw.exit (then_x (hX2 _ _ _ _ _ (some_some hh) ?_)))
   intro hout
   rw [hout] at hk2
   refine blk_x ?_
   obtain rfl := some_some hk2
   exact hN1 () _ _ _ hk1 (el [] (rens_sp kr rl_n) hs_nil)
 refine cT hb (Aw.xskip (fun _ _ _ hq => then_m hq) (Aw.seq (Aw.block (Aw.sreg [4, 5, 6, 7] [] ?_))))
 obtain ⟨hg24, hh⟩ := grd_some hh
 refine ys (.iadr 1 (.t 5) (.t 7)) (some 9) (op_iadr (kd := .i64) (c := (eI .i64)) (xs := x_list) len_eI dd kr kr hg24 ?_)
 refine ys (.load false 1 (.t 9)) (some 10) (op_loadb (c := (eI .i64)) (xs := x_list) (o := Int.toNat s2 * 1) (i := (Int.toNat s2)) (off := 0) (v := ii z1) len_eI kr ltn ltn dd kr ?_)
 refine yt (sp 15 [(4, ii z1), z2, z3, (7, ii s2)]) [] 0 (Aw.sreg [5, 6, 7, 13] [] (yu 1 [(11, ii z1)] [] 0 ?_))
 obtain ⟨v3, hv3, hh⟩ := bind_some hh
 refine ys (.call 43 [(.t 11)]) (some 12) (oc (impl_WordOk_fn hv3) ?_)
 refine yt (sp 15 [z2, z3, (7, ii s2), (13, bb (!v3))]) [] 0 ?_
 rcases cond_sf hh with ⟨hb, hh⟩ | ⟨hb, hh⟩
 · exact cF hb (Aw.xskip (fun _ _ _ hq => blk_m (then_m hq)) (Aw.oreg (ye (sp 15 [z2, z3, (7, ii (w64 (s2 + (1 : Int)))), (13, bb (!v3)), (14, ii (w64 (s2 + (1 : Int))))]) [] 0 (hN2 (w64 (s2 + (1 : Int))) _ _ _ (some_some hh) (el [] (rens_sp kr (ro nr_eI (ri (ri rl_n)))) hs_nil)))))
 refine cT hb (sy [2] [] (sp 15 [(2, bb false)]) [] 0 (Aw.ret (blk_r (then_r ?_))))
 refine hR2 _ _ _ _ (some_some hh) ?_
 intro hout
 rw [hout] at hk2
 refine blk_r ?_
 obtain rfl := some_some hk2
 refine hR1 _ _ _ ?_
 rw [some_some hk1]
 exact gvb
theorem low_impl_addressOk : LW 47 ⟨9, [(.tmp 2)], (.seq (.reg false (rg 47 0)) (.seq (.reg false (rg 47 1)) .ret))⟩ := kr
noncomputable def F_impl_addressOk (x_addr : Int) : Option Bool :=
 cond (decide ((0 : Int) ≤ x_addr))
  (some (decide (x_addr < (64 : Int))))
  (some false)
theorem impl_addressOk_fn {x_addr : Int} {R_ : Bool} (hh : F_impl_addressOk x_addr = some R_) : Fn Try.prog 47 [.int .i64 x_addr] (.bool R_) := by
 unfold F_impl_addressOk at hh
 refine Fn.start low_impl_addressOk [0] (E := sp 9 [(0, ii x_addr)]) kr (v := bb R_) (Hr := []) (k := 0) kr (sy [0] [] (sp 9 [(0, ii x_addr)]) [] 0 (Aw.sreg [2] [] (yu 3 [(3, ii x_addr), (4, bb (decide ((0 : Int) ≤ x_addr))), (5, bb (decide ((0 : Int) ≤ x_addr)))] [] 0 ?_)))
 rcases cond_sf hh with ⟨hb, hh⟩ | ⟨hb, hh⟩
 · exact yb 4 hb (yb 5 hb (yt (sp 9 [(2, bb false)]) [] 0 (Aw.ret (gvbs hh))))
 exact yb 4 hb (yb 5 hb (yt (sp 9 [(2, bb (decide (x_addr < (64 : Int))))]) [] 0 (Aw.ret (gvbs hh))))
theorem low_impl_pageOk : LW 69 ⟨9, [(.tmp 2)], (.seq (.reg false (rg 69 0)) (.seq (.reg false (rg 69 1)) .ret))⟩ := kr
noncomputable def F_impl_pageOk (x_page : Int) : Option Bool :=
 cond (decide ((0 : Int) ≤ x_page))
  (some (decide (x_page < (8 : Int))))
  (some false)
theorem impl_pageOk_fn {x_page : Int} {R_ : Bool} (hh : F_impl_pageOk x_page = some R_) : Fn Try.prog 69 [.int .i64 x_page] (.bool R_) := by
 unfold F_impl_pageOk at hh
 refine Fn.start low_impl_pageOk [0] (E := sp 9 [(0, ii x_page)]) kr (v := bb R_) (Hr := []) (k := 0) kr (sy [0] [] (sp 9 [(0, ii x_page)]) [] 0 (Aw.sreg [2] [] (yu 3 [(3, ii x_page), (4, bb (decide ((0 : Int) ≤ x_page))), (5, bb (decide ((0 : Int) ≤ x_page)))] [] 0 ?_)))
 rcases cond_sf hh with ⟨hb, hh⟩ | ⟨hb, hh⟩
 · exact yb 4 hb (yb 5 hb (yt (sp 9 [(2, bb false)]) [] 0 (Aw.ret (gvbs hh))))
 exact yb 4 hb (yb 5 hb (yt (sp 9 [(2, bb (decide (x_page < (8 : Int))))]) [] 0 (Aw.ret (gvbs hh))))
theorem low_impl_rootOk : LW 112 ⟨9, [(.tmp 2)], (.seq (.reg false (rg 112 0)) (.seq (.reg false (rg 112 1)) .ret))⟩ := kr
noncomputable def F_impl_rootOk (x_root : Int) : Option Bool :=
 cond (decide (x_root = (-1 : Int)))
  (some true)
  (Option.bind (F_impl_pageOk x_root) fun v1 =>
  some v1)
theorem impl_rootOk_fn {x_root : Int} {R_ : Bool} (hh : F_impl_rootOk x_root = some R_) : Fn Try.prog 112 [.int .i64 x_root] (.bool R_) := by
 unfold F_impl_rootOk at hh
 refine Fn.start low_impl_rootOk [0] (E := sp 9 [(0, ii x_root)]) kr (v := bb R_) (Hr := []) (k := 0) kr (sy [0] [] (sp 9 [(0, ii x_root)]) [] 0 (Aw.sreg [2] [] (yu 3 [(3, ii x_root), (4, bb (decide (x_root = (-1 : Int)))), (5, bb (decide (x_root = (-1 : Int))))] [] 0 ?_)))
 rcases cond_some hh with ⟨hb, hh⟩ | ⟨hb, hh⟩
 · exact yb 4 hb (yb 5 hb (yt (sp 9 [(2, bb true)]) [] 0 (Aw.ret (gvbs hh))))
 refine yb 4 hb (yb 5 hb (yu 1 [(4, bb false), (5, bb false), (6, ii x_root)] [] 0 ?_))
 obtain ⟨v1, hv1, hh⟩ := bind_some hh
 refine yg (.call 69 [(.t 6)]) (some 7) 5 false (oc (impl_pageOk_fn hv1) ?_)
 exact yt (sp 9 [(2, bb v1)]) [] 0 (Aw.ret (gvbs hh))
theorem low_impl_CoreOk : LW 94 ⟨58, [(.tmp 2)], (.seq (.reg false (rg 94 0)) (.seq (.reg false (rg 94 1)) (.seq (.reg false (rg 94 2)) (.seq (.reg false (rg 94 3)) (.seq (.reg false (rg 94 4)) .ret)))))⟩ := kr
noncomputable def F_impl_CoreOk (x_c : DCore) : Option Bool :=
 cond (decide ((((List.length x_c.Regs) : Nat) : Int) = (4 : Int)))
  (Option.bind (F_impl_wordsOk x_c.Regs) fun v1 =>
  Option.bind (F_impl_addressOk x_c.Pc) fun v2 =>
  cond v2
   (Option.bind (F_impl_addressOk x_c.Vector) fun v3 =>
   cond v3
    (Option.bind (F_impl_addressOk x_c.Saved) fun v4 =>
    cond v4
     (Option.bind (F_impl_addressOk x_c.Bad) fun v5 =>
     cond (decide ((0 : Int) ≤ x_c.Cause))
      (cond v1
       (cond v5
        (Option.bind (F_impl_rootOk x_c.Root) fun v6 =>
        cond v6
         (cond (decide (x_c.Cause ≤ (4 : Int)))
          (Option.bind (F_impl_WordOk x_c.Timer) fun v7 =>
          some v7)
          (some false))
         (some false))
        (some false))
       (some false))
      (cond v1
       (cond v5
        (Option.bind (F_impl_rootOk x_c.Root) fun v8 =>
        cond v8
         (some false)
         (some false))
        (some false))
       (some false)))
     (cond (decide ((0 : Int) ≤ x_c.Cause))
      (cond v1
       (some false)
       (some false))
      (cond v1
       (some false)
       (some false))))
    (cond (decide ((0 : Int) ≤ x_c.Cause))
     (cond v1
      (some false)
      (some false))
     (cond v1
      (some false)
      (some false))))
   (cond (decide ((0 : Int) ≤ x_c.Cause))
    (cond v1
     (some false)
     (some false))
    (cond v1
     (some false)
     (some false))))
  (Option.bind (F_impl_addressOk x_c.Pc) fun v9 =>
  cond v9
   (Option.bind (F_impl_addressOk x_c.Vector) fun v10 =>
   cond v10
    (Option.bind (F_impl_addressOk x_c.Saved) fun v11 =>
    cond v11
     (Option.bind (F_impl_addressOk x_c.Bad) fun v12 =>
     cond (decide ((0 : Int) ≤ x_c.Cause))
      (some false)
      (some false))
     (cond (decide ((0 : Int) ≤ x_c.Cause))
      (some false)
      (some false)))
    (cond (decide ((0 : Int) ≤ x_c.Cause))
     (some false)
     (some false)))
   (cond (decide ((0 : Int) ≤ x_c.Cause))
    (some false)
    (some false)))
theorem impl_CoreOk_fn {x_c : DCore} {R_ : Bool} (hh : F_impl_CoreOk x_c = some R_) : Fn Try.prog 94 [.agg (B_100 x_c)] (.bool R_) := by
 let z1 : EH := (0, some (rB100 x_c)); let z2 := (1, pp 0); let z3 := (2, bb false); let z4 := (3, bb false); let z5 : EV := (33, .ptr 0 [] 6); let z6 := (34, ii x_c.Cause); let z7 := (35, bb (decide ((0 : Int) ≤ x_c.Cause))); let z8 := (36, bb (decide ((0 : Int) ≤ x_c.Cause))); let z9 := (4, bb false); let z10 := (5, bb (decide (x_c.Cause ≤ (4 : Int)))); let z11 := (5, bb false)
 unfold F_impl_CoreOk at hh
 refine Fn.start low_impl_CoreOk [0] (E := sp 58 [(0, .agg (B_100 x_c))]) kr (v := bb R_) (Hr := []) (k := 0) kr (sy [1] [0] (sp 58 [z2]) [z1] 1 (Aw.sreg [1, 3] [0] (yu 5 [(6, pp 0), (7, bo (eI .i64) x_c.Regs), (8, ii (((List.length x_c.Regs) : Nat) : Int)), (9, bb (decide ((((List.length x_c.Regs) : Nat) : Int) = (4 : Int)))), (10, bb (decide ((((List.length x_c.Regs) : Nat) : Int) = (4 : Int))))] [z1] 1 ?_)))
 rcases cond_sf hh with ⟨hb, hh⟩ | ⟨hb, hh⟩
 · refine yb 9 hb (yb 10 hb (yt (sp 58 [z2, z4]) [z1] 1 (Aw.sreg [1, 3, 4] [0] (yu 2 [(15, .ptr 0 [] 1), (16, ii x_c.Pc)] [z1] 1 ?_))))
   obtain ⟨v9, hv9, hh⟩ := bind_some hh
   refine ys (.call 47 [(.t 16)]) (some 17) (oc (impl_addressOk_fn hv9) ?_)
   refine yu 1 [(17, bb v9), (18, bb v9)] [z1] 1 ?_
   rcases cond_sf hh with ⟨hb, hh⟩ | ⟨hb, hh⟩
   · refine yb 17 hb (yb 18 hb (yt (sp 58 [z2, z4, z9]) [z1] 1 (Aw.sreg [1, 3, 4, 5] [0] (yu 4 [z5, z6, z7, z8] [z1] 1 ?_))))
     rcases cond_sf hh with ⟨hb, hh⟩ | ⟨hb, hh⟩
     · exact yb 35 hb (yb 36 hb (yt (sp 58 [z2, z4, z9, z11]) [z1] 1 (sy [2] [] (sp 58 [z3]) [] 1 (Aw.ret (gvbs hh)))))
     exact yb 35 hb (yb 36 hb (yt (sp 58 [z2, z4, z9, z10]) [z1] 1 (sy [2] [] (sp 58 [z3]) [] 1 (Aw.ret (gvbs hh)))))
   refine yb 17 hb (yb 18 hb (yu 2 [(17, bb true), (18, bb true), (19, .ptr 0 [] 3), (20, ii x_c.Vector)] [z1] 1 ?_))
   obtain ⟨v10, hv10, hh⟩ := bind_some hh
   refine yg (.call 47 [(.t 20)]) (some 21) 18 true (oc (impl_addressOk_fn hv10) ?_)
   refine yu 2 [(21, bb v10), (22, bb v10), (23, bb v10)] [z1] 1 ?_
   rcases cond_sf hh with ⟨hb, hh⟩ | ⟨hb, hh⟩
   · refine yb 21 hb (yb 22 hb (yb 23 hb (yt (sp 58 [z2, z4, z9]) [z1] 1 (Aw.sreg [1, 3, 4, 5] [0] (yu 4 [z5, z6, z7, z8] [z1] 1 ?_)))))
     rcases cond_sf hh with ⟨hb, hh⟩ | ⟨hb, hh⟩
     · exact yb 35 hb (yb 36 hb (yt (sp 58 [z2, z4, z9, z11]) [z1] 1 (sy [2] [] (sp 58 [z3]) [] 1 (Aw.ret (gvbs hh)))))
     exact yb 35 hb (yb 36 hb (yt (sp 58 [z2, z4, z9, z10]) [z1] 1 (sy [2] [] (sp 58 [z3]) [] 1 (Aw.ret (gvbs hh)))))
   refine yb 21 hb (yb 22 hb (yb 23 hb (yu 2 [(21, bb true), (22, bb true), (23, bb true), (24, .ptr 0 [] 4), (25, ii x_c.Saved)] [z1] 1 ?_)))
   obtain ⟨v11, hv11, hh⟩ := bind_some hh
   refine yg (.call 47 [(.t 25)]) (some 26) 23 true (oc (impl_addressOk_fn hv11) ?_)
   refine yu 2 [(26, bb v11), (27, bb v11), (28, bb v11)] [z1] 1 ?_
   rcases cond_sf hh with ⟨hb, hh⟩ | ⟨hb, hh⟩
   · refine yb 26 hb (yb 27 hb (yb 28 hb (yt (sp 58 [z2, z4, z9]) [z1] 1 (Aw.sreg [1, 3, 4, 5] [0] (yu 4 [z5, z6, z7, z8] [z1] 1 ?_)))))
     rcases cond_sf hh with ⟨hb, hh⟩ | ⟨hb, hh⟩
     · exact yb 35 hb (yb 36 hb (yt (sp 58 [z2, z4, z9, z11]) [z1] 1 (sy [2] [] (sp 58 [z3]) [] 1 (Aw.ret (gvbs hh)))))
     exact yb 35 hb (yb 36 hb (yt (sp 58 [z2, z4, z9, z10]) [z1] 1 (sy [2] [] (sp 58 [z3]) [] 1 (Aw.ret (gvbs hh)))))
   refine yb 26 hb (yb 27 hb (yb 28 hb (yu 2 [(26, bb true), (27, bb true), (28, bb true), (29, .ptr 0 [] 7), (30, ii x_c.Bad)] [z1] 1 ?_)))
   obtain ⟨v12, hv12, hh⟩ := bind_some hh
   refine yg (.call 47 [(.t 30)]) (some 31) 28 true (oc (impl_addressOk_fn hv12) ?_)
   refine yt (sp 58 [z2, z4, (4, bb v12)]) [z1] 1 (Aw.sreg [1, 3, 4, 5] [0] (yu 4 [z5, z6, z7, z8] [z1] 1 ?_))
   rcases cond_sf hh with ⟨hb, hh⟩ | ⟨hb, hh⟩
   · exact yb 35 hb (yb 36 hb (yt (sp 58 [z2, z4, (4, bb v12), z11]) [z1] 1 (sy [2] [] (sp 58 [z3]) [] 1 (Aw.ret (gvbs hh)))))
   exact yb 35 hb (yb 36 hb (yt (sp 58 [z2, z4, (4, bb v12), z10]) [z1] 1 (sy [2] [] (sp 58 [z3]) [] 1 (Aw.ret (gvbs hh)))))
 refine yb 9 hb (yb 10 hb (yu 2 [(9, bb true), (10, bb true), (11, pp 0), (12, bo (eI .i64) x_c.Regs)] [z1] 1 ?_))
 obtain ⟨v1, hv1, hh⟩ := bind_some hh
 let z12 := (3, bb v1); let z13 := (41, bb v1); let z14 := (42, bb v1)
 refine yg (.call 40 [(.t 12)]) (some 13) 10 true (oc (impl_wordsOk_fn hv1) ?_)
 refine yt (sp 58 [z2, z12]) [z1] 1 (Aw.sreg [1, 3, 4] [0] (yu 2 [(15, .ptr 0 [] 1), (16, ii x_c.Pc)] [z1] 1 ?_))
 obtain ⟨v2, hv2, hh⟩ := bind_some hh
 refine ys (.call 47 [(.t 16)]) (some 17) (oc (impl_addressOk_fn hv2) ?_)
 refine yu 1 [(17, bb v2), (18, bb v2)] [z1] 1 ?_
 rcases cond_sf hh with ⟨hb, hh⟩ | ⟨hb, hh⟩
 · refine yb 17 hb (yb 18 hb (yt (sp 58 [z2, z12, z9]) [z1] 1 (Aw.sreg [1, 3, 4, 5] [0] (yu 4 [z5, z6, z7, z8] [z1] 1 ?_))))
   rcases cond_sf hh with ⟨hb, hh⟩ | ⟨hb, hh⟩
   · refine yb 35 hb (yb 36 hb (yt (sp 58 [z2, z12, z9, z11]) [z1] 1 (Aw.sreg [2] [] (yu 2 [z13, z14] [z1] 1 ?_))))
     rcases cond_sf hh with ⟨hb, hh⟩ | ⟨hb, hh⟩
     · exact yb 3 hb (yb 41 hb (yb 42 hb (yt (sp 58 [z3]) [] 1 (Aw.ret (gvbs hh)))))
     exact yb 3 hb (yb 41 hb (yb 42 hb (yt (sp 58 [z3]) [] 1 (Aw.ret (gvbs hh)))))
   refine yb 35 hb (yb 36 hb (yt (sp 58 [z2, z12, z9, z10]) [z1] 1 (Aw.sreg [2] [] (yu 2 [z13, z14] [z1] 1 ?_))))
   rcases cond_sf hh with ⟨hb, hh⟩ | ⟨hb, hh⟩
   · exact yb 3 hb (yb 41 hb (yb 42 hb (yt (sp 58 [z3]) [] 1 (Aw.ret (gvbs hh)))))
   exact yb 3 hb (yb 41 hb (yb 42 hb (yt (sp 58 [z3]) [] 1 (Aw.ret (gvbs hh)))))
 refine yb 17 hb (yb 18 hb (yu 2 [(17, bb true), (18, bb true), (19, .ptr 0 [] 3), (20, ii x_c.Vector)] [z1] 1 ?_))
 obtain ⟨v3, hv3, hh⟩ := bind_some hh
 refine yg (.call 47 [(.t 20)]) (some 21) 18 true (oc (impl_addressOk_fn hv3) ?_)
 refine yu 2 [(21, bb v3), (22, bb v3), (23, bb v3)] [z1] 1 ?_
 rcases cond_sf hh with ⟨hb, hh⟩ | ⟨hb, hh⟩
 · refine yb 21 hb (yb 22 hb (yb 23 hb (yt (sp 58 [z2, z12, z9]) [z1] 1 (Aw.sreg [1, 3, 4, 5] [0] (yu 4 [z5, z6, z7, z8] [z1] 1 ?_)))))
   rcases cond_sf hh with ⟨hb, hh⟩ | ⟨hb, hh⟩
   · refine yb 35 hb (yb 36 hb (yt (sp 58 [z2, z12, z9, z11]) [z1] 1 (Aw.sreg [2] [] (yu 2 [z13, z14] [z1] 1 ?_))))
     rcases cond_sf hh with ⟨hb, hh⟩ | ⟨hb, hh⟩
     · exact yb 3 hb (yb 41 hb (yb 42 hb (yt (sp 58 [z3]) [] 1 (Aw.ret (gvbs hh)))))
     exact yb 3 hb (yb 41 hb (yb 42 hb (yt (sp 58 [z3]) [] 1 (Aw.ret (gvbs hh)))))
   refine yb 35 hb (yb 36 hb (yt (sp 58 [z2, z12, z9, z10]) [z1] 1 (Aw.sreg [2] [] (yu 2 [z13, z14] [z1] 1 ?_))))
   rcases cond_sf hh with ⟨hb, hh⟩ | ⟨hb, hh⟩
   · exact yb 3 hb (yb 41 hb (yb 42 hb (yt (sp 58 [z3]) [] 1 (Aw.ret (gvbs hh)))))
   exact yb 3 hb (yb 41 hb (yb 42 hb (yt (sp 58 [z3]) [] 1 (Aw.ret (gvbs hh)))))
 refine yb 21 hb (yb 22 hb (yb 23 hb (yu 2 [(21, bb true), (22, bb true), (23, bb true), (24, .ptr 0 [] 4), (25, ii x_c.Saved)] [z1] 1 ?_)))
 obtain ⟨v4, hv4, hh⟩ := bind_some hh
 refine yg (.call 47 [(.t 25)]) (some 26) 23 true (oc (impl_addressOk_fn hv4) ?_)
 refine yu 2 [(26, bb v4), (27, bb v4), (28, bb v4)] [z1] 1 ?_
 rcases cond_sf hh with ⟨hb, hh⟩ | ⟨hb, hh⟩
 · refine yb 26 hb (yb 27 hb (yb 28 hb (yt (sp 58 [z2, z12, z9]) [z1] 1 (Aw.sreg [1, 3, 4, 5] [0] (yu 4 [z5, z6, z7, z8] [z1] 1 ?_)))))
   rcases cond_sf hh with ⟨hb, hh⟩ | ⟨hb, hh⟩
   · refine yb 35 hb (yb 36 hb (yt (sp 58 [z2, z12, z9, z11]) [z1] 1 (Aw.sreg [2] [] (yu 2 [z13, z14] [z1] 1 ?_))))
     rcases cond_sf hh with ⟨hb, hh⟩ | ⟨hb, hh⟩
     · exact yb 3 hb (yb 41 hb (yb 42 hb (yt (sp 58 [z3]) [] 1 (Aw.ret (gvbs hh)))))
     exact yb 3 hb (yb 41 hb (yb 42 hb (yt (sp 58 [z3]) [] 1 (Aw.ret (gvbs hh)))))
   refine yb 35 hb (yb 36 hb (yt (sp 58 [z2, z12, z9, z10]) [z1] 1 (Aw.sreg [2] [] (yu 2 [z13, z14] [z1] 1 ?_))))
   rcases cond_sf hh with ⟨hb, hh⟩ | ⟨hb, hh⟩
   · exact yb 3 hb (yb 41 hb (yb 42 hb (yt (sp 58 [z3]) [] 1 (Aw.ret (gvbs hh)))))
   exact yb 3 hb (yb 41 hb (yb 42 hb (yt (sp 58 [z3]) [] 1 (Aw.ret (gvbs hh)))))
 refine yb 26 hb (yb 27 hb (yb 28 hb (yu 2 [(26, bb true), (27, bb true), (28, bb true), (29, .ptr 0 [] 7), (30, ii x_c.Bad)] [z1] 1 ?_)))
 obtain ⟨v5, hv5, hh⟩ := bind_some hh
 refine yg (.call 47 [(.t 30)]) (some 31) 28 true (oc (impl_addressOk_fn hv5) ?_)
 refine yt (sp 58 [z2, z12, (4, bb v5)]) [z1] 1 (Aw.sreg [1, 3, 4, 5] [0] (yu 4 [z5, z6, z7, z8] [z1] 1 ?_))
 rcases cond_sf hh with ⟨hb, hh⟩ | ⟨hb, hh⟩
 · refine yb 35 hb (yb 36 hb (yt (sp 58 [z2, z12, (4, bb v5), z11]) [z1] 1 (Aw.sreg [2] [] (yu 2 [z13, z14] [z1] 1 ?_))))
   rcases cond_sf hh with ⟨hb, hh⟩ | ⟨hb, hh⟩
   · exact yb 3 hb (yb 41 hb (yb 42 hb (yt (sp 58 [z3]) [] 1 (Aw.ret (gvbs hh)))))
   refine yb 3 hb (yb 41 hb (yb 42 hb (yu 3 [(3, bb true), (41, bb true), (42, bb true), (43, bb v5), (44, bb v5), (45, bb v5)] [z1] 1 ?_)))
   rcases cond_sf hh with ⟨hb, hh⟩ | ⟨hb, hh⟩
   · exact yb 4 hb (yb 43 hb (yb 44 hb (yb 45 hb (yt (sp 58 [z3]) [] 1 (Aw.ret (gvbs hh))))))
   refine yb 4 hb (yb 43 hb (yb 44 hb (yb 45 hb (yu 2 [(4, bb true), (43, bb true), (44, bb true), (45, bb true), (46, .ptr 0 [] 2), (47, ii x_c.Root)] [z1] 1 ?_))))
   obtain ⟨v8, hv8, hh⟩ := bind_some hh
   refine yg (.call 112 [(.t 47)]) (some 48) 45 true (oc (impl_rootOk_fn hv8) ?_)
   refine yu 2 [(48, bb v8), (49, bb v8), (50, bb v8)] [z1] 1 ?_
   rcases cond_sf hh with ⟨hb, hh⟩ | ⟨hb, hh⟩
   · exact yb 48 hb (yb 49 hb (yb 50 hb (yt (sp 58 [z3]) [] 1 (Aw.ret (gvbs hh)))))
   exact yb 48 hb (yb 49 hb (yb 50 hb (yt (sp 58 [z3]) [] 1 (Aw.ret (gvbs hh)))))
 refine yb 35 hb (yb 36 hb (yt (sp 58 [z2, z12, (4, bb v5), z10]) [z1] 1 (Aw.sreg [2] [] (yu 2 [z13, z14] [z1] 1 ?_))))
 rcases cond_sf hh with ⟨hb, hh⟩ | ⟨hb, hh⟩
 · exact yb 3 hb (yb 41 hb (yb 42 hb (yt (sp 58 [z3]) [] 1 (Aw.ret (gvbs hh)))))
 refine yb 3 hb (yb 41 hb (yb 42 hb (yu 3 [(3, bb true), (41, bb true), (42, bb true), (43, bb v5), (44, bb v5), (45, bb v5)] [z1] 1 ?_)))
 rcases cond_sf hh with ⟨hb, hh⟩ | ⟨hb, hh⟩
 · exact yb 4 hb (yb 43 hb (yb 44 hb (yb 45 hb (yt (sp 58 [z3]) [] 1 (Aw.ret (gvbs hh))))))
 refine yb 4 hb (yb 43 hb (yb 44 hb (yb 45 hb (yu 2 [(4, bb true), (43, bb true), (44, bb true), (45, bb true), (46, .ptr 0 [] 2), (47, ii x_c.Root)] [z1] 1 ?_))))
 obtain ⟨v6, hv6, hh⟩ := bind_some hh
 refine yg (.call 112 [(.t 47)]) (some 48) 45 true (oc (impl_rootOk_fn hv6) ?_)
 refine yu 2 [(48, bb v6), (49, bb v6), (50, bb v6)] [z1] 1 ?_
 rcases cond_sf hh with ⟨hb, hh⟩ | ⟨hb, hh⟩
 · exact yb 48 hb (yb 49 hb (yb 50 hb (yt (sp 58 [z3]) [] 1 (Aw.ret (gvbs hh)))))
 refine yb 48 hb (yb 49 hb (yb 50 hb (yu 3 [(48, bb true), (49, bb true), (50, bb true), (51, bb (decide (x_c.Cause ≤ (4 : Int)))), (52, bb (decide (x_c.Cause ≤ (4 : Int)))), (53, bb (decide (x_c.Cause ≤ (4 : Int))))] [z1] 1 ?_)))
 rcases cond_sf hh with ⟨hb, hh⟩ | ⟨hb, hh⟩
 · exact yb 5 hb (yb 51 hb (yb 52 hb (yb 53 hb (yt (sp 58 [z3]) [] 1 (Aw.ret (gvbs hh))))))
 refine yb 5 hb (yb 51 hb (yb 52 hb (yb 53 hb (yu 2 [(5, bb true), (51, bb true), (52, bb true), (53, bb true), (54, .ptr 0 [] 8), (55, ii x_c.Timer)] [z1] 1 ?_))))
 obtain ⟨v7, hv7, hh⟩ := bind_some hh
 refine yg (.call 43 [(.t 55)]) (some 56) 53 true (oc (impl_WordOk_fn hv7) ?_)
 exact yt (sp 58 [(2, bb v7)]) [] 1 (Aw.ret (gvbs hh))
theorem low_impl_rowOk : LW 96 ⟨10, [(.tmp 2)], (.seq (.reg false (rg 96 0)) (.seq (.reg false (rg 96 1)) .ret))⟩ := kr
noncomputable def F_impl_rowOk (x_words : List Int) : Option Bool :=
 cond (decide ((((List.length x_words) : Nat) : Int) ≤ (30 : Int)))
  (Option.bind (F_impl_wordsOk x_words) fun v1 =>
  some v1)
  (some false)
theorem impl_rowOk_fn {x_words : List Int} {R_ : Bool} (hh : F_impl_rowOk x_words = some R_) : Fn Try.prog 96 [bo (eI .i64) x_words] (.bool R_) := by
 unfold F_impl_rowOk at hh
 refine Fn.start low_impl_rowOk [0] (E := sp 10 [(0, bo (eI .i64) x_words)]) kr (v := bb R_) (Hr := []) (k := 0) kr (sy [0] [] (sp 10 [(0, bo (eI .i64) x_words)]) [] 0 (Aw.sreg [2] [] (yu 4 [(3, bo (eI .i64) x_words), (4, ii (((List.length x_words) : Nat) : Int)), (5, bb (decide ((((List.length x_words) : Nat) : Int) ≤ (30 : Int)))), (6, bb (decide ((((List.length x_words) : Nat) : Int) ≤ (30 : Int))))] [] 0 ?_)))
 rcases cond_sf hh with ⟨hb, hh⟩ | ⟨hb, hh⟩
 · exact yb 5 hb (yb 6 hb (yt (sp 10 [(2, bb false)]) [] 0 (Aw.ret (gvbs hh))))
 refine yb 5 hb (yb 6 hb (yu 1 [(5, bb true), (6, bb true), (7, bo (eI .i64) x_words)] [] 0 ?_))
 obtain ⟨v1, hv1, hh⟩ := bind_some hh
 refine yg (.call 40 [(.t 7)]) (some 8) 6 true (oc (impl_wordsOk_fn hv1) ?_)
 exact yt (sp 10 [(2, bb v1)]) [] 0 (Aw.ret (gvbs hh))
end Go.Proofs.Ytbnjdmclnojlmaa
