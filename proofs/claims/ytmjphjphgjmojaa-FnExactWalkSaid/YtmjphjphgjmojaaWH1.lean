/- Plain functions of the program, and that it hands back what they say. Made by program. -/
import Derived.Test.YtmjphjphgjmojaaWT
import Derived.Test.YtmjphjphgjmojaaProg
namespace Go.Proofs.Ytmjphjphgjmojaa
open Go.RowKit
set_option maxRecDepth 100000
set_option linter.all false
set_option maxHeartbeats 0
def Lf6_r0 : List LOper := [oo 2 (.mv (.c .nil))]
def Lf6_r1 : List LOper := [om 5 0, oo 6 (.len (.t 5)), oo 7 (.mk 3 1 8 [(ii 0)] (.t 6)), om 3 7]
def Lf6_r2 : List LOper := [oo 4 (.mv (.c (ii 0)))]
def Lf6_r3 : List LOper := [om 8 4, om 9 0, oo 10 (.len (.t 9)), oo 11 (.bin .lss (.t 8) (.t 10))]
def Lf6_r4 : List LOper := [om 14 3, om 15 4, om 16 0, om 17 4, oo 18 (.iadr 1 (.t 16) (.t 17)), oo 19 (.load false 1 (.t 18)), oo 20 (.iadr 1 (.t 14) (.t 15)), ⟨none, (.store 1 (.t 20) (.t 19)), none⟩]
def Lf6_r5 : List LOper := [om 12 4, oo 13 (.bin .add (.t 12) (.c (ii 1))), om 4 13]
def Lf6_l6 : LCode := (.seq (.seq (.reg false Lf6_r3) (.cond (.t 11) .skip (.exit 0))) (.seq (.block 1 (.reg false Lf6_r4)) (.reg false Lf6_r5)))
def Lf6_r7 : List LOper := [om 21 3, om 2 21]
def Lf6 : LFun := ⟨22, [(.tmp 2)], (.seq (.reg false Lf6_r0) (.seq (.reg false Lf6_r1) (.seq (.seq (.reg false Lf6_r2) (.block 0 (.loop Lf6_l6))) (.seq (.reg false Lf6_r7) .ret))))⟩
theorem low_laws_toIntS : lowFun Go.Proofs.Try.prog 6 = some Lf6 := by kernel_rfl
noncomputable def F_laws_toIntS_j1  (s1 : (List Int)) : Option (List Int) :=
 some s1
noncomputable def F_laws_toIntS_l2 (x_a : List Int) (s2 : (List Int) × Int) : Option (LO ((List Int) × Int) (JO (List Int) (List Int))) :=
 cond (decide (s2.2 < (((List.length x_a) : Nat) : Int)))
  (grd ((0 : Int) ≤ s2.2 ∧ s2.2 < ((List.length x_a : Nat) : Int)) (grd ((0 : Int) ≤ s2.2 ∧ s2.2 < (((List.length s2.1) : Nat) : Int)) (some (.next ((List.set s2.1 (Int.toNat s2.2) (List.getD x_a (Int.toNat s2.2) default)), (w64 (s2.2 + (1 : Int))))))))
  (some (.ret (.go s2.1)))
noncomputable def F_laws_toIntS (x_a : List Int) : Option (List Int) :=
 grd ((0 : Int) ≤ (((List.length x_a) : Nat) : Int) ∧ (((List.length x_a) : Nat) : Int) * 8 ≤ 2 ^ 47 ∧ (((List.length x_a) : Nat) : Int) ≤ 2 ^ 47) (Option.bind (Option.bind (iter (F_laws_toIntS_l2 x_a) ((List.replicate (Int.toNat (((List.length x_a) : Nat) : Int)) (0 : Int)), (0 : Int))) LO.val) fun j1 =>
  JO.run j1 (F_laws_toIntS_j1))
theorem laws_toIntS_fn {x_a : List Int} {R_ : (List Int)} (hh : F_laws_toIntS x_a = some R_) : Fn Try.prog 6 [bo (eI .i64) x_a] (.own 3 1 (List.length R_) (fl (eI .i64) R_)) := by
 unfold F_laws_toIntS at hh
 refine Fn.start low_laws_toIntS [0] (E := sp 22 [(0, bo (eI .i64) x_a)]) (by kernel_rfl) (v := sw 0 R_) (Hr := [(0, some ⟨3, (fl (eI .i64) R_)⟩)]) (k := 1) (by kernel_rfl) ?_
 refine sy [0] [] (sp 22 [(0, bo (eI .i64) x_a)]) [] 0 ?_
 refine Aw.sreg [0, 3] [0] (yu 2 [(5, bo (eI .i64) x_a), (6, ii (((List.length x_a) : Nat) : Int))] [] 0 ?_)
 obtain ⟨hg50, hh⟩ := grd_some hh
 refine ys (.mk 3 1 8 [(ii 0)] (.t 6)) (some 7) (op_mk (c := (eI .i64)) (d := (0 : Int)) (k := (((List.length x_a) : Nat) : Int)) (by kernel_rfl) hg50 (by kernel_rfl) ?_)
 let q1 : Root := ⟨3, (fl (eI .i64) (List.replicate (Int.toNat (((List.length x_a) : Nat) : Int)) (0 : Int)))⟩
 refine yt (sp 22 [(0, bo (eI .i64) x_a), (3, .sref 0 [] 0 (List.length (List.replicate (Int.toNat (((List.length x_a) : Nat) : Int)) (0 : Int))) 1)]) [(0, some q1)] 1 ?_
 obtain ⟨j1, hh, hk1⟩ := bind_some hh
 refine Aw.join (S := (List Int)) (fun s1 => sp 22 [(3, sw 0 s1)]) (fun s1 => [(0, some ⟨3, (fl (eI .i64) s1)⟩)]) 1 (fun s1 => F_laws_toIntS_j1 s1 = some R_) ?_ ?_
 · intro s1 hh
   unfold F_laws_toIntS_j1 at hh
   refine sy [2] [0] (sp 22 [(2, sw 0 s1)]) [(0, some ⟨3, (fl (eI .i64) s1)⟩)] 1 ?_
   refine Aw.ret ?_
   rw [some_some hh]
   exact gives (r' := sw 0 s1) (by kernel_rfl) (Ent.list [some 0] rfl rfl (Nat.zero_le _) (rens_1 ren_sx) (hq ⟨3, (fl (eI .i64) s1)⟩ (rens_same (noRefs_fl nr_eI)) hs_nil))
 intro Q1 hN1 hR1 hE1
 refine sy [0, 3, 4] [0] (sp 22 [(0, bo (eI .i64) x_a), (3, .sref 0 [] 0 (List.length (List.replicate (Int.toNat (((List.length x_a) : Nat) : Int)) (0 : Int))) 1), (4, ii 0)]) [(0, some q1)] 1 ?_
 refine Aw.block ?_
 obtain ⟨o2, hi2, hk2⟩ := bind_some hh
 refine Aw.iter (fun (s2 : (List Int) × Int) => sp 22 [(0, bo (eI .i64) x_a), (3, sw 0 s2.1), (4, ii s2.2)]) (fun (s2 : (List Int) × Int) => [(0, some ⟨3, (fl (eI .i64) s2.1)⟩)]) 1 hi2 (Ent.list2 [some 0] rfl rfl (by decide) (rens_sp (by kernel_rfl) (rl_c (u := bo (eI .i64) x_a) (by kernel_rfl) (ren_bor (rens_same (noRefs_fl nr_eI))) (rl_c (u := .sref 0 [] 0 (List.length (List.replicate (Int.toNat (((List.length x_a) : Nat) : Int)) (0 : Int))) 1) (by kernel_rfl) ren_sx (rl_c (u := ii 0) (by kernel_rfl) ren_i rl_n)))) (hq q1 (rens_same (noRefs_fl nr_eI)) hs_nil)) ?_
 intro s2 u2 Q2 hh hN2 hX2 hR2
 unfold F_laws_toIntS_l2 at hh
 refine Aw.seq ?_
 refine sy [0, 3, 4, 11] [0] (sp 22 [(0, bo (eI .i64) x_a), (3, sw 0 s2.1), (4, ii s2.2), (11, bb (decide (s2.2 < (((List.length x_a) : Nat) : Int))))]) [(0, some ⟨3, (fl (eI .i64) s2.1)⟩)] 1 ?_
 rcases cond_some hh with ⟨hb, hh⟩ | ⟨hb, hh⟩
 · refine cT hb ?_
   refine Aw.xskip (fun _ _ _ hq => then_m hq) ?_
   refine Aw.seq ?_
   refine Aw.block ?_
   refine Aw.xreg [0, 3, 4] [0] (fun _ _ _ hq => blk_m (then_m hq)) ?_
   refine yj 4  (sp 22 [(0, bo (eI .i64) x_a), (3, sw 0 s2.1), (4, ii s2.2), (11, bb (decide (s2.2 < (((List.length x_a) : Nat) : Int)))), (14, sw 0 s2.1), (15, ii s2.2), (16, bo (eI .i64) x_a), (17, ii s2.2)]) [(0, some ⟨3, (fl (eI .i64) s2.1)⟩)] 1 ?_
   obtain ⟨hg48, hh⟩ := grd_some hh
   refine ys (.iadr 1 (.t 16) (.t 17)) (some 18) (op_iadr (kd := .i64) (c := (eI .i64)) (xs := x_a) len_eI (by decide) (by kernel_rfl) (by kernel_rfl) hg48 ?_)
   refine ys (.load false 1 (.t 18)) (some 19) (op_loadb (c := (eI .i64)) (xs := x_a) (o := Int.toNat s2.2 * 1) (i := (Int.toNat s2.2)) (off := 0) (v := ii (List.getD x_a (Int.toNat s2.2) default)) len_eI (by kernel_rfl) (by omega) (by omega) (by decide) (by kernel_rfl) ?_)
   obtain ⟨hg49, hh⟩ := grd_some hh
   refine yjc 1 [(0 : Int) ≤ s2.2 ∧ s2.2 < (((List.length s2.1) : Nat) : Int)] (sp 22 [(0, bo (eI .i64) x_a), (3, sw 0 s2.1), (4, ii s2.2), (11, bb (decide (s2.2 < (((List.length x_a) : Nat) : Int)))), (14, sw 0 s2.1), (15, ii s2.2), (16, bo (eI .i64) x_a), (17, ii s2.2), (18, .bptr (fl (eI .i64) x_a) (Int.toNat s2.2 * 1)), (19, ii (List.getD x_a (Int.toNat s2.2) default)), (20, .ptr 0 [] (0 + (Int.toNat s2.2) * 1))]) [(0, some ⟨3, (fl (eI .i64) s2.1)⟩)] 1 (.cons hg49 .nil) ?_
   let q2 : Root := ⟨3, (fl (eI .i64) (List.set s2.1 (Int.toNat s2.2) (List.getD x_a (Int.toNat s2.2) default)))⟩
   refine ys (.store 1 (.t 20) (.t 19)) none (op_store (c := (eI .i64)) (xs := s2.1) (e := 3) (r := 0) (π := []) (o := 0 + (Int.toNat s2.2) * 1) (i := (Int.toNat s2.2)) (off := 0) (vs := [ii (List.getD x_a (Int.toNat s2.2) default)]) (y := (List.getD x_a (Int.toNat s2.2) default)) (H' := [(0, some q2), (0, some ⟨3, (fl (eI .i64) s2.1)⟩)]) len_eI (by kernel_rfl) (by kernel_rfl) (by kernel_rfl) (by kernel_rfl) (by omega) (by omega) (by decide) (by kernel_rfl) (by kernel_rfl) ?_)
   refine yt (sp 22 [(0, bo (eI .i64) x_a), (3, sw 0 s2.1), (4, ii s2.2)]) [(0, some q2)] 1 ?_
   refine Aw.oreg ?_
   refine ye (sp 22 [(0, bo (eI .i64) x_a), (3, sw 0 s2.1), (4, ii (w64 (s2.2 + (1 : Int)))), (12, ii s2.2), (13, ii (w64 (s2.2 + (1 : Int))))]) [(0, some q2)] 1 ?_
   exact hN2 ((List.set s2.1 (Int.toNat s2.2) (List.getD x_a (Int.toNat s2.2) default)), (w64 (s2.2 + (1 : Int)))) _ _ _ (some_some hh) (Ent.list2 [some 0] rfl rfl (by decide) (rens_sp (by kernel_rfl) (rl_c (u := bo (eI .i64) x_a) (by kernel_rfl) (ren_bor (rens_same (noRefs_fl nr_eI))) (rl_c (u := sw 0 s2.1) (by kernel_rfl) ren_sx (rl_c (u := ii (w64 (s2.2 + (1 : Int)))) (by kernel_rfl) ren_i rl_n)))) (hq q2 (rens_same (noRefs_fl nr_eI)) hs_nil))
 refine cF hb ?_
 refine Aw.exit ?_
 refine then_x ?_
 refine hX2 _ _ _ _ _ (some_some hh) ?_
 intro hout
 rw [hout] at hk2
 refine blk_x ?_
 obtain rfl := some_some hk2
 exact hN1 s2.1 _ _ _ hk1 (Ent.list2 [some 0] rfl rfl (by decide) (rens_sp (by kernel_rfl) (rl_c (u := sw 0 s2.1) (by kernel_rfl) ren_sx rl_n)) (hq ⟨3, (fl (eI .i64) s2.1)⟩ (rens_same (noRefs_fl nr_eI)) hs_nil))
def Lf8_r0 : List LOper := [oo 4 (.mv (.c (bb false)))]
def Lf8_r1 : List LOper := [om 6 0, oo 7 (.len (.t 6)), om 8 1, oo 9 (.len (.t 8)), oo 10 (.bin .neq (.t 7) (.t 9))]
def Lf8_r2 : List LOper := [oo 4 (.mv (.c (bb false)))]
def Lf8_r3 : List LOper := [oo 5 (.mv (.c (ii 0)))]
def Lf8_r4 : List LOper := [om 11 5, om 12 0, oo 13 (.len (.t 12)), oo 14 (.bin .lss (.t 11) (.t 13))]
def Lf8_r5 : List LOper := [om 17 0, om 18 5, oo 19 (.iadr 1 (.t 17) (.t 18)), oo 20 (.load false 1 (.t 19)), om 21 1, om 22 5, oo 23 (.iadr 1 (.t 21) (.t 22)), oo 24 (.load false 1 (.t 23)), oo 25 (.bin .neq (.t 20) (.t 24))]
def Lf8_r6 : List LOper := [oo 4 (.mv (.c (bb false)))]
def Lf8_r7 : List LOper := [om 15 5, oo 16 (.bin .add (.t 15) (.c (ii 1))), om 5 16]
def Lf8_l8 : LCode := (.seq (.seq (.reg false Lf8_r4) (.cond (.t 14) .skip (.exit 0))) (.seq (.block 1 (.seq (.reg true Lf8_r5) (.cond (.t 25) (.seq (.reg false Lf8_r6) .ret) .skip))) (.reg false Lf8_r7)))
def Lf8_r9 : List LOper := [oo 4 (.mv (.c (bb true)))]
def Lf8 : LFun := ⟨26, [(.tmp 4)], (.seq (.reg false Lf8_r0) (.seq (.seq (.reg false Lf8_r1) (.cond (.t 10) (.seq (.reg false Lf8_r2) .ret) .skip)) (.seq (.seq (.reg false Lf8_r3) (.block 0 (.loop Lf8_l8))) (.seq (.reg false Lf8_r9) .ret))))⟩
theorem low_laws_eqIntS : lowFun Go.Proofs.Try.prog 8 = some Lf8 := by kernel_rfl
noncomputable def F_laws_eqIntS_j1  (s1 : Unit) : Option Bool :=
 some true
noncomputable def F_laws_eqIntS_l2 (x_a : List Int) (x_b : List Int) (s2 : Int) : Option (LO Int (JO Unit Bool)) :=
 cond (decide (s2 < (((List.length x_a) : Nat) : Int)))
  (grd ((0 : Int) ≤ s2 ∧ s2 < ((List.length x_a : Nat) : Int)) (grd ((0 : Int) ≤ s2 ∧ s2 < ((List.length x_b : Nat) : Int)) (cond (!decide ((List.getD x_a (Int.toNat s2) default) = (List.getD x_b (Int.toNat s2) default)))
   (some (.ret (.out false)))
   (some (.next (w64 (s2 + (1 : Int))))))))
  (some (.ret (.go ())))
noncomputable def F_laws_eqIntS (x_a : List Int) (x_b : List Int) : Option Bool :=
 cond (!decide ((((List.length x_a) : Nat) : Int) = (((List.length x_b) : Nat) : Int)))
  (some false)
  (Option.bind (Option.bind (iter (F_laws_eqIntS_l2 x_a x_b) (0 : Int)) LO.val) fun j1 =>
   JO.run j1 (F_laws_eqIntS_j1))
theorem laws_eqIntS_fn {x_a : List Int} {x_b : List Int} {R_ : Bool} (hh : F_laws_eqIntS x_a x_b = some R_) : Fn Try.prog 8 [bo (eI .i64) x_a, bo (eI .i64) x_b] (.bool R_) := by
 unfold F_laws_eqIntS at hh
 refine Fn.start low_laws_eqIntS [0, 1] (E := sp 26 [(0, bo (eI .i64) x_a), (1, bo (eI .i64) x_b)]) (by kernel_rfl) (v := bb R_) (Hr := []) (k := 0) (by kernel_rfl) ?_
 refine sy [0, 1] [] (sp 26 [(0, bo (eI .i64) x_a), (1, bo (eI .i64) x_b)]) [] 0 ?_
 refine Aw.seq ?_
 refine sy [0, 1, 10] [] (sp 26 [(0, bo (eI .i64) x_a), (1, bo (eI .i64) x_b), (10, bb (!decide ((((List.length x_a) : Nat) : Int) = (((List.length x_b) : Nat) : Int))))]) [] 0 ?_
 rcases cond_some hh with ⟨hb, hh⟩ | ⟨hb, hh⟩
 · refine cT hb ?_
   refine sy [4] [] (sp 26 [(4, bb false)]) [] 0 ?_
   refine Aw.ret ?_
   refine then_r ?_
   rw [some_some hh]
   exact gvb
 refine cF hb ?_
 refine Aw.xskip (fun _ _ _ hq => then_m hq) ?_
 obtain ⟨j1, hh, hk1⟩ := bind_some hh
 refine Aw.join (S := Unit) (fun s1 => sp 26 []) (fun s1 => []) 0 (fun s1 => F_laws_eqIntS_j1 s1 = some R_) ?_ ?_
 · intro s1 hh
   unfold F_laws_eqIntS_j1 at hh
   refine sy [4] [] (sp 26 [(4, bb true)]) [] 0 ?_
   refine Aw.ret ?_
   rw [some_some hh]
   exact gvb
 intro Q1 hN1 hR1 hE1
 refine sy [0, 1, 5] [] (sp 26 [(0, bo (eI .i64) x_a), (1, bo (eI .i64) x_b), (5, ii 0)]) [] 0 ?_
 refine Aw.block ?_
 obtain ⟨o2, hi2, hk2⟩ := bind_some hh
 refine Aw.iter (fun (s2 : Int) => sp 26 [(0, bo (eI .i64) x_a), (1, bo (eI .i64) x_b), (5, ii s2)]) (fun (s2 : Int) => []) 0 hi2 (Ent.list2 [] rfl rfl (by decide) (rens_sp (by kernel_rfl) (rl_c (u := bo (eI .i64) x_a) (by kernel_rfl) (ren_bor (rens_same (noRefs_fl nr_eI))) (rl_c (u := bo (eI .i64) x_b) (by kernel_rfl) (ren_bor (rens_same (noRefs_fl nr_eI))) (rl_c (u := ii 0) (by kernel_rfl) ren_i rl_n)))) hs_nil) ?_
 intro s2 u2 Q2 hh hN2 hX2 hR2
 unfold F_laws_eqIntS_l2 at hh
 refine Aw.seq ?_
 refine sy [0, 1, 5, 14] [] (sp 26 [(0, bo (eI .i64) x_a), (1, bo (eI .i64) x_b), (5, ii s2), (14, bb (decide (s2 < (((List.length x_a) : Nat) : Int))))]) [] 0 ?_
 rcases cond_some hh with ⟨hb, hh⟩ | ⟨hb, hh⟩
 · refine cT hb ?_
   refine Aw.xskip (fun _ _ _ hq => then_m hq) ?_
   refine Aw.seq ?_
   refine Aw.block ?_
   refine Aw.sregq [0, 1, 5, 25] ?_
   refine qc (cs := []) (E' := (sp 26 [(0, bo (eI .i64) x_a), (1, bo (eI .i64) x_b), (5, ii s2), (14, bb (decide (s2 < (((List.length x_a) : Nat) : Int)))), (17, bo (eI .i64) x_a), (18, ii s2)])) (pre := (List.take 2 Lf8_r5)) (L' := (List.drop 2 Lf8_r5)) (by kernel_rfl) (fun K => by kernel_rfl) .nil ?_
   obtain ⟨hg47, hh⟩ := grd_some hh
   refine qs (.iadr 1 (.t 17) (.t 18)) (some 19) (yq_q rfl (op_iadr (kd := .i64) (c := (eI .i64)) (xs := x_a) len_eI (by decide) (by kernel_rfl) (by kernel_rfl) hg47 ?_))
   refine qs (.load false 1 (.t 19)) (some 20) (yq_q rfl (op_loadb (c := (eI .i64)) (xs := x_a) (o := Int.toNat s2 * 1) (i := (Int.toNat s2)) (off := 0) (v := ii (List.getD x_a (Int.toNat s2) default)) len_eI (by kernel_rfl) (by omega) (by omega) (by decide) (by kernel_rfl) ?_))
   refine qc (cs := []) (E' := (sp 26 [(0, bo (eI .i64) x_a), (1, bo (eI .i64) x_b), (5, ii s2), (14, bb (decide (s2 < (((List.length x_a) : Nat) : Int)))), (17, bo (eI .i64) x_a), (18, ii s2), (19, .bptr (fl (eI .i64) x_a) (Int.toNat s2 * 1)), (20, ii (List.getD x_a (Int.toNat s2) default)), (21, bo (eI .i64) x_b), (22, ii s2)])) (pre := (List.take 2 (List.drop 4 Lf8_r5))) (L' := (List.drop 6 Lf8_r5)) (by kernel_rfl) (fun K => by kernel_rfl) .nil ?_
   obtain ⟨hg48, hh⟩ := grd_some hh
   refine qs (.iadr 1 (.t 21) (.t 22)) (some 23) (yq_q rfl (op_iadr (kd := .i64) (c := (eI .i64)) (xs := x_b) len_eI (by decide) (by kernel_rfl) (by kernel_rfl) hg48 ?_))
   refine qs (.load false 1 (.t 23)) (some 24) (yq_q rfl (op_loadb (c := (eI .i64)) (xs := x_b) (o := Int.toNat s2 * 1) (i := (Int.toNat s2)) (off := 0) (v := ii (List.getD x_b (Int.toNat s2) default)) len_eI (by kernel_rfl) (by omega) (by omega) (by decide) (by kernel_rfl) ?_))
   refine qct (cs := []) (E' := (sp 26 [(0, bo (eI .i64) x_a), (1, bo (eI .i64) x_b), (5, ii s2), (25, bb (!decide ((List.getD x_a (Int.toNat s2) default) = (List.getD x_b (Int.toNat s2) default))))])) (fun K => by kernel_rfl) .nil ?_
   rcases cond_some hh with ⟨hb, hh⟩ | ⟨hb, hh⟩
   · refine cT hb ?_
     refine sy [4] [] (sp 26 [(4, bb false)]) [] 0 ?_
     refine Aw.ret ?_
     refine blk_r (then_r ?_)
     refine hR2 _ _ _ _ (some_some hh) ?_
     intro hout
     rw [hout] at hk2
     refine blk_r ?_
     obtain rfl := some_some hk2
     refine hR1 _ _ _ ?_
     refine ?_
     rw [some_some hk1]
     exact gvb
   refine cF hb ?_
   refine Aw.xskip (fun _ _ _ hq => blk_m (then_m hq)) ?_
   refine Aw.oreg ?_
   refine ye (sp 26 [(0, bo (eI .i64) x_a), (1, bo (eI .i64) x_b), (5, ii (w64 (s2 + (1 : Int)))), (15, ii s2), (16, ii (w64 (s2 + (1 : Int)))), (25, bb (!decide ((List.getD x_a (Int.toNat s2) default) = (List.getD x_b (Int.toNat s2) default))))]) [] 0 ?_
   exact hN2 (w64 (s2 + (1 : Int))) _ _ _ (some_some hh) (Ent.list2 [] rfl rfl (by decide) (rens_sp (by kernel_rfl) (rl_c (u := bo (eI .i64) x_a) (by kernel_rfl) (ren_bor (rens_same (noRefs_fl nr_eI))) (rl_c (u := bo (eI .i64) x_b) (by kernel_rfl) (ren_bor (rens_same (noRefs_fl nr_eI))) (rl_c (u := ii (w64 (s2 + (1 : Int)))) (by kernel_rfl) ren_i rl_n)))) hs_nil)
 refine cF hb ?_
 refine Aw.exit ?_
 refine then_x ?_
 refine hX2 _ _ _ _ _ (some_some hh) ?_
 intro hout
 rw [hout] at hk2
 refine blk_x ?_
 obtain rfl := some_some hk2
 exact hN1 () _ _ _ hk1 (Ent.list2 [] rfl rfl (by decide) (rens_sp (by kernel_rfl) rl_n) hs_nil)
end Go.Proofs.Ytmjphjphgjmojaa
