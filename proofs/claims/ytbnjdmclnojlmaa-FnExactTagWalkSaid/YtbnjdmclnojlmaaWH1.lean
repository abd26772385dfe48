/- Plain functions of the program, and that it hands back what they say. Made by program. -/
import Derived.Test.YtbnjdmclnojlmaaWT
import Derived.Test.YtbnjdmclnojlmaaProg
namespace Go.Proofs.Ytbnjdmclnojlmaa
open Go.RowKit
set_option maxRecDepth 100000
set_option linter.all false
set_option maxHeartbeats 0
theorem low_laws_toIntS : LW 56 ⟨22, [(.tmp 2)], (.seq (.reg false (rg 56 0)) (.seq (.reg false (rg 56 1)) (.seq (.seq (.reg false (rg 56 2)) (.block 0 (.loop (.seq (.seq (.reg false (rg 56 3)) (.cond (.t 11) .skip (.exit 0))) (.seq (.block 1 (.reg false (rg 56 4))) (.reg false (rg 56 5))))))) (.seq (.reg false (rg 56 7)) .ret))))⟩ := kr
noncomputable def F_laws_toIntS_j1  (s1 : (List Int)) : Option (List Int) :=
 some s1
noncomputable def F_laws_toIntS_l2 (x_a : List Int) (s2 : (List Int) × Int) : Option (LO ((List Int) × Int) (JO (List Int) (List Int))) :=
 cond (decide (s2.2 < (((List.length x_a) : Nat) : Int)))
  (grd ((0 : Int) ≤ s2.2 ∧ s2.2 < ((List.length x_a : Nat) : Int)) (grd ((0 : Int) ≤ s2.2 ∧ s2.2 < (((List.length s2.1) : Nat) : Int)) (some (.next ((List.set s2.1 (Int.toNat s2.2) (List.getD x_a (Int.toNat s2.2) default)), (w64 (s2.2 + (1 : Int))))))))
  (some (.ret (.go s2.1)))
noncomputable def F_laws_toIntS (x_a : List Int) : Option (List Int) :=
 grd ((0 : Int) ≤ (((List.length x_a) : Nat) : Int) ∧ (((List.length x_a) : Nat) : Int) * 8 ≤ 2 ^ 47 ∧ (((List.length x_a) : Nat) : Int) ≤ 2 ^ 47) (Option.bind (Option.bind (iter (F_laws_toIntS_l2 x_a) ((List.replicate (Int.toNat (((List.length x_a) : Nat) : Int)) (0 : Int)), (0 : Int))) LO.val) fun j1 =>
  JO.run j1 (F_laws_toIntS_j1))
theorem laws_toIntS_fn {x_a : List Int} {R_ : (List Int)} (hh : F_laws_toIntS x_a = some R_) : Fn Try.prog 56 [bo (eI .i64) x_a] (.own 3 1 (List.length R_) (fl (eI .i64) R_)) := by
 let z3 := (0, bo (eI .i64) x_a); let z4 : EV := (3, .sref 0 [] 0 (List.length (List.replicate (Int.toNat (((List.length x_a) : Nat) : Int)) (0 : Int))) 1)
 unfold F_laws_toIntS at hh
 refine Fn.start low_laws_toIntS [0] (E := sp 22 [z3]) kr (v := sw 0 R_) (Hr := [(0, some (rI_3 R_))]) (k := 1) kr (sy [0] [] (sp 22 [z3]) [] 0 (Aw.sreg [0, 3] [0] (yu 2 [(5, bo (eI .i64) x_a), (6, ii (((List.length x_a) : Nat) : Int))] [] 0 ?_)))
 obtain ⟨hg50, hh⟩ := grd_some hh
 refine ys (.mk 3 1 8 [(ii 0)] (.t 6)) (some 7) (op_mk (c := (eI .i64)) (d := (0 : Int)) (k := (((List.length x_a) : Nat) : Int)) kr hg50 kr ?_)
 let q1 : Root := (rI_3 (List.replicate (Int.toNat (((List.length x_a) : Nat) : Int)) (0 : Int)))
 refine yt (sp 22 [z3, z4]) [(0, some q1)] 1 ?_
 obtain ⟨j1, hh, hk1⟩ := bind_some hh
 refine Aw.join (S := (List Int)) (fun s1 => sp 22 [(3, sw 0 s1)]) (fun s1 => [(0, some (rI_3 s1))]) 1 (fun s1 => F_laws_toIntS_j1 s1 = some R_) ?_ ?_
 · intro s1 hh
   unfold F_laws_toIntS_j1 at hh
   refine sy [2] [0] (sp 22 [(2, sw 0 s1)]) [(0, some (rI_3 s1))] 1 (Aw.ret ?_)
   rw [some_some hh]
   exact gives (r' := sw 0 s1) kr (Ent.list [some 0] rfl rfl (Nat.zero_le _) (rens_1 ren_sy) (hn nr_eI hs_nil))
 intro Q1 hN1 hR1 hE1
 refine sy [0, 3, 4] [0] (sp 22 [z3, z4, (4, ii 0)]) [(0, some q1)] 1 (Aw.block ?_)
 obtain ⟨o2, hi2, hk2⟩ := bind_some hh
 refine Aw.iter (fun (s2 : (List Int) × Int) => sp 22 [(0, bo (eI .i64) x_a), (3, sw 0 s2.1), (4, ii s2.2)]) (fun (s2 : (List Int) × Int) => [(0, some (rI_3 s2.1))]) 1 hi2 (el [some 0] (rens_sp kr (ro nr_eI (rs (.sref 0 [] 0 (List.length (List.replicate (Int.toNat (((List.length x_a) : Nat) : Int)) (0 : Int))) 1) (ri rl_n)))) (hn nr_eI hs_nil)) ?_
 intro s2 u2 Q2 hh hN2 hX2 hR2
 let z5 : EH := (0, some (rI_3 s2.1)); let z6 := (11, bb (decide (s2.2 < (((List.length x_a) : Nat) : Int)))); let z7 := (3, sw 0 s2.1); let z1 := List.getD x_a (Int.toNat s2.2) default; let z2 := List.set s2.1 (Int.toNat s2.2) z1
 unfold F_laws_toIntS_l2 at hh
 refine Aw.seq (sy [0, 3, 4, 11] [0] (sp 22 [z3, z7, (4, ii s2.2), z6]) [z5] 1 ?_)
 rcases cond_sf hh with ⟨hb, hh⟩ | ⟨hb, hh⟩
 · refine cF hb (Aw.exit (then_x (hX2 _ _ _ _ _ (some_some hh) ?_)))
   intro hout
   rw [hout] at hk2
   refine blk_x ?_
   obtain rfl := some_some hk2
   exact hN1 s2.1 _ _ _ hk1 (el [some 0] (rens_sp kr (rs (sw 0 s2.1) rl_n)) (hn nr_eI hs_nil))
 refine cT hb (Aw.xskip (fun _ _ _ hq => then_m hq) (Aw.seq (Aw.block (Aw.xreg [0, 3, 4] [0] (fun _ _ _ hq => blk_m (then_m hq)) (yj 4  (sp 22 [z3, z7, (4, ii s2.2), z6, (14, sw 0 s2.1), (15, ii s2.2), (16, bo (eI .i64) x_a), (17, ii s2.2)]) [z5] 1 ?_)))))
 obtain ⟨hg48, hh⟩ := grd_some hh
 refine ys (.iadr 1 (.t 16) (.t 17)) (some 18) (op_iadr (kd := .i64) (c := (eI .i64)) (xs := x_a) len_eI dd kr kr hg48 ?_)
 refine ys (.load false 1 (.t 18)) (some 19) (op_loadb (c := (eI .i64)) (xs := x_a) (o := Int.toNat s2.2 * 1) (i := (Int.toNat s2.2)) (off := 0) (v := ii z1) len_eI kr ltn ltn dd kr ?_)
 obtain ⟨hg49, hh⟩ := grd_some hh
 refine yjc 1 [(0 : Int) ≤ s2.2 ∧ s2.2 < (((List.length s2.1) : Nat) : Int)] (sp 22 [z3, z7, (4, ii s2.2), z6, (14, sw 0 s2.1), (15, ii s2.2), (16, bo (eI .i64) x_a), (17, ii s2.2), (18, .bptr (fl (eI .i64) x_a) (Int.toNat s2.2 * 1)), (19, ii z1), (20, .ptr 0 [] (0 + (Int.toNat s2.2) * 1))]) [z5] 1 (.cons hg49 .nil) ?_
 let q2 : Root := (rI_3 z2)
 refine ys (.store 1 (.t 20) (.t 19)) none (op_store (c := (eI .i64)) (xs := s2.1) (e := 3) (r := 0) (π := []) (o := 0 + (Int.toNat s2.2) * 1) (i := (Int.toNat s2.2)) (off := 0) (vs := [ii z1]) (y := z1) (H' := [(0, some q2), z5]) len_eI kr kr kr kr ltn ltn dd kr kr ?_)
 exact yt (sp 22 [z3, z7, (4, ii s2.2)]) [(0, some q2)] 1 (Aw.oreg (ye (sp 22 [z3, z7, (4, ii (w64 (s2.2 + (1 : Int)))), (12, ii s2.2), (13, ii (w64 (s2.2 + (1 : Int))))]) [(0, some q2)] 1 (hN2 (z2, (w64 (s2.2 + (1 : Int)))) _ _ _ (some_some hh) (el [some 0] (rens_sp kr (ro nr_eI (rs (sw 0 s2.1) (ri rl_n)))) (hn nr_eI hs_nil)))))
theorem low_laws_toCore : LW 101 ⟨45, [(.cell 2 true 13)], (.seq (.reg false (rg 101 0)) (.seq (.reg false (rg 101 1)) (.seq (.reg false (rg 101 2)) (.seq (.reg false (rg 101 3)) (.seq (.reg false (rg 101 4)) (.seq (.reg false (rg 101 5)) (.seq (.reg false (rg 101 6)) (.seq (.reg false (rg 101 7)) (.seq (.reg false (rg 101 8)) (.seq (.reg false (rg 101 9)) (.seq (.reg false (rg 101 10)) (.seq (.reg false (rg 101 11)) (.seq (.reg false (rg 101 12)) (.seq (.reg false (rg 101 13)) (.seq (.reg false (rg 101 14)) (.seq (.reg false (rg 101 15)) .ret))))))))))))))))⟩ := kr
noncomputable def F_laws_toCore (x_a : DCore) : Option DCore :=
 Option.bind (F_laws_toIntS x_a.Regs) fun v1 =>
 some (DCore.mk v1 x_a.Pc x_a.Root x_a.Vector x_a.Saved x_a.SavedUser x_a.Cause x_a.Bad x_a.Timer x_a.Waits x_a.User x_a.On x_a.Stopped)
theorem laws_toCore_fn {x_a : DCore} {R_ : DCore} (hh : F_laws_toCore x_a = some R_) : Fn Try.prog 101 [.agg (B_100 x_a)] (.agg (.own 3 1 (List.length R_.Regs) (fl (eI .i64) R_.Regs) :: ru100 R_ [])) := by
 let z1 : EH := (0, some (rB100_123 x_a)); let z2 := (1, pp 0); let z3 := (2, pp 1); let z4 := (3, pp 2)
 unfold F_laws_toCore at hh
 refine Fn.start low_laws_toCore [0] (E := sp 45 [(0, .agg (B_100 x_a))]) kr (v := .agg (sw 0 R_.Regs :: ru100 R_ [])) (Hr := [(0, some (rI_3 R_.Regs))]) (k := 1) kr (Aw.sreg [1, 2] [0, 1] ?_)
 let q1 : Root := ⟨100, (.nil :: zru100 [])⟩; let z5 := (1, some q1)
 refine yt (sp 45 [z2, z3]) [z1, z5] 2 (sy [1, 2, 3] [0, 1, 2] (sp 45 [z2, z3, z4]) [z1, z5, (2, some q1)] 3 (Aw.sreg [1, 2, 3] [0, 1, 2, 3] (yu 2 [(4, pp 0), (5, bo (eI .i64) x_a.Regs)] [z1, z5, (2, some q1)] 3 ?_)))
 obtain ⟨v1, hv1, hh⟩ := bind_some hh
 let z6 : EH := (3, some (rI_3 v1))
 refine ys (.call 56 [(.t 5)]) (some 6) (op_call (r := .own 3 1 (List.length v1) (fl (eI .i64) v1)) (v := sw 3 v1) (Hr := [z6]) (n' := 4) (laws_toIntS_fn hv1) (clz_v (vs := [bo (eI .i64) x_a.Regs]) kr (clz_c (clo_same (clean_bor (cleans_fl cl_eI))) clz_n)) nrr nrr kr ?_)
 refine yt (sp 45 [z2, z3, z4]) [z1, z5, (2, some ⟨100, (sw 3 v1 :: zru100 [])⟩), z6] 4 (sy [1, 2, 3] [0, 1, 2, 3] (sp 45 [z2, z3, z4]) [z1, z5, (2, some ⟨100, [sw 3 v1, ii x_a.Pc, ii 0, ii 0, ii 0, bb false, ii 0, ii 0, ii 0, bb false, bb false, bb false, bb false]⟩), z6] 4 (sy [1, 2, 3] [0, 1, 2, 3] (sp 45 [z2, z3, z4]) [z1, z5, (2, some ⟨100, [sw 3 v1, ii x_a.Pc, ii x_a.Root, ii 0, ii 0, bb false, ii 0, ii 0, ii 0, bb false, bb false, bb false, bb false]⟩), z6] 4 (sy [1, 2, 3] [0, 1, 2, 3] (sp 45 [z2, z3, z4]) [z1, z5, (2, some ⟨100, [sw 3 v1, ii x_a.Pc, ii x_a.Root, ii x_a.Vector, ii 0, bb false, ii 0, ii 0, ii 0, bb false, bb false, bb false, bb false]⟩), z6] 4 (sy [1, 2, 3] [0, 1, 2, 3] (sp 45 [z2, z3, z4]) [z1, z5, (2, some ⟨100, [sw 3 v1, ii x_a.Pc, ii x_a.Root, ii x_a.Vector, ii x_a.Saved, bb false, ii 0, ii 0, ii 0, bb false, bb false, bb false, bb false]⟩), z6] 4 (sy [1, 2, 3] [0, 1, 2, 3] (sp 45 [z2, z3, z4]) [z1, z5, (2, some ⟨100, [sw 3 v1, ii x_a.Pc, ii x_a.Root, ii x_a.Vector, ii x_a.Saved, bb x_a.SavedUser, ii 0, ii 0, ii 0, bb false, bb false, bb false, bb false]⟩), z6] 4 (sy [1, 2, 3] [0, 1, 2, 3] (sp 45 [z2, z3, z4]) [z1, z5, (2, some ⟨100, [sw 3 v1, ii x_a.Pc, ii x_a.Root, ii x_a.Vector, ii x_a.Saved, bb x_a.SavedUser, ii x_a.Cause, ii 0, ii 0, bb false, bb false, bb false, bb false]⟩), z6] 4 (sy [1, 2, 3] [0, 1, 2, 3] (sp 45 [z2, z3, z4]) [z1, z5, (2, some ⟨100, [sw 3 v1, ii x_a.Pc, ii x_a.Root, ii x_a.Vector, ii x_a.Saved, bb x_a.SavedUser, ii x_a.Cause, ii x_a.Bad, ii 0, bb false, bb false, bb false, bb false]⟩), z6] 4 (sy [1, 2, 3] [0, 1, 2, 3] (sp 45 [z2, z3, z4]) [z1, z5, (2, some ⟨100, [sw 3 v1, ii x_a.Pc, ii x_a.Root, ii x_a.Vector, ii x_a.Saved, bb x_a.SavedUser, ii x_a.Cause, ii x_a.Bad, ii x_a.Timer, bb false, bb false, bb false, bb false]⟩), z6] 4 (sy [1, 2, 3] [0, 1, 2, 3] (sp 45 [z2, z3, z4]) [z1, z5, (2, some ⟨100, [sw 3 v1, ii x_a.Pc, ii x_a.Root, ii x_a.Vector, ii x_a.Saved, bb x_a.SavedUser, ii x_a.Cause, ii x_a.Bad, ii x_a.Timer, bb x_a.Waits, bb false, bb false, bb false]⟩), z6] 4 (sy [1, 2, 3] [0, 1, 2, 3] (sp 45 [z2, z3, z4]) [z1, z5, (2, some ⟨100, [sw 3 v1, ii x_a.Pc, ii x_a.Root, ii x_a.Vector, ii x_a.Saved, bb x_a.SavedUser, ii x_a.Cause, ii x_a.Bad, ii x_a.Timer, bb x_a.Waits, bb x_a.User, bb false, bb false]⟩), z6] 4 (sy [1, 2, 3] [0, 1, 2, 3] (sp 45 [z2, z3, z4]) [z1, z5, (2, some ⟨100, [sw 3 v1, ii x_a.Pc, ii x_a.Root, ii x_a.Vector, ii x_a.Saved, bb x_a.SavedUser, ii x_a.Cause, ii x_a.Bad, ii x_a.Timer, bb x_a.Waits, bb x_a.User, bb x_a.On, bb false]⟩), z6] 4 (Aw.sreg [2, 3] [1, 2, 3] ?_))))))))))))
 let q2 : Root := ⟨100, (sw 3 v1 :: ru100 x_a [])⟩
 refine yt (sp 45 [z3, z4]) [z5, (2, some q2), z6] 4 (sy [2] [1, 3] (sp 45 [z3]) [(1, some q2), z6] 4 (Aw.ret ?_))
 rw [some_some hh]
 exact gives (r' := .agg (sw 3 v1 :: ru100 x_a [])) kr (Ent.list [some 3] rfl rfl (Nat.zero_le _) (rens_1 (ren_agg rz)) (hn nr_eI hs_nil))
theorem low_laws_eqIntS : LW 59 ⟨26, [(.tmp 4)], (.seq (.reg false (rg 59 0)) (.seq (.seq (.reg false (rg 59 1)) (.cond (.t 10) (.seq (.reg false (rg 59 2)) .ret) .skip)) (.seq (.seq (.reg false (rg 59 3)) (.block 0 (.loop (.seq (.seq (.reg false (rg 59 4)) (.cond (.t 14) .skip (.exit 0))) (.seq (.block 1 (.seq (.reg true (rg 59 5)) (.cond (.t 25) (.seq (.reg false (rg 59 6)) .ret) .skip))) (.reg false (rg 59 7))))))) (.seq (.reg false (rg 59 9)) .ret))))⟩ := kr
noncomputable def F_laws_eqIntS_j1  (s1 : Unit) : Option Bool :=
 some true
noncomputable def F_laws_eqIntS_l2 (x_a : List Int) (x_b : List Int) (s2 : Int) : Option (LO Int (JO Unit Bool)) :=
 cond (decide (s2 < (((List.length x_a) : Nat) : Int)))
  (grd ((0 : Int) ≤ s2 ∧ s2 < ((List.length x_a : Nat) : Int)) (grd ((0 : Int) ≤ s2 ∧ s2 < ((List.length x_b : Nat) : Int)) (cond (!decide ((List.getD x_a (Int.toNat s2) default) = (List.getD x_b (Int.toNat s2) default)))
   (some (.ret (.out false)))
   (some (.next (w64 (s2 + (1 : Int))))))))
  (some (.ret (.go ())))
noncomputable def F_laws_eqIntS (x_a : List Int) (x_b : List Int) : Option Bool :=
 cond (!decide ((((List.length x_a) : Nat) : Int) = (((List.length x_b) : Nat) : Int)))
  (some false)
  (Option.bind (Option.bind (iter (F_laws_eqIntS_l2 x_a x_b) (0 : Int)) LO.val) fun j1 =>
   JO.run j1 (F_laws_eqIntS_j1))
theorem laws_eqIntS_fn {x_a : List Int} {x_b : List Int} {R_ : Bool} (hh : F_laws_eqIntS x_a x_b = some R_) : Fn Try.prog 59 [bo (eI .i64) x_a, bo (eI .i64) x_b] (.bool R_) := by
 let z3 := (0, bo (eI .i64) x_a); let z4 := (1, bo (eI .i64) x_b)
 unfold F_laws_eqIntS at hh
 refine Fn.start low_laws_eqIntS [0, 1] (E := sp 26 [z3, z4]) kr (v := bb R_) (Hr := []) (k := 0) kr (sy [0, 1] [] (sp 26 [z3, z4]) [] 0 (Aw.seq (sy [0, 1, 10] [] (sp 26 [z3, z4, (10, bb (!decide ((((List.length x_a) : Nat) : Int) = (((List.length x_b) : Nat) : Int))))]) [] 0 ?_)))
 rcases cond_some hh with ⟨hb, hh⟩ | ⟨hb, hh⟩
 · exact cT hb (sy [4] [] (sp 26 [(4, bb false)]) [] 0 (Aw.ret (then_r (gvbs hh))))
 refine cF hb (Aw.xskip (fun _ _ _ hq => then_m hq) ?_)
 obtain ⟨j1, hh, hk1⟩ := bind_some hh
 refine Aw.join (S := Unit) (fun s1 => sp 26 []) (fun s1 => []) 0 (fun s1 => F_laws_eqIntS_j1 s1 = some R_) ?_ ?_
 · intro s1 hh
   unfold F_laws_eqIntS_j1 at hh
   exact sy [4] [] (sp 26 [(4, bb true)]) [] 0 (Aw.ret (gvbs hh))
 intro Q1 hN1 hR1 hE1
 refine sy [0, 1, 5] [] (sp 26 [z3, z4, (5, ii 0)]) [] 0 (Aw.block ?_)
 obtain ⟨o2, hi2, hk2⟩ := bind_some hh
 refine Aw.iter (fun (s2 : Int) => sp 26 [(0, bo (eI .i64) x_a), (1, bo (eI .i64) x_b), (5, ii s2)]) (fun (s2 : Int) => []) 0 hi2 (el [] (rens_sp kr (ro nr_eI (ro nr_eI (ri rl_n)))) hs_nil) ?_
 intro s2 u2 Q2 hh hN2 hX2 hR2
 let z5 := (14, bb (decide (s2 < (((List.length x_a) : Nat) : Int)))); let z1 := List.getD x_a (Int.toNat s2) default; let z2 := List.getD x_b (Int.toNat s2) default
 unfold F_laws_eqIntS_l2 at hh
 refine Aw.seq (sy [0, 1, 5, 14] [] (sp 26 [z3, z4, (5, ii s2), z5]) [] 0 ?_)
 rcases cond_sf hh with ⟨hb, hh⟩ | ⟨hb, hh⟩
 · refine cF hb (Aw.exit (then_x (hX2 _ _ _ _ _ (some_some hh) ?_)))
   intro hout
   rw [hout] at hk2
   refine blk_x ?_
   obtain rfl := some_some hk2
   exact hN1 () _ _ _ hk1 (el [] (rens_sp kr rl_n) hs_nil)
 refine cT hb (Aw.xskip (fun _ _ _ hq => then_m hq) (Aw.seq (Aw.block (Aw.sregq [0, 1, 5, 25] (qc (cs := []) (E' := (sp 26 [z3, z4, (5, ii s2), z5, (17, bo (eI .i64) x_a), (18, ii s2)])) (pre := (List.take 2 (rg 59 5))) (L' := (List.drop 2 (rg 59 5))) kr (fun K => by kernel_rfl) .nil ?_)))))
 obtain ⟨hg47, hh⟩ := grd_some hh
 refine qs (.iadr 1 (.t 17) (.t 18)) (some 19) (yq_q rfl (op_iadr (kd := .i64) (c := (eI .i64)) (xs := x_a) len_eI dd kr kr hg47 ?_))
 refine qs (.load false 1 (.t 19)) (some 20) (yq_q rfl (op_loadb (c := (eI .i64)) (xs := x_a) (o := Int.toNat s2 * 1) (i := (Int.toNat s2)) (off := 0) (v := ii z1) len_eI kr ltn ltn dd kr ?_))
 refine qc (cs := []) (E' := (sp 26 [z3, z4, (5, ii s2), z5, (17, bo (eI .i64) x_a), (18, ii s2), (19, .bptr (fl (eI .i64) x_a) (Int.toNat s2 * 1)), (20, ii z1), (21, bo (eI .i64) x_b), (22, ii s2)])) (pre := (List.take 2 (List.drop 4 (rg 59 5)))) (L' := (List.drop 6 (rg 59 5))) kr (fun K => by kernel_rfl) .nil ?_
 obtain ⟨hg48, hh⟩ := grd_some hh
 refine qs (.iadr 1 (.t 21) (.t 22)) (some 23) (yq_q rfl (op_iadr (kd := .i64) (c := (eI .i64)) (xs := x_b) len_eI dd kr kr hg48 ?_))
 refine qs (.load false 1 (.t 23)) (some 24) (yq_q rfl (op_loadb (c := (eI .i64)) (xs := x_b) (o := Int.toNat s2 * 1) (i := (Int.toNat s2)) (off := 0) (v := ii z2) len_eI kr ltn ltn dd kr ?_))
 refine qct (cs := []) (E' := (sp 26 [z3, z4, (5, ii s2), (25, bb (!decide (z1 = z2)))])) (fun K => by kernel_rfl) .nil ?_
 rcases cond_some hh with ⟨hb, hh⟩ | ⟨hb, hh⟩
 · refine cT hb (sy [4] [] (sp 26 [(4, bb false)]) [] 0 (Aw.ret (blk_r (then_r ?_))))
   refine hR2 _ _ _ _ (some_some hh) ?_
   intro hout
   rw [hout] at hk2
   refine blk_r ?_
   obtain rfl := some_some hk2
   refine hR1 _ _ _ ?_
   rw [some_some hk1]
   exact gvb
 exact cF hb (Aw.xskip (fun _ _ _ hq => blk_m (then_m hq)) (Aw.oreg (ye (sp 26 [z3, z4, (5, ii (w64 (s2 + (1 : Int)))), (15, ii s2), (16, ii (w64 (s2 + (1 : Int)))), (25, bb (!decide (z1 = z2)))]) [] 0 (hN2 (w64 (s2 + (1 : Int))) _ _ _ (some_some hh) (el [] (rens_sp kr (ro nr_eI (ro nr_eI (ri rl_n)))) hs_nil)))))
theorem low_laws_eqCore : LW 103 ⟨71, [(.tmp 4)], (.seq (.reg false (rg 103 0)) (.seq (.seq (.reg false (rg 103 1)) (.cond (.t 10) (.seq (.reg false (rg 103 2)) .ret) .skip)) (.seq (.seq (.reg false (rg 103 3)) (.cond (.t 15) (.seq (.reg false (rg 103 4)) .ret) .skip)) (.seq (.seq (.reg false (rg 103 5)) (.cond (.t 20) (.seq (.reg false (rg 103 6)) .ret) .skip)) (.seq (.seq (.reg false (rg 103 7)) (.cond (.t 25) (.seq (.reg false (rg 103 8)) .ret) .skip)) (.seq (.seq (.reg false (rg 103 9)) (.cond (.t 30) (.seq (.reg false (rg 103 10)) .ret) .skip)) (.seq (.seq (.reg false (rg 103 11)) (.cond (.t 35) (.seq (.reg false (rg 103 12)) .ret) .skip)) (.seq (.seq (.reg false (rg 103 13)) (.cond (.t 40) (.seq (.reg false (rg 103 14)) .ret) .skip)) (.seq (.seq (.reg false (rg 103 15)) (.cond (.t 45) (.seq (.reg false (rg 103 16)) .ret) .skip)) (.seq (.seq (.reg false (rg 103 17)) (.cond (.t 50) (.seq (.reg false (rg 103 18)) .ret) .skip)) (.seq (.seq (.reg false (rg 103 19)) (.cond (.t 55) (.seq (.reg false (rg 103 20)) .ret) .skip)) (.seq (.seq (.reg false (rg 103 21)) (.cond (.t 60) (.seq (.reg false (rg 103 22)) .ret) .skip)) (.seq (.seq (.reg false (rg 103 23)) (.cond (.t 65) (.seq (.reg false (rg 103 24)) .ret) .skip)) (.seq (.seq (.reg false (rg 103 25)) (.cond (.t 70) (.seq (.reg false (rg 103 26)) .ret) .skip)) (.seq (.reg false (rg 103 27)) .ret)))))))))))))))⟩ := kr
noncomputable def F_laws_eqCore (x_a : DCore) (x_b : DCore) : Option Bool :=
 Option.bind (F_laws_eqIntS x_a.Regs x_b.Regs) fun v1 =>
 cond (!v1)
  (some false)
  (cond (!decide (x_a.Pc = x_b.Pc))
   (some false)
   (cond (!decide (x_a.Root = x_b.Root))
    (some false)
    (cond (!decide (x_a.Vector = x_b.Vector))
     (some false)
     (cond (!decide (x_a.Saved = x_b.Saved))
      (some false)
      (cond (!(x_a.SavedUser == x_b.SavedUser))
       (some false)
       (cond (!decide (x_a.Cause = x_b.Cause))
        (some false)
        (cond (!decide (x_a.Bad = x_b.Bad))
         (some false)
         (cond (!decide (x_a.Timer = x_b.Timer))
          (some false)
          (cond (!(x_a.Waits == x_b.Waits))
           (some false)
           (cond (!(x_a.User == x_b.User))
            (some false)
            (cond (!(x_a.On == x_b.On))
             (some false)
             (cond (!(x_a.Stopped == x_b.Stopped))
              (some false)
              (some true)))))))))))))
theorem laws_eqCore_fn {x_a : DCore} {x_b : DCore} {R_ : Bool} (hh : F_laws_eqCore x_a x_b = some R_) : Fn Try.prog 103 [.agg (B_100 x_a), .agg (B_100 x_b)] (.bool R_) := by
 let z1 : EH := (0, some (rB100 x_a)); let z2 : EH := (1, some (rB100 x_b)); let z3 := (2, pp 0); let z4 := (3, pp 1); let z5 := (4, bb false)
 unfold F_laws_eqCore at hh
 refine Fn.start low_laws_eqCore [0, 1] (E := sp 71 [(0, .agg (B_100 x_a)), (1, .agg (B_100 x_b))]) kr (v := bb R_) (Hr := []) (k := 0) kr (sy [2, 3] [0, 1] (sp 71 [z3, z4]) [z1, z2] 2 (Aw.seq (Aw.sreg [2, 3, 10] [0, 1] (yj 4  (sp 71 [z3, z4, (5, pp 0), (6, bo (eI .i64) x_a.Regs), (7, pp 1), (8, bo (eI .i64) x_b.Regs)]) [z1, z2] 2 ?_))))
 obtain ⟨v1, hv1, hh⟩ := bind_some hh
 refine ys (.call 59 [(.t 6), (.t 8)]) (some 9) (oc (laws_eqIntS_fn hv1) ?_)
 refine yt (sp 71 [z3, z4, (10, bb (!v1))]) [z1, z2] 2 ?_
 rcases cond_some hh with ⟨hb, hh⟩ | ⟨hb, hh⟩
 · exact cT hb (sy [4] [] (sp 71 [z5]) [] 2 (Aw.ret (then_r (gvbs hh))))
 refine cF hb (Aw.xskip (fun _ _ _ hq => then_m hq) (Aw.seq (sy [2, 3, 15] [0, 1] (sp 71 [z3, z4, (15, bb (!decide (x_a.Pc = x_b.Pc)))]) [z1, z2] 2 ?_)))
 rcases cond_some hh with ⟨hb, hh⟩ | ⟨hb, hh⟩
 · exact cT hb (sy [4] [] (sp 71 [z5]) [] 2 (Aw.ret (then_r (gvbs hh))))
 refine cF hb (Aw.xskip (fun _ _ _ hq => then_m hq) (Aw.seq (sy [2, 3, 20] [0, 1] (sp 71 [z3, z4, (20, bb (!decide (x_a.Root = x_b.Root)))]) [z1, z2] 2 ?_)))
 rcases cond_some hh with ⟨hb, hh⟩ | ⟨hb, hh⟩
 · exact cT hb (sy [4] [] (sp 71 [z5]) [] 2 (Aw.ret (then_r (gvbs hh))))
 refine cF hb (Aw.xskip (fun _ _ _ hq => then_m hq) (Aw.seq (sy [2, 3, 25] [0, 1] (sp 71 [z3, z4, (25, bb (!decide (x_a.Vector = x_b.Vector)))]) [z1, z2] 2 ?_)))
 rcases cond_some hh with ⟨hb, hh⟩ | ⟨hb, hh⟩
 · exact cT hb (sy [4] [] (sp 71 [z5]) [] 2 (Aw.ret (then_r (gvbs hh))))
 refine cF hb (Aw.xskip (fun _ _ _ hq => then_m hq) (Aw.seq (sy [2, 3, 30] [0, 1] (sp 71 [z3, z4, (30, bb (!decide (x_a.Saved = x_b.Saved)))]) [z1, z2] 2 ?_)))
 rcases cond_some hh with ⟨hb, hh⟩ | ⟨hb, hh⟩
 · exact cT hb (sy [4] [] (sp 71 [z5]) [] 2 (Aw.ret (then_r (gvbs hh))))
 refine cF hb (Aw.xskip (fun _ _ _ hq => then_m hq) (Aw.seq (sy [2, 3, 35] [0, 1] (sp 71 [z3, z4, (35, bb (!(x_a.SavedUser == x_b.SavedUser)))]) [z1, z2] 2 ?_)))
 rcases cond_some hh with ⟨hb, hh⟩ | ⟨hb, hh⟩
 · exact cT hb (sy [4] [] (sp 71 [z5]) [] 2 (Aw.ret (then_r (gvbs hh))))
 refine cF hb (Aw.xskip (fun _ _ _ hq => then_m hq) (Aw.seq (sy [2, 3, 40] [0, 1] (sp 71 [z3, z4, (40, bb (!decide (x_a.Cause = x_b.Cause)))]) [z1, z2] 2 ?_)))
 rcases cond_some hh with ⟨hb, hh⟩ | ⟨hb, hh⟩
 · exact cT hb (sy [4] [] (sp 71 [z5]) [] 2 (Aw.ret (then_r (gvbs hh))))
 refine cF hb (Aw.xskip (fun _ _ _ hq => then_m hq) (Aw.seq (sy [2, 3, 45] [0, 1] (sp 71 [z3, z4, (45, bb (!decide (x_a.Bad = x_b.Bad)))]) [z1, z2] 2 ?_)))
 rcases cond_some hh with ⟨hb, hh⟩ | ⟨hb, hh⟩
 · exact cT hb (sy [4] [] (sp 71 [z5]) [] 2 (Aw.ret (then_r (gvbs hh))))
 refine cF hb (Aw.xskip (fun _ _ _ hq => then_m hq) (Aw.seq (sy [2, 3, 50] [0, 1] (sp 71 [z3, z4, (50, bb (!decide (x_a.Timer = x_b.Timer)))]) [z1, z2] 2 ?_)))
 rcases cond_some hh with ⟨hb, hh⟩ | ⟨hb, hh⟩
 · exact cT hb (sy [4] [] (sp 71 [z5]) [] 2 (Aw.ret (then_r (gvbs hh))))
 refine cF hb (Aw.xskip (fun _ _ _ hq => then_m hq) (Aw.seq (sy [2, 3, 55] [0, 1] (sp 71 [z3, z4, (55, bb (!(x_a.Waits == x_b.Waits)))]) [z1, z2] 2 ?_)))
 rcases cond_some hh with ⟨hb, hh⟩ | ⟨hb, hh⟩
 · exact cT hb (sy [4] [] (sp 71 [z5]) [] 2 (Aw.ret (then_r (gvbs hh))))
 refine cF hb (Aw.xskip (fun _ _ _ hq => then_m hq) (Aw.seq (sy [2, 3, 60] [0, 1] (sp 71 [z3, z4, (60, bb (!(x_a.User == x_b.User)))]) [z1, z2] 2 ?_)))
 rcases cond_some hh with ⟨hb, hh⟩ | ⟨hb, hh⟩
 · exact cT hb (sy [4] [] (sp 71 [z5]) [] 2 (Aw.ret (then_r (gvbs hh))))
 refine cF hb (Aw.xskip (fun _ _ _ hq => then_m hq) (Aw.seq (sy [2, 3, 65] [0, 1] (sp 71 [z3, z4, (65, bb (!(x_a.On == x_b.On)))]) [z1, z2] 2 ?_)))
 rcases cond_some hh with ⟨hb, hh⟩ | ⟨hb, hh⟩
 · exact cT hb (sy [4] [] (sp 71 [z5]) [] 2 (Aw.ret (then_r (gvbs hh))))
 refine cF hb (Aw.xskip (fun _ _ _ hq => then_m hq) (Aw.seq (sy [70] [] (sp 71 [(70, bb (!(x_a.Stopped == x_b.Stopped)))]) [] 2 ?_)))
 rcases cond_some hh with ⟨hb, hh⟩ | ⟨hb, hh⟩
 · exact cT hb (sy [4] [] (sp 71 [z5]) [] 2 (Aw.ret (then_r (gvbs hh))))
 exact cF hb (Aw.xskip (fun _ _ _ hq => then_m hq) (sy [4] [] (sp 71 [(4, bb true)]) [] 2 (Aw.ret (gvbs hh))))
theorem low_laws_szIntS : LW 54 ⟨12, [(.tmp 4)], (.seq (.reg false (rg 54 0)) (.seq (.reg false (rg 54 1)) (.seq (.seq (.reg false (rg 54 2)) (.cond (.t 10) (.seq (.reg false (rg 54 3)) .ret) .skip)) (.seq (.reg false (rg 54 4)) .ret))))⟩ := kr
noncomputable def F_laws_szIntS (x_a : List Int) (x_left : Int) : Option Int :=
 cond (decide ((w64 (x_left - (((List.length x_a) : Nat) : Int))) < (0 : Int)))
  (some (-1 : Int))
  (some (w64 (x_left - (((List.length x_a) : Nat) : Int))))
theorem laws_szIntS_fn {x_a : List Int} {x_left : Int} {R_ : Int} (hh : F_laws_szIntS x_a x_left = some R_) : Fn Try.prog 54 [bo (eI .i64) x_a, .int .i64 x_left] (.int .i64 R_) := by
 let z1 := (1, ii (w64 (x_left - (((List.length x_a) : Nat) : Int))))
 unfold F_laws_szIntS at hh
 refine Fn.start low_laws_szIntS [0, 1] (E := sp 12 [(0, bo (eI .i64) x_a), (1, ii x_left)]) kr (v := ii R_) (Hr := []) (k := 0) kr (sy [0, 1] [] (sp 12 [(0, bo (eI .i64) x_a), (1, ii x_left)]) [] 0 (sy [1] [] (sp 12 [z1]) [] 0 (Aw.seq (sy [1, 10] [] (sp 12 [z1, (10, bb (decide ((w64 (x_left - (((List.length x_a) : Nat) : Int))) < (0 : Int))))]) [] 0 ?_))))
 rcases cond_some hh with ⟨hb, hh⟩ | ⟨hb, hh⟩
 · exact cT hb (sy [4] [] (sp 12 [(4, ii (-1))]) [] 0 (Aw.ret (then_r (gvis hh))))
 exact cF hb (Aw.xskip (fun _ _ _ hq => then_m hq) (sy [4] [] (sp 12 [(4, ii (w64 (x_left - (((List.length x_a) : Nat) : Int))))]) [] 0 (Aw.ret (gvis hh))))
theorem low_laws_szCore : LW 99 ⟨12, [(.tmp 4)], (.seq (.reg false (rg 99 0)) (.seq (.reg false (rg 99 1)) (.seq (.seq (.reg false (rg 99 2)) (.cond (.t 10) (.seq (.reg false (rg 99 3)) .ret) .skip)) (.seq (.reg false (rg 99 4)) .ret))))⟩ := kr
noncomputable def F_laws_szCore (x_a : DCore) (x_left : Int) : Option Int :=
 Option.bind (F_laws_szIntS x_a.Regs x_left) fun v1 =>
 cond (decide (v1 < (0 : Int)))
  (some (-1 : Int))
  (some v1)
theorem laws_szCore_fn {x_a : DCore} {x_left : Int} {R_ : Int} (hh : F_laws_szCore x_a x_left = some R_) : Fn Try.prog 99 [.agg (B_100 x_a), .int .i64 x_left] (.int .i64 R_) := by
 unfold F_laws_szCore at hh
 refine Fn.start low_laws_szCore [0, 1] (E := sp 12 [(0, .agg (B_100 x_a)), (1, ii x_left)]) kr (v := ii R_) (Hr := []) (k := 0) kr (sy [1, 2] [0] (sp 12 [(1, ii x_left), (2, pp 0)]) [(0, some (rB100_123 x_a))] 1 (Aw.sreg [1] [] (yu 3 [(5, pp 0), (6, bo (eI .i64) x_a.Regs), (7, ii x_left)] [(0, some (rB100_123 x_a))] 1 ?_)))
 obtain ⟨v1, hv1, hh⟩ := bind_some hh
 refine ys (.call 54 [(.t 6), (.t 7)]) (some 8) (oc (laws_szIntS_fn hv1) ?_)
 refine yt (sp 12 [(1, ii v1)]) [] 1 (Aw.seq (sy [1, 10] [] (sp 12 [(1, ii v1), (10, bb (decide (v1 < (0 : Int))))]) [] 1 ?_))
 rcases cond_some hh with ⟨hb, hh⟩ | ⟨hb, hh⟩
 · exact cT hb (sy [4] [] (sp 12 [(4, ii (-1))]) [] 1 (Aw.ret (then_r (gvis hh))))
 exact cF hb (Aw.xskip (fun _ _ _ hq => then_m hq) (sy [4] [] (sp 12 [(4, ii v1)]) [] 1 (Aw.ret (gvis hh))))
theorem low_laws_markIntS : LW 62 ⟨19, [(.tmp 4)], (.seq (.reg false (rg 62 0)) (.seq (.seq (.reg false (rg 62 1)) (.block 0 (.loop (.seq (.seq (.reg false (rg 62 2)) (.cond (.t 9) .skip (.exit 0))) (.seq (.block 1 (.seq (.reg false (rg 62 3)) (.reg false (rg 62 4)))) (.reg false (rg 62 5))))))) (.seq (.reg false (rg 62 7)) .ret)))⟩ := kr
noncomputable def F_laws_markIntS_j1  (s1 : Int × (List Int)) : Option ((List Int) × Int) :=
 some (s1.2, s1.1)
noncomputable def F_laws_markIntS_l2  (s2 : (List Int) × Int × Int) : Option (LO ((List Int) × Int × Int) (JO (Int × (List Int)) ((List Int) × Int))) :=
 cond (decide (s2.2.2 < (((List.length s2.1) : Nat) : Int)))
  (grd ((0 : Int) ≤ s2.2.2 ∧ s2.2.2 < (((List.length s2.1) : Nat) : Int)) (some (.next ((List.set s2.1 (Int.toNat s2.2.2) s2.2.1), (w64 (s2.2.1 + (1 : Int))), (w64 (s2.2.2 + (1 : Int)))))))
  (some (.ret (.go (s2.2.1, s2.1))))
noncomputable def F_laws_markIntS (x_a : List Int) (x_k : Int) : Option ((List Int) × Int) :=
 Option.bind (Option.bind (iter (F_laws_markIntS_l2) (x_a, x_k, (0 : Int))) LO.val) fun j1 =>
  JO.run j1 (F_laws_markIntS_j1)
theorem laws_markIntS_fn {x_a : List Int} {x_k : Int} {R_ : (List Int) × Int} (hh : F_laws_markIntS x_a x_k = some R_) : Inl Try.prog 62 [.sref 0 [] 0 (List.length x_a) 1, .int .i64 x_k] [(0, some (rI_3 x_a))] 1 (.int .i64 R_.2) [(0, some (rI_3 R_.1))] 1 := by
 let z2 : EH := (0, some (rI_3 x_a))
 unfold F_laws_markIntS at hh
 refine Inl.start low_laws_markIntS [0, 1] [0] (E := sp 19 [(0, sw 0 x_a), (1, ii x_k)]) (H1 := [z2]) kr kr (sy [0, 1] [0] (sp 19 [(0, sw 0 x_a), (1, ii x_k)]) [z2] 1 ?_)
 obtain ⟨j1, hh, hk1⟩ := bind_some hh
 refine Aw.join (S := Int × (List Int)) (fun s1 => sp 19 [(1, ii s1.1)]) (fun s1 => [(0, some (rI_3 s1.2))]) 1 (fun s1 => F_laws_markIntS_j1 s1 = some R_) ?_ ?_
 · intro s1 hh
   unfold F_laws_markIntS_j1 at hh
   refine sy [4] [0] (sp 19 [(4, ii s1.1)]) [(0, some (rI_3 s1.2))] 1 (Aw.ret ?_)
   rw [some_some hh]
   exact gives (r' := ii s1.1) kr (el [some 0] (rens_1 ren_i) (hn nr_eI hs_nil))
 intro Q1 hN1 hR1 hE1
 refine sy [0, 1, 5] [0] (sp 19 [(0, sw 0 x_a), (1, ii x_k), (5, ii 0)]) [z2] 1 (Aw.block ?_)
 obtain ⟨o2, hi2, hk2⟩ := bind_some hh
 refine Aw.iter (fun (s2 : (List Int) × Int × Int) => sp 19 [(0, sw 0 s2.1), (1, ii s2.2.1), (5, ii s2.2.2)]) (fun (s2 : (List Int) × Int × Int) => [(0, some (rI_3 s2.1))]) 1 hi2 (el [some 0] (rens_sp kr (rs (sw 0 x_a) (ri (ri rl_n)))) (hn nr_eI hs_nil)) ?_
 intro s2 u2 Q2 hh hN2 hX2 hR2
 let z3 : EH := (0, some (rI_3 s2.1)); let z4 := (0, sw 0 s2.1); let z5 := (1, ii (w64 (s2.2.1 + (1 : Int)))); let z6 := (5, ii s2.2.2); let z7 := (9, bb (decide (s2.2.2 < (((List.length s2.1) : Nat) : Int)))); let z1 := List.set s2.1 (Int.toNat s2.2.2) s2.2.1
 unfold F_laws_markIntS_l2 at hh
 refine Aw.seq (sy [0, 1, 5, 9] [0] (sp 19 [z4, (1, ii s2.2.1), z6, z7]) [z3] 1 ?_)
 rcases cond_sf hh with ⟨hb, hh⟩ | ⟨hb, hh⟩
 · refine cF hb (Aw.exit (then_x (hX2 _ _ _ _ _ (some_some hh) ?_)))
   intro hout
   rw [hout] at hk2
   refine blk_x ?_
   obtain rfl := some_some hk2
   exact hN1 (s2.2.1, s2.1) _ _ _ hk1 (el [some 0] (rens_sp kr (ri rl_n)) (hn nr_eI hs_nil))
 refine cT hb (Aw.xskip (fun _ _ _ hq => then_m hq) (Aw.seq (Aw.block (Aw.sreg [0, 1, 5] [0] ?_))))
 obtain ⟨hg24, hh⟩ := grd_some hh
 refine yjc 4 [(0 : Int) ≤ s2.2.2 ∧ s2.2.2 < (((List.length s2.1) : Nat) : Int)] (sp 19 [z4, (1, ii s2.2.1), z6, z7, (12, sw 0 s2.1), (13, ii s2.2.2), (14, ii s2.2.1), (15, .ptr 0 [] (0 + (Int.toNat s2.2.2) * 1))]) [z3] 1 (.cons hg24 .nil) ?_
 let q1 : Root := (rI_3 z1)
 refine ys (.store 1 (.t 15) (.t 14)) none (op_store (c := (eI .i64)) (xs := s2.1) (e := 3) (r := 0) (π := []) (o := 0 + (Int.toNat s2.2.2) * 1) (i := (Int.toNat s2.2.2)) (off := 0) (vs := [ii s2.2.1]) (y := s2.2.1) (H' := [(0, some q1), z3]) len_eI kr kr kr kr ltn ltn dd kr kr ?_)
 exact yt (sp 19 [z4, (1, ii s2.2.1), z6]) [(0, some q1)] 1 (Aw.xreg [0, 1, 5] [0] (fun _ _ _ hq => blk_m (then_m hq)) (yt (sp 19 [z4, z5, z6]) [(0, some q1)] 1 (Aw.oreg (ye (sp 19 [z4, z5, (5, ii (w64 (s2.2.2 + (1 : Int)))), (10, ii s2.2.2), (11, ii (w64 (s2.2.2 + (1 : Int))))]) [(0, some q1)] 1 (hN2 (z1, (w64 (s2.2.1 + (1 : Int))), (w64 (s2.2.2 + (1 : Int)))) _ _ _ (some_some hh) (el [some 0] (rens_sp kr (rs (sw 0 s2.1) (ri (ri rl_n)))) (hn nr_eI hs_nil)))))))
end Go.Proofs.Ytbnjdmclnojlmaa
