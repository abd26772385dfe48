/- Plain functions of the program, and that it hands back what they say. Made by program. -/
import Derived.Test.YtlikfpmbcdlnjaaWT
import Derived.Test.YtlikfpmbcdlnjaaProg
namespace Go.Proofs.Ytlikfpmbcdlnjaa
open Go.RowKit
set_option maxRecDepth 100000
set_option linter.all false
set_option maxHeartbeats 0
def Lf61_r0 : List LOper := [oo 4 (.mv (.c (bb false)))]
def Lf61_r1 : List LOper := [om 6 0, oo 7 (.len (.t 6)), om 8 1, oo 9 (.len (.t 8)), oo 10 (.bin .neq (.t 7) (.t 9))]
def Lf61_r2 : List LOper := [oo 4 (.mv (.c (bb false)))]
def Lf61_r3 : List LOper := [oo 5 (.mv (.c (ii 0)))]
def Lf61_r4 : List LOper := [om 11 5, om 12 0, oo 13 (.len (.t 12)), oo 14 (.bin .lss (.t 11) (.t 13))]
def Lf61_r5 : List LOper := [om 17 0, om 18 5, oo 19 (.iadr 1 (.t 17) (.t 18)), oo 20 (.load false 1 (.t 19)), om 21 1, om 22 5, oo 23 (.iadr 1 (.t 21) (.t 22)), oo 24 (.load false 1 (.t 23)), oo 25 (.bin .neq (.t 20) (.t 24))]
def Lf61_r6 : List LOper := [oo 4 (.mv (.c (bb false)))]
def Lf61_r7 : List LOper := [om 15 5, oo 16 (.bin .add (.t 15) (.c (ii 1))), om 5 16]
def Lf61_l8 : LCode := (.seq (.seq (.reg false Lf61_r4) (.cond (.t 14) .skip (.exit 0))) (.seq (.block 1 (.seq (.reg true Lf61_r5) (.cond (.t 25) (.seq (.reg false Lf61_r6) .ret) .skip))) (.reg false Lf61_r7)))
def Lf61_r9 : List LOper := [oo 4 (.mv (.c (bb true)))]
def Lf61 : LFun := ⟨26, [(.tmp 4)], (.seq (.reg false Lf61_r0) (.seq (.seq (.reg false Lf61_r1) (.cond (.t 10) (.seq (.reg false Lf61_r2) .ret) .skip)) (.seq (.seq (.reg false Lf61_r3) (.block 0 (.loop Lf61_l8))) (.seq (.reg false Lf61_r9) .ret))))⟩
theorem low_laws_sameInts : lowFun Go.Proofs.Try.prog 61 = some Lf61 := by kernel_rfl
noncomputable def F_laws_sameInts_j1  (s1 : Unit) : Option Bool :=
 some true
noncomputable def F_laws_sameInts_l2 (x_a : List Int) (x_b : List Int) (s2 : Int) : Option (LO Int (JO Unit Bool)) :=
 cond (decide (s2 < (((List.length x_a) : Nat) : Int)))
  (grd ((0 : Int) ≤ s2 ∧ s2 < ((List.length x_a : Nat) : Int)) (grd ((0 : Int) ≤ s2 ∧ s2 < ((List.length x_b : Nat) : Int)) (cond (!decide ((List.getD x_a (Int.toNat s2) default) = (List.getD x_b (Int.toNat s2) default)))
   (some (.ret (.out false)))
   (some (.next (w64 (s2 + (1 : Int))))))))
  (some (.ret (.go ())))
noncomputable def F_laws_sameInts (x_a : List Int) (x_b : List Int) : Option Bool :=
 cond (!decide ((((List.length x_a) : Nat) : Int) = (((List.length x_b) : Nat) : Int)))
  (some false)
  (Option.bind (Option.bind (iter (F_laws_sameInts_l2 x_a x_b) (0 : Int)) LO.val) fun j1 =>
   JO.run j1 (F_laws_sameInts_j1))
theorem laws_sameInts_fn {x_a : List Int} {x_b : List Int} {R_ : Bool} (hh : F_laws_sameInts x_a x_b = some R_) : Fn Try.prog 61 [bo (eI .i64) x_a, bo (eI .i64) x_b] (.bool R_) := by
 let z3 : EV := (0, bo (eI .i64) x_a)
 let z4 : EV := (1, bo (eI .i64) x_b)
 unfold F_laws_sameInts at hh
 refine Fn.start low_laws_sameInts [0, 1] (E := sp 26 [z3, z4]) kr (v := bb R_) (Hr := []) (k := 0) kr (sy [0, 1] [] (sp 26 [z3, z4]) [] 0 (Aw.seq (sy [0, 1, 10] [] (sp 26 [z3, z4, (10, bb (!decide ((((List.length x_a) : Nat) : Int) = (((List.length x_b) : Nat) : Int))))]) [] 0 ?_)))
 rcases cond_some hh with ⟨hb, hh⟩ | ⟨hb, hh⟩
 · exact cT hb (sy [4] [] (sp 26 [(4, bb false)]) [] 0 (Aw.ret (then_r (gvbs hh))))
 refine cF hb (Aw.xskip (fun _ _ _ hq => then_m hq) ?_)
 obtain ⟨j1, hh, hk1⟩ := bind_some hh
 refine Aw.join (S := Unit) (fun s1 => sp 26 []) (fun s1 => []) 0 (fun s1 => F_laws_sameInts_j1 s1 = some R_) ?_ ?_
 · intro s1 hh
   unfold F_laws_sameInts_j1 at hh
   exact sy [4] [] (sp 26 [(4, bb true)]) [] 0 (Aw.ret (gvbs hh))
 intro Q1 hN1 hR1 hE1
 refine sy [0, 1, 5] [] (sp 26 [z3, z4, (5, ii 0)]) [] 0 (Aw.block ?_)
 obtain ⟨o2, hi2, hk2⟩ := bind_some hh
 refine Aw.iter (fun (s2 : Int) => sp 26 [(0, bo (eI .i64) x_a), (1, bo (eI .i64) x_b), (5, ii s2)]) (fun (s2 : Int) => []) 0 hi2 (el [] (rens_sp kr (ro nr_eI (ro nr_eI (ri rl_n)))) hs_nil) ?_
 intro s2 u2 Q2 hh hN2 hX2 hR2
 let z5 : EV := (14, bb (decide (s2 < (((List.length x_a) : Nat) : Int))))
 let z1 := List.getD x_a (Int.toNat s2) default
 let z2 := List.getD x_b (Int.toNat s2) default
 unfold F_laws_sameInts_l2 at hh
 refine Aw.seq (sy [0, 1, 5, 14] [] (sp 26 [z3, z4, (5, ii s2), z5]) [] 0 ?_)
 rcases cond_some hh with ⟨hb, hh⟩ | ⟨hb, hh⟩
 · refine cT hb (Aw.xskip (fun _ _ _ hq => then_m hq) (Aw.seq (Aw.block (Aw.sregq [0, 1, 5, 25] (qc (cs := []) (E' := (sp 26 [z3, z4, (5, ii s2), z5, (17, bo (eI .i64) x_a), (18, ii s2)])) (pre := (List.take 2 Lf61_r5)) (L' := (List.drop 2 Lf61_r5)) kr (fun K => by kernel_rfl) .nil ?_)))))
   obtain ⟨hg47, hh⟩ := grd_some hh
   refine qs (.iadr 1 (.t 17) (.t 18)) (some 19) (yq_q rfl (op_iadr (kd := .i64) (c := (eI .i64)) (xs := x_a) len_eI dd kr kr hg47 ?_))
   refine qs (.load false 1 (.t 19)) (some 20) (yq_q rfl (op_loadb (c := (eI .i64)) (xs := x_a) (o := Int.toNat s2 * 1) (i := (Int.toNat s2)) (off := 0) (v := ii z1) len_eI kr ltn ltn dd kr ?_))
   refine qc (cs := []) (E' := (sp 26 [z3, z4, (5, ii s2), z5, (17, bo (eI .i64) x_a), (18, ii s2), (19, .bptr (fl (eI .i64) x_a) (Int.toNat s2 * 1)), (20, ii z1), (21, bo (eI .i64) x_b), (22, ii s2)])) (pre := (List.take 2 (List.drop 4 Lf61_r5))) (L' := (List.drop 6 Lf61_r5)) kr (fun K => by kernel_rfl) .nil ?_
   obtain ⟨hg48, hh⟩ := grd_some hh
   refine qs (.iadr 1 (.t 21) (.t 22)) (some 23) (yq_q rfl (op_iadr (kd := .i64) (c := (eI .i64)) (xs := x_b) len_eI dd kr kr hg48 ?_))
   refine qs (.load false 1 (.t 23)) (some 24) (yq_q rfl (op_loadb (c := (eI .i64)) (xs := x_b) (o := Int.toNat s2 * 1) (i := (Int.toNat s2)) (off := 0) (v := ii z2) len_eI kr ltn ltn dd kr ?_))
   refine qct (cs := []) (E' := (sp 26 [z3, z4, (5, ii s2), (25, bb (!decide (z1 = z2)))])) (fun K => by kernel_rfl) .nil ?_
   rcases cond_some hh with ⟨hb, hh⟩ | ⟨hb, hh⟩
   · refine cT hb (sy [4] [] (sp 26 [(4, bb false)]) [] 0 (Aw.ret (blk_r (then_r ?_))))
     refine hR2 _ _ _ _ (some_some hh) ?_
     intro hout
     rw [hout] at hk2
     refine blk_r ?_
     obtain rfl := some_some hk2
     refine hR1 _ _ _ ?_
     rw [some_some hk1]
     exact gvb
   exact cF hb (Aw.xskip (fun _ _ _ hq => blk_m (then_m hq)) (Aw.oreg (ye (sp 26 [z3, z4, (5, ii (w64 (s2 + (1 : Int)))), (15, ii s2), (16, ii (w64 (s2 + (1 : Int)))), (25, bb (!decide (z1 = z2)))]) [] 0 (hN2 (w64 (s2 + (1 : Int))) _ _ _ (some_some hh) (el [] (rens_sp kr (ro nr_eI (ro nr_eI (ri rl_n)))) hs_nil)))))
 refine cF hb (Aw.exit (then_x (hX2 _ _ _ _ _ (some_some hh) ?_)))
 intro hout
 rw [hout] at hk2
 refine blk_x ?_
 obtain rfl := some_some hk2
 exact hN1 () _ _ _ hk1 (el [] (rens_sp kr rl_n) hs_nil)
end Go.Proofs.Ytlikfpmbcdlnjaa
