/- Plain functions of the program, and that it hands back what they say. Made by program. -/
import Derived.Test.YtbogmfjpabfhpaaWT
import Derived.Test.YtbogmfjpabfhpaaProg
namespace Go.Proofs.Ytbogmfjpabfhpaa
open Go.RowKit
set_option maxRecDepth 100000
set_option linter.all false
set_option maxHeartbeats 0
def Lf32_r0 : List LOper := [oo 4 (.mv (.c (bb false)))]
def Lf32_r1 : List LOper := [om 6 0, oo 7 (.len (.t 6)), om 8 1, oo 9 (.len (.t 8)), oo 10 (.bin .neq (.t 7) (.t 9))]
def Lf32_r2 : List LOper := [oo 4 (.mv (.c (bb false)))]
def Lf32_r3 : List LOper := [oo 5 (.mv (.c (ii 0)))]
def Lf32_r4 : List LOper := [om 11 5, om 12 0, oo 13 (.len (.t 12)), oo 14 (.bin .lss (.t 11) (.t 13))]
def Lf32_r5 : List LOper := [om 17 0, om 18 5, oo 19 (.iadr 1 (.t 17) (.t 18)), oo 20 (.load false 1 (.t 19)), om 21 1, om 22 5, oo 23 (.iadr 1 (.t 21) (.t 22)), oo 24 (.load false 1 (.t 23)), oo 25 (.bin .neq (.t 20) (.t 24))]
def Lf32_r6 : List LOper := [oo 4 (.mv (.c (bb false)))]
def Lf32_r7 : List LOper := [om 15 5, oo 16 (.bin .add (.t 15) (.c (ii 1))), om 5 16]
def Lf32_l8 : LCode := (.seq (.seq (.reg false Lf32_r4) (.cond (.t 14) .skip (.exit 0))) (.seq (.block 1 (.seq (.reg true Lf32_r5) (.cond (.t 25) (.seq (.reg false Lf32_r6) .ret) .skip))) (.reg false Lf32_r7)))
def Lf32_r9 : List LOper := [oo 4 (.mv (.c (bb true)))]
def Lf32 : LFun := ⟨26, [(.tmp 4)], (.seq (.reg false Lf32_r0) (.seq (.seq (.reg false Lf32_r1) (.cond (.t 10) (.seq (.reg false Lf32_r2) .ret) .skip)) (.seq (.seq (.reg false Lf32_r3) (.block 0 (.loop Lf32_l8))) (.seq (.reg false Lf32_r9) .ret))))⟩
theorem low_laws_sameInts : lowFun Go.Proofs.Try.prog 32 = some Lf32 := by kernel_rfl
noncomputable def F_laws_sameInts_j1  (s1 : Unit) : Option Bool :=
 some true
noncomputable def F_laws_sameInts_l2 (x_a : List Int) (x_b : List Int) (s2 : Int) : Option (LO Int (JO Unit Bool)) :=
 cond (decide (s2 < (((List.length x_a) : Nat) : Int)))
  (grd ((0 : Int) ≤ s2 ∧ s2 < ((List.length x_a : Nat) : Int)) (grd ((0 : Int) ≤ s2 ∧ s2 < ((List.length x_b : Nat) : Int)) (cond (!decide ((List.getD x_a (Int.toNat s2) default) = (List.getD x_b (Int.toNat s2) default)))
   (some (.ret (.out false)))
   (some (.next (w64 (s2 + (1 : Int))))))))
  (some (.ret (.go ())))
noncomputable def F_laws_sameInts (x_a : List Int) (x_b : List Int) : Option Bool :=
 cond (!decide ((((List.length x_a) : Nat) : Int) = (((List.length x_b) : Nat) : Int)))
  (some false)
  (Option.bind (Option.bind (iter (F_laws_sameInts_l2 x_a x_b) (0 : Int)) LO.val) fun j1 =>
   JO.run j1 (F_laws_sameInts_j1))
theorem laws_sameInts_fn {x_a : List Int} {x_b : List Int} {R_ : Bool} (hh : F_laws_sameInts x_a x_b = some R_) : Fn Try.prog 32 [bo (eI .i64) x_a, bo (eI .i64) x_b] (.bool R_) := by
 unfold F_laws_sameInts at hh
 refine Fn.start low_laws_sameInts [0, 1] (E := sp 26 [(0, bo (eI .i64) x_a), (1, bo (eI .i64) x_b)]) (by kernel_rfl) (v := bb R_) (Hr := []) (k := 0) (by kernel_rfl) ?_
 refine sy [0, 1] [] (sp 26 [(0, bo (eI .i64) x_a), (1, bo (eI .i64) x_b)]) [] 0 ?_
 refine Aw.seq ?_
 refine sy [0, 1, 10] [] (sp 26 [(0, bo (eI .i64) x_a), (1, bo (eI .i64) x_b), (10, bb (!decide ((((List.length x_a) : Nat) : Int) = (((List.length x_b) : Nat) : Int))))]) [] 0 ?_
 rcases cond_some hh with ⟨hb, hh⟩ | ⟨hb, hh⟩
 · refine cT hb ?_
   refine sy [4] [] (sp 26 [(4, bb false)]) [] 0 ?_
   refine Aw.ret ?_
   refine then_r ?_
   rw [some_some hh]
   exact gvb
 refine cF hb ?_
 refine Aw.xskip (fun _ _ _ hq => then_m hq) ?_
 obtain ⟨j1, hh, hk1⟩ := bind_some hh
 refine Aw.join (S := Unit) (fun s1 => sp 26 []) (fun s1 => []) 0 (fun s1 => F_laws_sameInts_j1 s1 = some R_) ?_ ?_
 · intro s1 hh
   unfold F_laws_sameInts_j1 at hh
   refine sy [4] [] (sp 26 [(4, bb true)]) [] 0 ?_
   refine Aw.ret ?_
   rw [some_some hh]
   exact gvb
 intro Q1 hN1 hR1 hE1
 refine sy [0, 1, 5] [] (sp 26 [(0, bo (eI .i64) x_a), (1, bo (eI .i64) x_b), (5, ii 0)]) [] 0 ?_
 refine Aw.block ?_
 obtain ⟨o2, hi2, hk2⟩ := bind_some hh
 refine Aw.iter (fun (s2 : Int) => sp 26 [(0, bo (eI .i64) x_a), (1, bo (eI .i64) x_b), (5, ii s2)]) (fun (s2 : Int) => []) 0 hi2 (Ent.list2 [] rfl rfl (by decide) (rens_sp (by kernel_rfl) (rl_c (u := bo (eI .i64) x_a) (by kernel_rfl) (ren_bor (rens_same (noRefs_fl nr_eI))) (rl_c (u := bo (eI .i64) x_b) (by kernel_rfl) (ren_bor (rens_same (noRefs_fl nr_eI))) (rl_c (u := ii 0) (by kernel_rfl) ren_i rl_n)))) hs_nil) ?_
 intro s2 u2 Q2 hh hN2 hX2 hR2
 unfold F_laws_sameInts_l2 at hh
 refine Aw.seq ?_
 refine sy [0, 1, 5, 14] [] (sp 26 [(0, bo (eI .i64) x_a), (1, bo (eI .i64) x_b), (5, ii s2), (14, bb (decide (s2 < (((List.length x_a) : Nat) : Int))))]) [] 0 ?_
 rcases cond_some hh with ⟨hb, hh⟩ | ⟨hb, hh⟩
 · refine cT hb ?_
   refine Aw.xskip (fun _ _ _ hq => then_m hq) ?_
   refine Aw.seq ?_
   refine Aw.block ?_
   refine Aw.sregq [0, 1, 5, 25] ?_
   refine qc (cs := []) (E' := (sp 26 [(0, bo (eI .i64) x_a), (1, bo (eI .i64) x_b), (5, ii s2), (14, bb (decide (s2 < (((List.length x_a) : Nat) : Int)))), (17, bo (eI .i64) x_a), (18, ii s2)])) (pre := (List.take 2 Lf32_r5)) (L' := (List.drop 2 Lf32_r5)) (by kernel_rfl) (fun K => by kernel_rfl) .nil ?_
   obtain ⟨hg47, hh⟩ := grd_some hh
   refine qs (.iadr 1 (.t 17) (.t 18)) (some 19) (yq_q rfl (op_iadr (kd := .i64) (c := (eI .i64)) (xs := x_a) len_eI (by decide) (by kernel_rfl) (by kernel_rfl) hg47 ?_))
   refine qs (.load false 1 (.t 19)) (some 20) (yq_q rfl (op_loadb (c := (eI .i64)) (xs := x_a) (o := Int.toNat s2 * 1) (i := (Int.toNat s2)) (off := 0) (v := ii (List.getD x_a (Int.toNat s2) default)) len_eI (by kernel_rfl) (by omega) (by omega) (by decide) (by kernel_rfl) ?_))
   refine qc (cs := []) (E' := (sp 26 [(0, bo (eI .i64) x_a), (1, bo (eI .i64) x_b), (5, ii s2), (14, bb (decide (s2 < (((List.length x_a) : Nat) : Int)))), (17, bo (eI .i64) x_a), (18, ii s2), (19, .bptr (fl (eI .i64) x_a) (Int.toNat s2 * 1)), (20, ii (List.getD x_a (Int.toNat s2) default)), (21, bo (eI .i64) x_b), (22, ii s2)])) (pre := (List.take 2 (List.drop 4 Lf32_r5))) (L' := (List.drop 6 Lf32_r5)) (by kernel_rfl) (fun K => by kernel_rfl) .nil ?_
   obtain ⟨hg48, hh⟩ := grd_some hh
   refine qs (.iadr 1 (.t 21) (.t 22)) (some 23) (yq_q rfl (op_iadr (kd := .i64) (c := (eI .i64)) (xs := x_b) len_eI (by decide) (by kernel_rfl) (by kernel_rfl) hg48 ?_))
   refine qs (.load false 1 (.t 23)) (some 24) (yq_q rfl (op_loadb (c := (eI .i64)) (xs := x_b) (o := Int.toNat s2 * 1) (i := (Int.toNat s2)) (off := 0) (v := ii (List.getD x_b (Int.toNat s2) default)) len_eI (by kernel_rfl) (by omega) (by omega) (by decide) (by kernel_rfl) ?_))
   refine qct (cs := []) (E' := (sp 26 [(0, bo (eI .i64) x_a), (1, bo (eI .i64) x_b), (5, ii s2), (25, bb (!decide ((List.getD x_a (Int.toNat s2) default) = (List.getD x_b (Int.toNat s2) default))))])) (fun K => by kernel_rfl) .nil ?_
   rcases cond_some hh with ⟨hb, hh⟩ | ⟨hb, hh⟩
   · refine cT hb ?_
     refine sy [4] [] (sp 26 [(4, bb false)]) [] 0 ?_
     refine Aw.ret ?_
     refine blk_r (then_r ?_)
     refine hR2 _ _ _ _ (some_some hh) ?_
     intro hout
     rw [hout] at hk2
     refine blk_r ?_
     obtain rfl := some_some hk2
     refine hR1 _ _ _ ?_
     refine ?_
     rw [some_some hk1]
     exact gvb
   refine cF hb ?_
   refine Aw.xskip (fun _ _ _ hq => blk_m (then_m hq)) ?_
   refine Aw.oreg ?_
   refine ye (sp 26 [(0, bo (eI .i64) x_a), (1, bo (eI .i64) x_b), (5, ii (w64 (s2 + (1 : Int)))), (15, ii s2), (16, ii (w64 (s2 + (1 : Int)))), (25, bb (!decide ((List.getD x_a (Int.toNat s2) default) = (List.getD x_b (Int.toNat s2) default))))]) [] 0 ?_
   exact hN2 (w64 (s2 + (1 : Int))) _ _ _ (some_some hh) (Ent.list2 [] rfl rfl (by decide) (rens_sp (by kernel_rfl) (rl_c (u := bo (eI .i64) x_a) (by kernel_rfl) (ren_bor (rens_same (noRefs_fl nr_eI))) (rl_c (u := bo (eI .i64) x_b) (by kernel_rfl) (ren_bor (rens_same (noRefs_fl nr_eI))) (rl_c (u := ii (w64 (s2 + (1 : Int)))) (by kernel_rfl) ren_i rl_n)))) hs_nil)
 refine cF hb ?_
 refine Aw.exit ?_
 refine then_x ?_
 refine hX2 _ _ _ _ _ (some_some hh) ?_
 intro hout
 rw [hout] at hk2
 refine blk_x ?_
 obtain rfl := some_some hk2
 exact hN1 () _ _ _ hk1 (Ent.list2 [] rfl rfl (by decide) (rens_sp (by kernel_rfl) rl_n) hs_nil)
def Lf30_r0 : List LOper := [oo 2 (.box 36 (.t 0)), oo 3 (.box 36 (.t 1)), oo 4 (.mv (.c (bb false)))]
def Lf30_r1 : List LOper := [oo 5 (.fadr 0 (.t 2)), oo 6 (.load false 1 (.t 5)), oo 7 (.fadr 0 (.t 3)), oo 8 (.load false 1 (.t 7)), oo 9 (.call 32 [(.t 6), (.t 8)]), oo 10 (.un .not (.t 9)), om 11 10, ⟨(some 12), (.fadr 1 (.t 2)), (some (11, false))⟩, ⟨(some 13), (.load false 1 (.t 12)), (some (11, false))⟩, ⟨(some 14), (.fadr 1 (.t 3)), (some (11, false))⟩, ⟨(some 15), (.load false 1 (.t 14)), (some (11, false))⟩, ⟨(some 16), (.bin .neq (.t 13) (.t 15)), (some (11, false))⟩, oo 17 (.pick (.t 11) (.c (bb true)) (.t 16)), om 18 17, ⟨(some 19), (.fadr 2 (.t 2)), (some (18, false))⟩, ⟨(some 20), (.load false 1 (.t 19)), (some (18, false))⟩, ⟨(some 21), (.fadr 2 (.t 3)), (some (18, false))⟩, ⟨(some 22), (.load false 1 (.t 21)), (some (18, false))⟩, ⟨(some 23), (.bin .neq (.t 20) (.t 22)), (some (18, false))⟩, oo 24 (.pick (.t 18) (.c (bb true)) (.t 23)), om 25 24, ⟨(some 26), (.fadr 3 (.t 2)), (some (25, false))⟩, ⟨(some 27), (.load false 1 (.t 26)), (some (25, false))⟩, ⟨(some 28), (.fadr 3 (.t 3)), (some (25, false))⟩, ⟨(some 29), (.load false 1 (.t 28)), (some (25, false))⟩, ⟨(some 30), (.bin .neq (.t 27) (.t 29)), (some (25, false))⟩, oo 31 (.pick (.t 25) (.c (bb true)) (.t 30)), om 32 31, ⟨(some 33), (.fadr 4 (.t 2)), (some (32, false))⟩, ⟨(some 34), (.load false 1 (.t 33)), (some (32, false))⟩, ⟨(some 35), (.fadr 4 (.t 3)), (some (32, false))⟩, ⟨(some 36), (.load false 1 (.t 35)), (some (32, false))⟩, ⟨(some 37), (.bin .neq (.t 34) (.t 36)), (some (32, false))⟩, oo 38 (.pick (.t 32) (.c (bb true)) (.t 37)), om 39 38, ⟨(some 40), (.fadr 5 (.t 2)), (some (39, false))⟩, ⟨(some 41), (.load false 1 (.t 40)), (some (39, false))⟩, ⟨(some 42), (.fadr 5 (.t 3)), (some (39, false))⟩, ⟨(some 43), (.load false 1 (.t 42)), (some (39, false))⟩, ⟨(some 44), (.binb true (.t 41) (.t 43)), (some (39, false))⟩, oo 45 (.pick (.t 39) (.c (bb true)) (.t 44))]
def Lf30_r2 : List LOper := [oo 4 (.mv (.c (bb false)))]
def Lf30_r3 : List LOper := [oo 46 (.fadr 6 (.t 2)), oo 47 (.load false 1 (.t 46)), oo 48 (.fadr 6 (.t 3)), oo 49 (.load false 1 (.t 48)), oo 50 (.bin .eql (.t 47) (.t 49)), om 51 50, ⟨(some 52), (.fadr 7 (.t 2)), (some (51, true))⟩, ⟨(some 53), (.load false 1 (.t 52)), (some (51, true))⟩, ⟨(some 54), (.fadr 7 (.t 3)), (some (51, true))⟩, ⟨(some 55), (.load false 1 (.t 54)), (some (51, true))⟩, ⟨(some 56), (.bin .eql (.t 53) (.t 55)), (some (51, true))⟩, oo 57 (.pick (.t 51) (.t 56) (.c (bb false))), om 58 57, ⟨(some 59), (.fadr 8 (.t 2)), (some (58, true))⟩, ⟨(some 60), (.load false 1 (.t 59)), (some (58, true))⟩, ⟨(some 61), (.fadr 8 (.t 3)), (some (58, true))⟩, ⟨(some 62), (.load false 1 (.t 61)), (some (58, true))⟩, ⟨(some 63), (.bin .eql (.t 60) (.t 62)), (some (58, true))⟩, oo 64 (.pick (.t 58) (.t 63) (.c (bb false))), om 65 64, ⟨(some 66), (.fadr 9 (.t 2)), (some (65, true))⟩, ⟨(some 67), (.load false 1 (.t 66)), (some (65, true))⟩, ⟨(some 68), (.fadr 9 (.t 3)), (some (65, true))⟩, ⟨(some 69), (.load false 1 (.t 68)), (some (65, true))⟩, ⟨(some 70), (.binb false (.t 67) (.t 69)), (some (65, true))⟩, oo 71 (.pick (.t 65) (.t 70) (.c (bb false))), om 72 71, ⟨(some 73), (.fadr 10 (.t 2)), (some (72, true))⟩, ⟨(some 74), (.load false 1 (.t 73)), (some (72, true))⟩, ⟨(some 75), (.fadr 10 (.t 3)), (some (72, true))⟩, ⟨(some 76), (.load false 1 (.t 75)), (some (72, true))⟩, ⟨(some 77), (.binb false (.t 74) (.t 76)), (some (72, true))⟩, oo 78 (.pick (.t 72) (.t 77) (.c (bb false))), om 79 78, ⟨(some 80), (.fadr 11 (.t 2)), (some (79, true))⟩, ⟨(some 81), (.load false 1 (.t 80)), (some (79, true))⟩, ⟨(some 82), (.fadr 11 (.t 3)), (some (79, true))⟩, ⟨(some 83), (.load false 1 (.t 82)), (some (79, true))⟩, ⟨(some 84), (.binb false (.t 81) (.t 83)), (some (79, true))⟩, oo 85 (.pick (.t 79) (.t 84) (.c (bb false))), om 86 85, ⟨(some 87), (.fadr 12 (.t 2)), (some (86, true))⟩, ⟨(some 88), (.load false 1 (.t 87)), (some (86, true))⟩, ⟨(some 89), (.fadr 12 (.t 3)), (some (86, true))⟩, ⟨(some 90), (.load false 1 (.t 89)), (some (86, true))⟩, ⟨(some 91), (.binb false (.t 88) (.t 90)), (some (86, true))⟩, oo 92 (.pick (.t 86) (.t 91) (.c (bb false))), om 4 92]
def Lf30 : LFun := ⟨93, [(.tmp 4)], (.seq (.reg false Lf30_r0) (.seq (.seq (.reg false Lf30_r1) (.cond (.t 45) (.seq (.reg false Lf30_r2) .ret) .skip)) (.seq (.reg false Lf30_r3) .ret)))⟩
theorem low_laws_sameCore : lowFun Go.Proofs.Try.prog 30 = some Lf30 := by kernel_rfl
noncomputable def F_laws_sameCore (x_a : DCore) (x_b : DCore) : Option Bool :=
 Option.bind (F_laws_sameInts x_a.Regs x_b.Regs) fun v1 =>
 cond (!v1)
  (some false)
  (cond (!decide (x_a.Pc = x_b.Pc))
   (some false)
   (cond (!decide (x_a.Root = x_b.Root))
    (some false)
    (cond (!decide (x_a.Vector = x_b.Vector))
     (some false)
     (cond (!decide (x_a.Saved = x_b.Saved))
      (some false)
      (cond (!(x_a.SavedUser == x_b.SavedUser))
       (some false)
       (cond (decide (x_a.Cause = x_b.Cause))
        (cond (decide (x_a.Bad = x_b.Bad))
         (cond (decide (x_a.Timer = x_b.Timer))
          (cond (x_a.Waits == x_b.Waits)
           (cond (x_a.User == x_b.User)
            (cond (x_a.On == x_b.On)
             (some (x_a.Stopped == x_b.Stopped))
             (some false))
            (some false))
           (some false))
          (some false))
         (some false))
        (some false)))))))
theorem laws_sameCore_fn {x_a : DCore} {x_b : DCore} {R_ : Bool} (hh : F_laws_sameCore x_a x_b = some R_) : Fn Try.prog 30 [.agg (bo (eI .i64) x_a.Regs :: ru36 x_a []), .agg (bo (eI .i64) x_b.Regs :: ru36 x_b [])] (.bool R_) := by
 unfold F_laws_sameCore at hh
 refine Fn.start low_laws_sameCore [0, 1] (E := sp 93 [(0, .agg (B_36 x_a)), (1, .agg (B_36 x_b))]) (by kernel_rfl) (v := bb R_) (Hr := []) (k := 0) (by kernel_rfl) ?_
 refine Aw.sreg [2, 3] [0, 1] ?_
 let q1 : Root := ⟨36, (bo (eI .i64) x_a.Regs :: ru36 x_a [])⟩
 let q2 : Root := ⟨36, (bo (eI .i64) x_b.Regs :: ru36 x_b [])⟩
 refine yt (sp 93 [(2, pp 0), (3, pp 1)]) [(0, some q1), (1, some q2)] 2 ?_
 refine Aw.seq ?_
 refine Aw.sreg [2, 3, 45] [0, 1] (yj 4  (sp 93 [(2, pp 0), (3, pp 1), (5, pp 0), (6, bo (eI .i64) x_a.Regs), (7, pp 1), (8, bo (eI .i64) x_b.Regs)]) [(0, some q1), (1, some q2)] 2 ?_)
 obtain ⟨v1, hv1, hh⟩ := bind_some hh
 refine ys (.call 32 [(.t 6), (.t 8)]) (some 9) (oc (laws_sameInts_fn hv1) ?_)
 refine yu 2 [(9, bb v1), (10, bb (!v1)), (11, bb (!v1))] [(0, some q1), (1, some q2)] 2 ?_
 rcases cond_some hh with ⟨hb, hh⟩ | ⟨hb, hh⟩
 · refine yb 10 hb ?_
   refine yb 11 hb ?_
   refine yt (sp 93 [(2, pp 0), (3, pp 1), (45, bb true)]) [(0, some q1), (1, some q2)] 2 ?_
   refine cT rfl ?_
   refine sy [4] [] (sp 93 [(4, bb false)]) [] 2 ?_
   refine Aw.ret ?_
   refine then_r ?_
   rw [some_some hh]
   exact gvb
 refine yb 10 hb ?_
 refine yb 11 hb ?_
 refine yu 7 [(10, bb false), (11, bb false), (12, .ptr 0 [] 1), (13, ii x_a.Pc), (14, .ptr 1 [] 1), (15, ii x_b.Pc), (16, bb (!decide (x_a.Pc = x_b.Pc))), (17, bb (!decide (x_a.Pc = x_b.Pc))), (18, bb (!decide (x_a.Pc = x_b.Pc)))] [(0, some q1), (1, some q2)] 2 ?_
 rcases cond_some hh with ⟨hb, hh⟩ | ⟨hb, hh⟩
 · refine yb 16 hb ?_
   refine yb 17 hb ?_
   refine yb 18 hb ?_
   refine yt (sp 93 [(2, pp 0), (3, pp 1), (45, bb true)]) [(0, some q1), (1, some q2)] 2 ?_
   refine cT rfl ?_
   refine sy [4] [] (sp 93 [(4, bb false)]) [] 2 ?_
   refine Aw.ret ?_
   refine then_r ?_
   rw [some_some hh]
   exact gvb
 refine yb 16 hb ?_
 refine yb 17 hb ?_
 refine yb 18 hb ?_
 refine yu 7 [(16, bb false), (17, bb false), (18, bb false), (19, .ptr 0 [] 2), (20, ii x_a.Root), (21, .ptr 1 [] 2), (22, ii x_b.Root), (23, bb (!decide (x_a.Root = x_b.Root))), (24, bb (!decide (x_a.Root = x_b.Root))), (25, bb (!decide (x_a.Root = x_b.Root)))] [(0, some q1), (1, some q2)] 2 ?_
 rcases cond_some hh with ⟨hb, hh⟩ | ⟨hb, hh⟩
 · refine yb 23 hb ?_
   refine yb 24 hb ?_
   refine yb 25 hb ?_
   refine yt (sp 93 [(2, pp 0), (3, pp 1), (45, bb true)]) [(0, some q1), (1, some q2)] 2 ?_
   refine cT rfl ?_
   refine sy [4] [] (sp 93 [(4, bb false)]) [] 2 ?_
   refine Aw.ret ?_
   refine then_r ?_
   rw [some_some hh]
   exact gvb
 refine yb 23 hb ?_
 refine yb 24 hb ?_
 refine yb 25 hb ?_
 refine yu 7 [(23, bb false), (24, bb false), (25, bb false), (26, .ptr 0 [] 3), (27, ii x_a.Vector), (28, .ptr 1 [] 3), (29, ii x_b.Vector), (30, bb (!decide (x_a.Vector = x_b.Vector))), (31, bb (!decide (x_a.Vector = x_b.Vector))), (32, bb (!decide (x_a.Vector = x_b.Vector)))] [(0, some q1), (1, some q2)] 2 ?_
 rcases cond_some hh with ⟨hb, hh⟩ | ⟨hb, hh⟩
 · refine yb 30 hb ?_
   refine yb 31 hb ?_
   refine yb 32 hb ?_
   refine yt (sp 93 [(2, pp 0), (3, pp 1), (45, bb true)]) [(0, some q1), (1, some q2)] 2 ?_
   refine cT rfl ?_
   refine sy [4] [] (sp 93 [(4, bb false)]) [] 2 ?_
   refine Aw.ret ?_
   refine then_r ?_
   rw [some_some hh]
   exact gvb
 refine yb 30 hb ?_
 refine yb 31 hb ?_
 refine yb 32 hb ?_
 refine yu 7 [(30, bb false), (31, bb false), (32, bb false), (33, .ptr 0 [] 4), (34, ii x_a.Saved), (35, .ptr 1 [] 4), (36, ii x_b.Saved), (37, bb (!decide (x_a.Saved = x_b.Saved))), (38, bb (!decide (x_a.Saved = x_b.Saved))), (39, bb (!decide (x_a.Saved = x_b.Saved)))] [(0, some q1), (1, some q2)] 2 ?_
 rcases cond_some hh with ⟨hb, hh⟩ | ⟨hb, hh⟩
 · refine yb 37 hb ?_
   refine yb 38 hb ?_
   refine yb 39 hb ?_
   refine yt (sp 93 [(2, pp 0), (3, pp 1), (45, bb true)]) [(0, some q1), (1, some q2)] 2 ?_
   refine cT rfl ?_
   refine sy [4] [] (sp 93 [(4, bb false)]) [] 2 ?_
   refine Aw.ret ?_
   refine then_r ?_
   rw [some_some hh]
   exact gvb
 refine yb 37 hb ?_
 refine yb 38 hb ?_
 refine yb 39 hb ?_
 refine yt (sp 93 [(2, pp 0), (3, pp 1), (45, bb (!(x_a.SavedUser == x_b.SavedUser)))]) [(0, some q1), (1, some q2)] 2 ?_
 rcases cond_some hh with ⟨hb, hh⟩ | ⟨hb, hh⟩
 · refine cT hb ?_
   refine sy [4] [] (sp 93 [(4, bb false)]) [] 2 ?_
   refine Aw.ret ?_
   refine then_r ?_
   rw [some_some hh]
   exact gvb
 refine cF hb ?_
 refine Aw.xskip (fun _ _ _ hq => then_m hq) ?_
 refine Aw.sreg [4] [] (yj 6  (sp 93 [(2, pp 0), (3, pp 1), (45, bb (!(x_a.SavedUser == x_b.SavedUser))), (46, .ptr 0 [] 6), (47, ii x_a.Cause), (48, .ptr 1 [] 6), (49, ii x_b.Cause), (50, bb (decide (x_a.Cause = x_b.Cause))), (51, bb (decide (x_a.Cause = x_b.Cause)))]) [(0, some q1), (1, some q2)] 2 ?_)
 rcases cond_some hh with ⟨hb, hh⟩ | ⟨hb, hh⟩
 · refine yb 50 hb ?_
   refine yb 51 hb ?_
   refine yu 7 [(50, bb true), (51, bb true), (52, .ptr 0 [] 7), (53, ii x_a.Bad), (54, .ptr 1 [] 7), (55, ii x_b.Bad), (56, bb (decide (x_a.Bad = x_b.Bad))), (57, bb (decide (x_a.Bad = x_b.Bad))), (58, bb (decide (x_a.Bad = x_b.Bad)))] [(0, some q1), (1, some q2)] 2 ?_
   rcases cond_some hh with ⟨hb, hh⟩ | ⟨hb, hh⟩
   · refine yb 56 hb ?_
     refine yb 57 hb ?_
     refine yb 58 hb ?_
     refine yu 7 [(56, bb true), (57, bb true), (58, bb true), (59, .ptr 0 [] 8), (60, ii x_a.Timer), (61, .ptr 1 [] 8), (62, ii x_b.Timer), (63, bb (decide (x_a.Timer = x_b.Timer))), (64, bb (decide (x_a.Timer = x_b.Timer))), (65, bb (decide (x_a.Timer = x_b.Timer)))] [(0, some q1), (1, some q2)] 2 ?_
     rcases cond_some hh with ⟨hb, hh⟩ | ⟨hb, hh⟩
     · refine yb 63 hb ?_
       refine yb 64 hb ?_
       refine yb 65 hb ?_
       refine yu 7 [(63, bb true), (64, bb true), (65, bb true), (66, .ptr 0 [] 9), (67, bb x_a.Waits), (68, .ptr 1 [] 9), (69, bb x_b.Waits), (70, bb (x_a.Waits == x_b.Waits)), (71, bb (x_a.Waits == x_b.Waits)), (72, bb (x_a.Waits == x_b.Waits))] [(0, some q1), (1, some q2)] 2 ?_
       rcases cond_some hh with ⟨hb, hh⟩ | ⟨hb, hh⟩
       · refine yb 70 hb ?_
         refine yb 71 hb ?_
         refine yb 72 hb ?_
         refine yu 7 [(70, bb true), (71, bb true), (72, bb true), (73, .ptr 0 [] 10), (74, bb x_a.User), (75, .ptr 1 [] 10), (76, bb x_b.User), (77, bb (x_a.User == x_b.User)), (78, bb (x_a.User == x_b.User)), (79, bb (x_a.User == x_b.User))] [(0, some q1), (1, some q2)] 2 ?_
         rcases cond_some hh with ⟨hb, hh⟩ | ⟨hb, hh⟩
         · refine yb 77 hb ?_
           refine yb 78 hb ?_
           refine yb 79 hb ?_
           refine yu 7 [(77, bb true), (78, bb true), (79, bb true), (80, .ptr 0 [] 11), (81, bb x_a.On), (82, .ptr 1 [] 11), (83, bb x_b.On), (84, bb (x_a.On == x_b.On)), (85, bb (x_a.On == x_b.On)), (86, bb (x_a.On == x_b.On))] [(0, some q1), (1, some q2)] 2 ?_
           rcases cond_some hh with ⟨hb, hh⟩ | ⟨hb, hh⟩
           · refine yb 84 hb ?_
             refine yb 85 hb ?_
             refine yb 86 hb ?_
             refine yt (sp 93 [(4, bb (x_a.Stopped == x_b.Stopped))]) [] 2 ?_
             refine Aw.ret ?_
             rw [some_some hh]
             exact gvb
           refine yb 84 hb ?_
           refine yb 85 hb ?_
           refine yb 86 hb ?_
           refine yt (sp 93 [(4, bb false)]) [] 2 ?_
           refine Aw.ret ?_
           rw [some_some hh]
           exact gvb
         refine yb 77 hb ?_
         refine yb 78 hb ?_
         refine yb 79 hb ?_
         refine yt (sp 93 [(4, bb false)]) [] 2 ?_
         refine Aw.ret ?_
         rw [some_some hh]
         exact gvb
       refine yb 70 hb ?_
       refine yb 71 hb ?_
       refine yb 72 hb ?_
       refine yt (sp 93 [(4, bb false)]) [] 2 ?_
       refine Aw.ret ?_
       rw [some_some hh]
       exact gvb
     refine yb 63 hb ?_
     refine yb 64 hb ?_
     refine yb 65 hb ?_
     refine yt (sp 93 [(4, bb false)]) [] 2 ?_
     refine Aw.ret ?_
     rw [some_some hh]
     exact gvb
   refine yb 56 hb ?_
   refine yb 57 hb ?_
   refine yb 58 hb ?_
   refine yt (sp 93 [(4, bb false)]) [] 2 ?_
   refine Aw.ret ?_
   rw [some_some hh]
   exact gvb
 refine yb 50 hb ?_
 refine yb 51 hb ?_
 refine yt (sp 93 [(4, bb false)]) [] 2 ?_
 refine Aw.ret ?_
 rw [some_some hh]
 exact gvb
end Go.Proofs.Ytbogmfjpabfhpaa
