/- Plain functions of the program, and that it hands back what they say. Made by program. -/
import Derived.Test.YtbogmfjpabfhpaaWT
import Derived.Test.YtbogmfjpabfhpaaProg
import Derived.Test.YtbogmfjpabfhpaaWHM1
import Derived.Test.YtbogmfjpabfhpaaWHT1
import Derived.Test.YtbogmfjpabfhpaaWHV1
import Derived.Test.YtbogmfjpabfhpaaWHX1
namespace Go.Proofs.Ytbogmfjpabfhpaa
open Go.RowKit
set_option maxRecDepth 100000
set_option linter.all false
set_option maxHeartbeats 0
def Lf11_r0 : List LOper := [oo 2 (.box 62 (.t 0)), oo 4 (.mv (.c (bb false)))]
def Lf11_r1 : List LOper := [oo 5 (.mv (.c (ii 1048576)))]
def Lf11_r2 : List LOper := [oo 16 (.load true 2 (.t 2)), om 17 5, oo 18 (.call 41 [(.t 16), (.t 17)]), om 5 18]
def Lf11_r3 : List LOper := [om 19 5, oo 20 (.bin .lss (.t 19) (.c (ii 0)))]
def Lf11_r4 : List LOper := [oo 4 (.mv (.c (bb true)))]
def Lf11_r5 : List LOper := [oo 22 (.load true 2 (.t 2)), oo 23 (.call 42 [(.t 22)]), om 24 1, oo 25 (.call 27 [(.t 23), (.t 24)]), om 21 25, oo 26 (.ext (.t 21) 0), oo 27 (.ext (.t 21) 1), oo 6 (.fresh 38 [.nil, (ii 0), (ii 0), (ii 0), (ii 0), (bb false), (ii 0), (ii 0), (ii 0), (bb false), (bb false), (bb false), (bb false), .nil, .nil, .nil]), ⟨none, (.store 16 (.t 6) (.t 26)), none⟩, om 7 27]
def Lf11_r6 : List LOper := [oo 28 (.load true 2 (.t 2)), oo 29 (.call 42 [(.t 28)]), oo 8 (.fresh 26 [.nil, .nil]), ⟨none, (.store 2 (.t 8) (.t 29)), none⟩]
def Lf11_r7 : List LOper := [oo 31 (.load true 2 (.t 8)), om 32 1, oo 33 (.call 22 [(.t 31), (.t 32)]), om 30 33, oo 34 (.ext (.t 30) 0), oo 35 (.ext (.t 30) 1), oo 9 (.fresh 38 [.nil, (ii 0), (ii 0), (ii 0), (ii 0), (bb false), (ii 0), (ii 0), (ii 0), (bb false), (bb false), (bb false), (bb false), .nil, .nil, .nil]), ⟨none, (.store 16 (.t 9) (.t 34)), none⟩, om 10 35]
def Lf11_r8 : List LOper := [oo 36 (.load true 16 (.t 9)), oo 37 (.load true 16 (.t 6)), oo 38 (.call 46 [(.t 36), (.t 37)]), oo 39 (.un .not (.t 38)), om 40 39, ⟨(some 41), (.mv (.t 10)), (some (40, false))⟩, ⟨(some 42), (.mv (.t 7)), (some (40, false))⟩, ⟨(some 43), (.binb true (.t 41) (.t 42)), (some (40, false))⟩, oo 44 (.pick (.t 40) (.c (bb true)) (.t 43))]
def Lf11_r9 : List LOper := [oo 4 (.mv (.c (bb false)))]
def Lf11_r10 : List LOper := [oo 45 (.load true 2 (.t 8)), oo 46 (.load true 2 (.t 2)), oo 47 (.call 42 [(.t 46)])]
def Lf11_r10t : List LOper := [oo 48 (.call 43 [(.t 45), (.t 47)]), oo 49 (.un .not (.t 48))]
def Lf11_r12 : List LOper := [oo 4 (.mv (.c (bb false)))]
def Lf11_r13 : List LOper := [oo 11 (.mv (.c (ii 1)))]
def Lf11_r14 : List LOper := [oo 50 (.load true 2 (.t 8)), om 51 11, oo 52 (.call 44 [(.t 50), (.t 51)]), om 11 52]
def Lf11_r15 : List LOper := [om 53 11, oo 54 (.bin .lss (.t 53) (.c (ii 0))), om 55 54, ⟨(some 56), (.load true 16 (.t 9)), (some (55, false))⟩, ⟨(some 57), (.load true 16 (.t 6)), (some (55, false))⟩, ⟨(some 58), (.call 46 [(.t 56), (.t 57)]), (some (55, false))⟩, ⟨(some 59), (.un .not (.t 58)), (some (55, false))⟩, oo 60 (.pick (.t 55) (.c (bb true)) (.t 59)), om 61 60, ⟨(some 62), (.mv (.t 10)), (some (61, false))⟩, ⟨(some 63), (.mv (.t 7)), (some (61, false))⟩, ⟨(some 64), (.binb true (.t 62) (.t 63)), (some (61, false))⟩, oo 65 (.pick (.t 61) (.c (bb true)) (.t 64))]
def Lf11_r16 : List LOper := [oo 4 (.mv (.c (bb false)))]
def Lf11_r17 : List LOper := [oo 12 (.mv (.c (ii 1)))]
def Lf11_r18 : List LOper := [oo 66 (.load true 16 (.t 9)), om 67 12, oo 68 (.call 47 [(.t 66), (.t 67)]), om 12 68]
def Lf11_r19 : List LOper := [oo 13 (.mv (.c (ii 1)))]
def Lf11_r20 : List LOper := [oo 69 (.load true 16 (.t 9)), om 70 13, oo 71 (.call 48 [(.t 69), (.t 70)]), om 13 71]
def Lf11_r21 : List LOper := [om 72 13, oo 73 (.bin .lss (.t 72) (.c (ii 0)))]
def Lf11_r22 : List LOper := [oo 4 (.mv (.c (bb false)))]
def Lf11_r23 : List LOper := [om 74 13, om 75 12, oo 76 (.bin .neq (.t 74) (.t 75))]
def Lf11_r24 : List LOper := [oo 4 (.mv (.c (bb false)))]
def Lf11_r25 : List LOper := [oo 78 (.load true 2 (.t 2)), oo 79 (.call 42 [(.t 78)]), om 80 1, oo 81 (.call 22 [(.t 79), (.t 80)]), om 77 81, oo 82 (.ext (.t 77) 0), oo 83 (.ext (.t 77) 1), oo 14 (.fresh 38 [.nil, (ii 0), (ii 0), (ii 0), (ii 0), (bb false), (ii 0), (ii 0), (ii 0), (bb false), (bb false), (bb false), (bb false), .nil, .nil, .nil]), ⟨none, (.store 16 (.t 14) (.t 82)), none⟩, om 15 83]
def Lf11_r26 : List LOper := [oo 84 (.load true 16 (.t 14)), oo 85 (.load true 16 (.t 6)), oo 86 (.call 46 [(.t 84), (.t 85)]), oo 87 (.un .not (.t 86)), om 88 87, ⟨(some 89), (.mv (.t 15)), (some (88, false))⟩, ⟨(some 90), (.mv (.t 7)), (some (88, false))⟩, ⟨(some 91), (.binb true (.t 89) (.t 90)), (some (88, false))⟩, oo 92 (.pick (.t 88) (.c (bb true)) (.t 91))]
def Lf11_r27 : List LOper := [oo 4 (.mv (.c (bb false)))]
def Lf11_r28 : List LOper := [oo 13 (.mv (.c (ii 1)))]
def Lf11_r29 : List LOper := [oo 93 (.load true 16 (.t 9)), om 94 13, oo 95 (.call 48 [(.t 93), (.t 94)]), om 13 95]
def Lf11_r30 : List LOper := [om 96 13, oo 97 (.bin .lss (.t 96) (.c (ii 0)))]
def Lf11_r31 : List LOper := [oo 4 (.mv (.c (bb false)))]
def Lf11_r32 : List LOper := [om 98 13, om 99 12, oo 100 (.bin .neq (.t 98) (.t 99))]
def Lf11_r33 : List LOper := [oo 4 (.mv (.c (bb false)))]
def Lf11_r34 : List LOper := [oo 4 (.mv (.c (bb true)))]
def Lf11 : LFun := ⟨101, [(.tmp 4)], (.seq (.reg false Lf11_r0) (.seq (.reg false Lf11_r1) (.seq (.reg false Lf11_r2) (.seq (.seq (.reg false Lf11_r3) (.cond (.t 20) (.seq (.reg false Lf11_r4) .ret) .skip)) (.seq (.reg false Lf11_r5) (.seq (.reg false Lf11_r6) (.seq (.reg false Lf11_r7) (.seq (.seq (.reg false Lf11_r8) (.cond (.t 44) (.seq (.reg false Lf11_r9) .ret) .skip)) (.seq (.seq (.regd Lf11_r10 Lf11_r10t) (.cond (.t 49) (.seq (.reg false Lf11_r12) .ret) .skip)) (.seq (.reg false Lf11_r13) (.seq (.reg false Lf11_r14) (.seq (.seq (.reg false Lf11_r15) (.cond (.t 65) (.seq (.reg false Lf11_r16) .ret) .skip)) (.seq (.reg false Lf11_r17) (.seq (.reg false Lf11_r18) (.seq (.reg false Lf11_r19) (.seq (.reg false Lf11_r20) (.seq (.seq (.reg false Lf11_r21) (.cond (.t 73) (.seq (.reg false Lf11_r22) .ret) .skip)) (.seq (.seq (.reg false Lf11_r23) (.cond (.t 76) (.seq (.reg false Lf11_r24) .ret) .skip)) (.seq (.reg false Lf11_r25) (.seq (.seq (.reg false Lf11_r26) (.cond (.t 92) (.seq (.reg false Lf11_r27) .ret) .skip)) (.seq (.reg false Lf11_r28) (.seq (.reg false Lf11_r29) (.seq (.seq (.reg false Lf11_r30) (.cond (.t 97) (.seq (.reg false Lf11_r31) .ret) .skip)) (.seq (.seq (.reg false Lf11_r32) (.cond (.t 100) (.seq (.reg false Lf11_r33) .ret) .skip)) (.seq (.reg false Lf11_r34) .ret)))))))))))))))))))))))))⟩
theorem low_laws_FnExactHostView : lowFun Go.Proofs.Try.prog 11 = some Lf11 := by kernel_rfl
noncomputable def F_laws_FnExactHostView (x_aH : DHost) (x_aG : Int) : Option Bool :=
 Option.bind (F_laws_szHost x_aH (1048576 : Int)) fun v1 =>
 cond (decide (v1 < (0 : Int)))
  (some true)
  (Option.bind (F_laws_toHost x_aH) fun v2 =>
  Option.bind (F_spec_HostView v2 x_aG) fun v3 =>
  Option.bind (F_laws_toHost x_aH) fun v4 =>
  Option.bind (F_impl_HostView v4 x_aG) fun v5 =>
  Option.bind (F_laws_eqBare v5.1 v3.1) fun v6 =>
  cond (!v6)
   (some false)
   (cond (!(v5.2 == v3.2))
    (some false)
    (Option.bind (F_laws_toHost x_aH) fun v7 =>
    Option.bind (F_laws_eqHost v4 v7) fun v8 =>
    cond (!v8)
     (some false)
     (Option.bind (F_laws_markHost v4 (1 : Int)) fun v9 =>
     grd (List.length v9.1 = (List.length v4.Words)) (grd (List.length v9.2.1 = (List.length v4.Guests)) (cond (decide (v9.2.2 < (0 : Int)))
      (some false)
      (Option.bind (F_laws_eqBare v5.1 v3.1) fun v10 =>
      cond (!v10)
       (some false)
       (cond (!(v5.2 == v3.2))
        (some false)
        (Option.bind (F_laws_markBare v5.1 (1 : Int)) fun v11 =>
        grd (List.length v11.1 = (List.length v5.1.C.Regs)) (grd (List.length v11.2.1 = (List.length v5.1.Mem)) (grd (List.length v11.2.2.1 = (List.length v5.1.In)) (grd (List.length v11.2.2.2.1 = (List.length v5.1.Out)) (Option.bind (F_laws_heldBare (DBare.mk (DCore.mk v11.1 v5.1.C.Pc v5.1.C.Root v5.1.C.Vector v5.1.C.Saved v5.1.C.SavedUser v5.1.C.Cause v5.1.C.Bad v5.1.C.Timer v5.1.C.Waits v5.1.C.User v5.1.C.On v5.1.C.Stopped) v11.2.1 v11.2.2.1 v11.2.2.2.1) (1 : Int)) fun v12 =>
         cond (decide (v12 < (0 : Int)))
          (some false)
          (cond (!decide (v12 = v11.2.2.2.2))
           (some false)
           (Option.bind (F_laws_toHost x_aH) fun v13 =>
           Option.bind (F_impl_HostView v13 x_aG) fun v14 =>
           Option.bind (F_laws_eqBare v14.1 v3.1) fun v15 =>
           cond (!v15)
            (some false)
            (cond (!(v14.2 == v3.2))
             (some false)
             (Option.bind (F_laws_heldBare (DBare.mk (DCore.mk v11.1 v5.1.C.Pc v5.1.C.Root v5.1.C.Vector v5.1.C.Saved v5.1.C.SavedUser v5.1.C.Cause v5.1.C.Bad v5.1.C.Timer v5.1.C.Waits v5.1.C.User v5.1.C.On v5.1.C.Stopped) v11.2.1 v11.2.2.1 v11.2.2.2.1) (1 : Int)) fun v16 =>
             cond (decide (v16 < (0 : Int)))
              (some false)
              (cond (!decide (v16 = v11.2.2.2.2))
               (some false)
               (some true)))))))))))))))))))
theorem laws_FnExactHostView_fn {x_aH : DHost} {x_aG : Int} {R_ : Bool} (hh : F_laws_FnExactHostView x_aH x_aG = some R_) : Fn Try.prog 11 [.agg [bo (eI .i64) x_aH.Words, bo B_121 x_aH.Guests], .int .i64 x_aG] (.bool R_) := by
 unfold F_laws_FnExactHostView at hh
 refine Fn.start low_laws_FnExactHostView [0, 1] (E := sp 101 [(0, .agg [bo (eI .i64) x_aH.Words, bo B_121 x_aH.Guests]), (1, ii x_aG)]) (by kernel_rfl) (v := bb R_) (Hr := []) (k := 0) (by kernel_rfl) ?_
 refine Aw.sreg [1, 2] [0] ?_
 let q1 : Root := ⟨62, [bo (eI .i64) x_aH.Words, bo B_121 x_aH.Guests]⟩
 refine yt (sp 101 [(1, ii x_aG), (2, pp 0)]) [(0, some q1)] 1 ?_
 refine sy [1, 2, 5] [0] (sp 101 [(1, ii x_aG), (2, pp 0), (5, ii 1048576)]) [(0, some q1)] 1 ?_
 refine Aw.sreg [1, 2, 5] [0] (yu 2 [(16, .agg [bo (eI .i64) x_aH.Words, bo B_121 x_aH.Guests]), (17, ii 1048576)] [(0, some q1)] 1 ?_)
 obtain ⟨v1, hv1, hh⟩ := bind_some hh
 refine ys (.call 41 [(.t 16), (.t 17)]) (some 18) (op_call (r := ii v1) (v := ii v1) (Hr := []) (n' := 1) (laws_szHost_fn hv1) (clz_v (vs := [.agg [bo (eI .i64) x_aH.Words, bo B_121 x_aH.Guests], ii 1048576]) (by kernel_rfl) (clz_c (clo_agg (clos_c (clo_same (clean_bor (cleans_fl cl_eI))) (clos_c (clo_same (clean_bor (cleans_fl cl_B_121))) clos_n))) (cz1 clz_n))) rfl rfl (by kernel_rfl) ?_)
 refine yt (sp 101 [(1, ii x_aG), (2, pp 0), (5, ii v1)]) [(0, some q1)] 1 ?_
 refine Aw.seq ?_
 refine sy [1, 2, 20] [0] (sp 101 [(1, ii x_aG), (2, pp 0), (20, bb (decide (v1 < (0 : Int))))]) [(0, some q1)] 1 ?_
 rcases cond_some hh with ⟨hb, hh⟩ | ⟨hb, hh⟩
 · refine cT hb ?_
   refine sy [4] [] (sp 101 [(4, bb true)]) [] 1 ?_
   refine Aw.ret ?_
   refine then_r ?_
   rw [some_some hh]
   exact gvb
 refine cF hb ?_
 refine Aw.xskip (fun _ _ _ hq => then_m hq) ?_
 refine Aw.sreg [1, 2, 6, 7] [0, 3, 4, 5, 6, 7] (yj 1  (sp 101 [(1, ii x_aG), (2, pp 0), (20, bb (decide (v1 < (0 : Int)))), (22, .agg [bo (eI .i64) x_aH.Words, bo B_121 x_aH.Guests])]) [(0, some q1)] 1 ?_)
 obtain ⟨v2, hv2, hh⟩ := bind_some hh
 let q2 : Root := ⟨50, (fl O_50 v2.Guests)⟩
 let q3 : Root := ⟨3, (fl (eI .i64) v2.Words)⟩
 refine ys (.call 42 [(.t 22)]) (some 23) (op_call (r := .agg [.own 3 1 (List.length v2.Words) (fl (eI .i64) v2.Words), .own 50 17 (List.length v2.Guests) (fl O_50 v2.Guests)]) (v := .agg [sw 1 v2.Words, .sref 2 [] 0 (List.length v2.Guests) 17]) (Hr := [(2, some q2), (1, some q3)]) (n' := 3) (laws_toHost_fn hv2) (clz_v (vs := [.agg [bo (eI .i64) x_aH.Words, bo B_121 x_aH.Guests]]) (by kernel_rfl) (clz_c (clo_agg (clos_c (clo_same (clean_bor (cleans_fl cl_eI))) (clos_c (clo_same (clean_bor (cleans_fl cl_B_121))) clos_n))) clz_n)) (by simp only [AV.noRef, noRefs, Bool.and_self, noRefs_fl nr_eI, noRefs_fl nr_O_50]) (by simp only [AV.noBor, noBors, Bool.and_self, noBors_fl nb_eI, noBors_fl nb_O_50]) (by kernel_rfl) ?_)
 refine yu 1 [(23, .agg [sw 1 v2.Words, .sref 2 [] 0 (List.length v2.Guests) 17]), (24, ii x_aG)] [(2, some q2), (1, some q3), (0, some q1)] 3 ?_
 obtain ⟨v3, hv3, hh⟩ := bind_some hh
 let q4 : Root := ⟨3, (fl (eI .i64) v3.1.Out)⟩
 let q5 : Root := ⟨3, (fl (eI .i64) v3.1.In)⟩
 let q6 : Root := ⟨3, (fl (eI .i64) v3.1.Mem)⟩
 let q7 : Root := ⟨3, (fl (eI .i64) v3.1.C.Regs)⟩
 refine ys (.call 27 [(.t 23), (.t 24)]) (some 25) (op_call (r := .tup [.agg (.own 3 1 (List.length v3.1.C.Regs) (fl (eI .i64) v3.1.C.Regs) :: ru36 v3.1.C [.own 3 1 (List.length v3.1.Mem) (fl (eI .i64) v3.1.Mem), .own 3 1 (List.length v3.1.In) (fl (eI .i64) v3.1.In), .own 3 1 (List.length v3.1.Out) (fl (eI .i64) v3.1.Out)]), bb v3.2]) (v := .tup [.agg (sw 3 v3.1.C.Regs :: ru36 v3.1.C [sw 4 v3.1.Mem, sw 5 v3.1.In, sw 6 v3.1.Out]), bb v3.2]) (Hr := [(6, some q4), (5, some q5), (4, some q6), (3, some q7)]) (n' := 7) (spec_HostView_fn hv3) (clz_v (vs := [.agg [sw 1 v2.Words, .sref 2 [] 0 (List.length v2.Guests) 17], ii x_aG]) (by kernel_rfl) (clz_c (clo_agg (clos_c (clo_own (c := (eI .i64)) (xs := v2.Words) (e := 3) (by first | rfl | omega | (simp only [List.length_set, over_len, List.length_replicate, List.length_append, List.length_cons, List.length_nil, List.length_take, List.length_drop] <;> omega)) len_eI no_eI cl_eI (by kernel_rfl)) (clos_c (clo_flr (B := B_50) (xs := v2.Guests) (e := 50) oc_O_50 len_O_50 (by first | rfl | omega | (simp only [List.length_set, over_len, List.length_replicate, List.length_append, List.length_cons, List.length_nil, List.length_take, List.length_drop] <;> omega)) (by kernel_rfl)) clos_n))) (cz1 clz_n))) (by simp only [ru36, AV.noRef, noRefs, Bool.and_self, noRefs_fl nr_eI]) (by simp only [ru36, AV.noBor, noBors, Bool.and_self, noBors_fl nb_eI]) (by kernel_rfl) ?_)
 let q8 : Root := ⟨38, (sw 3 v3.1.C.Regs :: ru36 v3.1.C [sw 4 v3.1.Mem, sw 5 v3.1.In, sw 6 v3.1.Out])⟩
 refine yt (sp 101 [(1, ii x_aG), (2, pp 0), (6, pp 7), (7, bb v3.2)]) [(0, some q1), (3, some q7), (4, some q6), (5, some q5), (6, some q4), (7, some q8)] 8 ?_
 refine Aw.sreg [1, 2, 6, 7, 8] [0, 3, 4, 5, 6, 7, 8, 9, 10] (yu 1 [(28, .agg [bo (eI .i64) x_aH.Words, bo B_121 x_aH.Guests])] [(0, some q1), (3, some q7), (4, some q6), (5, some q5), (6, some q4), (7, some q8)] 8 ?_)
 obtain ⟨v4, hv4, hh⟩ := bind_some hh
 let q9 : Root := ⟨50, (fl O_50 v4.Guests)⟩
 let q10 : Root := ⟨3, (fl (eI .i64) v4.Words)⟩
 refine ys (.call 42 [(.t 28)]) (some 29) (op_call (r := .agg [.own 3 1 (List.length v4.Words) (fl (eI .i64) v4.Words), .own 50 17 (List.length v4.Guests) (fl O_50 v4.Guests)]) (v := .agg [sw 8 v4.Words, .sref 9 [] 0 (List.length v4.Guests) 17]) (Hr := [(9, some q9), (8, some q10)]) (n' := 10) (laws_toHost_fn hv4) (clz_v (vs := [.agg [bo (eI .i64) x_aH.Words, bo B_121 x_aH.Guests]]) (by kernel_rfl) (clz_c (clo_agg (clos_c (clo_same (clean_bor (cleans_fl cl_eI))) (clos_c (clo_same (clean_bor (cleans_fl cl_B_121))) clos_n))) clz_n)) (by simp only [AV.noRef, noRefs, Bool.and_self, noRefs_fl nr_eI, noRefs_fl nr_O_50]) (by simp only [AV.noBor, noBors, Bool.and_self, noBors_fl nb_eI, noBors_fl nb_O_50]) (by kernel_rfl) ?_)
 let q11 : Root := ⟨26, [sw 8 v4.Words, .sref 9 [] 0 (List.length v4.Guests) 17]⟩
 refine yt (sp 101 [(1, ii x_aG), (2, pp 0), (6, pp 7), (7, bb v3.2), (8, pp 10)]) [(0, some q1), (3, some q7), (4, some q6), (5, some q5), (6, some q4), (7, some q8), (8, some q10), (9, some q9), (10, some q11)] 11 ?_
 refine Aw.sreg [1, 2, 6, 7, 8, 9, 10] [0, 3, 4, 5, 6, 7, 8, 9, 10, 11, 12, 13, 14, 15] (yu 2 [(31, .agg [sw 8 v4.Words, .sref 9 [] 0 (List.length v4.Guests) 17]), (32, ii x_aG)] [(0, some q1), (3, some q7), (4, some q6), (5, some q5), (6, some q4), (7, some q8), (8, some q10), (9, some q9), (10, some q11)] 11 ?_)
 obtain ⟨v5, hv5, hh⟩ := bind_some hh
 let q12 : Root := ⟨3, (fl (eI .i64) v5.1.Out)⟩
 let q13 : Root := ⟨3, (fl (eI .i64) v5.1.In)⟩
 let q14 : Root := ⟨3, (fl (eI .i64) v5.1.Mem)⟩
 let q15 : Root := ⟨3, (fl (eI .i64) v5.1.C.Regs)⟩
 refine ys (.call 22 [(.t 31), (.t 32)]) (some 33) (op_call (r := .tup [.agg (.own 3 1 (List.length v5.1.C.Regs) (fl (eI .i64) v5.1.C.Regs) :: ru36 v5.1.C [.own 3 1 (List.length v5.1.Mem) (fl (eI .i64) v5.1.Mem), .own 3 1 (List.length v5.1.In) (fl (eI .i64) v5.1.In), .own 3 1 (List.length v5.1.Out) (fl (eI .i64) v5.1.Out)]), bb v5.2]) (v := .tup [.agg (sw 11 v5.1.C.Regs :: ru36 v5.1.C [sw 12 v5.1.Mem, sw 13 v5.1.In, sw 14 v5.1.Out]), bb v5.2]) (Hr := [(14, some q12), (13, some q13), (12, some q14), (11, some q15)]) (n' := 15) (impl_HostView_fn hv5) (clz_v (vs := [.agg [sw 8 v4.Words, .sref 9 [] 0 (List.length v4.Guests) 17], ii x_aG]) (by kernel_rfl) (clz_c (clo_agg (clos_c (clo_own (c := (eI .i64)) (xs := v4.Words) (e := 3) (by first | rfl | omega | (simp only [List.length_set, over_len, List.length_replicate, List.length_append, List.length_cons, List.length_nil, List.length_take, List.length_drop] <;> omega)) len_eI no_eI cl_eI (by kernel_rfl)) (clos_c (clo_flr (B := B_50) (xs := v4.Guests) (e := 50) oc_O_50 len_O_50 (by first | rfl | omega | (simp only [List.length_set, over_len, List.length_replicate, List.length_append, List.length_cons, List.length_nil, List.length_take, List.length_drop] <;> omega)) (by kernel_rfl)) clos_n))) (cz1 clz_n))) (by simp only [ru36, AV.noRef, noRefs, Bool.and_self, noRefs_fl nr_eI]) (by simp only [ru36, AV.noBor, noBors, Bool.and_self, noBors_fl nb_eI]) (by kernel_rfl) ?_)
 let q16 : Root := ⟨38, (sw 11 v5.1.C.Regs :: ru36 v5.1.C [sw 12 v5.1.Mem, sw 13 v5.1.In, sw 14 v5.1.Out])⟩
 refine yt (sp 101 [(1, ii x_aG), (2, pp 0), (6, pp 7), (7, bb v3.2), (8, pp 10), (9, pp 15), (10, bb v5.2)]) [(0, some q1), (3, some q7), (4, some q6), (5, some q5), (6, some q4), (7, some q8), (8, some q10), (9, some q9), (10, some q11), (11, some q15), (12, some q14), (13, some q13), (14, some q12), (15, some q16)] 16 ?_
 refine Aw.seq ?_
 refine Aw.sreg [1, 2, 6, 7, 8, 9, 10, 44] [0, 3, 4, 5, 6, 7, 8, 9, 10, 11, 12, 13, 14, 15] (yj 2  (sp 101 [(1, ii x_aG), (2, pp 0), (6, pp 7), (7, bb v3.2), (8, pp 10), (9, pp 15), (10, bb v5.2), (36, .agg (sw 11 v5.1.C.Regs :: ru36 v5.1.C [sw 12 v5.1.Mem, sw 13 v5.1.In, sw 14 v5.1.Out])), (37, .agg (sw 3 v3.1.C.Regs :: ru36 v3.1.C [sw 4 v3.1.Mem, sw 5 v3.1.In, sw 6 v3.1.Out]))]) [(0, some q1), (3, some q7), (4, some q6), (5, some q5), (6, some q4), (7, some q8), (8, some q10), (9, some q9), (10, some q11), (11, some q15), (12, some q14), (13, some q13), (14, some q12), (15, some q16)] 16 ?_)
 obtain ⟨v6, hv6, hh⟩ := bind_some hh
 refine ys (.call 46 [(.t 36), (.t 37)]) (some 38) (op_call (r := bb v6) (v := bb v6) (Hr := []) (n' := 16) (laws_eqBare_fn hv6) (clz_v (vs := [.agg (sw 11 v5.1.C.Regs :: ru36 v5.1.C [sw 12 v5.1.Mem, sw 13 v5.1.In, sw 14 v5.1.Out]), .agg (sw 3 v3.1.C.Regs :: ru36 v3.1.C [sw 4 v3.1.Mem, sw 5 v3.1.In, sw 6 v3.1.Out])]) (by kernel_rfl) (clz_c (clo_agg (clos_c (clo_own (c := (eI .i64)) (xs := v5.1.C.Regs) (e := 3) (by first | rfl | omega | (simp only [List.length_set, over_len, List.length_replicate, List.length_append, List.length_cons, List.length_nil, List.length_take, List.length_drop] <;> omega)) len_eI no_eI cl_eI (by kernel_rfl)) (cs1 (cs1 (cs1 (cs1 (cs1 (cs1 (cs1 (cs1 (cs1 (cs1 (cs1 (cs1 (clos_c (clo_own (c := (eI .i64)) (xs := v5.1.Mem) (e := 3) (by first | rfl | omega | (simp only [List.length_set, over_len, List.length_replicate, List.length_append, List.length_cons, List.length_nil, List.length_take, List.length_drop] <;> omega)) len_eI no_eI cl_eI (by kernel_rfl)) (clos_c (clo_own (c := (eI .i64)) (xs := v5.1.In) (e := 3) (by first | rfl | omega | (simp only [List.length_set, over_len, List.length_replicate, List.length_append, List.length_cons, List.length_nil, List.length_take, List.length_drop] <;> omega)) len_eI no_eI cl_eI (by kernel_rfl)) (clos_c (clo_own (c := (eI .i64)) (xs := v5.1.Out) (e := 3) (by first | rfl | omega | (simp only [List.length_set, over_len, List.length_replicate, List.length_append, List.length_cons, List.length_nil, List.length_take, List.length_drop] <;> omega)) len_eI no_eI cl_eI (by kernel_rfl)) clos_n))))))))))))))))) (clz_c (clo_agg (clos_c (clo_own (c := (eI .i64)) (xs := v3.1.C.Regs) (e := 3) (by first | rfl | omega | (simp only [List.length_set, over_len, List.length_replicate, List.length_append, List.length_cons, List.length_nil, List.length_take, List.length_drop] <;> omega)) len_eI no_eI cl_eI (by kernel_rfl)) (cs1 (cs1 (cs1 (cs1 (cs1 (cs1 (cs1 (cs1 (cs1 (cs1 (cs1 (cs1 (clos_c (clo_own (c := (eI .i64)) (xs := v3.1.Mem) (e := 3) (by first | rfl | omega | (simp only [List.length_set, over_len, List.length_replicate, List.length_append, List.length_cons, List.length_nil, List.length_take, List.length_drop] <;> omega)) len_eI no_eI cl_eI (by kernel_rfl)) (clos_c (clo_own (c := (eI .i64)) (xs := v3.1.In) (e := 3) (by first | rfl | omega | (simp only [List.length_set, over_len, List.length_replicate, List.length_append, List.length_cons, List.length_nil, List.length_take, List.length_drop] <;> omega)) len_eI no_eI cl_eI (by kernel_rfl)) (clos_c (clo_own (c := (eI .i64)) (xs := v3.1.Out) (e := 3) (by first | rfl | omega | (simp only [List.length_set, over_len, List.length_replicate, List.length_append, List.length_cons, List.length_nil, List.length_take, List.length_drop] <;> omega)) len_eI no_eI cl_eI (by kernel_rfl)) clos_n))))))))))))))))) clz_n))) rfl rfl (by kernel_rfl) ?_)
 refine yu 2 [(38, bb v6), (39, bb (!v6)), (40, bb (!v6))] [(0, some q1), (3, some q7), (4, some q6), (5, some q5), (6, some q4), (7, some q8), (8, some q10), (9, some q9), (10, some q11), (11, some q15), (12, some q14), (13, some q13), (14, some q12), (15, some q16)] 16 ?_
 rcases cond_some hh with ⟨hb, hh⟩ | ⟨hb, hh⟩
 · refine yb 39 hb ?_
   refine yb 40 hb ?_
   refine yt (sp 101 [(1, ii x_aG), (2, pp 0), (6, pp 7), (7, bb v3.2), (8, pp 10), (9, pp 15), (10, bb v5.2), (44, bb true)]) [(0, some q1), (3, some q7), (4, some q6), (5, some q5), (6, some q4), (7, some q8), (8, some q10), (9, some q9), (10, some q11), (11, some q15), (12, some q14), (13, some q13), (14, some q12), (15, some q16)] 16 ?_
   refine cT rfl ?_
   refine sy [4] [] (sp 101 [(4, bb false)]) [] 16 ?_
   refine Aw.ret ?_
   refine then_r ?_
   rw [some_some hh]
   exact gvb
 refine yb 39 hb ?_
 refine yb 40 hb ?_
 refine yt (sp 101 [(1, ii x_aG), (2, pp 0), (6, pp 7), (7, bb v3.2), (8, pp 10), (9, pp 15), (10, bb v5.2), (44, bb (!(v5.2 == v3.2)))]) [(0, some q1), (3, some q7), (4, some q6), (5, some q5), (6, some q4), (7, some q8), (8, some q10), (9, some q9), (10, some q11), (11, some q15), (12, some q14), (13, some q13), (14, some q12), (15, some q16)] 16 ?_
 rcases cond_some hh with ⟨hb, hh⟩ | ⟨hb, hh⟩
 · refine cT hb ?_
   refine sy [4] [] (sp 101 [(4, bb false)]) [] 16 ?_
   refine Aw.ret ?_
   refine then_r ?_
   rw [some_some hh]
   exact gvb
 refine cF hb ?_
 refine Aw.xskip (fun _ _ _ hq => then_m hq) ?_
 refine Aw.seq ?_
 refine Aw.sregd [1, 2, 6, 7, 8, 9, 10, 49] [0, 3, 4, 5, 6, 7, 8, 9, 10, 11, 12, 13, 14, 15] [] (by kernel_rfl) ?_
 refine dc (cs := []) (E' := (sp 101 [(1, ii x_aG), (2, pp 0), (6, pp 7), (7, bb v3.2), (8, pp 10), (9, pp 15), (10, bb v5.2), (44, bb (!(v5.2 == v3.2))), (45, .agg [sw 8 v4.Words, .sref 9 [] 0 (List.length v4.Guests) 17]), (46, .agg [bo (eI .i64) x_aH.Words, bo B_121 x_aH.Guests])])) (H' := [(0, some q1), (3, some q7), (4, some q6), (5, some q5), (6, some q4), (7, some q8), (8, some q10), (9, some q9), (10, some q11), (11, some q15), (12, some q14), (13, some q13), (14, some q12), (15, some q16)]) (n' := 16) (fs' := none) (pre := (List.take 2 Lf11_r10)) (L' := (List.drop 2 Lf11_r10)) (by kernel_rfl) (fun K => by kernel_rfl) .nil ?_
 obtain ⟨v7, hv7, hh⟩ := bind_some hh
 let q17 : Root := ⟨50, (fl O_50 v7.Guests)⟩
 let q18 : Root := ⟨3, (fl (eI .i64) v7.Words)⟩
 refine ds (.call 42 [(.t 46)]) (some 47) (ydo_n rfl (op_call (r := .agg [.own 3 1 (List.length v7.Words) (fl (eI .i64) v7.Words), .own 50 17 (List.length v7.Guests) (fl O_50 v7.Guests)]) (v := .agg [sw 16 v7.Words, .sref 17 [] 0 (List.length v7.Guests) 17]) (Hr := [(17, some q17), (16, some q18)]) (n' := 18) (laws_toHost_fn hv7) (clz_v (vs := [.agg [bo (eI .i64) x_aH.Words, bo B_121 x_aH.Guests]]) (by kernel_rfl) (clz_c (clo_agg (clos_c (clo_same (clean_bor (cleans_fl cl_eI))) (clos_c (clo_same (clean_bor (cleans_fl cl_B_121))) clos_n))) clz_n)) (by simp only [AV.noRef, noRefs, Bool.and_self, noRefs_fl nr_eI, noRefs_fl nr_O_50]) (by simp only [AV.noBor, noBors, Bool.and_self, noBors_fl nb_eI, noBors_fl nb_O_50]) (by kernel_rfl) ⟨⟨agr_name (n := 16) (n0 := 16) (r := .agg [.own 3 1 (List.length v7.Words) (fl (eI .i64) v7.Words), .own 50 17 (List.length v7.Guests) (fl O_50 v7.Guests)]) (v := .agg [sw 16 v7.Words, .sref 17 [] 0 (List.length v7.Guests) 17]) (Hr := [(17, some q17), (16, some q18)]) (n' := 18) (by kernel_rfl) (by decide), Hld.un ?_⟩⟩))
 refine dct (cs := []) (E' := (sp 101 [(1, ii x_aG), (2, pp 0), (6, pp 7), (7, bb v3.2), (8, pp 10), (9, pp 15), (10, bb v5.2), (44, bb (!(v5.2 == v3.2))), (45, .agg [sw 8 v4.Words, .sref 9 [] 0 (List.length v4.Guests) 17]), (46, .agg [bo (eI .i64) x_aH.Words, bo B_121 x_aH.Guests]), (47, .agg [sw 16 v7.Words, .sref 17 [] 0 (List.length v7.Guests) 17])])) (H' := [(17, some q17), (16, some q18), (0, some q1), (3, some q7), (4, some q6), (5, some q5), (6, some q4), (7, some q8), (8, some q10), (9, some q9), (10, some q11), (11, some q15), (12, some q14), (13, some q13), (14, some q12), (15, some q16)]) (n' := 18) (fun K => by kernel_rfl) .nil ?_
 obtain ⟨v8, hv8, hh⟩ := bind_some hh
 refine ys (.call 43 [(.t 45), (.t 47)]) (some 48) (op_call (r := bb v8) (v := bb v8) (Hr := []) (n' := 18) (laws_eqHost_fn hv8) (clz_v (vs := [.agg [sw 8 v4.Words, .sref 9 [] 0 (List.length v4.Guests) 17], .agg [sw 16 v7.Words, .sref 17 [] 0 (List.length v7.Guests) 17]]) (by kernel_rfl) (clz_c (clo_agg (clos_c (clo_own (c := (eI .i64)) (xs := v4.Words) (e := 3) (by first | rfl | omega | (simp only [List.length_set, over_len, List.length_replicate, List.length_append, List.length_cons, List.length_nil, List.length_take, List.length_drop] <;> omega)) len_eI no_eI cl_eI (by kernel_rfl)) (clos_c (clo_flr (B := B_50) (xs := v4.Guests) (e := 50) oc_O_50 len_O_50 (by first | rfl | omega | (simp only [List.length_set, over_len, List.length_replicate, List.length_append, List.length_cons, List.length_nil, List.length_take, List.length_drop] <;> omega)) (by kernel_rfl)) clos_n))) (clz_c (clo_agg (clos_c (clo_own (c := (eI .i64)) (xs := v7.Words) (e := 3) (by first | rfl | omega | (simp only [List.length_set, over_len, List.length_replicate, List.length_append, List.length_cons, List.length_nil, List.length_take, List.length_drop] <;> omega)) len_eI no_eI cl_eI (by kernel_rfl)) (clos_c (clo_flr (B := B_50) (xs := v7.Guests) (e := 50) oc_O_50 len_O_50 (by first | rfl | omega | (simp only [List.length_set, over_len, List.length_replicate, List.length_append, List.length_cons, List.length_nil, List.length_take, List.length_drop] <;> omega)) (by kernel_rfl)) clos_n))) clz_n))) rfl rfl (by kernel_rfl) ?_)
 refine yt (sp 101 [(1, ii x_aG), (2, pp 0), (6, pp 7), (7, bb v3.2), (8, pp 10), (9, pp 15), (10, bb v5.2), (49, bb (!v8))]) [(0, some q1), (3, some q7), (4, some q6), (5, some q5), (6, some q4), (7, some q8), (8, some q10), (9, some q9), (10, some q11), (11, some q15), (12, some q14), (13, some q13), (14, some q12), (15, some q16)] 18 ?_
 rcases cond_some hh with ⟨hb, hh⟩ | ⟨hb, hh⟩
 · refine cT hb ?_
   refine sy [4] [] (sp 101 [(4, bb false)]) [] 18 ?_
   refine Aw.ret ?_
   refine then_r ?_
   rw [some_some hh]
   exact gvb
 refine cF hb ?_
 refine Aw.xskip (fun _ _ _ hq => then_m hq) ?_
 refine sy [1, 2, 6, 7, 8, 9, 10, 11] [0, 3, 4, 5, 6, 7, 8, 9, 10, 11, 12, 13, 14, 15] (sp 101 [(1, ii x_aG), (2, pp 0), (6, pp 7), (7, bb v3.2), (8, pp 10), (9, pp 15), (10, bb v5.2), (11, ii 1)]) [(0, some q1), (3, some q7), (4, some q6), (5, some q5), (6, some q4), (7, some q8), (8, some q10), (9, some q9), (10, some q11), (11, some q15), (12, some q14), (13, some q13), (14, some q12), (15, some q16)] 18 ?_
 refine Aw.sreg [1, 2, 6, 7, 9, 10, 11] [0, 3, 4, 5, 6, 7, 11, 12, 13, 14, 15] (yu 2 [(50, .agg [sw 8 v4.Words, .sref 9 [] 0 (List.length v4.Guests) 17]), (51, ii 1)] [(0, some q1), (3, some q7), (4, some q6), (5, some q5), (6, some q4), (7, some q8), (8, some q10), (9, some q9), (10, some q11), (11, some q15), (12, some q14), (13, some q13), (14, some q12), (15, some q16)] 18 ?_)
 obtain ⟨v9, hv9, hh⟩ := bind_some hh
 obtain ⟨hg3, hh⟩ := grd_some hh
 obtain ⟨hg4, hh⟩ := grd_some hh
 refine ys (.call 44 [(.t 50), (.t 51)]) (some 52) (op_callf (v' := ii v9.2.2) (Hp' := [(8, some ⟨3, (fl (eI .i64) v9.1)⟩), (9, some ⟨50, (fl O_50 v9.2.1)⟩)]) (n' := 18) [8, 9] (laws_markHost_fn hv9) (args' := [.agg [sw 8 v4.Words, .sref 9 [] 0 (List.length v4.Guests) 17], ii 1]) (by kernel_rfl) rfl rfl rfl (rens_c (ren_agg (rens_c ren_sx (rens_c ren_sx rens_n))) (rens_i rens_n)) rfl (hq q9 (rens_same (noRefs_fl nr_O_50)) (hq q10 (rens_same (noRefs_fl nr_eI)) hs_nil)) ren_i rfl (hq ⟨3, (fl (eI .i64) v9.1)⟩ (rens_same (noRefs_fl nr_eI)) (hq ⟨50, (fl O_50 v9.2.1)⟩ (rens_same (noRefs_fl nr_O_50)) hs_nil)) rfl ?_)
 refine yt (sp 101 [(1, ii x_aG), (2, pp 0), (6, pp 7), (7, bb v3.2), (9, pp 15), (10, bb v5.2), (11, ii v9.2.2)]) [(0, some q1), (3, some q7), (4, some q6), (5, some q5), (6, some q4), (7, some q8), (11, some q15), (12, some q14), (13, some q13), (14, some q12), (15, some q16)] 18 ?_
 refine Aw.seq ?_
 refine Aw.sreg [1, 2, 6, 7, 9, 65] [0, 3, 4, 5, 6, 7, 11, 12, 13, 14, 15] (yj 3  (sp 101 [(1, ii x_aG), (2, pp 0), (6, pp 7), (7, bb v3.2), (9, pp 15), (10, bb v5.2), (11, ii v9.2.2), (53, ii v9.2.2), (54, bb (decide (v9.2.2 < (0 : Int)))), (55, bb (decide (v9.2.2 < (0 : Int))))]) [(0, some q1), (3, some q7), (4, some q6), (5, some q5), (6, some q4), (7, some q8), (11, some q15), (12, some q14), (13, some q13), (14, some q12), (15, some q16)] 18 ?_)
 rcases cond_some hh with ⟨hb, hh⟩ | ⟨hb, hh⟩
 · refine yb 54 hb ?_
   refine yb 55 hb ?_
   refine yt (sp 101 [(1, ii x_aG), (2, pp 0), (6, pp 7), (7, bb v3.2), (9, pp 15), (65, bb true)]) [(0, some q1), (3, some q7), (4, some q6), (5, some q5), (6, some q4), (7, some q8), (11, some q15), (12, some q14), (13, some q13), (14, some q12), (15, some q16)] 18 ?_
   refine cT rfl ?_
   refine sy [4] [] (sp 101 [(4, bb false)]) [] 18 ?_
   refine Aw.ret ?_
   refine then_r ?_
   rw [some_some hh]
   exact gvb
 refine yb 54 hb ?_
 refine yb 55 hb ?_
 refine yu 2 [(54, bb false), (55, bb false), (56, .agg (sw 11 v5.1.C.Regs :: ru36 v5.1.C [sw 12 v5.1.Mem, sw 13 v5.1.In, sw 14 v5.1.Out])), (57, .agg (sw 3 v3.1.C.Regs :: ru36 v3.1.C [sw 4 v3.1.Mem, sw 5 v3.1.In, sw 6 v3.1.Out]))] [(0, some q1), (3, some q7), (4, some q6), (5, some q5), (6, some q4), (7, some q8), (11, some q15), (12, some q14), (13, some q13), (14, some q12), (15, some q16)] 18 ?_
 obtain ⟨v10, hv10, hh⟩ := bind_some hh
 refine yg (.call 46 [(.t 56), (.t 57)]) (some 58) 55 false (op_call (r := bb v10) (v := bb v10) (Hr := []) (n' := 18) (laws_eqBare_fn hv10) (clz_v (vs := [.agg (sw 11 v5.1.C.Regs :: ru36 v5.1.C [sw 12 v5.1.Mem, sw 13 v5.1.In, sw 14 v5.1.Out]), .agg (sw 3 v3.1.C.Regs :: ru36 v3.1.C [sw 4 v3.1.Mem, sw 5 v3.1.In, sw 6 v3.1.Out])]) (by kernel_rfl) (clz_c (clo_agg (clos_c (clo_own (c := (eI .i64)) (xs := v5.1.C.Regs) (e := 3) (by first | rfl | omega | (simp only [List.length_set, over_len, List.length_replicate, List.length_append, List.length_cons, List.length_nil, List.length_take, List.length_drop] <;> omega)) len_eI no_eI cl_eI (by kernel_rfl)) (cs1 (cs1 (cs1 (cs1 (cs1 (cs1 (cs1 (cs1 (cs1 (cs1 (cs1 (cs1 (clos_c (clo_own (c := (eI .i64)) (xs := v5.1.Mem) (e := 3) (by first | rfl | omega | (simp only [List.length_set, over_len, List.length_replicate, List.length_append, List.length_cons, List.length_nil, List.length_take, List.length_drop] <;> omega)) len_eI no_eI cl_eI (by kernel_rfl)) (clos_c (clo_own (c := (eI .i64)) (xs := v5.1.In) (e := 3) (by first | rfl | omega | (simp only [List.length_set, over_len, List.length_replicate, List.length_append, List.length_cons, List.length_nil, List.length_take, List.length_drop] <;> omega)) len_eI no_eI cl_eI (by kernel_rfl)) (clos_c (clo_own (c := (eI .i64)) (xs := v5.1.Out) (e := 3) (by first | rfl | omega | (simp only [List.length_set, over_len, List.length_replicate, List.length_append, List.length_cons, List.length_nil, List.length_take, List.length_drop] <;> omega)) len_eI no_eI cl_eI (by kernel_rfl)) clos_n))))))))))))))))) (clz_c (clo_agg (clos_c (clo_own (c := (eI .i64)) (xs := v3.1.C.Regs) (e := 3) (by first | rfl | omega | (simp only [List.length_set, over_len, List.length_replicate, List.length_append, List.length_cons, List.length_nil, List.length_take, List.length_drop] <;> omega)) len_eI no_eI cl_eI (by kernel_rfl)) (cs1 (cs1 (cs1 (cs1 (cs1 (cs1 (cs1 (cs1 (cs1 (cs1 (cs1 (cs1 (clos_c (clo_own (c := (eI .i64)) (xs := v3.1.Mem) (e := 3) (by first | rfl | omega | (simp only [List.length_set, over_len, List.length_replicate, List.length_append, List.length_cons, List.length_nil, List.length_take, List.length_drop] <;> omega)) len_eI no_eI cl_eI (by kernel_rfl)) (clos_c (clo_own (c := (eI .i64)) (xs := v3.1.In) (e := 3) (by first | rfl | omega | (simp only [List.length_set, over_len, List.length_replicate, List.length_append, List.length_cons, List.length_nil, List.length_take, List.length_drop] <;> omega)) len_eI no_eI cl_eI (by kernel_rfl)) (clos_c (clo_own (c := (eI .i64)) (xs := v3.1.Out) (e := 3) (by first | rfl | omega | (simp only [List.length_set, over_len, List.length_replicate, List.length_append, List.length_cons, List.length_nil, List.length_take, List.length_drop] <;> omega)) len_eI no_eI cl_eI (by kernel_rfl)) clos_n))))))))))))))))) clz_n))) rfl rfl (by kernel_rfl) ?_)
 refine yu 3 [(58, bb v10), (59, bb (!v10)), (60, bb (!v10)), (61, bb (!v10))] [(0, some q1), (3, some q7), (4, some q6), (5, some q5), (6, some q4), (7, some q8), (11, some q15), (12, some q14), (13, some q13), (14, some q12), (15, some q16)] 18 ?_
 rcases cond_some hh with ⟨hb, hh⟩ | ⟨hb, hh⟩
 · refine yb 59 hb ?_
   refine yb 60 hb ?_
   refine yb 61 hb ?_
   refine yt (sp 101 [(1, ii x_aG), (2, pp 0), (6, pp 7), (7, bb v3.2), (9, pp 15), (65, bb true)]) [(0, some q1), (3, some q7), (4, some q6), (5, some q5), (6, some q4), (7, some q8), (11, some q15), (12, some q14), (13, some q13), (14, some q12), (15, some q16)] 18 ?_
   refine cT rfl ?_
   refine sy [4] [] (sp 101 [(4, bb false)]) [] 18 ?_
   refine Aw.ret ?_
   refine then_r ?_
   rw [some_some hh]
   exact gvb
 refine yb 59 hb ?_
 refine yb 60 hb ?_
 refine yb 61 hb ?_
 refine yt (sp 101 [(1, ii x_aG), (2, pp 0), (6, pp 7), (7, bb v3.2), (9, pp 15), (65, bb (!(v5.2 == v3.2)))]) [(0, some q1), (3, some q7), (4, some q6), (5, some q5), (6, some q4), (7, some q8), (11, some q15), (12, some q14), (13, some q13), (14, some q12), (15, some q16)] 18 ?_
 rcases cond_some hh with ⟨hb, hh⟩ | ⟨hb, hh⟩
 · refine cT hb ?_
   refine sy [4] [] (sp 101 [(4, bb false)]) [] 18 ?_
   refine Aw.ret ?_
   refine then_r ?_
   rw [some_some hh]
   exact gvb
 refine cF hb ?_
 refine Aw.xskip (fun _ _ _ hq => then_m hq) ?_
 refine sy [1, 2, 6, 7, 9, 12] [0, 3, 4, 5, 6, 7, 11, 12, 13, 14, 15] (sp 101 [(1, ii x_aG), (2, pp 0), (6, pp 7), (7, bb v3.2), (9, pp 15), (12, ii 1)]) [(0, some q1), (3, some q7), (4, some q6), (5, some q5), (6, some q4), (7, some q8), (11, some q15), (12, some q14), (13, some q13), (14, some q12), (15, some q16)] 18 ?_
 refine Aw.sreg [1, 2, 6, 7, 9, 12] [0, 3, 4, 5, 6, 7, 11, 12, 13, 14, 15] (yu 2 [(66, .agg (sw 11 v5.1.C.Regs :: ru36 v5.1.C [sw 12 v5.1.Mem, sw 13 v5.1.In, sw 14 v5.1.Out])), (67, ii 1)] [(0, some q1), (3, some q7), (4, some q6), (5, some q5), (6, some q4), (7, some q8), (11, some q15), (12, some q14), (13, some q13), (14, some q12), (15, some q16)] 18 ?_)
 obtain ⟨v11, hv11, hh⟩ := bind_some hh
 obtain ⟨hg9, hh⟩ := grd_some hh
 obtain ⟨hg10, hh⟩ := grd_some hh
 obtain ⟨hg11, hh⟩ := grd_some hh
 obtain ⟨hg12, hh⟩ := grd_some hh
 let q19 : Root := ⟨3, (fl (eI .i64) v11.1)⟩
 let q20 : Root := ⟨3, (fl (eI .i64) v11.2.1)⟩
 let q21 : Root := ⟨3, (fl (eI .i64) v11.2.2.1)⟩
 let q22 : Root := ⟨3, (fl (eI .i64) v11.2.2.2.1)⟩
 refine ys (.call 47 [(.t 66), (.t 67)]) (some 68) (op_callf (v' := ii v11.2.2.2.2) (Hp' := [(11, some q19), (12, some q20), (13, some q21), (14, some q22)]) (n' := 18) [11, 12, 13, 14] (laws_markBare_fn hv11) (args' := [.agg (sw 11 v5.1.C.Regs :: ru36 v5.1.C [sw 12 v5.1.Mem, sw 13 v5.1.In, sw 14 v5.1.Out]), ii 1]) (by kernel_rfl) rfl rfl rfl (rens_c (ren_agg (rens_c ren_sx (rens_i (rens_i (rens_i (rens_i (rens_b (rens_i (rens_i (rens_i (rens_b (rens_b (rens_b (rens_b (rens_c ren_sx (rens_c ren_sx (rens_c ren_sx rens_n))))))))))))))))) (rens_i rens_n)) rfl (hq q12 (rens_same (noRefs_fl nr_eI)) (hq q13 (rens_same (noRefs_fl nr_eI)) (hq q14 (rens_same (noRefs_fl nr_eI)) (hq q15 (rens_same (noRefs_fl nr_eI)) hs_nil)))) ren_i rfl (hq q19 (rens_same (noRefs_fl nr_eI)) (hq q20 (rens_same (noRefs_fl nr_eI)) (hq q21 (rens_same (noRefs_fl nr_eI)) (hq q22 (rens_same (noRefs_fl nr_eI)) hs_nil)))) rfl ?_)
 refine yt (sp 101 [(1, ii x_aG), (2, pp 0), (6, pp 7), (7, bb v3.2), (9, pp 15), (12, ii v11.2.2.2.2)]) [(0, some q1), (3, some q7), (4, some q6), (5, some q5), (6, some q4), (7, some q8), (11, some q19), (12, some q20), (13, some q21), (14, some q22), (15, some q16)] 18 ?_
 refine sy [1, 2, 6, 7, 9, 12, 13] [0, 3, 4, 5, 6, 7, 11, 12, 13, 14, 15] (sp 101 [(1, ii x_aG), (2, pp 0), (6, pp 7), (7, bb v3.2), (9, pp 15), (12, ii v11.2.2.2.2), (13, ii 1)]) [(0, some q1), (3, some q7), (4, some q6), (5, some q5), (6, some q4), (7, some q8), (11, some q19), (12, some q20), (13, some q21), (14, some q22), (15, some q16)] 18 ?_
 refine Aw.sreg [1, 2, 6, 7, 9, 12, 13] [0, 3, 4, 5, 6, 7, 11, 12, 13, 14, 15] (yu 2 [(69, .agg (sw 11 v5.1.C.Regs :: ru36 v5.1.C [sw 12 v5.1.Mem, sw 13 v5.1.In, sw 14 v5.1.Out])), (70, ii 1)] [(0, some q1), (3, some q7), (4, some q6), (5, some q5), (6, some q4), (7, some q8), (11, some q19), (12, some q20), (13, some q21), (14, some q22), (15, some q16)] 18 ?_)
 obtain ⟨v12, hv12, hh⟩ := bind_some hh
 refine ys (.call 48 [(.t 69), (.t 70)]) (some 71) (op_call (r := ii v12) (v := ii v12) (Hr := []) (n' := 18) (laws_heldBare_fn hv12) (clz_v (vs := [.agg (sw 11 v5.1.C.Regs :: ru36 v5.1.C [sw 12 v5.1.Mem, sw 13 v5.1.In, sw 14 v5.1.Out]), ii 1]) (by kernel_rfl) (clz_c (clo_agg (clos_c (clo_own (c := (eI .i64)) (xs := v11.1) (e := 3) (by first | rfl | omega | (simp only [List.length_set, over_len, List.length_replicate, List.length_append, List.length_cons, List.length_nil, List.length_take, List.length_drop] <;> omega)) len_eI no_eI cl_eI (by kernel_rfl)) (cs1 (cs1 (cs1 (cs1 (cs1 (cs1 (cs1 (cs1 (cs1 (cs1 (cs1 (cs1 (clos_c (clo_own (c := (eI .i64)) (xs := v11.2.1) (e := 3) (by first | rfl | omega | (simp only [List.length_set, over_len, List.length_replicate, List.length_append, List.length_cons, List.length_nil, List.length_take, List.length_drop] <;> omega)) len_eI no_eI cl_eI (by kernel_rfl)) (clos_c (clo_own (c := (eI .i64)) (xs := v11.2.2.1) (e := 3) (by first | rfl | omega | (simp only [List.length_set, over_len, List.length_replicate, List.length_append, List.length_cons, List.length_nil, List.length_take, List.length_drop] <;> omega)) len_eI no_eI cl_eI (by kernel_rfl)) (clos_c (clo_own (c := (eI .i64)) (xs := v11.2.2.2.1) (e := 3) (by first | rfl | omega | (simp only [List.length_set, over_len, List.length_replicate, List.length_append, List.length_cons, List.length_nil, List.length_take, List.length_drop] <;> omega)) len_eI no_eI cl_eI (by kernel_rfl)) clos_n))))))))))))))))) (cz1 clz_n))) rfl rfl (by kernel_rfl) ?_)
 refine yt (sp 101 [(1, ii x_aG), (2, pp 0), (6, pp 7), (7, bb v3.2), (9, pp 15), (12, ii v11.2.2.2.2), (13, ii v12)]) [(0, some q1), (3, some q7), (4, some q6), (5, some q5), (6, some q4), (7, some q8), (11, some q19), (12, some q20), (13, some q21), (14, some q22), (15, some q16)] 18 ?_
 refine Aw.seq ?_
 refine sy [1, 2, 6, 7, 9, 12, 13, 73] [0, 3, 4, 5, 6, 7, 11, 12, 13, 14, 15] (sp 101 [(1, ii x_aG), (2, pp 0), (6, pp 7), (7, bb v3.2), (9, pp 15), (12, ii v11.2.2.2.2), (13, ii v12), (73, bb (decide (v12 < (0 : Int))))]) [(0, some q1), (3, some q7), (4, some q6), (5, some q5), (6, some q4), (7, some q8), (11, some q19), (12, some q20), (13, some q21), (14, some q22), (15, some q16)] 18 ?_
 rcases cond_some hh with ⟨hb, hh⟩ | ⟨hb, hh⟩
 · refine cT hb ?_
   refine sy [4] [] (sp 101 [(4, bb false)]) [] 18 ?_
   refine Aw.ret ?_
   refine then_r ?_
   rw [some_some hh]
   exact gvb
 refine cF hb ?_
 refine Aw.xskip (fun _ _ _ hq => then_m hq) ?_
 refine Aw.seq ?_
 refine sy [1, 2, 6, 7, 9, 12, 76] [0, 3, 4, 5, 6, 7, 11, 12, 13, 14, 15] (sp 101 [(1, ii x_aG), (2, pp 0), (6, pp 7), (7, bb v3.2), (9, pp 15), (12, ii v11.2.2.2.2), (76, bb (!decide (v12 = v11.2.2.2.2)))]) [(0, some q1), (3, some q7), (4, some q6), (5, some q5), (6, some q4), (7, some q8), (11, some q19), (12, some q20), (13, some q21), (14, some q22), (15, some q16)] 18 ?_
 rcases cond_some hh with ⟨hb, hh⟩ | ⟨hb, hh⟩
 · refine cT hb ?_
   refine sy [4] [] (sp 101 [(4, bb false)]) [] 18 ?_
   refine Aw.ret ?_
   refine then_r ?_
   rw [some_some hh]
   exact gvb
 refine cF hb ?_
 refine Aw.xskip (fun _ _ _ hq => then_m hq) ?_
 refine Aw.sreg [6, 7, 9, 12, 14, 15] [3, 4, 5, 6, 7, 11, 12, 13, 14, 15, 20, 21, 22, 23, 24] (yj 1  (sp 101 [(1, ii x_aG), (2, pp 0), (6, pp 7), (7, bb v3.2), (9, pp 15), (12, ii v11.2.2.2.2), (76, bb (!decide (v12 = v11.2.2.2.2))), (78, .agg [bo (eI .i64) x_aH.Words, bo B_121 x_aH.Guests])]) [(0, some q1), (3, some q7), (4, some q6), (5, some q5), (6, some q4), (7, some q8), (11, some q19), (12, some q20), (13, some q21), (14, some q22), (15, some q16)] 18 ?_)
 obtain ⟨v13, hv13, hh⟩ := bind_some hh
 let q23 : Root := ⟨50, (fl O_50 v13.Guests)⟩
 let q24 : Root := ⟨3, (fl (eI .i64) v13.Words)⟩
 refine ys (.call 42 [(.t 78)]) (some 79) (op_call (r := .agg [.own 3 1 (List.length v13.Words) (fl (eI .i64) v13.Words), .own 50 17 (List.length v13.Guests) (fl O_50 v13.Guests)]) (v := .agg [sw 18 v13.Words, .sref 19 [] 0 (List.length v13.Guests) 17]) (Hr := [(19, some q23), (18, some q24)]) (n' := 20) (laws_toHost_fn hv13) (clz_v (vs := [.agg [bo (eI .i64) x_aH.Words, bo B_121 x_aH.Guests]]) (by kernel_rfl) (clz_c (clo_agg (clos_c (clo_same (clean_bor (cleans_fl cl_eI))) (clos_c (clo_same (clean_bor (cleans_fl cl_B_121))) clos_n))) clz_n)) (by simp only [AV.noRef, noRefs, Bool.and_self, noRefs_fl nr_eI, noRefs_fl nr_O_50]) (by simp only [AV.noBor, noBors, Bool.and_self, noBors_fl nb_eI, noBors_fl nb_O_50]) (by kernel_rfl) ?_)
 refine yu 1 [(79, .agg [sw 18 v13.Words, .sref 19 [] 0 (List.length v13.Guests) 17]), (80, ii x_aG)] [(19, some q23), (18, some q24), (0, some q1), (3, some q7), (4, some q6), (5, some q5), (6, some q4), (7, some q8), (11, some q19), (12, some q20), (13, some q21), (14, some q22), (15, some q16)] 20 ?_
 obtain ⟨v14, hv14, hh⟩ := bind_some hh
 let q25 : Root := ⟨3, (fl (eI .i64) v14.1.Out)⟩
 let q26 : Root := ⟨3, (fl (eI .i64) v14.1.In)⟩
 let q27 : Root := ⟨3, (fl (eI .i64) v14.1.Mem)⟩
 let q28 : Root := ⟨3, (fl (eI .i64) v14.1.C.Regs)⟩
 refine ys (.call 22 [(.t 79), (.t 80)]) (some 81) (op_call (r := .tup [.agg (.own 3 1 (List.length v14.1.C.Regs) (fl (eI .i64) v14.1.C.Regs) :: ru36 v14.1.C [.own 3 1 (List.length v14.1.Mem) (fl (eI .i64) v14.1.Mem), .own 3 1 (List.length v14.1.In) (fl (eI .i64) v14.1.In), .own 3 1 (List.length v14.1.Out) (fl (eI .i64) v14.1.Out)]), bb v14.2]) (v := .tup [.agg (sw 20 v14.1.C.Regs :: ru36 v14.1.C [sw 21 v14.1.Mem, sw 22 v14.1.In, sw 23 v14.1.Out]), bb v14.2]) (Hr := [(23, some q25), (22, some q26), (21, some q27), (20, some q28)]) (n' := 24) (impl_HostView_fn hv14) (clz_v (vs := [.agg [sw 18 v13.Words, .sref 19 [] 0 (List.length v13.Guests) 17], ii x_aG]) (by kernel_rfl) (clz_c (clo_agg (clos_c (clo_own (c := (eI .i64)) (xs := v13.Words) (e := 3) (by first | rfl | omega | (simp only [List.length_set, over_len, List.length_replicate, List.length_append, List.length_cons, List.length_nil, List.length_take, List.length_drop] <;> omega)) len_eI no_eI cl_eI (by kernel_rfl)) (clos_c (clo_flr (B := B_50) (xs := v13.Guests) (e := 50) oc_O_50 len_O_50 (by first | rfl | omega | (simp only [List.length_set, over_len, List.length_replicate, List.length_append, List.length_cons, List.length_nil, List.length_take, List.length_drop] <;> omega)) (by kernel_rfl)) clos_n))) (cz1 clz_n))) (by simp only [ru36, AV.noRef, noRefs, Bool.and_self, noRefs_fl nr_eI]) (by simp only [ru36, AV.noBor, noBors, Bool.and_self, noBors_fl nb_eI]) (by kernel_rfl) ?_)
 let q29 : Root := ⟨38, (sw 20 v14.1.C.Regs :: ru36 v14.1.C [sw 21 v14.1.Mem, sw 22 v14.1.In, sw 23 v14.1.Out])⟩
 refine yt (sp 101 [(6, pp 7), (7, bb v3.2), (9, pp 15), (12, ii v11.2.2.2.2), (14, pp 24), (15, bb v14.2)]) [(3, some q7), (4, some q6), (5, some q5), (6, some q4), (7, some q8), (11, some q19), (12, some q20), (13, some q21), (14, some q22), (15, some q16), (20, some q28), (21, some q27), (22, some q26), (23, some q25), (24, some q29)] 25 ?_
 refine Aw.seq ?_
 refine Aw.sreg [9, 12, 92] [11, 12, 13, 14, 15] (yj 2  (sp 101 [(6, pp 7), (7, bb v3.2), (9, pp 15), (12, ii v11.2.2.2.2), (14, pp 24), (15, bb v14.2), (84, .agg (sw 20 v14.1.C.Regs :: ru36 v14.1.C [sw 21 v14.1.Mem, sw 22 v14.1.In, sw 23 v14.1.Out])), (85, .agg (sw 3 v3.1.C.Regs :: ru36 v3.1.C [sw 4 v3.1.Mem, sw 5 v3.1.In, sw 6 v3.1.Out]))]) [(3, some q7), (4, some q6), (5, some q5), (6, some q4), (7, some q8), (11, some q19), (12, some q20), (13, some q21), (14, some q22), (15, some q16), (20, some q28), (21, some q27), (22, some q26), (23, some q25), (24, some q29)] 25 ?_)
 obtain ⟨v15, hv15, hh⟩ := bind_some hh
 refine ys (.call 46 [(.t 84), (.t 85)]) (some 86) (op_call (r := bb v15) (v := bb v15) (Hr := []) (n' := 25) (laws_eqBare_fn hv15) (clz_v (vs := [.agg (sw 20 v14.1.C.Regs :: ru36 v14.1.C [sw 21 v14.1.Mem, sw 22 v14.1.In, sw 23 v14.1.Out]), .agg (sw 3 v3.1.C.Regs :: ru36 v3.1.C [sw 4 v3.1.Mem, sw 5 v3.1.In, sw 6 v3.1.Out])]) (by kernel_rfl) (clz_c (clo_agg (clos_c (clo_own (c := (eI .i64)) (xs := v14.1.C.Regs) (e := 3) (by first | rfl | omega | (simp only [List.length_set, over_len, List.length_replicate, List.length_append, List.length_cons, List.length_nil, List.length_take, List.length_drop] <;> omega)) len_eI no_eI cl_eI (by kernel_rfl)) (cs1 (cs1 (cs1 (cs1 (cs1 (cs1 (cs1 (cs1 (cs1 (cs1 (cs1 (cs1 (clos_c (clo_own (c := (eI .i64)) (xs := v14.1.Mem) (e := 3) (by first | rfl | omega | (simp only [List.length_set, over_len, List.length_replicate, List.length_append, List.length_cons, List.length_nil, List.length_take, List.length_drop] <;> omega)) len_eI no_eI cl_eI (by kernel_rfl)) (clos_c (clo_own (c := (eI .i64)) (xs := v14.1.In) (e := 3) (by first | rfl | omega | (simp only [List.length_set, over_len, List.length_replicate, List.length_append, List.length_cons, List.length_nil, List.length_take, List.length_drop] <;> omega)) len_eI no_eI cl_eI (by kernel_rfl)) (clos_c (clo_own (c := (eI .i64)) (xs := v14.1.Out) (e := 3) (by first | rfl | omega | (simp only [List.length_set, over_len, List.length_replicate, List.length_append, List.length_cons, List.length_nil, List.length_take, List.length_drop] <;> omega)) len_eI no_eI cl_eI (by kernel_rfl)) clos_n))))))))))))))))) (clz_c (clo_agg (clos_c (clo_own (c := (eI .i64)) (xs := v3.1.C.Regs) (e := 3) (by first | rfl | omega | (simp only [List.length_set, over_len, List.length_replicate, List.length_append, List.length_cons, List.length_nil, List.length_take, List.length_drop] <;> omega)) len_eI no_eI cl_eI (by kernel_rfl)) (cs1 (cs1 (cs1 (cs1 (cs1 (cs1 (cs1 (cs1 (cs1 (cs1 (cs1 (cs1 (clos_c (clo_own (c := (eI .i64)) (xs := v3.1.Mem) (e := 3) (by first | rfl | omega | (simp only [List.length_set, over_len, List.length_replicate, List.length_append, List.length_cons, List.length_nil, List.length_take, List.length_drop] <;> omega)) len_eI no_eI cl_eI (by kernel_rfl)) (clos_c (clo_own (c := (eI .i64)) (xs := v3.1.In) (e := 3) (by first | rfl | omega | (simp only [List.length_set, over_len, List.length_replicate, List.length_append, List.length_cons, List.length_nil, List.length_take, List.length_drop] <;> omega)) len_eI no_eI cl_eI (by kernel_rfl)) (clos_c (clo_own (c := (eI .i64)) (xs := v3.1.Out) (e := 3) (by first | rfl | omega | (simp only [List.length_set, over_len, List.length_replicate, List.length_append, List.length_cons, List.length_nil, List.length_take, List.length_drop] <;> omega)) len_eI no_eI cl_eI (by kernel_rfl)) clos_n))))))))))))))))) clz_n))) rfl rfl (by kernel_rfl) ?_)
 refine yu 2 [(86, bb v15), (87, bb (!v15)), (88, bb (!v15))] [(3, some q7), (4, some q6), (5, some q5), (6, some q4), (7, some q8), (11, some q19), (12, some q20), (13, some q21), (14, some q22), (15, some q16), (20, some q28), (21, some q27), (22, some q26), (23, some q25), (24, some q29)] 25 ?_
 rcases cond_some hh with ⟨hb, hh⟩ | ⟨hb, hh⟩
 · refine yb 87 hb ?_
   refine yb 88 hb ?_
   refine yt (sp 101 [(9, pp 15), (12, ii v11.2.2.2.2), (92, bb true)]) [(11, some q19), (12, some q20), (13, some q21), (14, some q22), (15, some q16)] 25 ?_
   refine cT rfl ?_
   refine sy [4] [] (sp 101 [(4, bb false)]) [] 25 ?_
   refine Aw.ret ?_
   refine then_r ?_
   rw [some_some hh]
   exact gvb
 refine yb 87 hb ?_
 refine yb 88 hb ?_
 refine yt (sp 101 [(9, pp 15), (12, ii v11.2.2.2.2), (92, bb (!(v14.2 == v3.2)))]) [(11, some q19), (12, some q20), (13, some q21), (14, some q22), (15, some q16)] 25 ?_
 rcases cond_some hh with ⟨hb, hh⟩ | ⟨hb, hh⟩
 · refine cT hb ?_
   refine sy [4] [] (sp 101 [(4, bb false)]) [] 25 ?_
   refine Aw.ret ?_
   refine then_r ?_
   rw [some_some hh]
   exact gvb
 refine cF hb ?_
 refine Aw.xskip (fun _ _ _ hq => then_m hq) ?_
 refine sy [9, 12, 13] [11, 12, 13, 14, 15] (sp 101 [(9, pp 15), (12, ii v11.2.2.2.2), (13, ii 1)]) [(11, some q19), (12, some q20), (13, some q21), (14, some q22), (15, some q16)] 25 ?_
 refine Aw.sreg [12, 13] [] (yu 2 [(93, .agg (sw 11 v5.1.C.Regs :: ru36 v5.1.C [sw 12 v5.1.Mem, sw 13 v5.1.In, sw 14 v5.1.Out])), (94, ii 1)] [(11, some q19), (12, some q20), (13, some q21), (14, some q22), (15, some q16)] 25 ?_)
 obtain ⟨v16, hv16, hh⟩ := bind_some hh
 refine ys (.call 48 [(.t 93), (.t 94)]) (some 95) (op_call (r := ii v16) (v := ii v16) (Hr := []) (n' := 25) (laws_heldBare_fn hv16) (clz_v (vs := [.agg (sw 11 v5.1.C.Regs :: ru36 v5.1.C [sw 12 v5.1.Mem, sw 13 v5.1.In, sw 14 v5.1.Out]), ii 1]) (by kernel_rfl) (clz_c (clo_agg (clos_c (clo_own (c := (eI .i64)) (xs := v11.1) (e := 3) (by first | rfl | omega | (simp only [List.length_set, over_len, List.length_replicate, List.length_append, List.length_cons, List.length_nil, List.length_take, List.length_drop] <;> omega)) len_eI no_eI cl_eI (by kernel_rfl)) (cs1 (cs1 (cs1 (cs1 (cs1 (cs1 (cs1 (cs1 (cs1 (cs1 (cs1 (cs1 (clos_c (clo_own (c := (eI .i64)) (xs := v11.2.1) (e := 3) (by first | rfl | omega | (simp only [List.length_set, over_len, List.length_replicate, List.length_append, List.length_cons, List.length_nil, List.length_take, List.length_drop] <;> omega)) len_eI no_eI cl_eI (by kernel_rfl)) (clos_c (clo_own (c := (eI .i64)) (xs := v11.2.2.1) (e := 3) (by first | rfl | omega | (simp only [List.length_set, over_len, List.length_replicate, List.length_append, List.length_cons, List.length_nil, List.length_take, List.length_drop] <;> omega)) len_eI no_eI cl_eI (by kernel_rfl)) (clos_c (clo_own (c := (eI .i64)) (xs := v11.2.2.2.1) (e := 3) (by first | rfl | omega | (simp only [List.length_set, over_len, List.length_replicate, List.length_append, List.length_cons, List.length_nil, List.length_take, List.length_drop] <;> omega)) len_eI no_eI cl_eI (by kernel_rfl)) clos_n))))))))))))))))) (cz1 clz_n))) rfl rfl (by kernel_rfl) ?_)
 refine yt (sp 101 [(12, ii v11.2.2.2.2), (13, ii v16)]) [] 25 ?_
 refine Aw.seq ?_
 refine sy [12, 13, 97] [] (sp 101 [(12, ii v11.2.2.2.2), (13, ii v16), (97, bb (decide (v16 < (0 : Int))))]) [] 25 ?_
 rcases cond_some hh with ⟨hb, hh⟩ | ⟨hb, hh⟩
 · refine cT hb ?_
   refine sy [4] [] (sp 101 [(4, bb false)]) [] 25 ?_
   refine Aw.ret ?_
   refine then_r ?_
   rw [some_some hh]
   exact gvb
 refine cF hb ?_
 refine Aw.xskip (fun _ _ _ hq => then_m hq) ?_
 refine Aw.seq ?_
 refine sy [100] [] (sp 101 [(100, bb (!decide (v16 = v11.2.2.2.2)))]) [] 25 ?_
 rcases cond_some hh with ⟨hb, hh⟩ | ⟨hb, hh⟩
 · refine cT hb ?_
   refine sy [4] [] (sp 101 [(4, bb false)]) [] 25 ?_
   refine Aw.ret ?_
   refine then_r ?_
   rw [some_some hh]
   exact gvb
 refine cF hb ?_
 refine Aw.xskip (fun _ _ _ hq => then_m hq) ?_
 refine sy [4] [] (sp 101 [(4, bb true)]) [] 25 ?_
 refine Aw.ret ?_
 rw [some_some hh]
 exact gvb
end Go.Proofs.Ytbogmfjpabfhpaa
