/- Plain functions of the program, and that it hands back what they say. Made by program. -/
import Derived.Test.YtbogmfjpabfhpaaWT
import Derived.Test.YtbogmfjpabfhpaaProg
import Derived.Test.YtbogmfjpabfhpaaWH1
import Derived.Test.YtbogmfjpabfhpaaWHF1
import Derived.Test.YtbogmfjpabfhpaaWHM1
import Derived.Test.YtbogmfjpabfhpaaWHT1
namespace Go.Proofs.Ytbogmfjpabfhpaa
open Go.RowKit
set_option maxRecDepth 100000
set_option linter.all false
set_option maxHeartbeats 0
def Lf12_r0 : List LOper := [oo 1 (.box 62 (.t 0)), oo 2 (.mv (.c (bb false)))]
def Lf12_r1 : List LOper := [oo 3 (.mv (.c (ii 1048576)))]
def Lf12_r2 : List LOper := [oo 11 (.load true 2 (.t 1)), om 12 3, oo 13 (.call 41 [(.t 11), (.t 12)]), om 3 13]
def Lf12_r3 : List LOper := [om 14 3, oo 15 (.bin .lss (.t 14) (.c (ii 0)))]
def Lf12_r4 : List LOper := [oo 2 (.mv (.c (bb true)))]
def Lf12_r5 : List LOper := [oo 16 (.load true 2 (.t 1)), oo 17 (.call 42 [(.t 16)]), oo 18 (.call 33 [(.t 17)]), om 4 18]
def Lf12_r6 : List LOper := [oo 19 (.load true 2 (.t 1)), oo 20 (.call 42 [(.t 19)]), oo 5 (.fresh 26 [.nil, .nil]), ⟨none, (.store 2 (.t 5) (.t 20)), none⟩]
def Lf12_r7 : List LOper := [oo 21 (.load true 2 (.t 5)), oo 22 (.call 25 [(.t 21)]), om 6 22]
def Lf12_r8 : List LOper := [om 23 6, om 24 4, oo 25 (.call 49 [(.t 23), (.t 24)]), oo 26 (.un .not (.t 25))]
def Lf12_r9 : List LOper := [oo 2 (.mv (.c (bb false)))]
def Lf12_r10 : List LOper := [oo 27 (.load true 2 (.t 5)), oo 28 (.load true 2 (.t 1)), oo 29 (.call 42 [(.t 28)])]
def Lf12_r10t : List LOper := [oo 30 (.call 43 [(.t 27), (.t 29)]), oo 31 (.un .not (.t 30))]
def Lf12_r12 : List LOper := [oo 2 (.mv (.c (bb false)))]
def Lf12_r13 : List LOper := [oo 7 (.mv (.c (ii 1)))]
def Lf12_r14 : List LOper := [oo 32 (.load true 2 (.t 5)), om 33 7, oo 34 (.call 44 [(.t 32), (.t 33)]), om 7 34]
def Lf12_r15 : List LOper := [om 35 7, oo 36 (.bin .lss (.t 35) (.c (ii 0))), om 37 36, ⟨(some 38), (.mv (.t 6)), (some (37, false))⟩, ⟨(some 39), (.mv (.t 4)), (some (37, false))⟩, ⟨(some 40), (.call 49 [(.t 38), (.t 39)]), (some (37, false))⟩, ⟨(some 41), (.un .not (.t 40)), (some (37, false))⟩, oo 42 (.pick (.t 37) (.c (bb true)) (.t 41))]
def Lf12_r16 : List LOper := [oo 2 (.mv (.c (bb false)))]
def Lf12_r17 : List LOper := [oo 8 (.mv (.c (ii 1)))]
def Lf12_r18 : List LOper := [om 43 6, om 44 8, oo 45 (.call 50 [(.t 43), (.t 44)]), om 8 45]
def Lf12_r19 : List LOper := [oo 9 (.mv (.c (ii 1)))]
def Lf12_r20 : List LOper := [om 46 6, om 47 9, oo 48 (.call 51 [(.t 46), (.t 47)]), om 9 48]
def Lf12_r21 : List LOper := [om 49 9, oo 50 (.bin .lss (.t 49) (.c (ii 0)))]
def Lf12_r22 : List LOper := [oo 2 (.mv (.c (bb false)))]
def Lf12_r23 : List LOper := [om 51 9, om 52 8, oo 53 (.bin .neq (.t 51) (.t 52))]
def Lf12_r24 : List LOper := [oo 2 (.mv (.c (bb false)))]
def Lf12_r25 : List LOper := [oo 54 (.load true 2 (.t 1)), oo 55 (.call 42 [(.t 54)]), oo 56 (.call 25 [(.t 55)]), om 10 56]
def Lf12_r26 : List LOper := [om 57 10, om 58 4, oo 59 (.call 49 [(.t 57), (.t 58)]), oo 60 (.un .not (.t 59))]
def Lf12_r27 : List LOper := [oo 2 (.mv (.c (bb false)))]
def Lf12_r28 : List LOper := [oo 9 (.mv (.c (ii 1)))]
def Lf12_r29 : List LOper := [om 61 6, om 62 9, oo 63 (.call 51 [(.t 61), (.t 62)]), om 9 63]
def Lf12_r30 : List LOper := [om 64 9, oo 65 (.bin .lss (.t 64) (.c (ii 0)))]
def Lf12_r31 : List LOper := [oo 2 (.mv (.c (bb false)))]
def Lf12_r32 : List LOper := [om 66 9, om 67 8, oo 68 (.bin .neq (.t 66) (.t 67))]
def Lf12_r33 : List LOper := [oo 2 (.mv (.c (bb false)))]
def Lf12_r34 : List LOper := [oo 2 (.mv (.c (bb true)))]
def Lf12 : LFun := ⟨69, [(.tmp 2)], (.seq (.reg false Lf12_r0) (.seq (.reg false Lf12_r1) (.seq (.reg false Lf12_r2) (.seq (.seq (.reg false Lf12_r3) (.cond (.t 15) (.seq (.reg false Lf12_r4) .ret) .skip)) (.seq (.reg false Lf12_r5) (.seq (.reg false Lf12_r6) (.seq (.reg false Lf12_r7) (.seq (.seq (.reg false Lf12_r8) (.cond (.t 26) (.seq (.reg false Lf12_r9) .ret) .skip)) (.seq (.seq (.regd Lf12_r10 Lf12_r10t) (.cond (.t 31) (.seq (.reg false Lf12_r12) .ret) .skip)) (.seq (.reg false Lf12_r13) (.seq (.reg false Lf12_r14) (.seq (.seq (.reg false Lf12_r15) (.cond (.t 42) (.seq (.reg false Lf12_r16) .ret) .skip)) (.seq (.reg false Lf12_r17) (.seq (.reg false Lf12_r18) (.seq (.reg false Lf12_r19) (.seq (.reg false Lf12_r20) (.seq (.seq (.reg false Lf12_r21) (.cond (.t 50) (.seq (.reg false Lf12_r22) .ret) .skip)) (.seq (.seq (.reg false Lf12_r23) (.cond (.t 53) (.seq (.reg false Lf12_r24) .ret) .skip)) (.seq (.reg false Lf12_r25) (.seq (.seq (.reg false Lf12_r26) (.cond (.t 60) (.seq (.reg false Lf12_r27) .ret) .skip)) (.seq (.reg false Lf12_r28) (.seq (.reg false Lf12_r29) (.seq (.seq (.reg false Lf12_r30) (.cond (.t 65) (.seq (.reg false Lf12_r31) .ret) .skip)) (.seq (.seq (.reg false Lf12_r32) (.cond (.t 68) (.seq (.reg false Lf12_r33) .ret) .skip)) (.seq (.reg false Lf12_r34) .ret)))))))))))))))))))))))))⟩
theorem low_laws_FnExactHostFree : lowFun Go.Proofs.Try.prog 12 = some Lf12 := by kernel_rfl
noncomputable def F_laws_FnExactHostFree (x_aH : DHost) : Option Bool :=
 Option.bind (F_laws_szHost x_aH (1048576 : Int)) fun v1 =>
 cond (decide (v1 < (0 : Int)))
  (some true)
  (Option.bind (F_laws_toHost x_aH) fun v2 =>
  Option.bind (F_spec_HostFree v2) fun v3 =>
  Option.bind (F_laws_toHost x_aH) fun v4 =>
  Option.bind (F_impl_HostFree v4) fun v5 =>
  Option.bind (F_laws_eqIntS v5 v3) fun v6 =>
  cond (!v6)
   (some false)
   (Option.bind (F_laws_toHost x_aH) fun v7 =>
   Option.bind (F_laws_eqHost v4 v7) fun v8 =>
   cond (!v8)
    (some false)
    (Option.bind (F_laws_markHost v4 (1 : Int)) fun v9 =>
    grd (List.length v9.1 = (List.length v4.Words)) (grd (List.length v9.2.1 = (List.length v4.Guests)) (cond (decide (v9.2.2 < (0 : Int)))
     (some false)
     (Option.bind (F_laws_eqIntS v5 v3) fun v10 =>
     cond (!v10)
      (some false)
      (Option.bind (F_laws_markIntS v5 (1 : Int)) fun v11 =>
      grd (List.length v11.1 = (List.length v5)) (Option.bind (F_laws_heldIntS v11.1 (1 : Int)) fun v12 =>
       cond (decide (v12 < (0 : Int)))
        (some false)
        (cond (!decide (v12 = v11.2))
         (some false)
         (Option.bind (F_laws_toHost x_aH) fun v13 =>
         Option.bind (F_impl_HostFree v13) fun v14 =>
         Option.bind (F_laws_eqIntS v14 v3) fun v15 =>
         cond (!v15)
          (some false)
          (Option.bind (F_laws_heldIntS v11.1 (1 : Int)) fun v16 =>
          cond (decide (v16 < (0 : Int)))
           (some false)
           (cond (!decide (v16 = v11.2))
            (some false)
            (some true)))))))))))))
theorem laws_FnExactHostFree_fn {x_aH : DHost} {R_ : Bool} (hh : F_laws_FnExactHostFree x_aH = some R_) : Fn Try.prog 12 [.agg [bo (eI .i64) x_aH.Words, bo B_121 x_aH.Guests]] (.bool R_) := by
 unfold F_laws_FnExactHostFree at hh
 refine Fn.start low_laws_FnExactHostFree [0] (E := sp 69 [(0, .agg [bo (eI .i64) x_aH.Words, bo B_121 x_aH.Guests])]) (by kernel_rfl) (v := bb R_) (Hr := []) (k := 0) (by kernel_rfl) ?_
 refine Aw.sreg [1] [0] ?_
 let q1 : Root := ⟨62, [bo (eI .i64) x_aH.Words, bo B_121 x_aH.Guests]⟩
 refine yt (sp 69 [(1, pp 0)]) [(0, some q1)] 1 ?_
 refine sy [1, 3] [0] (sp 69 [(1, pp 0), (3, ii 1048576)]) [(0, some q1)] 1 ?_
 refine Aw.sreg [1, 3] [0] (yu 2 [(11, .agg [bo (eI .i64) x_aH.Words, bo B_121 x_aH.Guests]), (12, ii 1048576)] [(0, some q1)] 1 ?_)
 obtain ⟨v1, hv1, hh⟩ := bind_some hh
 refine ys (.call 41 [(.t 11), (.t 12)]) (some 13) (op_call (r := ii v1) (v := ii v1) (Hr := []) (n' := 1) (laws_szHost_fn hv1) (clz_v (vs := [.agg [bo (eI .i64) x_aH.Words, bo B_121 x_aH.Guests], ii 1048576]) (by kernel_rfl) (clz_c (clo_agg (clos_c (clo_same (clean_bor (cleans_fl cl_eI))) (clos_c (clo_same (clean_bor (cleans_fl cl_B_121))) clos_n))) (cz1 clz_n))) rfl rfl (by kernel_rfl) ?_)
 refine yt (sp 69 [(1, pp 0), (3, ii v1)]) [(0, some q1)] 1 ?_
 refine Aw.seq ?_
 refine sy [1, 15] [0] (sp 69 [(1, pp 0), (15, bb (decide (v1 < (0 : Int))))]) [(0, some q1)] 1 ?_
 rcases cond_some hh with ⟨hb, hh⟩ | ⟨hb, hh⟩
 · refine cT hb ?_
   refine sy [2] [] (sp 69 [(2, bb true)]) [] 1 ?_
   refine Aw.ret ?_
   refine then_r ?_
   rw [some_some hh]
   exact gvb
 refine cF hb ?_
 refine Aw.xskip (fun _ _ _ hq => then_m hq) ?_
 refine Aw.sreg [1, 4] [0, 3] (yj 1  (sp 69 [(1, pp 0), (15, bb (decide (v1 < (0 : Int)))), (16, .agg [bo (eI .i64) x_aH.Words, bo B_121 x_aH.Guests])]) [(0, some q1)] 1 ?_)
 obtain ⟨v2, hv2, hh⟩ := bind_some hh
 refine ys (.call 42 [(.t 16)]) (some 17) (op_call (r := .agg [.own 3 1 (List.length v2.Words) (fl (eI .i64) v2.Words), .own 50 17 (List.length v2.Guests) (fl O_50 v2.Guests)]) (v := .agg [sw 1 v2.Words, .sref 2 [] 0 (List.length v2.Guests) 17]) (Hr := [(2, some ⟨50, (fl O_50 v2.Guests)⟩), (1, some ⟨3, (fl (eI .i64) v2.Words)⟩)]) (n' := 3) (laws_toHost_fn hv2) (clz_v (vs := [.agg [bo (eI .i64) x_aH.Words, bo B_121 x_aH.Guests]]) (by kernel_rfl) (clz_c (clo_agg (clos_c (clo_same (clean_bor (cleans_fl cl_eI))) (clos_c (clo_same (clean_bor (cleans_fl cl_B_121))) clos_n))) clz_n)) (by simp only [AV.noRef, noRefs, Bool.and_self, noRefs_fl nr_eI, noRefs_fl nr_O_50]) (by simp only [AV.noBor, noBors, Bool.and_self, noBors_fl nb_eI, noBors_fl nb_O_50]) (by kernel_rfl) ?_)
 obtain ⟨v3, hv3, hh⟩ := bind_some hh
 refine ys (.call 33 [(.t 17)]) (some 18) (op_call (r := .own 3 1 (List.length v3) (fl (eI .i64) v3)) (v := sw 3 v3) (Hr := [(3, some ⟨3, (fl (eI .i64) v3)⟩)]) (n' := 4) (spec_HostFree_fn hv3) (clz_v (vs := [.agg [sw 1 v2.Words, .sref 2 [] 0 (List.length v2.Guests) 17]]) (by kernel_rfl) (clz_c (clo_agg (clos_c (clo_own (c := (eI .i64)) (xs := v2.Words) (e := 3) (by first | rfl | omega | (simp only [List.length_set, over_len, List.length_replicate, List.length_append, List.length_cons, List.length_nil, List.length_take, List.length_drop] <;> omega)) len_eI no_eI cl_eI (by kernel_rfl)) (clos_c (clo_flr (B := B_50) (xs := v2.Guests) (e := 50) oc_O_50 len_O_50 (by first | rfl | omega | (simp only [List.length_set, over_len, List.length_replicate, List.length_append, List.length_cons, List.length_nil, List.length_take, List.length_drop] <;> omega)) (by kernel_rfl)) clos_n))) clz_n)) (by simp only [AV.noRef, noRefs, Bool.and_self, noRefs_fl nr_eI]) (by simp only [AV.noBor, noBors, Bool.and_self, noBors_fl nb_eI]) (by kernel_rfl) ?_)
 refine yt (sp 69 [(1, pp 0), (4, sw 3 v3)]) [(0, some q1), (3, some ⟨3, (fl (eI .i64) v3)⟩)] 4 ?_
 refine Aw.sreg [1, 4, 5] [0, 3, 4, 5, 6] (yu 1 [(19, .agg [bo (eI .i64) x_aH.Words, bo B_121 x_aH.Guests])] [(0, some q1), (3, some ⟨3, (fl (eI .i64) v3)⟩)] 4 ?_)
 obtain ⟨v4, hv4, hh⟩ := bind_some hh
 let q2 : Root := ⟨50, (fl O_50 v4.Guests)⟩
 let q3 : Root := ⟨3, (fl (eI .i64) v4.Words)⟩
 refine ys (.call 42 [(.t 19)]) (some 20) (op_call (r := .agg [.own 3 1 (List.length v4.Words) (fl (eI .i64) v4.Words), .own 50 17 (List.length v4.Guests) (fl O_50 v4.Guests)]) (v := .agg [sw 4 v4.Words, .sref 5 [] 0 (List.length v4.Guests) 17]) (Hr := [(5, some q2), (4, some q3)]) (n' := 6) (laws_toHost_fn hv4) (clz_v (vs := [.agg [bo (eI .i64) x_aH.Words, bo B_121 x_aH.Guests]]) (by kernel_rfl) (clz_c (clo_agg (clos_c (clo_same (clean_bor (cleans_fl cl_eI))) (clos_c (clo_same (clean_bor (cleans_fl cl_B_121))) clos_n))) clz_n)) (by simp only [AV.noRef, noRefs, Bool.and_self, noRefs_fl nr_eI, noRefs_fl nr_O_50]) (by simp only [AV.noBor, noBors, Bool.and_self, noBors_fl nb_eI, noBors_fl nb_O_50]) (by kernel_rfl) ?_)
 let q4 : Root := ⟨26, [sw 4 v4.Words, .sref 5 [] 0 (List.length v4.Guests) 17]⟩
 refine yt (sp 69 [(1, pp 0), (4, sw 3 v3), (5, pp 6)]) [(0, some q1), (3, some ⟨3, (fl (eI .i64) v3)⟩), (4, some q3), (5, some q2), (6, some q4)] 7 ?_
 refine Aw.sreg [1, 4, 5, 6] [0, 3, 4, 5, 6, 7] (yu 1 [(21, .agg [sw 4 v4.Words, .sref 5 [] 0 (List.length v4.Guests) 17])] [(0, some q1), (3, some ⟨3, (fl (eI .i64) v3)⟩), (4, some q3), (5, some q2), (6, some q4)] 7 ?_)
 obtain ⟨v5, hv5, hh⟩ := bind_some hh
 refine ys (.call 25 [(.t 21)]) (some 22) (op_call (r := .own 3 1 (List.length v5) (fl (eI .i64) v5)) (v := sw 7 v5) (Hr := [(7, some ⟨3, (fl (eI .i64) v5)⟩)]) (n' := 8) (impl_HostFree_fn hv5) (clz_v (vs := [.agg [sw 4 v4.Words, .sref 5 [] 0 (List.length v4.Guests) 17]]) (by kernel_rfl) (clz_c (clo_agg (clos_c (clo_own (c := (eI .i64)) (xs := v4.Words) (e := 3) (by first | rfl | omega | (simp only [List.length_set, over_len, List.length_replicate, List.length_append, List.length_cons, List.length_nil, List.length_take, List.length_drop] <;> omega)) len_eI no_eI cl_eI (by kernel_rfl)) (clos_c (clo_flr (B := B_50) (xs := v4.Guests) (e := 50) oc_O_50 len_O_50 (by first | rfl | omega | (simp only [List.length_set, over_len, List.length_replicate, List.length_append, List.length_cons, List.length_nil, List.length_take, List.length_drop] <;> omega)) (by kernel_rfl)) clos_n))) clz_n)) (by simp only [AV.noRef, noRefs, Bool.and_self, noRefs_fl nr_eI]) (by simp only [AV.noBor, noBors, Bool.and_self, noBors_fl nb_eI]) (by kernel_rfl) ?_)
 refine yt (sp 69 [(1, pp 0), (4, sw 3 v3), (5, pp 6), (6, sw 7 v5)]) [(0, some q1), (3, some ⟨3, (fl (eI .i64) v3)⟩), (4, some q3), (5, some q2), (6, some q4), (7, some ⟨3, (fl (eI .i64) v5)⟩)] 8 ?_
 refine Aw.seq ?_
 refine Aw.sreg [1, 4, 5, 6, 26] [0, 3, 4, 5, 6, 7] (yj 2  (sp 69 [(1, pp 0), (4, sw 3 v3), (5, pp 6), (6, sw 7 v5), (23, sw 7 v5), (24, sw 3 v3)]) [(0, some q1), (3, some ⟨3, (fl (eI .i64) v3)⟩), (4, some q3), (5, some q2), (6, some q4), (7, some ⟨3, (fl (eI .i64) v5)⟩)] 8 ?_)
 obtain ⟨v6, hv6, hh⟩ := bind_some hh
 refine ys (.call 49 [(.t 23), (.t 24)]) (some 25) (op_call (r := bb v6) (v := bb v6) (Hr := []) (n' := 8) (laws_eqIntS_fn hv6) (clz_v (vs := [sw 7 v5, sw 3 v3]) (by kernel_rfl) (clz_c (clo_own (c := (eI .i64)) (xs := v5) (e := 3) (by first | rfl | omega | (simp only [List.length_set, over_len, List.length_replicate, List.length_append, List.length_cons, List.length_nil, List.length_take, List.length_drop] <;> omega)) len_eI no_eI cl_eI (by kernel_rfl)) (clz_c (clo_own (c := (eI .i64)) (xs := v3) (e := 3) (by first | rfl | omega | (simp only [List.length_set, over_len, List.length_replicate, List.length_append, List.length_cons, List.length_nil, List.length_take, List.length_drop] <;> omega)) len_eI no_eI cl_eI (by kernel_rfl)) clz_n))) rfl rfl (by kernel_rfl) ?_)
 refine yt (sp 69 [(1, pp 0), (4, sw 3 v3), (5, pp 6), (6, sw 7 v5), (26, bb (!v6))]) [(0, some q1), (3, some ⟨3, (fl (eI .i64) v3)⟩), (4, some q3), (5, some q2), (6, some q4), (7, some ⟨3, (fl (eI .i64) v5)⟩)] 8 ?_
 rcases cond_some hh with ⟨hb, hh⟩ | ⟨hb, hh⟩
 · refine cT hb ?_
   refine sy [2] [] (sp 69 [(2, bb false)]) [] 8 ?_
   refine Aw.ret ?_
   refine then_r ?_
   rw [some_some hh]
   exact gvb
 refine cF hb ?_
 refine Aw.xskip (fun _ _ _ hq => then_m hq) ?_
 refine Aw.seq ?_
 refine Aw.sregd [1, 4, 5, 6, 31] [0, 3, 4, 5, 6, 7] [] (by kernel_rfl) ?_
 refine dc (cs := []) (E' := (sp 69 [(1, pp 0), (4, sw 3 v3), (5, pp 6), (6, sw 7 v5), (26, bb (!v6)), (27, .agg [sw 4 v4.Words, .sref 5 [] 0 (List.length v4.Guests) 17]), (28, .agg [bo (eI .i64) x_aH.Words, bo B_121 x_aH.Guests])])) (H' := [(0, some q1), (3, some ⟨3, (fl (eI .i64) v3)⟩), (4, some q3), (5, some q2), (6, some q4), (7, some ⟨3, (fl (eI .i64) v5)⟩)]) (n' := 8) (fs' := none) (pre := (List.take 2 Lf12_r10)) (L' := (List.drop 2 Lf12_r10)) (by kernel_rfl) (fun K => by kernel_rfl) .nil ?_
 obtain ⟨v7, hv7, hh⟩ := bind_some hh
 let q5 : Root := ⟨50, (fl O_50 v7.Guests)⟩
 let q6 : Root := ⟨3, (fl (eI .i64) v7.Words)⟩
 refine ds (.call 42 [(.t 28)]) (some 29) (ydo_n rfl (op_call (r := .agg [.own 3 1 (List.length v7.Words) (fl (eI .i64) v7.Words), .own 50 17 (List.length v7.Guests) (fl O_50 v7.Guests)]) (v := .agg [sw 8 v7.Words, .sref 9 [] 0 (List.length v7.Guests) 17]) (Hr := [(9, some q5), (8, some q6)]) (n' := 10) (laws_toHost_fn hv7) (clz_v (vs := [.agg [bo (eI .i64) x_aH.Words, bo B_121 x_aH.Guests]]) (by kernel_rfl) (clz_c (clo_agg (clos_c (clo_same (clean_bor (cleans_fl cl_eI))) (clos_c (clo_same (clean_bor (cleans_fl cl_B_121))) clos_n))) clz_n)) (by simp only [AV.noRef, noRefs, Bool.and_self, noRefs_fl nr_eI, noRefs_fl nr_O_50]) (by simp only [AV.noBor, noBors, Bool.and_self, noBors_fl nb_eI, noBors_fl nb_O_50]) (by kernel_rfl) ⟨⟨agr_name (n := 8) (n0 := 8) (r := .agg [.own 3 1 (List.length v7.Words) (fl (eI .i64) v7.Words), .own 50 17 (List.length v7.Guests) (fl O_50 v7.Guests)]) (v := .agg [sw 8 v7.Words, .sref 9 [] 0 (List.length v7.Guests) 17]) (Hr := [(9, some q5), (8, some q6)]) (n' := 10) (by kernel_rfl) (by decide), Hld.un ?_⟩⟩))
 refine dct (cs := []) (E' := (sp 69 [(1, pp 0), (4, sw 3 v3), (5, pp 6), (6, sw 7 v5), (26, bb (!v6)), (27, .agg [sw 4 v4.Words, .sref 5 [] 0 (List.length v4.Guests) 17]), (28, .agg [bo (eI .i64) x_aH.Words, bo B_121 x_aH.Guests]), (29, .agg [sw 8 v7.Words, .sref 9 [] 0 (List.length v7.Guests) 17])])) (H' := [(9, some q5), (8, some q6), (0, some q1), (3, some ⟨3, (fl (eI .i64) v3)⟩), (4, some q3), (5, some q2), (6, some q4), (7, some ⟨3, (fl (eI .i64) v5)⟩)]) (n' := 10) (fun K => by kernel_rfl) .nil ?_
 obtain ⟨v8, hv8, hh⟩ := bind_some hh
 refine ys (.call 43 [(.t 27), (.t 29)]) (some 30) (op_call (r := bb v8) (v := bb v8) (Hr := []) (n' := 10) (laws_eqHost_fn hv8) (clz_v (vs := [.agg [sw 4 v4.Words, .sref 5 [] 0 (List.length v4.Guests) 17], .agg [sw 8 v7.Words, .sref 9 [] 0 (List.length v7.Guests) 17]]) (by kernel_rfl) (clz_c (clo_agg (clos_c (clo_own (c := (eI .i64)) (xs := v4.Words) (e := 3) (by first | rfl | omega | (simp only [List.length_set, over_len, List.length_replicate, List.length_append, List.length_cons, List.length_nil, List.length_take, List.length_drop] <;> omega)) len_eI no_eI cl_eI (by kernel_rfl)) (clos_c (clo_flr (B := B_50) (xs := v4.Guests) (e := 50) oc_O_50 len_O_50 (by first | rfl | omega | (simp only [List.length_set, over_len, List.length_replicate, List.length_append, List.length_cons, List.length_nil, List.length_take, List.length_drop] <;> omega)) (by kernel_rfl)) clos_n))) (clz_c (clo_agg (clos_c (clo_own (c := (eI .i64)) (xs := v7.Words) (e := 3) (by first | rfl | omega | (simp only [List.length_set, over_len, List.length_replicate, List.length_append, List.length_cons, List.length_nil, List.length_take, List.length_drop] <;> omega)) len_eI no_eI cl_eI (by kernel_rfl)) (clos_c (clo_flr (B := B_50) (xs := v7.Guests) (e := 50) oc_O_50 len_O_50 (by first | rfl | omega | (simp only [List.length_set, over_len, List.length_replicate, List.length_append, List.length_cons, List.length_nil, List.length_take, List.length_drop] <;> omega)) (by kernel_rfl)) clos_n))) clz_n))) rfl rfl (by kernel_rfl) ?_)
 refine yt (sp 69 [(1, pp 0), (4, sw 3 v3), (5, pp 6), (6, sw 7 v5), (31, bb (!v8))]) [(0, some q1), (3, some ⟨3, (fl (eI .i64) v3)⟩), (4, some q3), (5, some q2), (6, some q4), (7, some ⟨3, (fl (eI .i64) v5)⟩)] 10 ?_
 rcases cond_some hh with ⟨hb, hh⟩ | ⟨hb, hh⟩
 · refine cT hb ?_
   refine sy [2] [] (sp 69 [(2, bb false)]) [] 10 ?_
   refine Aw.ret ?_
   refine then_r ?_
   rw [some_some hh]
   exact gvb
 refine cF hb ?_
 refine Aw.xskip (fun _ _ _ hq => then_m hq) ?_
 refine sy [1, 4, 5, 6, 7] [0, 3, 4, 5, 6, 7] (sp 69 [(1, pp 0), (4, sw 3 v3), (5, pp 6), (6, sw 7 v5), (7, ii 1)]) [(0, some q1), (3, some ⟨3, (fl (eI .i64) v3)⟩), (4, some q3), (5, some q2), (6, some q4), (7, some ⟨3, (fl (eI .i64) v5)⟩)] 10 ?_
 refine Aw.sreg [1, 4, 6, 7] [0, 3, 7] (yu 2 [(32, .agg [sw 4 v4.Words, .sref 5 [] 0 (List.length v4.Guests) 17]), (33, ii 1)] [(0, some q1), (3, some ⟨3, (fl (eI .i64) v3)⟩), (4, some q3), (5, some q2), (6, some q4), (7, some ⟨3, (fl (eI .i64) v5)⟩)] 10 ?_)
 obtain ⟨v9, hv9, hh⟩ := bind_some hh
 obtain ⟨hg3, hh⟩ := grd_some hh
 obtain ⟨hg4, hh⟩ := grd_some hh
 refine ys (.call 44 [(.t 32), (.t 33)]) (some 34) (op_callf (v' := ii v9.2.2) (Hp' := [(4, some ⟨3, (fl (eI .i64) v9.1)⟩), (5, some ⟨50, (fl O_50 v9.2.1)⟩)]) (n' := 10) [4, 5] (laws_markHost_fn hv9) (args' := [.agg [sw 4 v4.Words, .sref 5 [] 0 (List.length v4.Guests) 17], ii 1]) (by kernel_rfl) rfl rfl rfl (rens_c (ren_agg (rens_c ren_sx (rens_c ren_sx rens_n))) (rens_i rens_n)) rfl (hq q2 (rens_same (noRefs_fl nr_O_50)) (hq q3 (rens_same (noRefs_fl nr_eI)) hs_nil)) ren_i rfl (hq ⟨3, (fl (eI .i64) v9.1)⟩ (rens_same (noRefs_fl nr_eI)) (hq ⟨50, (fl O_50 v9.2.1)⟩ (rens_same (noRefs_fl nr_O_50)) hs_nil)) rfl ?_)
 refine yt (sp 69 [(1, pp 0), (4, sw 3 v3), (6, sw 7 v5), (7, ii v9.2.2)]) [(0, some q1), (3, some ⟨3, (fl (eI .i64) v3)⟩), (7, some ⟨3, (fl (eI .i64) v5)⟩)] 10 ?_
 refine Aw.seq ?_
 refine Aw.sreg [1, 4, 6, 42] [0, 3, 7] (yj 3  (sp 69 [(1, pp 0), (4, sw 3 v3), (6, sw 7 v5), (7, ii v9.2.2), (35, ii v9.2.2), (36, bb (decide (v9.2.2 < (0 : Int)))), (37, bb (decide (v9.2.2 < (0 : Int))))]) [(0, some q1), (3, some ⟨3, (fl (eI .i64) v3)⟩), (7, some ⟨3, (fl (eI .i64) v5)⟩)] 10 ?_)
 rcases cond_some hh with ⟨hb, hh⟩ | ⟨hb, hh⟩
 · refine yb 36 hb ?_
   refine yb 37 hb ?_
   refine yt (sp 69 [(1, pp 0), (4, sw 3 v3), (6, sw 7 v5), (42, bb true)]) [(0, some q1), (3, some ⟨3, (fl (eI .i64) v3)⟩), (7, some ⟨3, (fl (eI .i64) v5)⟩)] 10 ?_
   refine cT rfl ?_
   refine sy [2] [] (sp 69 [(2, bb false)]) [] 10 ?_
   refine Aw.ret ?_
   refine then_r ?_
   rw [some_some hh]
   exact gvb
 refine yb 36 hb ?_
 refine yb 37 hb ?_
 refine yu 2 [(36, bb false), (37, bb false), (38, sw 7 v5), (39, sw 3 v3)] [(0, some q1), (3, some ⟨3, (fl (eI .i64) v3)⟩), (7, some ⟨3, (fl (eI .i64) v5)⟩)] 10 ?_
 obtain ⟨v10, hv10, hh⟩ := bind_some hh
 refine yg (.call 49 [(.t 38), (.t 39)]) (some 40) 37 false (op_call (r := bb v10) (v := bb v10) (Hr := []) (n' := 10) (laws_eqIntS_fn hv10) (clz_v (vs := [sw 7 v5, sw 3 v3]) (by kernel_rfl) (clz_c (clo_own (c := (eI .i64)) (xs := v5) (e := 3) (by first | rfl | omega | (simp only [List.length_set, over_len, List.length_replicate, List.length_append, List.length_cons, List.length_nil, List.length_take, List.length_drop] <;> omega)) len_eI no_eI cl_eI (by kernel_rfl)) (clz_c (clo_own (c := (eI .i64)) (xs := v3) (e := 3) (by first | rfl | omega | (simp only [List.length_set, over_len, List.length_replicate, List.length_append, List.length_cons, List.length_nil, List.length_take, List.length_drop] <;> omega)) len_eI no_eI cl_eI (by kernel_rfl)) clz_n))) rfl rfl (by kernel_rfl) ?_)
 refine yt (sp 69 [(1, pp 0), (4, sw 3 v3), (6, sw 7 v5), (42, bb (!v10))]) [(0, some q1), (3, some ⟨3, (fl (eI .i64) v3)⟩), (7, some ⟨3, (fl (eI .i64) v5)⟩)] 10 ?_
 rcases cond_some hh with ⟨hb, hh⟩ | ⟨hb, hh⟩
 · refine cT hb ?_
   refine sy [2] [] (sp 69 [(2, bb false)]) [] 10 ?_
   refine Aw.ret ?_
   refine then_r ?_
   rw [some_some hh]
   exact gvb
 refine cF hb ?_
 refine Aw.xskip (fun _ _ _ hq => then_m hq) ?_
 refine sy [1, 4, 6, 8] [0, 3, 7] (sp 69 [(1, pp 0), (4, sw 3 v3), (6, sw 7 v5), (8, ii 1)]) [(0, some q1), (3, some ⟨3, (fl (eI .i64) v3)⟩), (7, some ⟨3, (fl (eI .i64) v5)⟩)] 10 ?_
 refine Aw.sreg [1, 4, 6, 8] [0, 3, 7] (yu 2 [(43, sw 7 v5), (44, ii 1)] [(0, some q1), (3, some ⟨3, (fl (eI .i64) v3)⟩), (7, some ⟨3, (fl (eI .i64) v5)⟩)] 10 ?_)
 obtain ⟨v11, hv11, hh⟩ := bind_some hh
 obtain ⟨hg6, hh⟩ := grd_some hh
 let q7 : Root := ⟨3, (fl (eI .i64) v11.1)⟩
 refine ys (.call 50 [(.t 43), (.t 44)]) (some 45) (op_callf (v' := ii v11.2) (Hp' := [(7, some q7)]) (n' := 10) [7] (laws_markIntS_fn hv11) (args' := [sw 7 v5, ii 1]) (by kernel_rfl) rfl rfl rfl (rens_c ren_sx (rens_i rens_n)) rfl (hq ⟨3, (fl (eI .i64) v5)⟩ (rens_same (noRefs_fl nr_eI)) hs_nil) ren_i rfl (hq q7 (rens_same (noRefs_fl nr_eI)) hs_nil) rfl ?_)
 refine yt (sp 69 [(1, pp 0), (4, sw 3 v3), (6, sw 7 v5), (8, ii v11.2)]) [(0, some q1), (3, some ⟨3, (fl (eI .i64) v3)⟩), (7, some q7)] 10 ?_
 refine sy [1, 4, 6, 8, 9] [0, 3, 7] (sp 69 [(1, pp 0), (4, sw 3 v3), (6, sw 7 v5), (8, ii v11.2), (9, ii 1)]) [(0, some q1), (3, some ⟨3, (fl (eI .i64) v3)⟩), (7, some q7)] 10 ?_
 refine Aw.sreg [1, 4, 6, 8, 9] [0, 3, 7] (yu 2 [(46, sw 7 v5), (47, ii 1)] [(0, some q1), (3, some ⟨3, (fl (eI .i64) v3)⟩), (7, some q7)] 10 ?_)
 obtain ⟨v12, hv12, hh⟩ := bind_some hh
 refine ys (.call 51 [(.t 46), (.t 47)]) (some 48) (op_call (r := ii v12) (v := ii v12) (Hr := []) (n' := 10) (laws_heldIntS_fn hv12) (clz_v (vs := [sw 7 v5, ii 1]) (by kernel_rfl) (clz_c (clo_own (c := (eI .i64)) (xs := v11.1) (e := 3) (by first | rfl | omega | (simp only [List.length_set, over_len, List.length_replicate, List.length_append, List.length_cons, List.length_nil, List.length_take, List.length_drop] <;> omega)) len_eI no_eI cl_eI (by kernel_rfl)) (cz1 clz_n))) rfl rfl (by kernel_rfl) ?_)
 refine yt (sp 69 [(1, pp 0), (4, sw 3 v3), (6, sw 7 v5), (8, ii v11.2), (9, ii v12)]) [(0, some q1), (3, some ⟨3, (fl (eI .i64) v3)⟩), (7, some q7)] 10 ?_
 refine Aw.seq ?_
 refine sy [1, 4, 6, 8, 9, 50] [0, 3, 7] (sp 69 [(1, pp 0), (4, sw 3 v3), (6, sw 7 v5), (8, ii v11.2), (9, ii v12), (50, bb (decide (v12 < (0 : Int))))]) [(0, some q1), (3, some ⟨3, (fl (eI .i64) v3)⟩), (7, some q7)] 10 ?_
 rcases cond_some hh with ⟨hb, hh⟩ | ⟨hb, hh⟩
 · refine cT hb ?_
   refine sy [2] [] (sp 69 [(2, bb false)]) [] 10 ?_
   refine Aw.ret ?_
   refine then_r ?_
   rw [some_some hh]
   exact gvb
 refine cF hb ?_
 refine Aw.xskip (fun _ _ _ hq => then_m hq) ?_
 refine Aw.seq ?_
 refine sy [1, 4, 6, 8, 53] [0, 3, 7] (sp 69 [(1, pp 0), (4, sw 3 v3), (6, sw 7 v5), (8, ii v11.2), (53, bb (!decide (v12 = v11.2)))]) [(0, some q1), (3, some ⟨3, (fl (eI .i64) v3)⟩), (7, some q7)] 10 ?_
 rcases cond_some hh with ⟨hb, hh⟩ | ⟨hb, hh⟩
 · refine cT hb ?_
   refine sy [2] [] (sp 69 [(2, bb false)]) [] 10 ?_
   refine Aw.ret ?_
   refine then_r ?_
   rw [some_some hh]
   exact gvb
 refine cF hb ?_
 refine Aw.xskip (fun _ _ _ hq => then_m hq) ?_
 refine Aw.sreg [4, 6, 8, 10] [3, 7, 12] (yj 1  (sp 69 [(1, pp 0), (4, sw 3 v3), (6, sw 7 v5), (8, ii v11.2), (53, bb (!decide (v12 = v11.2))), (54, .agg [bo (eI .i64) x_aH.Words, bo B_121 x_aH.Guests])]) [(0, some q1), (3, some ⟨3, (fl (eI .i64) v3)⟩), (7, some q7)] 10 ?_)
 obtain ⟨v13, hv13, hh⟩ := bind_some hh
 refine ys (.call 42 [(.t 54)]) (some 55) (op_call (r := .agg [.own 3 1 (List.length v13.Words) (fl (eI .i64) v13.Words), .own 50 17 (List.length v13.Guests) (fl O_50 v13.Guests)]) (v := .agg [sw 10 v13.Words, .sref 11 [] 0 (List.length v13.Guests) 17]) (Hr := [(11, some ⟨50, (fl O_50 v13.Guests)⟩), (10, some ⟨3, (fl (eI .i64) v13.Words)⟩)]) (n' := 12) (laws_toHost_fn hv13) (clz_v (vs := [.agg [bo (eI .i64) x_aH.Words, bo B_121 x_aH.Guests]]) (by kernel_rfl) (clz_c (clo_agg (clos_c (clo_same (clean_bor (cleans_fl cl_eI))) (clos_c (clo_same (clean_bor (cleans_fl cl_B_121))) clos_n))) clz_n)) (by simp only [AV.noRef, noRefs, Bool.and_self, noRefs_fl nr_eI, noRefs_fl nr_O_50]) (by simp only [AV.noBor, noBors, Bool.and_self, noBors_fl nb_eI, noBors_fl nb_O_50]) (by kernel_rfl) ?_)
 obtain ⟨v14, hv14, hh⟩ := bind_some hh
 refine ys (.call 25 [(.t 55)]) (some 56) (op_call (r := .own 3 1 (List.length v14) (fl (eI .i64) v14)) (v := sw 12 v14) (Hr := [(12, some ⟨3, (fl (eI .i64) v14)⟩)]) (n' := 13) (impl_HostFree_fn hv14) (clz_v (vs := [.agg [sw 10 v13.Words, .sref 11 [] 0 (List.length v13.Guests) 17]]) (by kernel_rfl) (clz_c (clo_agg (clos_c (clo_own (c := (eI .i64)) (xs := v13.Words) (e := 3) (by first | rfl | omega | (simp only [List.length_set, over_len, List.length_replicate, List.length_append, List.length_cons, List.length_nil, List.length_take, List.length_drop] <;> omega)) len_eI no_eI cl_eI (by kernel_rfl)) (clos_c (clo_flr (B := B_50) (xs := v13.Guests) (e := 50) oc_O_50 len_O_50 (by first | rfl | omega | (simp only [List.length_set, over_len, List.length_replicate, List.length_append, List.length_cons, List.length_nil, List.length_take, List.length_drop] <;> omega)) (by kernel_rfl)) clos_n))) clz_n)) (by simp only [AV.noRef, noRefs, Bool.and_self, noRefs_fl nr_eI]) (by simp only [AV.noBor, noBors, Bool.and_self, noBors_fl nb_eI]) (by kernel_rfl) ?_)
 refine yt (sp 69 [(4, sw 3 v3), (6, sw 7 v5), (8, ii v11.2), (10, sw 12 v14)]) [(3, some ⟨3, (fl (eI .i64) v3)⟩), (7, some q7), (12, some ⟨3, (fl (eI .i64) v14)⟩)] 13 ?_
 refine Aw.seq ?_
 refine Aw.sreg [6, 8, 60] [7] (yj 2  (sp 69 [(4, sw 3 v3), (6, sw 7 v5), (8, ii v11.2), (10, sw 12 v14), (57, sw 12 v14), (58, sw 3 v3)]) [(3, some ⟨3, (fl (eI .i64) v3)⟩), (7, some q7), (12, some ⟨3, (fl (eI .i64) v14)⟩)] 13 ?_)
 obtain ⟨v15, hv15, hh⟩ := bind_some hh
 refine ys (.call 49 [(.t 57), (.t 58)]) (some 59) (op_call (r := bb v15) (v := bb v15) (Hr := []) (n' := 13) (laws_eqIntS_fn hv15) (clz_v (vs := [sw 12 v14, sw 3 v3]) (by kernel_rfl) (clz_c (clo_own (c := (eI .i64)) (xs := v14) (e := 3) (by first | rfl | omega | (simp only [List.length_set, over_len, List.length_replicate, List.length_append, List.length_cons, List.length_nil, List.length_take, List.length_drop] <;> omega)) len_eI no_eI cl_eI (by kernel_rfl)) (clz_c (clo_own (c := (eI .i64)) (xs := v3) (e := 3) (by first | rfl | omega | (simp only [List.length_set, over_len, List.length_replicate, List.length_append, List.length_cons, List.length_nil, List.length_take, List.length_drop] <;> omega)) len_eI no_eI cl_eI (by kernel_rfl)) clz_n))) rfl rfl (by kernel_rfl) ?_)
 refine yt (sp 69 [(6, sw 7 v5), (8, ii v11.2), (60, bb (!v15))]) [(7, some q7)] 13 ?_
 rcases cond_some hh with ⟨hb, hh⟩ | ⟨hb, hh⟩
 · refine cT hb ?_
   refine sy [2] [] (sp 69 [(2, bb false)]) [] 13 ?_
   refine Aw.ret ?_
   refine then_r ?_
   rw [some_some hh]
   exact gvb
 refine cF hb ?_
 refine Aw.xskip (fun _ _ _ hq => then_m hq) ?_
 refine sy [6, 8, 9] [7] (sp 69 [(6, sw 7 v5), (8, ii v11.2), (9, ii 1)]) [(7, some q7)] 13 ?_
 refine Aw.sreg [8, 9] [] (yu 2 [(61, sw 7 v5), (62, ii 1)] [(7, some q7)] 13 ?_)
 obtain ⟨v16, hv16, hh⟩ := bind_some hh
 refine ys (.call 51 [(.t 61), (.t 62)]) (some 63) (op_call (r := ii v16) (v := ii v16) (Hr := []) (n' := 13) (laws_heldIntS_fn hv16) (clz_v (vs := [sw 7 v5, ii 1]) (by kernel_rfl) (clz_c (clo_own (c := (eI .i64)) (xs := v11.1) (e := 3) (by first | rfl | omega | (simp only [List.length_set, over_len, List.length_replicate, List.length_append, List.length_cons, List.length_nil, List.length_take, List.length_drop] <;> omega)) len_eI no_eI cl_eI (by kernel_rfl)) (cz1 clz_n))) rfl rfl (by kernel_rfl) ?_)
 refine yt (sp 69 [(8, ii v11.2), (9, ii v16)]) [] 13 ?_
 refine Aw.seq ?_
 refine sy [8, 9, 65] [] (sp 69 [(8, ii v11.2), (9, ii v16), (65, bb (decide (v16 < (0 : Int))))]) [] 13 ?_
 rcases cond_some hh with ⟨hb, hh⟩ | ⟨hb, hh⟩
 · refine cT hb ?_
   refine sy [2] [] (sp 69 [(2, bb false)]) [] 13 ?_
   refine Aw.ret ?_
   refine then_r ?_
   rw [some_some hh]
   exact gvb
 refine cF hb ?_
 refine Aw.xskip (fun _ _ _ hq => then_m hq) ?_
 refine Aw.seq ?_
 refine sy [68] [] (sp 69 [(68, bb (!decide (v16 = v11.2)))]) [] 13 ?_
 rcases cond_some hh with ⟨hb, hh⟩ | ⟨hb, hh⟩
 · refine cT hb ?_
   refine sy [2] [] (sp 69 [(2, bb false)]) [] 13 ?_
   refine Aw.ret ?_
   refine then_r ?_
   rw [some_some hh]
   exact gvb
 refine cF hb ?_
 refine Aw.xskip (fun _ _ _ hq => then_m hq) ?_
 refine sy [2] [] (sp 69 [(2, bb true)]) [] 13 ?_
 refine Aw.ret ?_
 rw [some_some hh]
 exact gvb
end Go.Proofs.Ytbogmfjpabfhpaa
