/- Plain functions of the program, and that it hands back what they say. Made by program. -/
import Derived.Test.YtbogmfjpabfhpaaWT
import Derived.Test.YtbogmfjpabfhpaaProg
import Derived.Test.YtbogmfjpabfhpaaWHM1
import Derived.Test.YtbogmfjpabfhpaaWHN1
import Derived.Test.YtbogmfjpabfhpaaWHT1
namespace Go.Proofs.Ytbogmfjpabfhpaa
open Go.RowKit
set_option maxRecDepth 100000
set_option linter.all false
set_option maxHeartbeats 0
def Lf10_r0 : List LOper := [oo 2 (.mv (.c (bb false)))]
def Lf10_r1 : List LOper := [om 8 0, oo 9 (.call 24 [(.t 8)]), oo 3 (.fresh 26 [.nil, .nil]), ⟨none, (.store 2 (.t 3) (.t 9)), none⟩]
def Lf10_r2 : List LOper := [om 10 0, oo 11 (.call 19 [(.t 10)]), oo 4 (.fresh 26 [.nil, .nil]), ⟨none, (.store 2 (.t 4) (.t 11)), none⟩]
def Lf10_r3 : List LOper := [oo 12 (.load true 2 (.t 4)), oo 13 (.load true 2 (.t 3)), oo 14 (.call 43 [(.t 12), (.t 13)]), oo 15 (.un .not (.t 14))]
def Lf10_r4 : List LOper := [oo 2 (.mv (.c (bb false)))]
def Lf10_r5 : List LOper := [oo 5 (.mv (.c (ii 1)))]
def Lf10_r6 : List LOper := [oo 16 (.load true 2 (.t 4)), om 17 5, oo 18 (.call 44 [(.t 16), (.t 17)]), om 5 18]
def Lf10_r7 : List LOper := [oo 6 (.mv (.c (ii 1)))]
def Lf10_r8 : List LOper := [oo 19 (.load true 2 (.t 4)), om 20 6, oo 21 (.call 45 [(.t 19), (.t 20)]), om 6 21]
def Lf10_r9 : List LOper := [om 22 6, oo 23 (.bin .lss (.t 22) (.c (ii 0)))]
def Lf10_r10 : List LOper := [oo 2 (.mv (.c (bb false)))]
def Lf10_r11 : List LOper := [om 24 6, om 25 5, oo 26 (.bin .neq (.t 24) (.t 25))]
def Lf10_r12 : List LOper := [oo 2 (.mv (.c (bb false)))]
def Lf10_r13 : List LOper := [om 27 0, oo 28 (.call 19 [(.t 27)]), oo 7 (.fresh 26 [.nil, .nil]), ⟨none, (.store 2 (.t 7) (.t 28)), none⟩]
def Lf10_r14 : List LOper := [oo 29 (.load true 2 (.t 7)), oo 30 (.load true 2 (.t 3)), oo 31 (.call 43 [(.t 29), (.t 30)]), oo 32 (.un .not (.t 31))]
def Lf10_r15 : List LOper := [oo 2 (.mv (.c (bb false)))]
def Lf10_r16 : List LOper := [oo 6 (.mv (.c (ii 1)))]
def Lf10_r17 : List LOper := [oo 33 (.load true 2 (.t 4)), om 34 6, oo 35 (.call 45 [(.t 33), (.t 34)]), om 6 35]
def Lf10_r18 : List LOper := [om 36 6, oo 37 (.bin .lss (.t 36) (.c (ii 0)))]
def Lf10_r19 : List LOper := [oo 2 (.mv (.c (bb false)))]
def Lf10_r20 : List LOper := [om 38 6, om 39 5, oo 40 (.bin .neq (.t 38) (.t 39))]
def Lf10_r21 : List LOper := [oo 2 (.mv (.c (bb false)))]
def Lf10_r22 : List LOper := [oo 2 (.mv (.c (bb true)))]
def Lf10 : LFun := ⟨41, [(.tmp 2)], (.seq (.reg false Lf10_r0) (.seq (.reg false Lf10_r1) (.seq (.reg false Lf10_r2) (.seq (.seq (.reg false Lf10_r3) (.cond (.t 15) (.seq (.reg false Lf10_r4) .ret) .skip)) (.seq (.reg false Lf10_r5) (.seq (.reg false Lf10_r6) (.seq (.reg false Lf10_r7) (.seq (.reg false Lf10_r8) (.seq (.seq (.reg false Lf10_r9) (.cond (.t 23) (.seq (.reg false Lf10_r10) .ret) .skip)) (.seq (.seq (.reg false Lf10_r11) (.cond (.t 26) (.seq (.reg false Lf10_r12) .ret) .skip)) (.seq (.reg false Lf10_r13) (.seq (.seq (.reg false Lf10_r14) (.cond (.t 32) (.seq (.reg false Lf10_r15) .ret) .skip)) (.seq (.reg false Lf10_r16) (.seq (.reg false Lf10_r17) (.seq (.seq (.reg false Lf10_r18) (.cond (.t 37) (.seq (.reg false Lf10_r19) .ret) .skip)) (.seq (.seq (.reg false Lf10_r20) (.cond (.t 40) (.seq (.reg false Lf10_r21) .ret) .skip)) (.seq (.reg false Lf10_r22) .ret)))))))))))))))))⟩
theorem low_laws_FnExactHostNew : lowFun Go.Proofs.Try.prog 10 = some Lf10 := by kernel_rfl
noncomputable def F_laws_FnExactHostNew (x_aNone : Int) : Option Bool :=
 Option.bind (F_spec_HostNew x_aNone) fun v1 =>
 Option.bind (F_impl_HostNew x_aNone) fun v2 =>
 Option.bind (F_laws_eqHost v2 v1) fun v3 =>
 cond (!v3)
  (some false)
  (Option.bind (F_laws_markHost v2 (1 : Int)) fun v4 =>
  grd (List.length v4.1 = (List.length v2.Words)) (grd (List.length v4.2.1 = (List.length v2.Guests)) (Option.bind (F_laws_heldHost (DHost.mk v4.1 v4.2.1) (1 : Int)) fun v5 =>
   cond (decide (v5 < (0 : Int)))
    (some false)
    (cond (!decide (v5 = v4.2.2))
     (some false)
     (Option.bind (F_impl_HostNew x_aNone) fun v6 =>
     Option.bind (F_laws_eqHost v6 v1) fun v7 =>
     cond (!v7)
      (some false)
      (Option.bind (F_laws_heldHost (DHost.mk v4.1 v4.2.1) (1 : Int)) fun v8 =>
      cond (decide (v8 < (0 : Int)))
       (some false)
       (cond (!decide (v8 = v4.2.2))
        (some false)
        (some true))))))))
theorem laws_FnExactHostNew_fn {x_aNone : Int} {R_ : Bool} (hh : F_laws_FnExactHostNew x_aNone = some R_) : Fn Try.prog 10 [.int .i64 x_aNone] (.bool R_) := by
 unfold F_laws_FnExactHostNew at hh
 refine Fn.start low_laws_FnExactHostNew [0] (E := sp 41 [(0, ii x_aNone)]) (by kernel_rfl) (v := bb R_) (Hr := []) (k := 0) (by kernel_rfl) ?_
 refine sy [0] [] (sp 41 [(0, ii x_aNone)]) [] 0 ?_
 refine Aw.sreg [0, 3] [0, 1, 2] (yu 1 [(8, ii x_aNone)] [] 0 ?_)
 obtain ⟨v1, hv1, hh⟩ := bind_some hh
 let q1 : Root := ⟨50, (fl O_50 v1.Guests)⟩
 let q2 : Root := ⟨3, (fl (eI .i64) v1.Words)⟩
 refine ys (.call 24 [(.t 8)]) (some 9) (op_call (r := .agg [.own 3 1 (List.length v1.Words) (fl (eI .i64) v1.Words), .own 50 17 (List.length v1.Guests) (fl O_50 v1.Guests)]) (v := .agg [sw 0 v1.Words, .sref 1 [] 0 (List.length v1.Guests) 17]) (Hr := [(1, some q1), (0, some q2)]) (n' := 2) (spec_HostNew_fn hv1) (clz_v (vs := [ii x_aNone]) (by kernel_rfl) (cz1 clz_n)) (by simp only [AV.noRef, noRefs, Bool.and_self, noRefs_fl nr_eI, noRefs_fl nr_O_50]) (by simp only [AV.noBor, noBors, Bool.and_self, noBors_fl nb_eI, noBors_fl nb_O_50]) (by kernel_rfl) ?_)
 let q3 : Root := ⟨26, [sw 0 v1.Words, .sref 1 [] 0 (List.length v1.Guests) 17]⟩
 refine yt (sp 41 [(0, ii x_aNone), (3, pp 2)]) [(0, some q2), (1, some q1), (2, some q3)] 3 ?_
 refine Aw.sreg [0, 3, 4] [0, 1, 2, 3, 4, 5] (yu 1 [(10, ii x_aNone)] [(0, some q2), (1, some q1), (2, some q3)] 3 ?_)
 obtain ⟨v2, hv2, hh⟩ := bind_some hh
 let q4 : Root := ⟨50, (fl O_50 v2.Guests)⟩
 let q5 : Root := ⟨3, (fl (eI .i64) v2.Words)⟩
 refine ys (.call 19 [(.t 10)]) (some 11) (op_call (r := .agg [.own 3 1 (List.length v2.Words) (fl (eI .i64) v2.Words), .own 50 17 (List.length v2.Guests) (fl O_50 v2.Guests)]) (v := .agg [sw 3 v2.Words, .sref 4 [] 0 (List.length v2.Guests) 17]) (Hr := [(4, some q4), (3, some q5)]) (n' := 5) (impl_HostNew_fn hv2) (clz_v (vs := [ii x_aNone]) (by kernel_rfl) (cz1 clz_n)) (by simp only [AV.noRef, noRefs, Bool.and_self, noRefs_fl nr_eI, noRefs_fl nr_O_50]) (by simp only [AV.noBor, noBors, Bool.and_self, noBors_fl nb_eI, noBors_fl nb_O_50]) (by kernel_rfl) ?_)
 let q6 : Root := ⟨26, [sw 3 v2.Words, .sref 4 [] 0 (List.length v2.Guests) 17]⟩
 refine yt (sp 41 [(0, ii x_aNone), (3, pp 2), (4, pp 5)]) [(0, some q2), (1, some q1), (2, some q3), (3, some q5), (4, some q4), (5, some q6)] 6 ?_
 refine Aw.seq ?_
 refine Aw.sreg [0, 3, 4, 15] [0, 1, 2, 3, 4, 5] (yj 2  (sp 41 [(0, ii x_aNone), (3, pp 2), (4, pp 5), (12, .agg [sw 3 v2.Words, .sref 4 [] 0 (List.length v2.Guests) 17]), (13, .agg [sw 0 v1.Words, .sref 1 [] 0 (List.length v1.Guests) 17])]) [(0, some q2), (1, some q1), (2, some q3), (3, some q5), (4, some q4), (5, some q6)] 6 ?_)
 obtain ⟨v3, hv3, hh⟩ := bind_some hh
 refine ys (.call 43 [(.t 12), (.t 13)]) (some 14) (op_call (r := bb v3) (v := bb v3) (Hr := []) (n' := 6) (laws_eqHost_fn hv3) (clz_v (vs := [.agg [sw 3 v2.Words, .sref 4 [] 0 (List.length v2.Guests) 17], .agg [sw 0 v1.Words, .sref 1 [] 0 (List.length v1.Guests) 17]]) (by kernel_rfl) (clz_c (clo_agg (clos_c (clo_own (c := (eI .i64)) (xs := v2.Words) (e := 3) (by first | rfl | omega | (simp only [List.length_set, over_len, List.length_replicate, List.length_append, List.length_cons, List.length_nil, List.length_take, List.length_drop] <;> omega)) len_eI no_eI cl_eI (by kernel_rfl)) (clos_c (clo_flr (B := B_50) (xs := v2.Guests) (e := 50) oc_O_50 len_O_50 (by first | rfl | omega | (simp only [List.length_set, over_len, List.length_replicate, List.length_append, List.length_cons, List.length_nil, List.length_take, List.length_drop] <;> omega)) (by kernel_rfl)) clos_n))) (clz_c (clo_agg (clos_c (clo_own (c := (eI .i64)) (xs := v1.Words) (e := 3) (by first | rfl | omega | (simp only [List.length_set, over_len, List.length_replicate, List.length_append, List.length_cons, List.length_nil, List.length_take, List.length_drop] <;> omega)) len_eI no_eI cl_eI (by kernel_rfl)) (clos_c (clo_flr (B := B_50) (xs := v1.Guests) (e := 50) oc_O_50 len_O_50 (by first | rfl | omega | (simp only [List.length_set, over_len, List.length_replicate, List.length_append, List.length_cons, List.length_nil, List.length_take, List.length_drop] <;> omega)) (by kernel_rfl)) clos_n))) clz_n))) rfl rfl (by kernel_rfl) ?_)
 refine yt (sp 41 [(0, ii x_aNone), (3, pp 2), (4, pp 5), (15, bb (!v3))]) [(0, some q2), (1, some q1), (2, some q3), (3, some q5), (4, some q4), (5, some q6)] 6 ?_
 rcases cond_some hh with ⟨hb, hh⟩ | ⟨hb, hh⟩
 · refine cT hb ?_
   refine sy [2] [] (sp 41 [(2, bb false)]) [] 6 ?_
   refine Aw.ret ?_
   refine then_r ?_
   rw [some_some hh]
   exact gvb
 refine cF hb ?_
 refine Aw.xskip (fun _ _ _ hq => then_m hq) ?_
 refine sy [0, 3, 4, 5] [0, 1, 2, 3, 4, 5] (sp 41 [(0, ii x_aNone), (3, pp 2), (4, pp 5), (5, ii 1)]) [(0, some q2), (1, some q1), (2, some q3), (3, some q5), (4, some q4), (5, some q6)] 6 ?_
 refine Aw.sreg [0, 3, 4, 5] [0, 1, 2, 3, 4, 5] (yu 2 [(16, .agg [sw 3 v2.Words, .sref 4 [] 0 (List.length v2.Guests) 17]), (17, ii 1)] [(0, some q2), (1, some q1), (2, some q3), (3, some q5), (4, some q4), (5, some q6)] 6 ?_)
 obtain ⟨v4, hv4, hh⟩ := bind_some hh
 obtain ⟨hg3, hh⟩ := grd_some hh
 obtain ⟨hg4, hh⟩ := grd_some hh
 refine ys (.call 44 [(.t 16), (.t 17)]) (some 18) (op_callf (v' := ii v4.2.2) (Hp' := [(3, some ⟨3, (fl (eI .i64) v4.1)⟩), (4, some ⟨50, (fl O_50 v4.2.1)⟩)]) (n' := 6) [3, 4] (laws_markHost_fn hv4) (args' := [.agg [sw 3 v2.Words, .sref 4 [] 0 (List.length v2.Guests) 17], ii 1]) (by kernel_rfl) rfl rfl rfl (rens_c (ren_agg (rens_c ren_sx (rens_c ren_sx rens_n))) (rens_i rens_n)) rfl (hq q4 (rens_same (noRefs_fl nr_O_50)) (hq q5 (rens_same (noRefs_fl nr_eI)) hs_nil)) ren_i rfl (hq ⟨3, (fl (eI .i64) v4.1)⟩ (rens_same (noRefs_fl nr_eI)) (hq ⟨50, (fl O_50 v4.2.1)⟩ (rens_same (noRefs_fl nr_O_50)) hs_nil)) rfl ?_)
 refine yt (sp 41 [(0, ii x_aNone), (3, pp 2), (4, pp 5), (5, ii v4.2.2)]) [(0, some q2), (1, some q1), (2, some q3), (3, some ⟨3, (fl (eI .i64) v4.1)⟩), (4, some ⟨50, (fl O_50 v4.2.1)⟩), (5, some q6)] 6 ?_
 refine sy [0, 3, 4, 5, 6] [0, 1, 2, 3, 4, 5] (sp 41 [(0, ii x_aNone), (3, pp 2), (4, pp 5), (5, ii v4.2.2), (6, ii 1)]) [(0, some q2), (1, some q1), (2, some q3), (3, some ⟨3, (fl (eI .i64) v4.1)⟩), (4, some ⟨50, (fl O_50 v4.2.1)⟩), (5, some q6)] 6 ?_
 refine Aw.sreg [0, 3, 4, 5, 6] [0, 1, 2, 3, 4, 5] (yu 2 [(19, .agg [sw 3 v2.Words, .sref 4 [] 0 (List.length v2.Guests) 17]), (20, ii 1)] [(0, some q2), (1, some q1), (2, some q3), (3, some ⟨3, (fl (eI .i64) v4.1)⟩), (4, some ⟨50, (fl O_50 v4.2.1)⟩), (5, some q6)] 6 ?_)
 obtain ⟨v5, hv5, hh⟩ := bind_some hh
 refine ys (.call 45 [(.t 19), (.t 20)]) (some 21) (op_call (r := ii v5) (v := ii v5) (Hr := []) (n' := 6) (laws_heldHost_fn hv5) (clz_v (vs := [.agg [sw 3 v2.Words, .sref 4 [] 0 (List.length v2.Guests) 17], ii 1]) (by kernel_rfl) (clz_c (clo_agg (clos_c (clo_own (c := (eI .i64)) (xs := v4.1) (e := 3) (by first | rfl | omega | (simp only [List.length_set, over_len, List.length_replicate, List.length_append, List.length_cons, List.length_nil, List.length_take, List.length_drop] <;> omega)) len_eI no_eI cl_eI (by kernel_rfl)) (clos_c (clo_flr (B := B_50) (xs := v4.2.1) (e := 50) oc_O_50 len_O_50 (by first | rfl | omega | (simp only [List.length_set, over_len, List.length_replicate, List.length_append, List.length_cons, List.length_nil, List.length_take, List.length_drop] <;> omega)) (by kernel_rfl)) clos_n))) (cz1 clz_n))) rfl rfl (by kernel_rfl) ?_)
 refine yt (sp 41 [(0, ii x_aNone), (3, pp 2), (4, pp 5), (5, ii v4.2.2), (6, ii v5)]) [(0, some q2), (1, some q1), (2, some q3), (3, some ⟨3, (fl (eI .i64) v4.1)⟩), (4, some ⟨50, (fl O_50 v4.2.1)⟩), (5, some q6)] 6 ?_
 refine Aw.seq ?_
 refine sy [0, 3, 4, 5, 6, 23] [0, 1, 2, 3, 4, 5] (sp 41 [(0, ii x_aNone), (3, pp 2), (4, pp 5), (5, ii v4.2.2), (6, ii v5), (23, bb (decide (v5 < (0 : Int))))]) [(0, some q2), (1, some q1), (2, some q3), (3, some ⟨3, (fl (eI .i64) v4.1)⟩), (4, some ⟨50, (fl O_50 v4.2.1)⟩), (5, some q6)] 6 ?_
 rcases cond_some hh with ⟨hb, hh⟩ | ⟨hb, hh⟩
 · refine cT hb ?_
   refine sy [2] [] (sp 41 [(2, bb false)]) [] 6 ?_
   refine Aw.ret ?_
   refine then_r ?_
   rw [some_some hh]
   exact gvb
 refine cF hb ?_
 refine Aw.xskip (fun _ _ _ hq => then_m hq) ?_
 refine Aw.seq ?_
 refine sy [0, 3, 4, 5, 26] [0, 1, 2, 3, 4, 5] (sp 41 [(0, ii x_aNone), (3, pp 2), (4, pp 5), (5, ii v4.2.2), (26, bb (!decide (v5 = v4.2.2)))]) [(0, some q2), (1, some q1), (2, some q3), (3, some ⟨3, (fl (eI .i64) v4.1)⟩), (4, some ⟨50, (fl O_50 v4.2.1)⟩), (5, some q6)] 6 ?_
 rcases cond_some hh with ⟨hb, hh⟩ | ⟨hb, hh⟩
 · refine cT hb ?_
   refine sy [2] [] (sp 41 [(2, bb false)]) [] 6 ?_
   refine Aw.ret ?_
   refine then_r ?_
   rw [some_some hh]
   exact gvb
 refine cF hb ?_
 refine Aw.xskip (fun _ _ _ hq => then_m hq) ?_
 refine Aw.sreg [3, 4, 5, 7] [0, 1, 2, 3, 4, 5, 6, 7, 8] (yj 1  (sp 41 [(0, ii x_aNone), (3, pp 2), (4, pp 5), (5, ii v4.2.2), (26, bb (!decide (v5 = v4.2.2))), (27, ii x_aNone)]) [(0, some q2), (1, some q1), (2, some q3), (3, some ⟨3, (fl (eI .i64) v4.1)⟩), (4, some ⟨50, (fl O_50 v4.2.1)⟩), (5, some q6)] 6 ?_)
 obtain ⟨v6, hv6, hh⟩ := bind_some hh
 let q7 : Root := ⟨50, (fl O_50 v6.Guests)⟩
 let q8 : Root := ⟨3, (fl (eI .i64) v6.Words)⟩
 refine ys (.call 19 [(.t 27)]) (some 28) (op_call (r := .agg [.own 3 1 (List.length v6.Words) (fl (eI .i64) v6.Words), .own 50 17 (List.length v6.Guests) (fl O_50 v6.Guests)]) (v := .agg [sw 6 v6.Words, .sref 7 [] 0 (List.length v6.Guests) 17]) (Hr := [(7, some q7), (6, some q8)]) (n' := 8) (impl_HostNew_fn hv6) (clz_v (vs := [ii x_aNone]) (by kernel_rfl) (cz1 clz_n)) (by simp only [AV.noRef, noRefs, Bool.and_self, noRefs_fl nr_eI, noRefs_fl nr_O_50]) (by simp only [AV.noBor, noBors, Bool.and_self, noBors_fl nb_eI, noBors_fl nb_O_50]) (by kernel_rfl) ?_)
 let q9 : Root := ⟨26, [sw 6 v6.Words, .sref 7 [] 0 (List.length v6.Guests) 17]⟩
 refine yt (sp 41 [(3, pp 2), (4, pp 5), (5, ii v4.2.2), (7, pp 8)]) [(0, some q2), (1, some q1), (2, some q3), (3, some ⟨3, (fl (eI .i64) v4.1)⟩), (4, some ⟨50, (fl O_50 v4.2.1)⟩), (5, some q6), (6, some q8), (7, some q7), (8, some q9)] 9 ?_
 refine Aw.seq ?_
 refine Aw.sreg [4, 5, 32] [3, 4, 5] (yj 2  (sp 41 [(3, pp 2), (4, pp 5), (5, ii v4.2.2), (7, pp 8), (29, .agg [sw 6 v6.Words, .sref 7 [] 0 (List.length v6.Guests) 17]), (30, .agg [sw 0 v1.Words, .sref 1 [] 0 (List.length v1.Guests) 17])]) [(0, some q2), (1, some q1), (2, some q3), (3, some ⟨3, (fl (eI .i64) v4.1)⟩), (4, some ⟨50, (fl O_50 v4.2.1)⟩), (5, some q6), (6, some q8), (7, some q7), (8, some q9)] 9 ?_)
 obtain ⟨v7, hv7, hh⟩ := bind_some hh
 refine ys (.call 43 [(.t 29), (.t 30)]) (some 31) (op_call (r := bb v7) (v := bb v7) (Hr := []) (n' := 9) (laws_eqHost_fn hv7) (clz_v (vs := [.agg [sw 6 v6.Words, .sref 7 [] 0 (List.length v6.Guests) 17], .agg [sw 0 v1.Words, .sref 1 [] 0 (List.length v1.Guests) 17]]) (by kernel_rfl) (clz_c (clo_agg (clos_c (clo_own (c := (eI .i64)) (xs := v6.Words) (e := 3) (by first | rfl | omega | (simp only [List.length_set, over_len, List.length_replicate, List.length_append, List.length_cons, List.length_nil, List.length_take, List.length_drop] <;> omega)) len_eI no_eI cl_eI (by kernel_rfl)) (clos_c (clo_flr (B := B_50) (xs := v6.Guests) (e := 50) oc_O_50 len_O_50 (by first | rfl | omega | (simp only [List.length_set, over_len, List.length_replicate, List.length_append, List.length_cons, List.length_nil, List.length_take, List.length_drop] <;> omega)) (by kernel_rfl)) clos_n))) (clz_c (clo_agg (clos_c (clo_own (c := (eI .i64)) (xs := v1.Words) (e := 3) (by first | rfl | omega | (simp only [List.length_set, over_len, List.length_replicate, List.length_append, List.length_cons, List.length_nil, List.length_take, List.length_drop] <;> omega)) len_eI no_eI cl_eI (by kernel_rfl)) (clos_c (clo_flr (B := B_50) (xs := v1.Guests) (e := 50) oc_O_50 len_O_50 (by first | rfl | omega | (simp only [List.length_set, over_len, List.length_replicate, List.length_append, List.length_cons, List.length_nil, List.length_take, List.length_drop] <;> omega)) (by kernel_rfl)) clos_n))) clz_n))) rfl rfl (by kernel_rfl) ?_)
 refine yt (sp 41 [(4, pp 5), (5, ii v4.2.2), (32, bb (!v7))]) [(3, some ⟨3, (fl (eI .i64) v4.1)⟩), (4, some ⟨50, (fl O_50 v4.2.1)⟩), (5, some q6)] 9 ?_
 rcases cond_some hh with ⟨hb, hh⟩ | ⟨hb, hh⟩
 · refine cT hb ?_
   refine sy [2] [] (sp 41 [(2, bb false)]) [] 9 ?_
   refine Aw.ret ?_
   refine then_r ?_
   rw [some_some hh]
   exact gvb
 refine cF hb ?_
 refine Aw.xskip (fun _ _ _ hq => then_m hq) ?_
 refine sy [4, 5, 6] [3, 4, 5] (sp 41 [(4, pp 5), (5, ii v4.2.2), (6, ii 1)]) [(3, some ⟨3, (fl (eI .i64) v4.1)⟩), (4, some ⟨50, (fl O_50 v4.2.1)⟩), (5, some q6)] 9 ?_
 refine Aw.sreg [5, 6] [] (yu 2 [(33, .agg [sw 3 v2.Words, .sref 4 [] 0 (List.length v2.Guests) 17]), (34, ii 1)] [(3, some ⟨3, (fl (eI .i64) v4.1)⟩), (4, some ⟨50, (fl O_50 v4.2.1)⟩), (5, some q6)] 9 ?_)
 obtain ⟨v8, hv8, hh⟩ := bind_some hh
 refine ys (.call 45 [(.t 33), (.t 34)]) (some 35) (op_call (r := ii v8) (v := ii v8) (Hr := []) (n' := 9) (laws_heldHost_fn hv8) (clz_v (vs := [.agg [sw 3 v2.Words, .sref 4 [] 0 (List.length v2.Guests) 17], ii 1]) (by kernel_rfl) (clz_c (clo_agg (clos_c (clo_own (c := (eI .i64)) (xs := v4.1) (e := 3) (by first | rfl | omega | (simp only [List.length_set, over_len, List.length_replicate, List.length_append, List.length_cons, List.length_nil, List.length_take, List.length_drop] <;> omega)) len_eI no_eI cl_eI (by kernel_rfl)) (clos_c (clo_flr (B := B_50) (xs := v4.2.1) (e := 50) oc_O_50 len_O_50 (by first | rfl | omega | (simp only [List.length_set, over_len, List.length_replicate, List.length_append, List.length_cons, List.length_nil, List.length_take, List.length_drop] <;> omega)) (by kernel_rfl)) clos_n))) (cz1 clz_n))) rfl rfl (by kernel_rfl) ?_)
 refine yt (sp 41 [(5, ii v4.2.2), (6, ii v8)]) [] 9 ?_
 refine Aw.seq ?_
 refine sy [5, 6, 37] [] (sp 41 [(5, ii v4.2.2), (6, ii v8), (37, bb (decide (v8 < (0 : Int))))]) [] 9 ?_
 rcases cond_some hh with ⟨hb, hh⟩ | ⟨hb, hh⟩
 · refine cT hb ?_
   refine sy [2] [] (sp 41 [(2, bb false)]) [] 9 ?_
   refine Aw.ret ?_
   refine then_r ?_
   rw [some_some hh]
   exact gvb
 refine cF hb ?_
 refine Aw.xskip (fun _ _ _ hq => then_m hq) ?_
 refine Aw.seq ?_
 refine sy [40] [] (sp 41 [(40, bb (!decide (v8 = v4.2.2)))]) [] 9 ?_
 rcases cond_some hh with ⟨hb, hh⟩ | ⟨hb, hh⟩
 · refine cT hb ?_
   refine sy [2] [] (sp 41 [(2, bb false)]) [] 9 ?_
   refine Aw.ret ?_
   refine then_r ?_
   rw [some_some hh]
   exact gvb
 refine cF hb ?_
 refine Aw.xskip (fun _ _ _ hq => then_m hq) ?_
 refine sy [2] [] (sp 41 [(2, bb true)]) [] 9 ?_
 refine Aw.ret ?_
 rw [some_some hh]
 exact gvb
end Go.Proofs.Ytbogmfjpabfhpaa
