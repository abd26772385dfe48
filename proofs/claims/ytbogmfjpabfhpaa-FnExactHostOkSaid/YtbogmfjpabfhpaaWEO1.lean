/- Plain functions of the program, and that it hands back what they say. Made by program. -/
import Derived.Test.YtbogmfjpabfhpaaWT
import Derived.Test.YtbogmfjpabfhpaaProg
import Derived.Test.YtbogmfjpabfhpaaWHO1
import Derived.Test.YtbogmfjpabfhpaaWHT1
namespace Go.Proofs.Ytbogmfjpabfhpaa
open Go.RowKit
set_option maxRecDepth 100000
set_option linter.all false
set_option maxHeartbeats 0
def Lf9_r0 : List LOper := [oo 1 (.box 62 (.t 0)), oo 2 (.mv (.c (bb false)))]
def Lf9_r1 : List LOper := [oo 3 (.mv (.c (ii 1048576)))]
def Lf9_r2 : List LOper := [oo 7 (.load true 2 (.t 1)), om 8 3, oo 9 (.call 41 [(.t 7), (.t 8)]), om 3 9]
def Lf9_r3 : List LOper := [om 10 3, oo 11 (.bin .lss (.t 10) (.c (ii 0)))]
def Lf9_r4 : List LOper := [oo 2 (.mv (.c (bb true)))]
def Lf9_r5 : List LOper := [oo 12 (.load true 2 (.t 1)), oo 13 (.call 42 [(.t 12)]), oo 14 (.call 17 [(.t 13)]), om 4 14]
def Lf9_r6 : List LOper := [oo 15 (.load true 2 (.t 1)), oo 16 (.call 42 [(.t 15)]), oo 5 (.fresh 26 [.nil, .nil]), ⟨none, (.store 2 (.t 5) (.t 16)), none⟩]
def Lf9_r7 : List LOper := [oo 17 (.load true 2 (.t 5)), oo 18 (.call 16 [(.t 17)]), om 6 18]
def Lf9_r8 : List LOper := [om 19 6, om 20 4, oo 21 (.binb true (.t 19) (.t 20))]
def Lf9_r9 : List LOper := [oo 2 (.mv (.c (bb false)))]
def Lf9_r10 : List LOper := [oo 22 (.load true 2 (.t 5)), oo 23 (.load true 2 (.t 1)), oo 24 (.call 42 [(.t 23)])]
def Lf9_r10t : List LOper := [oo 25 (.call 43 [(.t 22), (.t 24)]), oo 26 (.un .not (.t 25))]
def Lf9_r12 : List LOper := [oo 2 (.mv (.c (bb false)))]
def Lf9_r13 : List LOper := [oo 2 (.mv (.c (bb true)))]
def Lf9 : LFun := ⟨27, [(.tmp 2)], (.seq (.reg false Lf9_r0) (.seq (.reg false Lf9_r1) (.seq (.reg false Lf9_r2) (.seq (.seq (.reg false Lf9_r3) (.cond (.t 11) (.seq (.reg false Lf9_r4) .ret) .skip)) (.seq (.reg false Lf9_r5) (.seq (.reg false Lf9_r6) (.seq (.reg false Lf9_r7) (.seq (.seq (.reg false Lf9_r8) (.cond (.t 21) (.seq (.reg false Lf9_r9) .ret) .skip)) (.seq (.seq (.regd Lf9_r10 Lf9_r10t) (.cond (.t 26) (.seq (.reg false Lf9_r12) .ret) .skip)) (.seq (.reg false Lf9_r13) .ret))))))))))⟩
theorem low_laws_FnExactHostOk : lowFun Go.Proofs.Try.prog 9 = some Lf9 := by kernel_rfl
noncomputable def F_laws_FnExactHostOk (x_aH : DHost) : Option Bool :=
 Option.bind (F_laws_szHost x_aH (1048576 : Int)) fun v1 =>
 cond (decide (v1 < (0 : Int)))
  (some true)
  (Option.bind (F_laws_toHost x_aH) fun v2 =>
  Option.bind (F_spec_HostOk v2) fun v3 =>
  Option.bind (F_laws_toHost x_aH) fun v4 =>
  Option.bind (F_impl_HostOk v4) fun v5 =>
  cond (!(v5 == v3))
   (some false)
   (Option.bind (F_laws_toHost x_aH) fun v6 =>
   Option.bind (F_laws_eqHost v4 v6) fun v7 =>
   cond (!v7)
    (some false)
    (some true)))
theorem laws_FnExactHostOk_fn {x_aH : DHost} {R_ : Bool} (hh : F_laws_FnExactHostOk x_aH = some R_) : Fn Try.prog 9 [.agg [bo (eI .i64) x_aH.Words, bo B_121 x_aH.Guests]] (.bool R_) := by
 unfold F_laws_FnExactHostOk at hh
 refine Fn.start low_laws_FnExactHostOk [0] (E := sp 27 [(0, .agg [bo (eI .i64) x_aH.Words, bo B_121 x_aH.Guests])]) (by kernel_rfl) (v := bb R_) (Hr := []) (k := 0) (by kernel_rfl) ?_
 refine Aw.sreg [1] [0] ?_
 let q1 : Root := ⟨62, [bo (eI .i64) x_aH.Words, bo B_121 x_aH.Guests]⟩
 refine yt (sp 27 [(1, pp 0)]) [(0, some q1)] 1 ?_
 refine sy [1, 3] [0] (sp 27 [(1, pp 0), (3, ii 1048576)]) [(0, some q1)] 1 ?_
 refine Aw.sreg [1, 3] [0] (yu 2 [(7, .agg [bo (eI .i64) x_aH.Words, bo B_121 x_aH.Guests]), (8, ii 1048576)] [(0, some q1)] 1 ?_)
 obtain ⟨v1, hv1, hh⟩ := bind_some hh
 refine ys (.call 41 [(.t 7), (.t 8)]) (some 9) (op_call (r := ii v1) (v := ii v1) (Hr := []) (n' := 1) (laws_szHost_fn hv1) (clz_v (vs := [.agg [bo (eI .i64) x_aH.Words, bo B_121 x_aH.Guests], ii 1048576]) (by kernel_rfl) (clz_c (clo_agg (clos_c (clo_same (clean_bor (cleans_fl cl_eI))) (clos_c (clo_same (clean_bor (cleans_fl cl_B_121))) clos_n))) (cz1 clz_n))) rfl rfl (by kernel_rfl) ?_)
 refine yt (sp 27 [(1, pp 0), (3, ii v1)]) [(0, some q1)] 1 ?_
 refine Aw.seq ?_
 refine sy [1, 11] [0] (sp 27 [(1, pp 0), (11, bb (decide (v1 < (0 : Int))))]) [(0, some q1)] 1 ?_
 rcases cond_some hh with ⟨hb, hh⟩ | ⟨hb, hh⟩
 · refine cT hb ?_
   refine sy [2] [] (sp 27 [(2, bb true)]) [] 1 ?_
   refine Aw.ret ?_
   refine then_r ?_
   rw [some_some hh]
   exact gvb
 refine cF hb ?_
 refine Aw.xskip (fun _ _ _ hq => then_m hq) ?_
 refine Aw.sreg [1, 4] [0] (yj 1  (sp 27 [(1, pp 0), (11, bb (decide (v1 < (0 : Int)))), (12, .agg [bo (eI .i64) x_aH.Words, bo B_121 x_aH.Guests])]) [(0, some q1)] 1 ?_)
 obtain ⟨v2, hv2, hh⟩ := bind_some hh
 refine ys (.call 42 [(.t 12)]) (some 13) (op_call (r := .agg [.own 3 1 (List.length v2.Words) (fl (eI .i64) v2.Words), .own 50 17 (List.length v2.Guests) (fl O_50 v2.Guests)]) (v := .agg [sw 1 v2.Words, .sref 2 [] 0 (List.length v2.Guests) 17]) (Hr := [(2, some ⟨50, (fl O_50 v2.Guests)⟩), (1, some ⟨3, (fl (eI .i64) v2.Words)⟩)]) (n' := 3) (laws_toHost_fn hv2) (clz_v (vs := [.agg [bo (eI .i64) x_aH.Words, bo B_121 x_aH.Guests]]) (by kernel_rfl) (clz_c (clo_agg (clos_c (clo_same (clean_bor (cleans_fl cl_eI))) (clos_c (clo_same (clean_bor (cleans_fl cl_B_121))) clos_n))) clz_n)) (by simp only [AV.noRef, noRefs, Bool.and_self, noRefs_fl nr_eI, noRefs_fl nr_O_50]) (by simp only [AV.noBor, noBors, Bool.and_self, noBors_fl nb_eI, noBors_fl nb_O_50]) (by kernel_rfl) ?_)
 obtain ⟨v3, hv3, hh⟩ := bind_some hh
 refine ys (.call 17 [(.t 13)]) (some 14) (op_call (r := bb v3) (v := bb v3) (Hr := []) (n' := 3) (spec_HostOk_fn hv3) (clz_v (vs := [.agg [sw 1 v2.Words, .sref 2 [] 0 (List.length v2.Guests) 17]]) (by kernel_rfl) (clz_c (clo_agg (clos_c (clo_own (c := (eI .i64)) (xs := v2.Words) (e := 3) (by first | rfl | omega | (simp only [List.length_set, over_len, List.length_replicate, List.length_append, List.length_cons, List.length_nil, List.length_take, List.length_drop] <;> omega)) len_eI no_eI cl_eI (by kernel_rfl)) (clos_c (clo_flr (B := B_50) (xs := v2.Guests) (e := 50) oc_O_50 len_O_50 (by first | rfl | omega | (simp only [List.length_set, over_len, List.length_replicate, List.length_append, List.length_cons, List.length_nil, List.length_take, List.length_drop] <;> omega)) (by kernel_rfl)) clos_n))) clz_n)) rfl rfl (by kernel_rfl) ?_)
 refine yt (sp 27 [(1, pp 0), (4, bb v3)]) [(0, some q1)] 3 ?_
 refine Aw.sreg [1, 4, 5] [0, 3, 4, 5] (yu 1 [(15, .agg [bo (eI .i64) x_aH.Words, bo B_121 x_aH.Guests])] [(0, some q1)] 3 ?_)
 obtain ⟨v4, hv4, hh⟩ := bind_some hh
 let q2 : Root := ⟨50, (fl O_50 v4.Guests)⟩
 let q3 : Root := ⟨3, (fl (eI .i64) v4.Words)⟩
 refine ys (.call 42 [(.t 15)]) (some 16) (op_call (r := .agg [.own 3 1 (List.length v4.Words) (fl (eI .i64) v4.Words), .own 50 17 (List.length v4.Guests) (fl O_50 v4.Guests)]) (v := .agg [sw 3 v4.Words, .sref 4 [] 0 (List.length v4.Guests) 17]) (Hr := [(4, some q2), (3, some q3)]) (n' := 5) (laws_toHost_fn hv4) (clz_v (vs := [.agg [bo (eI .i64) x_aH.Words, bo B_121 x_aH.Guests]]) (by kernel_rfl) (clz_c (clo_agg (clos_c (clo_same (clean_bor (cleans_fl cl_eI))) (clos_c (clo_same (clean_bor (cleans_fl cl_B_121))) clos_n))) clz_n)) (by simp only [AV.noRef, noRefs, Bool.and_self, noRefs_fl nr_eI, noRefs_fl nr_O_50]) (by simp only [AV.noBor, noBors, Bool.and_self, noBors_fl nb_eI, noBors_fl nb_O_50]) (by kernel_rfl) ?_)
 let q4 : Root := ⟨26, [sw 3 v4.Words, .sref 4 [] 0 (List.length v4.Guests) 17]⟩
 refine yt (sp 27 [(1, pp 0), (4, bb v3), (5, pp 5)]) [(0, some q1), (3, some q3), (4, some q2), (5, some q4)] 6 ?_
 refine Aw.sreg [1, 4, 5, 6] [0, 3, 4, 5] (yu 1 [(17, .agg [sw 3 v4.Words, .sref 4 [] 0 (List.length v4.Guests) 17])] [(0, some q1), (3, some q3), (4, some q2), (5, some q4)] 6 ?_)
 obtain ⟨v5, hv5, hh⟩ := bind_some hh
 refine ys (.call 16 [(.t 17)]) (some 18) (op_call (r := bb v5) (v := bb v5) (Hr := []) (n' := 6) (impl_HostOk_fn hv5) (clz_v (vs := [.agg [sw 3 v4.Words, .sref 4 [] 0 (List.length v4.Guests) 17]]) (by kernel_rfl) (clz_c (clo_agg (clos_c (clo_own (c := (eI .i64)) (xs := v4.Words) (e := 3) (by first | rfl | omega | (simp only [List.length_set, over_len, List.length_replicate, List.length_append, List.length_cons, List.length_nil, List.length_take, List.length_drop] <;> omega)) len_eI no_eI cl_eI (by kernel_rfl)) (clos_c (clo_flr (B := B_50) (xs := v4.Guests) (e := 50) oc_O_50 len_O_50 (by first | rfl | omega | (simp only [List.length_set, over_len, List.length_replicate, List.length_append, List.length_cons, List.length_nil, List.length_take, List.length_drop] <;> omega)) (by kernel_rfl)) clos_n))) clz_n)) rfl rfl (by kernel_rfl) ?_)
 refine yt (sp 27 [(1, pp 0), (4, bb v3), (5, pp 5), (6, bb v5)]) [(0, some q1), (3, some q3), (4, some q2), (5, some q4)] 6 ?_
 refine Aw.seq ?_
 refine sy [1, 5, 21] [0, 3, 4, 5] (sp 27 [(1, pp 0), (5, pp 5), (21, bb (!(v5 == v3)))]) [(0, some q1), (3, some q3), (4, some q2), (5, some q4)] 6 ?_
 rcases cond_some hh with ⟨hb, hh⟩ | ⟨hb, hh⟩
 · refine cT hb ?_
   refine sy [2] [] (sp 27 [(2, bb false)]) [] 6 ?_
   refine Aw.ret ?_
   refine then_r ?_
   rw [some_some hh]
   exact gvb
 refine cF hb ?_
 refine Aw.xskip (fun _ _ _ hq => then_m hq) ?_
 refine Aw.seq ?_
 refine Aw.sregd [26] [] [] (by kernel_rfl) ?_
 refine dc (cs := []) (E' := (sp 27 [(1, pp 0), (5, pp 5), (21, bb (!(v5 == v3))), (22, .agg [sw 3 v4.Words, .sref 4 [] 0 (List.length v4.Guests) 17]), (23, .agg [bo (eI .i64) x_aH.Words, bo B_121 x_aH.Guests])])) (H' := [(0, some q1), (3, some q3), (4, some q2), (5, some q4)]) (n' := 6) (fs' := none) (pre := (List.take 2 Lf9_r10)) (L' := (List.drop 2 Lf9_r10)) (by kernel_rfl) (fun K => by kernel_rfl) .nil ?_
 obtain ⟨v6, hv6, hh⟩ := bind_some hh
 let q5 : Root := ⟨50, (fl O_50 v6.Guests)⟩
 let q6 : Root := ⟨3, (fl (eI .i64) v6.Words)⟩
 refine ds (.call 42 [(.t 23)]) (some 24) (ydo_n rfl (op_call (r := .agg [.own 3 1 (List.length v6.Words) (fl (eI .i64) v6.Words), .own 50 17 (List.length v6.Guests) (fl O_50 v6.Guests)]) (v := .agg [sw 6 v6.Words, .sref 7 [] 0 (List.length v6.Guests) 17]) (Hr := [(7, some q5), (6, some q6)]) (n' := 8) (laws_toHost_fn hv6) (clz_v (vs := [.agg [bo (eI .i64) x_aH.Words, bo B_121 x_aH.Guests]]) (by kernel_rfl) (clz_c (clo_agg (clos_c (clo_same (clean_bor (cleans_fl cl_eI))) (clos_c (clo_same (clean_bor (cleans_fl cl_B_121))) clos_n))) clz_n)) (by simp only [AV.noRef, noRefs, Bool.and_self, noRefs_fl nr_eI, noRefs_fl nr_O_50]) (by simp only [AV.noBor, noBors, Bool.and_self, noBors_fl nb_eI, noBors_fl nb_O_50]) (by kernel_rfl) ⟨⟨agr_name (n := 6) (n0 := 6) (r := .agg [.own 3 1 (List.length v6.Words) (fl (eI .i64) v6.Words), .own 50 17 (List.length v6.Guests) (fl O_50 v6.Guests)]) (v := .agg [sw 6 v6.Words, .sref 7 [] 0 (List.length v6.Guests) 17]) (Hr := [(7, some q5), (6, some q6)]) (n' := 8) (by kernel_rfl) (by decide), Hld.un ?_⟩⟩))
 refine dct (cs := []) (E' := (sp 27 [(1, pp 0), (5, pp 5), (21, bb (!(v5 == v3))), (22, .agg [sw 3 v4.Words, .sref 4 [] 0 (List.length v4.Guests) 17]), (23, .agg [bo (eI .i64) x_aH.Words, bo B_121 x_aH.Guests]), (24, .agg [sw 6 v6.Words, .sref 7 [] 0 (List.length v6.Guests) 17])])) (H' := [(7, some q5), (6, some q6), (0, some q1), (3, some q3), (4, some q2), (5, some q4)]) (n' := 8) (fun K => by kernel_rfl) .nil ?_
 obtain ⟨v7, hv7, hh⟩ := bind_some hh
 refine ys (.call 43 [(.t 22), (.t 24)]) (some 25) (op_call (r := bb v7) (v := bb v7) (Hr := []) (n' := 8) (laws_eqHost_fn hv7) (clz_v (vs := [.agg [sw 3 v4.Words, .sref 4 [] 0 (List.length v4.Guests) 17], .agg [sw 6 v6.Words, .sref 7 [] 0 (List.length v6.Guests) 17]]) (by kernel_rfl) (clz_c (clo_agg (clos_c (clo_own (c := (eI .i64)) (xs := v4.Words) (e := 3) (by first | rfl | omega | (simp only [List.length_set, over_len, List.length_replicate, List.length_append, List.length_cons, List.length_nil, List.length_take, List.length_drop] <;> omega)) len_eI no_eI cl_eI (by kernel_rfl)) (clos_c (clo_flr (B := B_50) (xs := v4.Guests) (e := 50) oc_O_50 len_O_50 (by first | rfl | omega | (simp only [List.length_set, over_len, List.length_replicate, List.length_append, List.length_cons, List.length_nil, List.length_take, List.length_drop] <;> omega)) (by kernel_rfl)) clos_n))) (clz_c (clo_agg (clos_c (clo_own (c := (eI .i64)) (xs := v6.Words) (e := 3) (by first | rfl | omega | (simp only [List.length_set, over_len, List.length_replicate, List.length_append, List.length_cons, List.length_nil, List.length_take, List.length_drop] <;> omega)) len_eI no_eI cl_eI (by kernel_rfl)) (clos_c (clo_flr (B := B_50) (xs := v6.Guests) (e := 50) oc_O_50 len_O_50 (by first | rfl | omega | (simp only [List.length_set, over_len, List.length_replicate, List.length_append, List.length_cons, List.length_nil, List.length_take, List.length_drop] <;> omega)) (by kernel_rfl)) clos_n))) clz_n))) rfl rfl (by kernel_rfl) ?_)
 refine yt (sp 27 [(26, bb (!v7))]) [] 8 ?_
 rcases cond_some hh with ⟨hb, hh⟩ | ⟨hb, hh⟩
 · refine cT hb ?_
   refine sy [2] [] (sp 27 [(2, bb false)]) [] 8 ?_
   refine Aw.ret ?_
   refine then_r ?_
   rw [some_some hh]
   exact gvb
 refine cF hb ?_
 refine Aw.xskip (fun _ _ _ hq => then_m hq) ?_
 refine sy [2] [] (sp 27 [(2, bb true)]) [] 8 ?_
 refine Aw.ret ?_
 rw [some_some hh]
 exact gvb
end Go.Proofs.Ytbogmfjpabfhpaa
