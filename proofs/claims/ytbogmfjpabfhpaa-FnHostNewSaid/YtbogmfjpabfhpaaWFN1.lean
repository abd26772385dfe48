/- Plain functions of the program, and that it hands back what they say. Made by program. -/
import Derived.Test.YtbogmfjpabfhpaaWT
import Derived.Test.YtbogmfjpabfhpaaProg
import Derived.Test.YtbogmfjpabfhpaaWGN1
import Derived.Test.YtbogmfjpabfhpaaWHF1
import Derived.Test.YtbogmfjpabfhpaaWHN1
import Derived.Test.YtbogmfjpabfhpaaWHO1
import Derived.Test.YtbogmfjpabfhpaaWHV1
import Derived.Test.YtbogmfjpabfhpaaWJ1
namespace Go.Proofs.Ytbogmfjpabfhpaa
open Go.RowKit
set_option maxRecDepth 100000
set_option linter.all false
set_option maxHeartbeats 0
def Lf4_r0 : List LOper := [oo 2 (.mv (.c (bb false)))]
def Lf4_r1 : List LOper := [om 6 0, oo 7 (.len (.t 6)), oo 8 (.bin .gtr (.t 7) (.c (ii 1048576)))]
def Lf4_r2 : List LOper := [oo 2 (.mv (.c (bb true)))]
def Lf4_r3 : List LOper := [om 9 0, oo 10 (.call 21 [(.t 9)]), oo 11 (.call 19 [(.t 10)]), oo 3 (.fresh 26 [.nil, .nil]), ⟨none, (.store 2 (.t 3) (.t 11)), none⟩]
def Lf4_r4 : List LOper := [oo 13 (.load true 2 (.t 3)), oo 14 (.call 22 [(.t 13), (.c (ii 0))]), om 12 14, oo 15 (.ext (.t 12) 0), oo 16 (.ext (.t 12) 1), oo 4 (.fresh 38 [.nil, (ii 0), (ii 0), (ii 0), (ii 0), (bb false), (ii 0), (ii 0), (ii 0), (bb false), (bb false), (bb false), (bb false), .nil, .nil, .nil]), ⟨none, (.store 16 (.t 4) (.t 15)), none⟩, om 5 16]
def Lf4_r5 : List LOper := [oo 17 (.load true 2 (.t 3)), oo 18 (.call 24 [(.c (ii 0))])]
def Lf4_r5t : List LOper := [oo 19 (.call 23 [(.t 17), (.t 18)]), om 20 19, ⟨(some 21), (.load true 2 (.t 3)), (some (20, true))⟩, ⟨(some 22), (.call 16 [(.t 21)]), (some (20, true))⟩, oo 23 (.pick (.t 20) (.t 22) (.c (bb false))), om 24 23, ⟨(some 25), (.load true 2 (.t 3)), (some (24, true))⟩, ⟨(some 26), (.call 25 [(.t 25)]), (some (24, true))⟩, ⟨(some 27), (.len (.t 26)), (some (24, true))⟩, ⟨(some 28), (.bin .eql (.t 27) (.c (ii 20))), (some (24, true))⟩, oo 29 (.pick (.t 24) (.t 28) (.c (bb false))), om 30 29, ⟨(some 31), (.mv (.t 5)), (some (30, true))⟩, ⟨(some 32), (.un .not (.t 31)), (some (30, true))⟩, oo 33 (.pick (.t 30) (.t 32) (.c (bb false))), om 2 33]
def Lf4 : LFun := ⟨34, [(.tmp 2)], (.seq (.reg false Lf4_r0) (.seq (.seq (.reg false Lf4_r1) (.cond (.t 8) (.seq (.reg false Lf4_r2) .ret) .skip)) (.seq (.reg false Lf4_r3) (.seq (.reg false Lf4_r4) (.seq (.regd Lf4_r5 Lf4_r5t) .ret)))))⟩
theorem low_laws_FnHostNew : lowFun Go.Proofs.Try.prog 4 = some Lf4 := by kernel_rfl
noncomputable def F_laws_FnHostNew (x_code : List Int) : Option Bool :=
 cond (decide ((1048576 : Int) < (((List.length x_code) : Nat) : Int)))
  (some true)
  (Option.bind (F_spec_DrawHostNew x_code) fun v1 =>
  Option.bind (F_impl_HostNew v1) fun v2 =>
  Option.bind (F_impl_HostView v2 (0 : Int)) fun v3 =>
  Option.bind (F_spec_HostNew (0 : Int)) fun v4 =>
  Option.bind (F_laws_sameHost v2 v4) fun v5 =>
  cond v5
   (Option.bind (F_impl_HostOk v2) fun v6 =>
   cond v6
    (Option.bind (F_impl_HostFree v2) fun v7 =>
    cond (decide ((((List.length v7) : Nat) : Int) = (20 : Int)))
     (some (!v3.2))
     (some false))
    (some false))
   (some false))
theorem laws_FnHostNew_fn {x_code : List Int} {R_ : Bool} (hh : F_laws_FnHostNew x_code = some R_) : Fn Try.prog 4 [bo (eI .u8) x_code] (.bool R_) := by
 unfold F_laws_FnHostNew at hh
 refine Fn.start low_laws_FnHostNew [0] (E := sp 34 [(0, bo (eI .u8) x_code)]) (by kernel_rfl) (v := bb R_) (Hr := []) (k := 0) (by kernel_rfl) ?_
 refine sy [0] [] (sp 34 [(0, bo (eI .u8) x_code)]) [] 0 ?_
 refine Aw.seq ?_
 refine sy [0, 8] [] (sp 34 [(0, bo (eI .u8) x_code), (8, bb (decide ((1048576 : Int) < (((List.length x_code) : Nat) : Int))))]) [] 0 ?_
 rcases cond_some hh with ⟨hb, hh⟩ | ⟨hb, hh⟩
 · refine cT hb ?_
   refine sy [2] [] (sp 34 [(2, bb true)]) [] 0 ?_
   refine Aw.ret ?_
   refine then_r ?_
   rw [some_some hh]
   exact gvb
 refine cF hb ?_
 refine Aw.xskip (fun _ _ _ hq => then_m hq) ?_
 refine Aw.sreg [3] [0, 1, 2] (yj 1  (sp 34 [(0, bo (eI .u8) x_code), (8, bb (decide ((1048576 : Int) < (((List.length x_code) : Nat) : Int)))), (9, bo (eI .u8) x_code)]) [] 0 ?_)
 obtain ⟨v1, hv1, hh⟩ := bind_some hh
 refine ys (.call 21 [(.t 9)]) (some 10) (oc (spec_DrawHostNew_fn hv1) ?_)
 obtain ⟨v2, hv2, hh⟩ := bind_some hh
 let q1 : Root := ⟨50, (fl O_50 v2.Guests)⟩
 let q2 : Root := ⟨3, (fl (eI .i64) v2.Words)⟩
 refine ys (.call 19 [(.t 10)]) (some 11) (op_call (r := .agg [.own 3 1 (List.length v2.Words) (fl (eI .i64) v2.Words), .own 50 17 (List.length v2.Guests) (fl O_50 v2.Guests)]) (v := .agg [sw 0 v2.Words, .sref 1 [] 0 (List.length v2.Guests) 17]) (Hr := [(1, some q1), (0, some q2)]) (n' := 2) (impl_HostNew_fn hv2) (clz_v (vs := [ii v1]) (by kernel_rfl) (cz1 clz_n)) (by simp only [AV.noRef, noRefs, Bool.and_self, noRefs_fl nr_eI, noRefs_fl nr_O_50]) (by simp only [AV.noBor, noBors, Bool.and_self, noBors_fl nb_eI, noBors_fl nb_O_50]) (by kernel_rfl) ?_)
 let q3 : Root := ⟨26, [sw 0 v2.Words, .sref 1 [] 0 (List.length v2.Guests) 17]⟩
 refine yt (sp 34 [(3, pp 2)]) [(0, some q2), (1, some q1), (2, some q3)] 3 ?_
 refine Aw.sreg [3, 5] [0, 1, 2] (yu 1 [(13, .agg [sw 0 v2.Words, .sref 1 [] 0 (List.length v2.Guests) 17])] [(0, some q2), (1, some q1), (2, some q3)] 3 ?_)
 obtain ⟨v3, hv3, hh⟩ := bind_some hh
 refine ys (.call 22 [(.t 13), (.c (ii 0))]) (some 14) (op_call (r := .tup [.agg (.own 3 1 (List.length v3.1.C.Regs) (fl (eI .i64) v3.1.C.Regs) :: ru36 v3.1.C [.own 3 1 (List.length v3.1.Mem) (fl (eI .i64) v3.1.Mem), .own 3 1 (List.length v3.1.In) (fl (eI .i64) v3.1.In), .own 3 1 (List.length v3.1.Out) (fl (eI .i64) v3.1.Out)]), bb v3.2]) (v := .tup [.agg (sw 3 v3.1.C.Regs :: ru36 v3.1.C [sw 4 v3.1.Mem, sw 5 v3.1.In, sw 6 v3.1.Out]), bb v3.2]) (Hr := [(6, some ⟨3, (fl (eI .i64) v3.1.Out)⟩), (5, some ⟨3, (fl (eI .i64) v3.1.In)⟩), (4, some ⟨3, (fl (eI .i64) v3.1.Mem)⟩), (3, some ⟨3, (fl (eI .i64) v3.1.C.Regs)⟩)]) (n' := 7) (impl_HostView_fn hv3) (clz_v (vs := [.agg [sw 0 v2.Words, .sref 1 [] 0 (List.length v2.Guests) 17], ii 0]) (by kernel_rfl) (clz_c (clo_agg (clos_c (clo_own (c := (eI .i64)) (xs := v2.Words) (e := 3) (by first | rfl | omega | (simp only [List.length_set, over_len, List.length_replicate, List.length_append, List.length_cons, List.length_nil, List.length_take, List.length_drop] <;> omega)) len_eI no_eI cl_eI (by kernel_rfl)) (clos_c (clo_flr (B := B_50) (xs := v2.Guests) (e := 50) oc_O_50 len_O_50 (by first | rfl | omega | (simp only [List.length_set, over_len, List.length_replicate, List.length_append, List.length_cons, List.length_nil, List.length_take, List.length_drop] <;> omega)) (by kernel_rfl)) clos_n))) (cz1 clz_n))) (by simp only [ru36, AV.noRef, noRefs, Bool.and_self, noRefs_fl nr_eI]) (by simp only [ru36, AV.noBor, noBors, Bool.and_self, noBors_fl nb_eI]) (by kernel_rfl) ?_)
 refine yt (sp 34 [(3, pp 2), (5, bb v3.2)]) [(0, some q2), (1, some q1), (2, some q3)] 8 ?_
 refine Aw.sregd [2] [] [] (by kernel_rfl) ?_
 refine dc (cs := []) (E' := (sp 34 [(3, pp 2), (5, bb v3.2), (17, .agg [sw 0 v2.Words, .sref 1 [] 0 (List.length v2.Guests) 17])])) (H' := [(0, some q2), (1, some q1), (2, some q3)]) (n' := 8) (fs' := none) (pre := (List.take 1 Lf4_r5)) (L' := (List.drop 1 Lf4_r5)) (by kernel_rfl) (fun K => by kernel_rfl) .nil ?_
 obtain ⟨v4, hv4, hh⟩ := bind_some hh
 let q4 : Root := ⟨50, (fl O_50 v4.Guests)⟩
 let q5 : Root := ⟨3, (fl (eI .i64) v4.Words)⟩
 refine ds (.call 24 [(.c (ii 0))]) (some 18) (ydo_n rfl (op_call (r := .agg [.own 3 1 (List.length v4.Words) (fl (eI .i64) v4.Words), .own 50 17 (List.length v4.Guests) (fl O_50 v4.Guests)]) (v := .agg [sw 8 v4.Words, .sref 9 [] 0 (List.length v4.Guests) 17]) (Hr := [(9, some q4), (8, some q5)]) (n' := 10) (spec_HostNew_fn hv4) (clz_v (vs := [ii 0]) (by kernel_rfl) (cz1 clz_n)) (by simp only [AV.noRef, noRefs, Bool.and_self, noRefs_fl nr_eI, noRefs_fl nr_O_50]) (by simp only [AV.noBor, noBors, Bool.and_self, noBors_fl nb_eI, noBors_fl nb_O_50]) (by kernel_rfl) ⟨⟨agr_name (n := 8) (n0 := 8) (r := .agg [.own 3 1 (List.length v4.Words) (fl (eI .i64) v4.Words), .own 50 17 (List.length v4.Guests) (fl O_50 v4.Guests)]) (v := .agg [sw 8 v4.Words, .sref 9 [] 0 (List.length v4.Guests) 17]) (Hr := [(9, some q4), (8, some q5)]) (n' := 10) (by kernel_rfl) (by decide), Hld.un ?_⟩⟩))
 refine dct (cs := []) (E' := (sp 34 [(3, pp 2), (5, bb v3.2), (17, .agg [sw 0 v2.Words, .sref 1 [] 0 (List.length v2.Guests) 17]), (18, .agg [sw 8 v4.Words, .sref 9 [] 0 (List.length v4.Guests) 17])])) (H' := [(9, some q4), (8, some q5), (0, some q2), (1, some q1), (2, some q3)]) (n' := 10) (fun K => by kernel_rfl) .nil ?_
 obtain ⟨v5, hv5, hh⟩ := bind_some hh
 refine ys (.call 23 [(.t 17), (.t 18)]) (some 19) (op_call (r := bb v5) (v := bb v5) (Hr := []) (n' := 10) (laws_sameHost_fn hv5) (clz_v (vs := [.agg [sw 0 v2.Words, .sref 1 [] 0 (List.length v2.Guests) 17], .agg [sw 8 v4.Words, .sref 9 [] 0 (List.length v4.Guests) 17]]) (by kernel_rfl) (clz_c (clo_agg (clos_c (clo_own (c := (eI .i64)) (xs := v2.Words) (e := 3) (by first | rfl | omega | (simp only [List.length_set, over_len, List.length_replicate, List.length_append, List.length_cons, List.length_nil, List.length_take, List.length_drop] <;> omega)) len_eI no_eI cl_eI (by kernel_rfl)) (clos_c (clo_flr (B := B_50) (xs := v2.Guests) (e := 50) oc_O_50 len_O_50 (by first | rfl | omega | (simp only [List.length_set, over_len, List.length_replicate, List.length_append, List.length_cons, List.length_nil, List.length_take, List.length_drop] <;> omega)) (by kernel_rfl)) clos_n))) (clz_c (clo_agg (clos_c (clo_own (c := (eI .i64)) (xs := v4.Words) (e := 3) (by first | rfl | omega | (simp only [List.length_set, over_len, List.length_replicate, List.length_append, List.length_cons, List.length_nil, List.length_take, List.length_drop] <;> omega)) len_eI no_eI cl_eI (by kernel_rfl)) (clos_c (clo_flr (B := B_50) (xs := v4.Guests) (e := 50) oc_O_50 len_O_50 (by first | rfl | omega | (simp only [List.length_set, over_len, List.length_replicate, List.length_append, List.length_cons, List.length_nil, List.length_take, List.length_drop] <;> omega)) (by kernel_rfl)) clos_n))) clz_n))) rfl rfl (by kernel_rfl) ?_)
 refine yj 1  (sp 34 [(3, pp 2), (5, bb v3.2), (17, .agg [sw 0 v2.Words, .sref 1 [] 0 (List.length v2.Guests) 17]), (18, .agg [sw 8 v4.Words, .sref 9 [] 0 (List.length v4.Guests) 17]), (19, bb v5), (20, bb v5)]) [(9, some q4), (8, some q5), (0, some q2), (1, some q1), (2, some q3)] 10 ?_
 rcases cond_some hh with ⟨hb, hh⟩ | ⟨hb, hh⟩
 · refine yb 19 hb ?_
   refine yb 20 hb ?_
   refine yu 1 [(19, bb true), (20, bb true), (21, .agg [sw 0 v2.Words, .sref 1 [] 0 (List.length v2.Guests) 17])] [(9, some q4), (8, some q5), (0, some q2), (1, some q1), (2, some q3)] 10 ?_
   obtain ⟨v6, hv6, hh⟩ := bind_some hh
   refine yg (.call 16 [(.t 21)]) (some 22) 20 true (op_call (r := bb v6) (v := bb v6) (Hr := []) (n' := 10) (impl_HostOk_fn hv6) (clz_v (vs := [.agg [sw 0 v2.Words, .sref 1 [] 0 (List.length v2.Guests) 17]]) (by kernel_rfl) (clz_c (clo_agg (clos_c (clo_own (c := (eI .i64)) (xs := v2.Words) (e := 3) (by first | rfl | omega | (simp only [List.length_set, over_len, List.length_replicate, List.length_append, List.length_cons, List.length_nil, List.length_take, List.length_drop] <;> omega)) len_eI no_eI cl_eI (by kernel_rfl)) (clos_c (clo_flr (B := B_50) (xs := v2.Guests) (e := 50) oc_O_50 len_O_50 (by first | rfl | omega | (simp only [List.length_set, over_len, List.length_replicate, List.length_append, List.length_cons, List.length_nil, List.length_take, List.length_drop] <;> omega)) (by kernel_rfl)) clos_n))) clz_n)) rfl rfl (by kernel_rfl) ?_)
   refine yu 2 [(22, bb v6), (23, bb v6), (24, bb v6)] [(9, some q4), (8, some q5), (0, some q2), (1, some q1), (2, some q3)] 10 ?_
   rcases cond_some hh with ⟨hb, hh⟩ | ⟨hb, hh⟩
   · refine yb 22 hb ?_
     refine yb 23 hb ?_
     refine yb 24 hb ?_
     refine yu 1 [(22, bb true), (23, bb true), (24, bb true), (25, .agg [sw 0 v2.Words, .sref 1 [] 0 (List.length v2.Guests) 17])] [(9, some q4), (8, some q5), (0, some q2), (1, some q1), (2, some q3)] 10 ?_
     obtain ⟨v7, hv7, hh⟩ := bind_some hh
     refine yg (.call 25 [(.t 25)]) (some 26) 24 true (op_call (r := .own 3 1 (List.length v7) (fl (eI .i64) v7)) (v := sw 10 v7) (Hr := [(10, some ⟨3, (fl (eI .i64) v7)⟩)]) (n' := 11) (impl_HostFree_fn hv7) (clz_v (vs := [.agg [sw 0 v2.Words, .sref 1 [] 0 (List.length v2.Guests) 17]]) (by kernel_rfl) (clz_c (clo_agg (clos_c (clo_own (c := (eI .i64)) (xs := v2.Words) (e := 3) (by first | rfl | omega | (simp only [List.length_set, over_len, List.length_replicate, List.length_append, List.length_cons, List.length_nil, List.length_take, List.length_drop] <;> omega)) len_eI no_eI cl_eI (by kernel_rfl)) (clos_c (clo_flr (B := B_50) (xs := v2.Guests) (e := 50) oc_O_50 len_O_50 (by first | rfl | omega | (simp only [List.length_set, over_len, List.length_replicate, List.length_append, List.length_cons, List.length_nil, List.length_take, List.length_drop] <;> omega)) (by kernel_rfl)) clos_n))) clz_n)) (by simp only [AV.noRef, noRefs, Bool.and_self, noRefs_fl nr_eI]) (by simp only [AV.noBor, noBors, Bool.and_self, noBors_fl nb_eI]) (by kernel_rfl) ?_)
     refine yu 4 [(26, sw 10 v7), (27, ii (((List.length v7) : Nat) : Int)), (28, bb (decide ((((List.length v7) : Nat) : Int) = (20 : Int)))), (29, bb (decide ((((List.length v7) : Nat) : Int) = (20 : Int)))), (30, bb (decide ((((List.length v7) : Nat) : Int) = (20 : Int))))] [(10, some ⟨3, (fl (eI .i64) v7)⟩), (9, some q4), (8, some q5), (0, some q2), (1, some q1), (2, some q3)] 11 ?_
     rcases cond_some hh with ⟨hb, hh⟩ | ⟨hb, hh⟩
     · refine yb 28 hb ?_
       refine yb 29 hb ?_
       refine yb 30 hb ?_
       refine yt (sp 34 [(2, bb (!v3.2))]) [] 11 ?_
       refine Aw.ret ?_
       rw [some_some hh]
       exact gvb
     refine yb 28 hb ?_
     refine yb 29 hb ?_
     refine yb 30 hb ?_
     refine yt (sp 34 [(2, bb false)]) [] 11 ?_
     refine Aw.ret ?_
     rw [some_some hh]
     exact gvb
   refine yb 22 hb ?_
   refine yb 23 hb ?_
   refine yb 24 hb ?_
   refine yt (sp 34 [(2, bb false)]) [] 10 ?_
   refine Aw.ret ?_
   rw [some_some hh]
   exact gvb
 refine yb 19 hb ?_
 refine yb 20 hb ?_
 refine yt (sp 34 [(2, bb false)]) [] 10 ?_
 refine Aw.ret ?_
 rw [some_some hh]
 exact gvb
end Go.Proofs.Ytbogmfjpabfhpaa
