/- Plain functions of the program, and that it hands back what they say. Made by program. -/
import Derived.Test.YtlikfpmbcdlnjaaWT
import Derived.Test.YtlikfpmbcdlnjaaProg
import Derived.Test.YtlikfpmbcdlnjaaWD1
import Derived.Test.YtlikfpmbcdlnjaaWGA1
import Derived.Test.YtlikfpmbcdlnjaaWHD1
import Derived.Test.YtlikfpmbcdlnjaaWHO1
import Derived.Test.YtlikfpmbcdlnjaaWHV1
import Derived.Test.YtlikfpmbcdlnjaaWJ1
import Derived.Test.YtlikfpmbcdlnjaaWK1
namespace Go.Proofs.Ytlikfpmbcdlnjaa
open Go.RowKit
set_option maxRecDepth 100000
set_option linter.all false
set_option maxHeartbeats 0
def Lf16_r0 : List LOper := [oo 2 (.mv (.c (bb false)))]
def Lf16_r1 : List LOper := [om 11 0, oo 12 (.len (.t 11)), oo 13 (.bin .gtr (.t 12) (.c (ii 1048576)))]
def Lf16_r2 : List LOper := [oo 2 (.mv (.c (bb true)))]
def Lf16_r3 : List LOper := [om 15 0, oo 16 (.call 64 [(.t 15)]), om 14 16, oo 17 (.ext (.t 14) 0), oo 18 (.ext (.t 14) 1), oo 3 (.fresh 26 [.nil, .nil]), ⟨none, (.store 2 (.t 3) (.t 17)), none⟩, om 4 18]
def Lf16_r4 : List LOper := [oo 20 (.load true 2 (.t 3)), om 21 4, oo 22 (.call 53 [(.t 20), (.t 21)]), om 19 22, oo 23 (.ext (.t 19) 0), oo 24 (.ext (.t 19) 1), oo 5 (.fresh 26 [.nil, .nil]), ⟨none, (.store 2 (.t 5) (.t 23)), none⟩, om 6 24]
def Lf16_r5 : List LOper := [oo 26 (.load true 2 (.t 3)), om 27 4, oo 28 (.call 65 [(.t 26), (.t 27)]), om 25 28, oo 29 (.ext (.t 25) 0), oo 30 (.ext (.t 25) 1), oo 7 (.fresh 26 [.nil, .nil]), ⟨none, (.store 2 (.t 7) (.t 29)), none⟩, om 8 30]
def Lf16_r6 : List LOper := [om 31 6, om 32 8, oo 33 (.binb true (.t 31) (.t 32)), om 34 33, ⟨(some 35), (.load true 2 (.t 5)), (some (34, false))⟩, ⟨(some 36), (.load true 2 (.t 7)), (some (34, false))⟩, ⟨(some 37), (.call 20 [(.t 35), (.t 36)]), (some (34, false))⟩, ⟨(some 38), (.un .not (.t 37)), (some (34, false))⟩, oo 39 (.pick (.t 34) (.c (bb true)) (.t 38))]
def Lf16_r7 : List LOper := [oo 2 (.mv (.c (bb false)))]
def Lf16_r8 : List LOper := [om 40 6, oo 41 (.un .not (.t 40))]
def Lf16_r9 : List LOper := [oo 42 (.call 21 []), om 2 42]
def Lf16_r10 : List LOper := [oo 44 (.load true 2 (.t 5)), om 45 4, oo 46 (.call 22 [(.t 44), (.t 45)]), om 43 46, oo 47 (.ext (.t 43) 0), oo 48 (.ext (.t 43) 1), oo 9 (.fresh 30 zc1), ⟨none, (.store 16 (.t 9) (.t 47)), none⟩, om 10 48]
def Lf16_r11 : List LOper := [oo 49 (.load true 2 (.t 5)), oo 50 (.call 23 [(.t 49)]), om 51 50, ⟨(some 52), (.mv (.t 10)), (some (51, true))⟩, ⟨(some 53), (.un .not (.t 52)), (some (51, true))⟩, oo 54 (.pick (.t 51) (.t 53) (.c (bb false))), om 55 54, ⟨(some 56), (.load true 2 (.t 3)), (some (55, true))⟩, ⟨(some 57), (.load true 2 (.t 5)), (some (55, true))⟩, ⟨(some 58), (.mv (.t 4)), (some (55, true))⟩, ⟨(some 59), (.call 25 [(.t 56), (.t 57), (.t 58)]), (some (55, true))⟩, oo 60 (.pick (.t 55) (.t 59) (.c (bb false))), om 2 60]
def Lf16 : LFun := ⟨61, [(.tmp 2)], (.seq (.reg false Lf16_r0) (.seq (.seq (.reg false Lf16_r1) (.cond (.t 13) (.seq (.reg false Lf16_r2) .ret) .skip)) (.seq (.reg false Lf16_r3) (.seq (.reg false Lf16_r4) (.seq (.reg false Lf16_r5) (.seq (.seq (.reg false Lf16_r6) (.cond (.t 39) (.seq (.reg false Lf16_r7) .ret) .skip)) (.seq (.seq (.reg false Lf16_r8) (.cond (.t 41) (.seq (.reg false Lf16_r9) .ret) .skip)) (.seq (.reg false Lf16_r10) (.seq (.reg false Lf16_r11) .ret)))))))))⟩
theorem low_laws_FnHostDrop : lowFun Go.Proofs.Try.prog 16 = some Lf16 := by kernel_rfl
noncomputable def F_laws_FnHostDrop (x_code : List Int) : Option Bool :=
 cond (decide ((1048576 : Int) < (((List.length x_code) : Nat) : Int)))
  (some true)
  (Option.bind (F_spec_DrawHostDrop x_code) fun v1 =>
  Option.bind (F_impl_HostDrop v1.1 v1.2) fun v2 =>
  Option.bind (F_spec_HostDrop v1.1 v1.2) fun v3 =>
  cond (!(v2.2 == v3.2))
   (some false)
   (Option.bind (F_laws_sameHost v2.1 v3.1) fun v4 =>
   cond (!v4)
    (some false)
    (cond (!v2.2)
     (Option.bind (F_laws_alive ) fun v5 =>
     some v5)
     (Option.bind (F_impl_HostView v2.1 v1.2) fun v6 =>
     Option.bind (F_impl_HostOk v2.1) fun v7 =>
     cond v7
      (cond (!v6.2)
       (Option.bind (F_laws_sameViews v1.1 v2.1 v1.2) fun v8 =>
       some v8)
       (some false))
      (some false)))))
theorem laws_FnHostDrop_fn {x_code : List Int} {R_ : Bool} (hh : F_laws_FnHostDrop x_code = some R_) : Fn Try.prog 16 [bo (eI .u8) x_code] (.bool R_) := by
 let z1 : EV := (0, bo (eI .u8) x_code)
 let z2 : EV := (13, bb (decide ((1048576 : Int) < (((List.length x_code) : Nat) : Int))))
 let z3 : EV := (3, pp 2)
 let z4 : EV := (5, pp 5)
 unfold F_laws_FnHostDrop at hh
 refine Fn.start low_laws_FnHostDrop [0] (E := sp 61 [z1]) kr (v := bb R_) (Hr := []) (k := 0) kr (sy [0] [] (sp 61 [z1]) [] 0 (Aw.seq (sy [0, 13] [] (sp 61 [z1, z2]) [] 0 ?_)))
 rcases cond_some hh with ⟨hb, hh⟩ | ⟨hb, hh⟩
 · exact cT hb (sy [2] [] (sp 61 [(2, bb true)]) [] 0 (Aw.ret (then_r (gvbs hh))))
 refine cF hb (Aw.xskip (fun _ _ _ hq => then_m hq) (Aw.sreg [3, 4] [0, 1, 2] (yj 1  (sp 61 [z1, z2, (15, bo (eI .u8) x_code)]) [] 0 ?_)))
 obtain ⟨v1, hv1, hh⟩ := bind_some hh
 let z5 : EV := (4, ii v1.2)
 let q1 : Root := ⟨53, (fl O_53 v1.1.Guests)⟩
 let z6 : EH := (1, some q1)
 let q2 : Root := ⟨3, (fl (eI .i64) v1.1.Words)⟩
 let z7 : EH := (0, some q2)
 refine ys (.call 64 [(.t 15)]) (some 16) (op_call (r := .tup [.agg [.own 3 1 (List.length v1.1.Words) (fl (eI .i64) v1.1.Words), .own 53 17 (List.length v1.1.Guests) (fl O_53 v1.1.Guests)], ii v1.2]) (v := .tup [.agg [sw 0 v1.1.Words, .sref 1 [] 0 (List.length v1.1.Guests) 17], ii v1.2]) (Hr := [z6, z7]) (n' := 2) (spec_DrawHostDrop_fn hv1) (clz_v (vs := [bo (eI .u8) x_code]) kr (clz_c (clo_same (clean_bor (cleans_fl cl_eI))) clz_n)) (by simp only [AV.noRef, noRefs, Bool.and_self, noRefs_fl nr_eI, noRefs_fl nr_O_53]) (by simp only [AV.noBor, noBors, Bool.and_self, noBors_fl nb_eI, noBors_fl nb_O_53]) kr ?_)
 let q3 : Root := ⟨26, [sw 0 v1.1.Words, .sref 1 [] 0 (List.length v1.1.Guests) 17]⟩
 let z8 : EH := (2, some q3)
 refine yt (sp 61 [z3, z5]) [z7, z6, z8] 3 (Aw.sreg [3, 4, 5, 6] [0, 1, 2, 3, 4, 5] (yu 2 [(20, .agg [sw 0 v1.1.Words, .sref 1 [] 0 (List.length v1.1.Guests) 17]), (21, ii v1.2)] [z7, z6, z8] 3 ?_))
 obtain ⟨v2, hv2, hh⟩ := bind_some hh
 let z9 : EV := (6, bb v2.2)
 let q4 : Root := ⟨53, (fl O_53 v2.1.Guests)⟩
 let z10 : EH := (4, some q4)
 let q5 : Root := ⟨3, (fl (eI .i64) v2.1.Words)⟩
 let z11 : EH := (3, some q5)
 refine ys (.call 53 [(.t 20), (.t 21)]) (some 22) (op_call (r := .tup [.agg [.own 3 1 (List.length v2.1.Words) (fl (eI .i64) v2.1.Words), .own 53 17 (List.length v2.1.Guests) (fl O_53 v2.1.Guests)], bb v2.2]) (v := .tup [.agg [sw 3 v2.1.Words, .sref 4 [] 0 (List.length v2.1.Guests) 17], bb v2.2]) (Hr := [z10, z11]) (n' := 5) (impl_HostDrop_fn hv2) (clz_v (vs := [.agg [sw 0 v1.1.Words, .sref 1 [] 0 (List.length v1.1.Guests) 17], ii v1.2]) kr (clz_c (clo_agg (clos_c (clo_own (c := (eI .i64)) (xs := v1.1.Words) (e := 3) eqn len_eI no_eI cl_eI kr) (clos_c (clo_flr (B := B_53) (xs := v1.1.Guests) (e := 53) oc_O_53 len_O_53 eqn kr) clos_n))) (cz1 clz_n))) (by simp only [AV.noRef, noRefs, Bool.and_self, noRefs_fl nr_eI, noRefs_fl nr_O_53]) (by simp only [AV.noBor, noBors, Bool.and_self, noBors_fl nb_eI, noBors_fl nb_O_53]) kr ?_)
 let q6 : Root := ⟨26, [sw 3 v2.1.Words, .sref 4 [] 0 (List.length v2.1.Guests) 17]⟩
 let z12 : EH := (5, some q6)
 refine yt (sp 61 [z3, z5, z4, z9]) [z7, z6, z8, z11, z10, z12] 6 (Aw.sreg [3, 4, 5, 6, 7, 8] [0, 1, 2, 3, 4, 5, 6, 7, 8] (yu 2 [(26, .agg [sw 0 v1.1.Words, .sref 1 [] 0 (List.length v1.1.Guests) 17]), (27, ii v1.2)] [z7, z6, z8, z11, z10, z12] 6 ?_))
 obtain ⟨v3, hv3, hh⟩ := bind_some hh
 let q7 : Root := ⟨53, (fl O_53 v3.1.Guests)⟩
 let q8 : Root := ⟨3, (fl (eI .i64) v3.1.Words)⟩
 refine ys (.call 65 [(.t 26), (.t 27)]) (some 28) (op_call (r := .tup [.agg [.own 3 1 (List.length v3.1.Words) (fl (eI .i64) v3.1.Words), .own 53 17 (List.length v3.1.Guests) (fl O_53 v3.1.Guests)], bb v3.2]) (v := .tup [.agg [sw 6 v3.1.Words, .sref 7 [] 0 (List.length v3.1.Guests) 17], bb v3.2]) (Hr := [(7, some q7), (6, some q8)]) (n' := 8) (spec_HostDrop_fn hv3) (clz_v (vs := [.agg [sw 0 v1.1.Words, .sref 1 [] 0 (List.length v1.1.Guests) 17], ii v1.2]) kr (clz_c (clo_agg (clos_c (clo_own (c := (eI .i64)) (xs := v1.1.Words) (e := 3) eqn len_eI no_eI cl_eI kr) (clos_c (clo_flr (B := B_53) (xs := v1.1.Guests) (e := 53) oc_O_53 len_O_53 eqn kr) clos_n))) (cz1 clz_n))) (by simp only [AV.noRef, noRefs, Bool.and_self, noRefs_fl nr_eI, noRefs_fl nr_O_53]) (by simp only [AV.noBor, noBors, Bool.and_self, noBors_fl nb_eI, noBors_fl nb_O_53]) kr ?_)
 let q9 : Root := ⟨26, [sw 6 v3.1.Words, .sref 7 [] 0 (List.length v3.1.Guests) 17]⟩
 refine yt (sp 61 [z3, z5, z4, z9, (7, pp 8), (8, bb v3.2)]) [z7, z6, z8, z11, z10, z12, (6, some q8), (7, some q7), (8, some q9)] 9 (Aw.seq (Aw.sreg [3, 4, 5, 6, 39] [0, 1, 2, 3, 4, 5] (yj 4  (sp 61 [z3, z5, z4, z9, (7, pp 8), (8, bb v3.2), (31, bb v2.2), (32, bb v3.2), (33, bb (!(v2.2 == v3.2))), (34, bb (!(v2.2 == v3.2)))]) [z7, z6, z8, z11, z10, z12, (6, some q8), (7, some q7), (8, some q9)] 9 ?_)))
 rcases cond_some hh with ⟨hb, hh⟩ | ⟨hb, hh⟩
 · exact yb 33 hb (yb 34 hb (yt (sp 61 [z3, z5, z4, z9, (39, bb true)]) [z7, z6, z8, z11, z10, z12] 9 (cT rfl (sy [2] [] (sp 61 [(2, bb false)]) [] 9 (Aw.ret (then_r (gvbs hh)))))))
 refine yb 33 hb (yb 34 hb (yu 2 [(33, bb false), (34, bb false), (35, .agg [sw 3 v2.1.Words, .sref 4 [] 0 (List.length v2.1.Guests) 17]), (36, .agg [sw 6 v3.1.Words, .sref 7 [] 0 (List.length v3.1.Guests) 17])] [z7, z6, z8, z11, z10, z12, (6, some q8), (7, some q7), (8, some q9)] 9 ?_))
 obtain ⟨v4, hv4, hh⟩ := bind_some hh
 refine yg (.call 20 [(.t 35), (.t 36)]) (some 37) 34 false (op_call (r := bb v4) (v := bb v4) (Hr := []) (n' := 9) (laws_sameHost_fn hv4) (clz_v (vs := [.agg [sw 3 v2.1.Words, .sref 4 [] 0 (List.length v2.1.Guests) 17], .agg [sw 6 v3.1.Words, .sref 7 [] 0 (List.length v3.1.Guests) 17]]) kr (clz_c (clo_agg (clos_c (clo_own (c := (eI .i64)) (xs := v2.1.Words) (e := 3) eqn len_eI no_eI cl_eI kr) (clos_c (clo_flr (B := B_53) (xs := v2.1.Guests) (e := 53) oc_O_53 len_O_53 eqn kr) clos_n))) (clz_c (clo_agg (clos_c (clo_own (c := (eI .i64)) (xs := v3.1.Words) (e := 3) eqn len_eI no_eI cl_eI kr) (clos_c (clo_flr (B := B_53) (xs := v3.1.Guests) (e := 53) oc_O_53 len_O_53 eqn kr) clos_n))) clz_n))) rfl rfl kr ?_)
 refine yt (sp 61 [z3, z5, z4, z9, (39, bb (!v4))]) [z7, z6, z8, z11, z10, z12] 9 ?_
 rcases cond_some hh with ⟨hb, hh⟩ | ⟨hb, hh⟩
 · exact cT hb (sy [2] [] (sp 61 [(2, bb false)]) [] 9 (Aw.ret (then_r (gvbs hh))))
 refine cF hb (Aw.xskip (fun _ _ _ hq => then_m hq) (Aw.seq (sy [3, 4, 5, 41] [0, 1, 2, 3, 4, 5] (sp 61 [z3, z5, z4, (41, bb (!v2.2))]) [z7, z6, z8, z11, z10, z12] 9 ?_)))
 rcases cond_some hh with ⟨hb, hh⟩ | ⟨hb, hh⟩
 · refine cT hb (Aw.sreg [2] [] ?_)
   obtain ⟨v5, hv5, hh⟩ := bind_some hh
   refine ys (.call 21 []) (some 42) (oc (laws_alive_fn hv5) ?_)
   exact yt (sp 61 [(2, bb v5)]) [] 9 (Aw.ret (then_r (gvbs hh)))
 refine cF hb (Aw.xskip (fun _ _ _ hq => then_m hq) (Aw.sreg [3, 4, 5, 10] [0, 1, 2, 3, 4, 5] (yj 2  (sp 61 [z3, z5, z4, (41, bb (!v2.2)), (44, .agg [sw 3 v2.1.Words, .sref 4 [] 0 (List.length v2.1.Guests) 17]), (45, ii v1.2)]) [z7, z6, z8, z11, z10, z12] 9 ?_)))
 obtain ⟨v6, hv6, hh⟩ := bind_some hh
 refine ys (.call 22 [(.t 44), (.t 45)]) (some 46) (op_call (r := .tup [.agg (.own 3 1 (List.length v6.1.C.Regs) (fl (eI .i64) v6.1.C.Regs) :: ru28 v6.1.C [.own 3 1 (List.length v6.1.Mem) (fl (eI .i64) v6.1.Mem), .own 3 1 (List.length v6.1.In) (fl (eI .i64) v6.1.In), .own 3 1 (List.length v6.1.Out) (fl (eI .i64) v6.1.Out)]), bb v6.2]) (v := .tup [.agg (sw 9 v6.1.C.Regs :: ru28 v6.1.C [sw 10 v6.1.Mem, sw 11 v6.1.In, sw 12 v6.1.Out]), bb v6.2]) (Hr := [(12, some ⟨3, (fl (eI .i64) v6.1.Out)⟩), (11, some ⟨3, (fl (eI .i64) v6.1.In)⟩), (10, some ⟨3, (fl (eI .i64) v6.1.Mem)⟩), (9, some ⟨3, (fl (eI .i64) v6.1.C.Regs)⟩)]) (n' := 13) (impl_HostView_fn hv6) (clz_v (vs := [.agg [sw 3 v2.1.Words, .sref 4 [] 0 (List.length v2.1.Guests) 17], ii v1.2]) kr (clz_c (clo_agg (clos_c (clo_own (c := (eI .i64)) (xs := v2.1.Words) (e := 3) eqn len_eI no_eI cl_eI kr) (clos_c (clo_flr (B := B_53) (xs := v2.1.Guests) (e := 53) oc_O_53 len_O_53 eqn kr) clos_n))) (cz1 clz_n))) (by simp only [ru28, AV.noRef, noRefs, Bool.and_self, noRefs_fl nr_eI]) (by simp only [ru28, AV.noBor, noBors, Bool.and_self, noBors_fl nb_eI]) kr ?_)
 refine yt (sp 61 [z3, z5, z4, (10, bb v6.2)]) [z7, z6, z8, z11, z10, z12] 14 (Aw.sreg [2] [] (yu 1 [(49, .agg [sw 3 v2.1.Words, .sref 4 [] 0 (List.length v2.1.Guests) 17])] [z7, z6, z8, z11, z10, z12] 14 ?_))
 obtain ⟨v7, hv7, hh⟩ := bind_some hh
 refine ys (.call 23 [(.t 49)]) (some 50) (op_call (r := bb v7) (v := bb v7) (Hr := []) (n' := 14) (impl_HostOk_fn hv7) (clz_v (vs := [.agg [sw 3 v2.1.Words, .sref 4 [] 0 (List.length v2.1.Guests) 17]]) kr (clz_c (clo_agg (clos_c (clo_own (c := (eI .i64)) (xs := v2.1.Words) (e := 3) eqn len_eI no_eI cl_eI kr) (clos_c (clo_flr (B := B_53) (xs := v2.1.Guests) (e := 53) oc_O_53 len_O_53 eqn kr) clos_n))) clz_n)) rfl rfl kr ?_)
 refine yu 1 [(50, bb v7), (51, bb v7)] [z7, z6, z8, z11, z10, z12] 14 ?_
 rcases cond_some hh with ⟨hb, hh⟩ | ⟨hb, hh⟩
 · refine yb 50 hb (yb 51 hb (yu 4 [(50, bb true), (51, bb true), (52, bb v6.2), (53, bb (!v6.2)), (54, bb (!v6.2)), (55, bb (!v6.2))] [z7, z6, z8, z11, z10, z12] 14 ?_))
   rcases cond_some hh with ⟨hb, hh⟩ | ⟨hb, hh⟩
   · refine yb 53 hb (yb 54 hb (yb 55 hb (yu 3 [(53, bb true), (54, bb true), (55, bb true), (56, .agg [sw 0 v1.1.Words, .sref 1 [] 0 (List.length v1.1.Guests) 17]), (57, .agg [sw 3 v2.1.Words, .sref 4 [] 0 (List.length v2.1.Guests) 17]), (58, ii v1.2)] [z7, z6, z8, z11, z10, z12] 14 ?_)))
     obtain ⟨v8, hv8, hh⟩ := bind_some hh
     refine yg (.call 25 [(.t 56), (.t 57), (.t 58)]) (some 59) 55 true (op_call (r := bb v8) (v := bb v8) (Hr := []) (n' := 14) (laws_sameViews_fn hv8) (clz_v (vs := [.agg [sw 0 v1.1.Words, .sref 1 [] 0 (List.length v1.1.Guests) 17], .agg [sw 3 v2.1.Words, .sref 4 [] 0 (List.length v2.1.Guests) 17], ii v1.2]) kr (clz_c (clo_agg (clos_c (clo_own (c := (eI .i64)) (xs := v1.1.Words) (e := 3) eqn len_eI no_eI cl_eI kr) (clos_c (clo_flr (B := B_53) (xs := v1.1.Guests) (e := 53) oc_O_53 len_O_53 eqn kr) clos_n))) (clz_c (clo_agg (clos_c (clo_own (c := (eI .i64)) (xs := v2.1.Words) (e := 3) eqn len_eI no_eI cl_eI kr) (clos_c (clo_flr (B := B_53) (xs := v2.1.Guests) (e := 53) oc_O_53 len_O_53 eqn kr) clos_n))) (cz1 clz_n)))) rfl rfl kr ?_)
     exact yt (sp 61 [(2, bb v8)]) [] 14 (Aw.ret (gvbs hh))
   exact yb 53 hb (yb 54 hb (yb 55 hb (yt (sp 61 [(2, bb false)]) [] 14 (Aw.ret (gvbs hh)))))
 exact yb 50 hb (yb 51 hb (yt (sp 61 [(2, bb false)]) [] 14 (Aw.ret (gvbs hh))))
end Go.Proofs.Ytlikfpmbcdlnjaa
