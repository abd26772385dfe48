/- Plain functions of the program, and that it hands back what they say. Made by program. -/
import Derived.Test.YtbnjdmclnojlmaaWT
import Derived.Test.YtbnjdmclnojlmaaProg
import Derived.Test.YtbnjdmclnojlmaaWTD1
import Derived.Test.YtbnjdmclnojlmaaWTL1
import Derived.Test.YtbnjdmclnojlmaaWTM1
namespace Go.Proofs.Ytbnjdmclnojlmaa
open Go.RowKit
set_option maxRecDepth 100000
set_option linter.all false
set_option maxHeartbeats 0
theorem low_laws_FnExactTagDrop : LW 8 ⟨74, [(.tmp 4)], (.seq (.reg false (rg 8 0)) (.seq (.reg false (rg 8 1)) (.seq (.reg false (rg 8 2)) (.seq (.seq (.reg false (rg 8 3)) (.cond (.t 17) (.seq (.reg false (rg 8 4)) .ret) .skip)) (.seq (.reg false (rg 8 5)) (.seq (.reg false (rg 8 6)) (.seq (.reg false (rg 8 7)) (.seq (.seq (.reg false (rg 8 8)) (.cond (.t 30) (.seq (.reg false (rg 8 9)) .ret) .skip)) (.seq (.seq (.reg false (rg 8 10)) (.cond (.t 35) (.seq (.reg false (rg 8 11)) .ret) .skip)) (.seq (.reg false (rg 8 12)) (.seq (.reg false (rg 8 13)) (.seq (.seq (.reg false (rg 8 14)) (.cond (.t 46) (.seq (.reg false (rg 8 15)) .ret) .skip)) (.seq (.reg false (rg 8 16)) (.seq (.reg false (rg 8 17)) (.seq (.reg false (rg 8 18)) (.seq (.reg false (rg 8 19)) (.seq (.seq (.reg false (rg 8 20)) (.cond (.t 54) (.seq (.reg false (rg 8 21)) .ret) .skip)) (.seq (.seq (.reg false (rg 8 22)) (.cond (.t 57) (.seq (.reg false (rg 8 23)) .ret) .skip)) (.seq (.reg false (rg 8 24)) (.seq (.seq (.reg false (rg 8 25)) (.cond (.t 65) (.seq (.reg false (rg 8 26)) .ret) .skip)) (.seq (.reg false (rg 8 27)) (.seq (.reg false (rg 8 28)) (.seq (.seq (.reg false (rg 8 29)) (.cond (.t 70) (.seq (.reg false (rg 8 30)) .ret) .skip)) (.seq (.seq (.reg false (rg 8 31)) (.cond (.t 73) (.seq (.reg false (rg 8 32)) .ret) .skip)) (.seq (.reg false (rg 8 33)) .ret)))))))))))))))))))))))))⟩ := kr
noncomputable def F_laws_FnExactTagDrop (x_aTags : List DLine) (x_aG : Int) : Option Bool :=
 Option.bind (F_laws_szLineS x_aTags (1048576 : Int)) fun v1 =>
 cond (decide (v1 < (0 : Int)))
  (some true)
  (Option.bind (F_laws_toLineS x_aTags) fun v2 =>
  Option.bind (F_spec_TagDrop v2 x_aG) fun v3 =>
  Option.bind (F_laws_toLineS x_aTags) fun v4 =>
  Option.bind (F_impl_TagDrop v4 x_aG) fun v5 =>
  Option.bind (F_laws_eqLineS v5 v3) fun v6 =>
  cond (!v6)
   (some false)
   (Option.bind (F_laws_toLineS x_aTags) fun v7 =>
   Option.bind (F_laws_eqLineS v4 v7) fun v8 =>
   cond (!v8)
    (some false)
    (Option.bind (F_laws_markLineS v4 (1 : Int)) fun v9 =>
    grd (List.length v9.1 = (List.length v4)) (cond (decide (v9.2 < (0 : Int)))
     (some false)
     (Option.bind (F_laws_eqLineS v5 v3) fun v10 =>
     cond (!v10)
      (some false)
      (Option.bind (F_laws_markLineS v5 (1 : Int)) fun v11 =>
      grd (List.length v11.1 = (List.length v5)) (Option.bind (F_laws_heldLineS v11.1 (1 : Int)) fun v12 =>
       cond (decide (v12 < (0 : Int)))
        (some false)
        (cond (!decide (v12 = v11.2))
         (some false)
         (Option.bind (F_laws_toLineS x_aTags) fun v13 =>
         Option.bind (F_impl_TagDrop v13 x_aG) fun v14 =>
         Option.bind (F_laws_eqLineS v14 v3) fun v15 =>
         cond (!v15)
          (some false)
          (Option.bind (F_laws_heldLineS v11.1 (1 : Int)) fun v16 =>
          cond (decide (v16 < (0 : Int)))
           (some false)
           (cond (!decide (v16 = v11.2))
            (some false)
            (some true))))))))))))
theorem laws_FnExactTagDrop_fn {x_aTags : List DLine} {x_aG : Int} {R_ : Bool} (hh : F_laws_FnExactTagDrop x_aTags x_aG = some R_) : Fn Try.prog 8 [bo C_90 x_aTags, .int .i64 x_aG] (.bool R_) := by
 let z1 := (0, bo C_90 x_aTags); let z2 := (1, ii x_aG); let z3 := (4, bb false)
 unfold F_laws_FnExactTagDrop at hh
 refine Fn.start low_laws_FnExactTagDrop [0, 1] (E := sp 74 [z1, z2]) kr (v := bb R_) (Hr := []) (k := 0) kr (sy [0, 1] [] (sp 74 [z1, z2]) [] 0 (sy [0, 1, 5] [] (sp 74 [z1, z2, (5, ii 1048576)]) [] 0 (Aw.sreg [0, 1, 5] [] (yu 2 [(13, bo C_90 x_aTags), (14, ii 1048576)] [] 0 ?_))))
 obtain ⟨v1, hv1, hh⟩ := bind_some hh
 let z4 := (17, bb (decide (v1 < (0 : Int))))
 refine ys (.call 23 [(.t 13), (.t 14)]) (some 15) (op_call (r := ii v1) (v := ii v1) (Hr := []) (n' := 0) (laws_szLineS_fn hv1) (clz_v (vs := [bo C_90 x_aTags, ii 1048576]) kr (clz_c (clo_same (clean_bor (cleans_fl cl_C_90))) (cz1 clz_n))) rfl rfl kr ?_)
 refine yt (sp 74 [z1, z2, (5, ii v1)]) [] 0 (Aw.seq (sy [0, 1, 17] [] (sp 74 [z1, z2, z4]) [] 0 ?_))
 rcases cond_some hh with ⟨hb, hh⟩ | ⟨hb, hh⟩
 · exact cT hb (sy [4] [] (sp 74 [(4, bb true)]) [] 0 (Aw.ret (then_r (gvbs hh))))
 refine cF hb (Aw.xskip (fun _ _ _ hq => then_m hq) (Aw.sreg [0, 1, 6] [1] (yj 1  (sp 74 [z1, z2, z4, (18, bo C_90 x_aTags)]) [] 0 ?_)))
 obtain ⟨v2, hv2, hh⟩ := bind_some hh
 refine ys (.call 25 [(.t 18)]) (some 19) (op_call (r := .own 47 8 (List.length v2) (fl C_47 v2)) (v := .sref 0 [] 0 (List.length v2) 8) (Hr := [(0, some (rC47 v2))]) (n' := 1) (laws_toLineS_fn hv2) (clz_v (vs := [bo C_90 x_aTags]) kr (clz_c (clo_same (clean_bor (cleans_fl cl_C_90))) clz_n)) nrr nrr kr ?_)
 refine yu 1 [(19, .sref 0 [] 0 (List.length v2) 8), (20, ii x_aG)] [(0, some (rC47 v2))] 1 ?_
 obtain ⟨v3, hv3, hh⟩ := bind_some hh
 let z5 : EH := (1, some (rC47 v3)); let z6 : EV := (6, .sref 1 [] 0 (List.length v3) 8)
 refine ys (.call 21 [(.t 19), (.t 20)]) (some 21) (op_call (r := .own 47 8 (List.length v3) (fl C_47 v3)) (v := .sref 1 [] 0 (List.length v3) 8) (Hr := [z5]) (n' := 2) (spec_TagDrop_fn hv3) (clz_v (vs := [.sref 0 [] 0 (List.length v2) 8, ii x_aG]) kr (clz_c (clo_own (c := C_47) (xs := v2) (e := 47) eqn len_C_47 no_C_47 cl_C_47 kr) (cz1 clz_n))) nrr nrr kr ?_)
 refine yt (sp 74 [z1, z2, z6]) [z5] 2 (Aw.sreg [0, 1, 6, 7] [1, 2] (yu 1 [(22, bo C_90 x_aTags)] [z5] 2 ?_))
 obtain ⟨v4, hv4, hh⟩ := bind_some hh
 let z7 : EH := (2, some (rC47 v4)); let z8 : EV := (7, .sref 2 [] 0 (List.length v4) 8)
 refine ys (.call 25 [(.t 22)]) (some 23) (op_call (r := .own 47 8 (List.length v4) (fl C_47 v4)) (v := .sref 2 [] 0 (List.length v4) 8) (Hr := [z7]) (n' := 3) (laws_toLineS_fn hv4) (clz_v (vs := [bo C_90 x_aTags]) kr (clz_c (clo_same (clean_bor (cleans_fl cl_C_90))) clz_n)) nrr nrr kr ?_)
 refine yt (sp 74 [z1, z2, z6, z8]) [z5, z7] 3 (Aw.sreg [0, 1, 6, 7, 8] [1, 2, 3] (yu 2 [(24, .sref 2 [] 0 (List.length v4) 8), (25, ii x_aG)] [z5, z7] 3 ?_))
 obtain ⟨v5, hv5, hh⟩ := bind_some hh
 let z9 : EH := (3, some (rC47 v5)); let z10 : EV := (8, .sref 3 [] 0 (List.length v5) 8)
 refine ys (.call 20 [(.t 24), (.t 25)]) (some 26) (op_call (r := .own 47 8 (List.length v5) (fl C_47 v5)) (v := .sref 3 [] 0 (List.length v5) 8) (Hr := [z9]) (n' := 4) (impl_TagDrop_fn hv5) (clz_v (vs := [.sref 2 [] 0 (List.length v4) 8, ii x_aG]) kr (clz_c (clo_own (c := C_47) (xs := v4) (e := 47) eqn len_C_47 no_C_47 cl_C_47 kr) (cz1 clz_n))) nrr nrr kr ?_)
 refine yt (sp 74 [z1, z2, z6, z8, z10]) [z5, z7, z9] 4 (Aw.seq (Aw.sreg [0, 1, 6, 7, 8, 30] [1, 2, 3] (yj 2  (sp 74 [z1, z2, z6, z8, z10, (27, .sref 3 [] 0 (List.length v5) 8), (28, .sref 1 [] 0 (List.length v3) 8)]) [z5, z7, z9] 4 ?_)))
 obtain ⟨v6, hv6, hh⟩ := bind_some hh
 refine ys (.call 27 [(.t 27), (.t 28)]) (some 29) (op_call (r := bb v6) (v := bb v6) (Hr := []) (n' := 4) (laws_eqLineS_fn hv6) (clz_v (vs := [.sref 3 [] 0 (List.length v5) 8, .sref 1 [] 0 (List.length v3) 8]) kr (clz_c (clo_own (c := C_47) (xs := v5) (e := 47) eqn len_C_47 no_C_47 cl_C_47 kr) (clz_c (clo_own (c := C_47) (xs := v3) (e := 47) eqn len_C_47 no_C_47 cl_C_47 kr) clz_n))) rfl rfl kr ?_)
 refine yt (sp 74 [z1, z2, z6, z8, z10, (30, bb (!v6))]) [z5, z7, z9] 4 ?_
 rcases cond_some hh with ⟨hb, hh⟩ | ⟨hb, hh⟩
 · exact cT hb (sy [4] [] (sp 74 [z3]) [] 4 (Aw.ret (then_r (gvbs hh))))
 refine cF hb (Aw.xskip (fun _ _ _ hq => then_m hq) (Aw.seq (Aw.sreg [0, 1, 6, 7, 8, 35] [1, 2, 3] (yj 2  (sp 74 [z1, z2, z6, z8, z10, (30, bb (!v6)), (31, .sref 2 [] 0 (List.length v4) 8), (32, bo C_90 x_aTags)]) [z5, z7, z9] 4 ?_))))
 obtain ⟨v7, hv7, hh⟩ := bind_some hh
 refine ys (.call 25 [(.t 32)]) (some 33) (op_call (r := .own 47 8 (List.length v7) (fl C_47 v7)) (v := .sref 4 [] 0 (List.length v7) 8) (Hr := [(4, some (rC47 v7))]) (n' := 5) (laws_toLineS_fn hv7) (clz_v (vs := [bo C_90 x_aTags]) kr (clz_c (clo_same (clean_bor (cleans_fl cl_C_90))) clz_n)) nrr nrr kr ?_)
 obtain ⟨v8, hv8, hh⟩ := bind_some hh
 refine ys (.call 27 [(.t 31), (.t 33)]) (some 34) (op_call (r := bb v8) (v := bb v8) (Hr := []) (n' := 5) (laws_eqLineS_fn hv8) (clz_v (vs := [.sref 2 [] 0 (List.length v4) 8, .sref 4 [] 0 (List.length v7) 8]) kr (clz_c (clo_own (c := C_47) (xs := v4) (e := 47) eqn len_C_47 no_C_47 cl_C_47 kr) (clz_c (clo_own (c := C_47) (xs := v7) (e := 47) eqn len_C_47 no_C_47 cl_C_47 kr) clz_n))) rfl rfl kr ?_)
 refine yt (sp 74 [z1, z2, z6, z8, z10, (35, bb (!v8))]) [z5, z7, z9] 5 ?_
 rcases cond_some hh with ⟨hb, hh⟩ | ⟨hb, hh⟩
 · exact cT hb (sy [4] [] (sp 74 [z3]) [] 5 (Aw.ret (then_r (gvbs hh))))
 refine cF hb (Aw.xskip (fun _ _ _ hq => then_m hq) (sy [0, 1, 6, 7, 8, 9] [1, 2, 3] (sp 74 [z1, z2, z6, z8, z10, (9, ii 1)]) [z5, z7, z9] 5 (Aw.sreg [0, 1, 6, 8, 9] [1, 3] (yu 2 [(36, .sref 2 [] 0 (List.length v4) 8), (37, ii 1)] [z5, z7, z9] 5 ?_))))
 obtain ⟨v9, hv9, hh⟩ := bind_some hh
 obtain ⟨hg2, hh⟩ := grd_some hh
 refine ys (.call 29 [(.t 36), (.t 37)]) (some 38) (cf (ii v9.2) [(2, some (rC47 v9.1))] 5 [2] (laws_markLineS_fn hv9) [.sref 2 [] 0 (List.length v4) 8, ii 1] rz (hn nr_C_47 hs_nil) ren_i (hn nr_C_47 hs_nil) ?_)
 refine yt (sp 74 [z1, z2, z6, z10, (9, ii v9.2)]) [z5, z9] 5 (Aw.seq (Aw.sreg [0, 1, 6, 8, 46] [1, 3] (yj 3  (sp 74 [z1, z2, z6, z10, (9, ii v9.2), (39, ii v9.2), (40, bb (decide (v9.2 < (0 : Int)))), (41, bb (decide (v9.2 < (0 : Int))))]) [z5, z9] 5 ?_)))
 rcases cond_some hh with ⟨hb, hh⟩ | ⟨hb, hh⟩
 · exact yb 40 hb (yb 41 hb (yt (sp 74 [z1, z2, z6, z10, (46, bb true)]) [z5, z9] 5 (cT rfl (sy [4] [] (sp 74 [z3]) [] 5 (Aw.ret (then_r (gvbs hh)))))))
 refine yb 40 hb (yb 41 hb (yu 2 [(40, bb false), (41, bb false), (42, .sref 3 [] 0 (List.length v5) 8), (43, .sref 1 [] 0 (List.length v3) 8)] [z5, z9] 5 ?_))
 obtain ⟨v10, hv10, hh⟩ := bind_some hh
 refine yg (.call 27 [(.t 42), (.t 43)]) (some 44) 41 false (op_call (r := bb v10) (v := bb v10) (Hr := []) (n' := 5) (laws_eqLineS_fn hv10) (clz_v (vs := [.sref 3 [] 0 (List.length v5) 8, .sref 1 [] 0 (List.length v3) 8]) kr (clz_c (clo_own (c := C_47) (xs := v5) (e := 47) eqn len_C_47 no_C_47 cl_C_47 kr) (clz_c (clo_own (c := C_47) (xs := v3) (e := 47) eqn len_C_47 no_C_47 cl_C_47 kr) clz_n))) rfl rfl kr ?_)
 refine yt (sp 74 [z1, z2, z6, z10, (46, bb (!v10))]) [z5, z9] 5 ?_
 rcases cond_some hh with ⟨hb, hh⟩ | ⟨hb, hh⟩
 · exact cT hb (sy [4] [] (sp 74 [z3]) [] 5 (Aw.ret (then_r (gvbs hh))))
 refine cF hb (Aw.xskip (fun _ _ _ hq => then_m hq) (sy [0, 1, 6, 8, 10] [1, 3] (sp 74 [z1, z2, z6, z10, (10, ii 1)]) [z5, z9] 5 (Aw.sreg [0, 1, 6, 8, 10] [1, 3] (yu 2 [(47, .sref 3 [] 0 (List.length v5) 8), (48, ii 1)] [z5, z9] 5 ?_))))
 obtain ⟨v11, hv11, hh⟩ := bind_some hh
 let z11 := (10, ii v11.2); let z12 : EH := (3, some (rC47 v11.1))
 obtain ⟨hg4, hh⟩ := grd_some hh
 refine ys (.call 29 [(.t 47), (.t 48)]) (some 49) (cf (ii v11.2) [z12] 5 [3] (laws_markLineS_fn hv11) [.sref 3 [] 0 (List.length v5) 8, ii 1] rz (hn nr_C_47 hs_nil) ren_i (hn nr_C_47 hs_nil) ?_)
 refine yt (sp 74 [z1, z2, z6, z10, z11]) [z5, z12] 5 (sy [0, 1, 6, 8, 10, 11] [1, 3] (sp 74 [z1, z2, z6, z10, z11, (11, ii 1)]) [z5, z12] 5 (Aw.sreg [0, 1, 6, 8, 10, 11] [1, 3] (yu 2 [(50, .sref 3 [] 0 (List.length v5) 8), (51, ii 1)] [z5, z12] 5 ?_)))
 obtain ⟨v12, hv12, hh⟩ := bind_some hh
 let z13 := (57, bb (!decide (v12 = v11.2)))
 refine ys (.call 30 [(.t 50), (.t 51)]) (some 52) (op_call (r := ii v12) (v := ii v12) (Hr := []) (n' := 5) (laws_heldLineS_fn hv12) (clz_v (vs := [.sref 3 [] 0 (List.length v5) 8, ii 1]) kr (clz_c (clo_own (c := C_47) (xs := v11.1) (e := 47) eqn len_C_47 no_C_47 cl_C_47 kr) (cz1 clz_n))) rfl rfl kr ?_)
 refine yt (sp 74 [z1, z2, z6, z10, z11, (11, ii v12)]) [z5, z12] 5 (Aw.seq (sy [0, 1, 6, 8, 10, 11, 54] [1, 3] (sp 74 [z1, z2, z6, z10, z11, (11, ii v12), (54, bb (decide (v12 < (0 : Int))))]) [z5, z12] 5 ?_))
 rcases cond_some hh with ⟨hb, hh⟩ | ⟨hb, hh⟩
 · exact cT hb (sy [4] [] (sp 74 [z3]) [] 5 (Aw.ret (then_r (gvbs hh))))
 refine cF hb (Aw.xskip (fun _ _ _ hq => then_m hq) (Aw.seq (sy [0, 1, 6, 8, 10, 57] [1, 3] (sp 74 [z1, z2, z6, z10, z11, z13]) [z5, z12] 5 ?_)))
 rcases cond_some hh with ⟨hb, hh⟩ | ⟨hb, hh⟩
 · exact cT hb (sy [4] [] (sp 74 [z3]) [] 5 (Aw.ret (then_r (gvbs hh))))
 refine cF hb (Aw.xskip (fun _ _ _ hq => then_m hq) (Aw.sreg [6, 8, 10, 12] [1, 3, 6] (yj 1  (sp 74 [z1, z2, z6, z10, z11, z13, (58, bo C_90 x_aTags)]) [z5, z12] 5 ?_)))
 obtain ⟨v13, hv13, hh⟩ := bind_some hh
 refine ys (.call 25 [(.t 58)]) (some 59) (op_call (r := .own 47 8 (List.length v13) (fl C_47 v13)) (v := .sref 5 [] 0 (List.length v13) 8) (Hr := [(5, some (rC47 v13))]) (n' := 6) (laws_toLineS_fn hv13) (clz_v (vs := [bo C_90 x_aTags]) kr (clz_c (clo_same (clean_bor (cleans_fl cl_C_90))) clz_n)) nrr nrr kr ?_)
 refine yu 1 [(59, .sref 5 [] 0 (List.length v13) 8), (60, ii x_aG)] [(5, some (rC47 v13)), z5, z12] 6 ?_
 obtain ⟨v14, hv14, hh⟩ := bind_some hh
 let z14 : EV := (12, .sref 6 [] 0 (List.length v14) 8); let z15 : EH := (6, some (rC47 v14))
 refine ys (.call 20 [(.t 59), (.t 60)]) (some 61) (op_call (r := .own 47 8 (List.length v14) (fl C_47 v14)) (v := .sref 6 [] 0 (List.length v14) 8) (Hr := [z15]) (n' := 7) (impl_TagDrop_fn hv14) (clz_v (vs := [.sref 5 [] 0 (List.length v13) 8, ii x_aG]) kr (clz_c (clo_own (c := C_47) (xs := v13) (e := 47) eqn len_C_47 no_C_47 cl_C_47 kr) (cz1 clz_n))) nrr nrr kr ?_)
 refine yt (sp 74 [z6, z10, z11, z14]) [z5, z12, z15] 7 (Aw.seq (Aw.sreg [8, 10, 65] [3] (yj 2  (sp 74 [z6, z10, z11, z14, (62, .sref 6 [] 0 (List.length v14) 8), (63, .sref 1 [] 0 (List.length v3) 8)]) [z5, z12, z15] 7 ?_)))
 obtain ⟨v15, hv15, hh⟩ := bind_some hh
 refine ys (.call 27 [(.t 62), (.t 63)]) (some 64) (op_call (r := bb v15) (v := bb v15) (Hr := []) (n' := 7) (laws_eqLineS_fn hv15) (clz_v (vs := [.sref 6 [] 0 (List.length v14) 8, .sref 1 [] 0 (List.length v3) 8]) kr (clz_c (clo_own (c := C_47) (xs := v14) (e := 47) eqn len_C_47 no_C_47 cl_C_47 kr) (clz_c (clo_own (c := C_47) (xs := v3) (e := 47) eqn len_C_47 no_C_47 cl_C_47 kr) clz_n))) rfl rfl kr ?_)
 refine yt (sp 74 [z10, z11, (65, bb (!v15))]) [z12] 7 ?_
 rcases cond_some hh with ⟨hb, hh⟩ | ⟨hb, hh⟩
 · exact cT hb (sy [4] [] (sp 74 [z3]) [] 7 (Aw.ret (then_r (gvbs hh))))
 refine cF hb (Aw.xskip (fun _ _ _ hq => then_m hq) (sy [8, 10, 11] [3] (sp 74 [z10, z11, (11, ii 1)]) [z12] 7 (Aw.sreg [10, 11] [] (yu 2 [(66, .sref 3 [] 0 (List.length v5) 8), (67, ii 1)] [z12] 7 ?_))))
 obtain ⟨v16, hv16, hh⟩ := bind_some hh
 refine ys (.call 30 [(.t 66), (.t 67)]) (some 68) (op_call (r := ii v16) (v := ii v16) (Hr := []) (n' := 7) (laws_heldLineS_fn hv16) (clz_v (vs := [.sref 3 [] 0 (List.length v5) 8, ii 1]) kr (clz_c (clo_own (c := C_47) (xs := v11.1) (e := 47) eqn len_C_47 no_C_47 cl_C_47 kr) (cz1 clz_n))) rfl rfl kr ?_)
 refine yt (sp 74 [z11, (11, ii v16)]) [] 7 (Aw.seq (sy [10, 11, 70] [] (sp 74 [z11, (11, ii v16), (70, bb (decide (v16 < (0 : Int))))]) [] 7 ?_))
 rcases cond_some hh with ⟨hb, hh⟩ | ⟨hb, hh⟩
 · exact cT hb (sy [4] [] (sp 74 [z3]) [] 7 (Aw.ret (then_r (gvbs hh))))
 refine cF hb (Aw.xskip (fun _ _ _ hq => then_m hq) (Aw.seq (sy [73] [] (sp 74 [(73, bb (!decide (v16 = v11.2)))]) [] 7 ?_)))
 rcases cond_some hh with ⟨hb, hh⟩ | ⟨hb, hh⟩
 · exact cT hb (sy [4] [] (sp 74 [z3]) [] 7 (Aw.ret (then_r (gvbs hh))))
 exact cF hb (Aw.xskip (fun _ _ _ hq => then_m hq) (sy [4] [] (sp 74 [(4, bb true)]) [] 7 (Aw.ret (gvbs hh))))
end Go.Proofs.Ytbnjdmclnojlmaa
