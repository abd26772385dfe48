/- Plain functions of the program, and that it hands back what they say. Made by program. -/
import Derived.Test.YtbnjdmclnojlmaaWT
import Derived.Test.YtbnjdmclnojlmaaProg
import Derived.Test.YtbnjdmclnojlmaaWHT1
import Derived.Test.YtbnjdmclnojlmaaWTK1
import Derived.Test.YtbnjdmclnojlmaaWTL1
namespace Go.Proofs.Ytbnjdmclnojlmaa
open Go.RowKit
set_option maxRecDepth 100000
set_option linter.all false
set_option maxHeartbeats 0
theorem low_laws_FnExactTagsOk : LW 6 ⟨45, [(.tmp 4)], (.seq (.reg false (rg 6 0)) (.seq (.reg false (rg 6 1)) (.seq (.reg false (rg 6 2)) (.seq (.seq (.reg false (rg 6 3)) (.cond (.t 14) (.seq (.reg false (rg 6 4)) .ret) .skip)) (.seq (.reg false (rg 6 5)) (.seq (.seq (.reg false (rg 6 6)) (.cond (.t 19) (.seq (.reg false (rg 6 7)) .ret) .skip)) (.seq (.reg false (rg 6 8)) (.seq (.reg false (rg 6 9)) (.seq (.reg false (rg 6 10)) (.seq (.reg false (rg 6 11)) (.seq (.seq (.reg false (rg 6 12)) (.cond (.t 34) (.seq (.reg false (rg 6 13)) .ret) .skip)) (.seq (.seq (.regd (rg 6 14) (rg 6 15)) (.cond (.t 39) (.seq (.reg false (rg 6 16)) .ret) .skip)) (.seq (.seq (.reg false (rg 6 17)) (.cond (.t 44) (.seq (.reg false (rg 6 18)) .ret) .skip)) (.seq (.reg false (rg 6 19)) .ret))))))))))))))⟩ := kr
noncomputable def F_laws_FnExactTagsOk (x_aH : DHost) (x_aTags : List DLine) : Option Bool :=
 Option.bind (F_laws_szHost x_aH (1048576 : Int)) fun v1 =>
 cond (decide (v1 < (0 : Int)))
  (some true)
  (Option.bind (F_laws_szLineS x_aTags v1) fun v2 =>
  cond (decide (v2 < (0 : Int)))
   (some true)
   (Option.bind (F_laws_toHost x_aH) fun v3 =>
   Option.bind (F_laws_toLineS x_aTags) fun v4 =>
   Option.bind (F_spec_TagsOk v3 v4) fun v5 =>
   Option.bind (F_laws_toHost x_aH) fun v6 =>
   Option.bind (F_laws_toLineS x_aTags) fun v7 =>
   Option.bind (F_impl_TagsOk v6 v7) fun v8 =>
   cond (!(v8 == v5))
    (some false)
    (Option.bind (F_laws_toHost x_aH) fun v9 =>
    Option.bind (F_laws_eqHost v6 v9) fun v10 =>
    cond (!v10)
     (some false)
     (Option.bind (F_laws_toLineS x_aTags) fun v11 =>
     Option.bind (F_laws_eqLineS v7 v11) fun v12 =>
     cond (!v12)
      (some false)
      (some true)))))
theorem laws_FnExactTagsOk_fn {x_aH : DHost} {x_aTags : List DLine} {R_ : Bool} (hh : F_laws_FnExactTagsOk x_aH x_aTags = some R_) : Fn Try.prog 6 [.agg [bo (eI .i64) x_aH.Words, bo B_126 x_aH.Guests], bo C_90 x_aTags] (.bool R_) := by
 let z1 := (1, bo C_90 x_aTags); let z2 := (2, pp 0); let z3 : EV := (36, .agg [bo (eI .i64) x_aH.Words, bo B_126 x_aH.Guests]); let z4 := (7, pp 6)
 unfold F_laws_FnExactTagsOk at hh
 refine Fn.start low_laws_FnExactTagsOk [0, 1] (E := sp 45 [(0, .agg [bo (eI .i64) x_aH.Words, bo B_126 x_aH.Guests]), z1]) kr (v := bb R_) (Hr := []) (k := 0) kr (Aw.sreg [1, 2] [0] ?_)
 let q1 : Root := ⟨50, [bo (eI .i64) x_aH.Words, bo B_126 x_aH.Guests]⟩; let z5 := (0, some q1)
 refine yt (sp 45 [z1, z2]) [z5] 1 (sy [1, 2, 5] [0] (sp 45 [z1, z2, (5, ii 1048576)]) [z5] 1 (Aw.sreg [1, 2, 5] [0] (yu 2 [(10, .agg [bo (eI .i64) x_aH.Words, bo B_126 x_aH.Guests]), (11, ii 1048576)] [z5] 1 ?_)))
 obtain ⟨v1, hv1, hh⟩ := bind_some hh
 let z6 := (14, bb (decide (v1 < (0 : Int))))
 refine ys (.call 22 [(.t 10), (.t 11)]) (some 12) (op_call (r := ii v1) (v := ii v1) (Hr := []) (n' := 1) (laws_szHost_fn hv1) (clz_v (vs := [.agg [bo (eI .i64) x_aH.Words, bo B_126 x_aH.Guests], ii 1048576]) kr (clz_c (clo_agg cz) (cz1 clz_n))) rfl rfl kr ?_)
 refine yt (sp 45 [z1, z2, (5, ii v1)]) [z5] 1 (Aw.seq (sy [1, 2, 5, 14] [0] (sp 45 [z1, z2, (5, ii v1), z6]) [z5] 1 ?_))
 rcases cond_some hh with ⟨hb, hh⟩ | ⟨hb, hh⟩
 · exact cT hb (sy [4] [] (sp 45 [(4, bb true)]) [] 1 (Aw.ret (then_r (gvbs hh))))
 refine cF hb (Aw.xskip (fun _ _ _ hq => then_m hq) (Aw.sreg [1, 2, 5] [0] (yj 2  (sp 45 [z1, z2, (5, ii v1), z6, (15, bo C_90 x_aTags), (16, ii v1)]) [z5] 1 ?_)))
 obtain ⟨v2, hv2, hh⟩ := bind_some hh
 let z7 := (19, bb (decide (v2 < (0 : Int))))
 refine ys (.call 23 [(.t 15), (.t 16)]) (some 17) (op_call (r := ii v2) (v := ii v2) (Hr := []) (n' := 1) (laws_szLineS_fn hv2) (clz_v (vs := [bo C_90 x_aTags, ii v1]) kr (clz_c (clo_same (clean_bor (cleans_fl cl_C_90))) (cz1 clz_n))) rfl rfl kr ?_)
 refine yt (sp 45 [z1, z2, (5, ii v2)]) [z5] 1 (Aw.seq (sy [1, 2, 19] [0] (sp 45 [z1, z2, z7]) [z5] 1 ?_))
 rcases cond_some hh with ⟨hb, hh⟩ | ⟨hb, hh⟩
 · exact cT hb (sy [4] [] (sp 45 [(4, bb true)]) [] 1 (Aw.ret (then_r (gvbs hh))))
 refine cF hb (Aw.xskip (fun _ _ _ hq => then_m hq) (Aw.sreg [1, 2, 6] [0] (yj 1  (sp 45 [z1, z2, z7, (20, .agg [bo (eI .i64) x_aH.Words, bo B_126 x_aH.Guests])]) [z5] 1 ?_)))
 obtain ⟨v3, hv3, hh⟩ := bind_some hh
 let q2 : Root := (rO108 v3.Guests); let q3 : Root := (rI_3 v3.Words)
 refine ys (.call 24 [(.t 20)]) (some 21) (op_call (r := .agg [.own 3 1 (List.length v3.Words) (fl (eI .i64) v3.Words), .own 108 17 (List.length v3.Guests) (fl O_108 v3.Guests)]) (v := .agg [sw 1 v3.Words, .sref 2 [] 0 (List.length v3.Guests) 17]) (Hr := [(2, some q2), (1, some q3)]) (n' := 3) (laws_toHost_fn hv3) (clz_v (vs := [.agg [bo (eI .i64) x_aH.Words, bo B_126 x_aH.Guests]]) kr (clz_c (clo_agg cz) clz_n)) nrr nrr kr ?_)
 refine yu 1 [(21, .agg [sw 1 v3.Words, .sref 2 [] 0 (List.length v3.Guests) 17]), (22, bo C_90 x_aTags)] [(2, some q2), (1, some q3), z5] 3 ?_
 obtain ⟨v4, hv4, hh⟩ := bind_some hh
 refine ys (.call 25 [(.t 22)]) (some 23) (op_call (r := .own 47 8 (List.length v4) (fl C_47 v4)) (v := .sref 3 [] 0 (List.length v4) 8) (Hr := [(3, some (rC47 v4))]) (n' := 4) (laws_toLineS_fn hv4) (clz_v (vs := [bo C_90 x_aTags]) kr (clz_c (clo_same (clean_bor (cleans_fl cl_C_90))) clz_n)) nrr nrr kr ?_)
 obtain ⟨v5, hv5, hh⟩ := bind_some hh
 refine ys (.call 11 [(.t 21), (.t 23)]) (some 24) (op_call (r := bb v5) (v := bb v5) (Hr := []) (n' := 4) (spec_TagsOk_fn hv5) (clz_v (vs := [.agg [sw 1 v3.Words, .sref 2 [] 0 (List.length v3.Guests) 17], .sref 3 [] 0 (List.length v4) 8]) kr (clz_c (clo_agg (clos_c (clo_own (c := (eI .i64)) (xs := v3.Words) (e := 3) eqn len_eI no_eI cl_eI kr) (clos_c (clo_flr (B := B_108) (xs := v3.Guests) (e := 108) oc_O_108 len_O_108 eqn kr) clos_n))) (clz_c (clo_own (c := C_47) (xs := v4) (e := 47) eqn len_C_47 no_C_47 cl_C_47 kr) clz_n))) rfl rfl kr ?_)
 refine yt (sp 45 [z1, z2, (6, bb v5)]) [z5] 4 (Aw.sreg [1, 2, 6, 7] [0, 4, 5, 6] (yu 1 [(25, .agg [bo (eI .i64) x_aH.Words, bo B_126 x_aH.Guests])] [z5] 4 ?_))
 obtain ⟨v6, hv6, hh⟩ := bind_some hh
 let z8 : EV := (35, .agg [sw 4 v6.Words, .sref 5 [] 0 (List.length v6.Guests) 17]); let q4 : Root := (rO108 v6.Guests); let z9 := (5, some q4); let q5 : Root := (rI_3 v6.Words); let z10 := (4, some q5)
 refine ys (.call 24 [(.t 25)]) (some 26) (op_call (r := .agg [.own 3 1 (List.length v6.Words) (fl (eI .i64) v6.Words), .own 108 17 (List.length v6.Guests) (fl O_108 v6.Guests)]) (v := .agg [sw 4 v6.Words, .sref 5 [] 0 (List.length v6.Guests) 17]) (Hr := [z9, z10]) (n' := 6) (laws_toHost_fn hv6) (clz_v (vs := [.agg [bo (eI .i64) x_aH.Words, bo B_126 x_aH.Guests]]) kr (clz_c (clo_agg cz) clz_n)) nrr nrr kr ?_)
 let q6 : Root := ⟨26, [sw 4 v6.Words, .sref 5 [] 0 (List.length v6.Guests) 17]⟩; let z11 := (6, some q6)
 refine yt (sp 45 [z1, z2, (6, bb v5), z4]) [z5, z10, z9, z11] 7 (Aw.sreg [1, 2, 6, 7, 8] [0, 4, 5, 6, 7] (yu 1 [(27, bo C_90 x_aTags)] [z5, z10, z9, z11] 7 ?_))
 obtain ⟨v7, hv7, hh⟩ := bind_some hh
 let z12 : EH := (7, some (rC47 v7)); let z13 : EV := (8, .sref 7 [] 0 (List.length v7) 8)
 refine ys (.call 25 [(.t 27)]) (some 28) (op_call (r := .own 47 8 (List.length v7) (fl C_47 v7)) (v := .sref 7 [] 0 (List.length v7) 8) (Hr := [z12]) (n' := 8) (laws_toLineS_fn hv7) (clz_v (vs := [bo C_90 x_aTags]) kr (clz_c (clo_same (clean_bor (cleans_fl cl_C_90))) clz_n)) nrr nrr kr ?_)
 refine yt (sp 45 [z1, z2, (6, bb v5), z4, z13]) [z5, z10, z9, z11, z12] 8 (Aw.sreg [1, 2, 6, 7, 8, 9] [0, 4, 5, 6, 7] (yu 2 [(29, .agg [sw 4 v6.Words, .sref 5 [] 0 (List.length v6.Guests) 17]), (30, .sref 7 [] 0 (List.length v7) 8)] [z5, z10, z9, z11, z12] 8 ?_))
 obtain ⟨v8, hv8, hh⟩ := bind_some hh
 let z14 := (34, bb (!(v8 == v5)))
 refine ys (.call 10 [(.t 29), (.t 30)]) (some 31) (op_call (r := bb v8) (v := bb v8) (Hr := []) (n' := 8) (impl_TagsOk_fn hv8) (clz_v (vs := [.agg [sw 4 v6.Words, .sref 5 [] 0 (List.length v6.Guests) 17], .sref 7 [] 0 (List.length v7) 8]) kr (clz_c (clo_agg (clos_c (clo_own (c := (eI .i64)) (xs := v6.Words) (e := 3) eqn len_eI no_eI cl_eI kr) (clos_c (clo_flr (B := B_108) (xs := v6.Guests) (e := 108) oc_O_108 len_O_108 eqn kr) clos_n))) (clz_c (clo_own (c := C_47) (xs := v7) (e := 47) eqn len_C_47 no_C_47 cl_C_47 kr) clz_n))) rfl rfl kr ?_)
 refine yt (sp 45 [z1, z2, (6, bb v5), z4, z13, (9, bb v8)]) [z5, z10, z9, z11, z12] 8 (Aw.seq (sy [1, 2, 7, 8, 34] [0, 4, 5, 6, 7] (sp 45 [z1, z2, z4, z13, z14]) [z5, z10, z9, z11, z12] 8 ?_))
 rcases cond_some hh with ⟨hb, hh⟩ | ⟨hb, hh⟩
 · exact cT hb (sy [4] [] (sp 45 [(4, bb false)]) [] 8 (Aw.ret (then_r (gvbs hh))))
 refine cF hb (Aw.xskip (fun _ _ _ hq => then_m hq) (Aw.seq (Aw.sregd [1, 8, 39] [7] [] kr (dj 2 (sp 45 [z1, z2, z4, z13, z14, z8, z3]) [z5, z10, z9, z11, z12] 8 ?_))))
 obtain ⟨v9, hv9, hh⟩ := bind_some hh
 let q7 : Root := (rO108 v9.Guests); let q8 : Root := (rI_3 v9.Words)
 refine ds (.call 24 [(.t 36)]) (some 37) (ydo_n rfl (op_call (r := .agg [.own 3 1 (List.length v9.Words) (fl (eI .i64) v9.Words), .own 108 17 (List.length v9.Guests) (fl O_108 v9.Guests)]) (v := .agg [sw 8 v9.Words, .sref 9 [] 0 (List.length v9.Guests) 17]) (Hr := [(9, some q7), (8, some q8)]) (n' := 10) (laws_toHost_fn hv9) (clz_v (vs := [.agg [bo (eI .i64) x_aH.Words, bo B_126 x_aH.Guests]]) kr (clz_c (clo_agg cz) clz_n)) nrr nrr kr ⟨⟨⟨by decide, agr_name (n := 8) (n0 := 8) (r := .agg [.own 3 1 (List.length v9.Words) (fl (eI .i64) v9.Words), .own 108 17 (List.length v9.Guests) (fl O_108 v9.Guests)]) (v := .agg [sw 8 v9.Words, .sref 9 [] 0 (List.length v9.Guests) 17]) (Hr := [(9, some q7), (8, some q8)]) (n' := 10) kr dd⟩, Hld.un ?_⟩⟩))
 refine dt (sp 45 [z1, z2, z4, z13, z14, z8, z3, (37, .agg [sw 8 v9.Words, .sref 9 [] 0 (List.length v9.Guests) 17])]) [(9, some q7), (8, some q8), z5, z10, z9, z11, z12] 10 ?_
 obtain ⟨v10, hv10, hh⟩ := bind_some hh
 refine ys (.call 26 [(.t 35), (.t 37)]) (some 38) (op_call (r := bb v10) (v := bb v10) (Hr := []) (n' := 10) (laws_eqHost_fn hv10) (clz_v (vs := [.agg [sw 4 v6.Words, .sref 5 [] 0 (List.length v6.Guests) 17], .agg [sw 8 v9.Words, .sref 9 [] 0 (List.length v9.Guests) 17]]) kr (clz_c (clo_agg (clos_c (clo_own (c := (eI .i64)) (xs := v6.Words) (e := 3) eqn len_eI no_eI cl_eI kr) (clos_c (clo_flr (B := B_108) (xs := v6.Guests) (e := 108) oc_O_108 len_O_108 eqn kr) clos_n))) (clz_c (clo_agg (clos_c (clo_own (c := (eI .i64)) (xs := v9.Words) (e := 3) eqn len_eI no_eI cl_eI kr) (clos_c (clo_flr (B := B_108) (xs := v9.Guests) (e := 108) oc_O_108 len_O_108 eqn kr) clos_n))) clz_n))) rfl rfl kr ?_)
 refine yt (sp 45 [z1, z13, (39, bb (!v10))]) [z12] 10 ?_
 rcases cond_some hh with ⟨hb, hh⟩ | ⟨hb, hh⟩
 · exact cT hb (sy [4] [] (sp 45 [(4, bb false)]) [] 10 (Aw.ret (then_r (gvbs hh))))
 refine cF hb (Aw.xskip (fun _ _ _ hq => then_m hq) (Aw.seq (Aw.sreg [44] [] (yj 2  (sp 45 [z1, z13, (39, bb (!v10)), (40, .sref 7 [] 0 (List.length v7) 8), (41, bo C_90 x_aTags)]) [z12] 10 ?_))))
 obtain ⟨v11, hv11, hh⟩ := bind_some hh
 refine ys (.call 25 [(.t 41)]) (some 42) (op_call (r := .own 47 8 (List.length v11) (fl C_47 v11)) (v := .sref 10 [] 0 (List.length v11) 8) (Hr := [(10, some (rC47 v11))]) (n' := 11) (laws_toLineS_fn hv11) (clz_v (vs := [bo C_90 x_aTags]) kr (clz_c (clo_same (clean_bor (cleans_fl cl_C_90))) clz_n)) nrr nrr kr ?_)
 obtain ⟨v12, hv12, hh⟩ := bind_some hh
 refine ys (.call 27 [(.t 40), (.t 42)]) (some 43) (op_call (r := bb v12) (v := bb v12) (Hr := []) (n' := 11) (laws_eqLineS_fn hv12) (clz_v (vs := [.sref 7 [] 0 (List.length v7) 8, .sref 10 [] 0 (List.length v11) 8]) kr (clz_c (clo_own (c := C_47) (xs := v7) (e := 47) eqn len_C_47 no_C_47 cl_C_47 kr) (clz_c (clo_own (c := C_47) (xs := v11) (e := 47) eqn len_C_47 no_C_47 cl_C_47 kr) clz_n))) rfl rfl kr ?_)
 refine yt (sp 45 [(44, bb (!v12))]) [] 11 ?_
 rcases cond_some hh with ⟨hb, hh⟩ | ⟨hb, hh⟩
 · exact cT hb (sy [4] [] (sp 45 [(4, bb false)]) [] 11 (Aw.ret (then_r (gvbs hh))))
 exact cF hb (Aw.xskip (fun _ _ _ hq => then_m hq) (sy [4] [] (sp 45 [(4, bb true)]) [] 11 (Aw.ret (gvbs hh))))
end Go.Proofs.Ytbnjdmclnojlmaa
