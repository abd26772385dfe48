/- Plain functions of the program, and that it hands back what they say. Made by program. -/
import Derived.Test.YtbnjdmclnojlmaaWT
import Derived.Test.YtbnjdmclnojlmaaProg
import Derived.Test.YtbnjdmclnojlmaaWT5
import Derived.Test.YtbnjdmclnojlmaaWHM1
import Derived.Test.YtbnjdmclnojlmaaWHT1
import Derived.Test.YtbnjdmclnojlmaaWTL1
import Derived.Test.YtbnjdmclnojlmaaWTM1
import Derived.Test.YtbnjdmclnojlmaaWTW1
namespace Go.Proofs.Ytbnjdmclnojlmaa
open Go.RowKit
set_option maxRecDepth 100000
set_option linter.all false
set_option maxHeartbeats 0
theorem low_laws_FnExactTagWalk : LW 7 ⟨160, [(.tmp 12)], (.seq (.reg false (rg 7 0)) (.seq (.reg false (rg 7 1)) (.seq (.reg false (rg 7 2)) (.seq (.seq (.reg false (rg 7 3)) (.cond (.t 32) (.seq (.reg false (rg 7 4)) .ret) .skip)) (.seq (.reg false (rg 7 5)) (.seq (.seq (.reg false (rg 7 6)) (.cond (.t 37) (.seq (.reg false (rg 7 7)) .ret) .skip)) (.seq (.reg false (rg 7 8)) (.seq (.reg false (rg 7 9)) (.seq (.reg false (rg 7 10)) (.seq (.reg false (rg 7 11)) (.seq (.seq (.reg false (rg 7 12)) (.cond (.t 79) (.seq (.reg false (rg 7 13)) .ret) .skip)) (.seq (.seq (.regd (rg 7 14) (rg 7 15)) (.cond (.t 84) (.seq (.reg false (rg 7 16)) .ret) .skip)) (.seq (.seq (.reg false (rg 7 17)) (.cond (.t 89) (.seq (.reg false (rg 7 18)) .ret) .skip)) (.seq (.reg false (rg 7 19)) (.seq (.reg false (rg 7 20)) (.seq (.reg false (rg 7 21)) (.seq (.seq (.reg false (rg 7 22)) (.cond (.t 113) (.seq (.reg false (rg 7 23)) .ret) .skip)) (.seq (.reg false (rg 7 24)) (.seq (.reg false (rg 7 25)) (.seq (.reg false (rg 7 26)) (.seq (.reg false (rg 7 27)) (.seq (.seq (.reg false (rg 7 28)) (.cond (.t 121) (.seq (.reg false (rg 7 29)) .ret) .skip)) (.seq (.seq (.reg false (rg 7 30)) (.cond (.t 124) (.seq (.reg false (rg 7 31)) .ret) .skip)) (.seq (.reg false (rg 7 32)) (.seq (.seq (.reg false (rg 7 33)) (.cond (.t 151) (.seq (.reg false (rg 7 34)) .ret) .skip)) (.seq (.reg false (rg 7 35)) (.seq (.reg false (rg 7 36)) (.seq (.seq (.reg false (rg 7 37)) (.cond (.t 156) (.seq (.reg false (rg 7 38)) .ret) .skip)) (.seq (.seq (.reg false (rg 7 39)) (.cond (.t 159) (.seq (.reg false (rg 7 40)) .ret) .skip)) (.seq (.reg false (rg 7 41)) .ret))))))))))))))))))))))))))))))⟩ := kr
noncomputable def F_laws_FnExactTagWalk (x_aH : DHost) (x_aTags : List DLine) (x_aG : Int) (x_aAddr : Int) (x_aUser : Bool) (x_aWrite : Bool) : Option Bool :=
 Option.bind (F_laws_szHost x_aH (1048576 : Int)) fun v1 =>
 cond (decide (v1 < (0 : Int)))
  (some true)
  (Option.bind (F_laws_szLineS x_aTags v1) fun v2 =>
  cond (decide (v2 < (0 : Int)))
   (some true)
   (Option.bind (F_laws_toHost x_aH) fun v3 =>
   Option.bind (F_laws_toLineS x_aTags) fun v4 =>
   Option.bind (F_spec_TagWalk v3 v4 x_aG x_aAddr x_aUser x_aWrite) fun v5 =>
   Option.bind (F_laws_toHost x_aH) fun v6 =>
   Option.bind (F_laws_toLineS x_aTags) fun v7 =>
   Option.bind (F_impl_TagWalk v6 v7 x_aG x_aAddr x_aUser x_aWrite) fun v8 =>
   Option.bind (F_laws_eqLineS v8.1 v5.1) fun v9 =>
   cond (!v9)
    (some false)
    (cond (!decide (v8.2.1 = v5.2.1))
     (some false)
     (cond (!decide (v8.2.2 = v5.2.2))
      (some false)
      (Option.bind (F_laws_toHost x_aH) fun v10 =>
      Option.bind (F_laws_eqHost v6 v10) fun v11 =>
      cond (!v11)
       (some false)
       (Option.bind (F_laws_toLineS x_aTags) fun v12 =>
       Option.bind (F_laws_eqLineS v7 v12) fun v13 =>
       cond (!v13)
        (some false)
        (Option.bind (F_laws_markHost v6 (1 : Int)) fun v14 =>
        grd (List.length v14.1 = (List.length v6.Words)) (grd (List.length v14.2.1 = (List.length v6.Guests)) (Option.bind (F_laws_markLineS v7 v14.2.2) fun v15 =>
         grd (List.length v15.1 = (List.length v7)) (cond (decide (v15.2 < (0 : Int)))
          (some false)
          (Option.bind (F_laws_eqLineS v8.1 v5.1) fun v16 =>
          cond (!v16)
           (some false)
           (cond (!decide (v8.2.1 = v5.2.1))
            (some false)
            (cond (!decide (v8.2.2 = v5.2.2))
             (some false)
             (Option.bind (F_laws_markLineS v8.1 (1 : Int)) fun v17 =>
             grd (List.length v17.1 = (List.length v8.1)) (Option.bind (F_laws_heldLineS v17.1 (1 : Int)) fun v18 =>
              cond (decide (v18 < (0 : Int)))
               (some false)
               (cond (!decide (v18 = v17.2))
                (some false)
                (Option.bind (F_laws_toHost x_aH) fun v19 =>
                Option.bind (F_laws_toLineS x_aTags) fun v20 =>
                Option.bind (F_impl_TagWalk v19 v20 x_aG x_aAddr x_aUser x_aWrite) fun v21 =>
                Option.bind (F_laws_eqLineS v21.1 v5.1) fun v22 =>
                cond (!v22)
                 (some false)
                 (cond (!decide (v21.2.1 = v5.2.1))
                  (some false)
                  (cond (!decide (v21.2.2 = v5.2.2))
                   (some false)
                   (Option.bind (F_laws_heldLineS v17.1 (1 : Int)) fun v23 =>
                   cond (decide (v23 < (0 : Int)))
                    (some false)
                    (cond (!decide (v23 = v17.2))
                     (some false)
                     (some true))))))))))))))))))))))
theorem laws_FnExactTagWalk_fn {x_aH : DHost} {x_aTags : List DLine} {x_aG : Int} {x_aAddr : Int} {x_aUser : Bool} {x_aWrite : Bool} {R_ : Bool} (hh : F_laws_FnExactTagWalk x_aH x_aTags x_aG x_aAddr x_aUser x_aWrite = some R_) : Fn Try.prog 7 [.agg [bo (eI .i64) x_aH.Words, bo B_126 x_aH.Guests], bo C_90 x_aTags, .int .i64 x_aG, .int .i64 x_aAddr, .bool x_aUser, .bool x_aWrite] (.bool R_) := by
 let z1 := (1, bo C_90 x_aTags); let z2 := (12, bb false); let z3 := (17, pp 6); let z4 := (2, ii x_aG); let z5 := (3, ii x_aAddr); let z6 := (4, bb x_aUser); let z7 := (5, bb x_aWrite); let z8 := (6, pp 0); let z9 : EV := (81, .agg [bo (eI .i64) x_aH.Words, bo B_126 x_aH.Guests])
 unfold F_laws_FnExactTagWalk at hh
 refine Fn.start low_laws_FnExactTagWalk [0, 1, 2, 3, 4, 5] (E := sp 160 [(0, .agg [bo (eI .i64) x_aH.Words, bo B_126 x_aH.Guests]), z1, z4, z5, z6, z7]) kr (v := bb R_) (Hr := []) (k := 0) kr (Aw.sreg [1, 2, 3, 4, 5, 6] [0] ?_)
 let q1 : Root := ⟨50, [bo (eI .i64) x_aH.Words, bo B_126 x_aH.Guests]⟩; let z10 := (0, some q1)
 refine yt (sp 160 [z1, z4, z5, z6, z7, z8]) [z10] 1 (sy [1, 2, 3, 4, 5, 6, 13] [0] (sp 160 [z1, z4, z5, z6, z7, z8, (13, ii 1048576)]) [z10] 1 (Aw.sreg [1, 2, 3, 4, 5, 6, 13] [0] (yu 2 [(28, .agg [bo (eI .i64) x_aH.Words, bo B_126 x_aH.Guests]), (29, ii 1048576)] [z10] 1 ?_)))
 obtain ⟨v1, hv1, hh⟩ := bind_some hh
 let z11 := (32, bb (decide (v1 < (0 : Int))))
 refine ys (.call 22 [(.t 28), (.t 29)]) (some 30) (op_call (r := ii v1) (v := ii v1) (Hr := []) (n' := 1) (laws_szHost_fn hv1) (clz_v (vs := [.agg [bo (eI .i64) x_aH.Words, bo B_126 x_aH.Guests], ii 1048576]) kr (clz_c (clo_agg cz) (cz1 clz_n))) rfl rfl kr ?_)
 refine yt (sp 160 [z1, z4, z5, z6, z7, z8, (13, ii v1)]) [z10] 1 (Aw.seq (sy [1, 2, 3, 4, 5, 6, 13, 32] [0] (sp 160 [z1, z4, z5, z6, z7, z8, (13, ii v1), z11]) [z10] 1 ?_))
 rcases cond_some hh with ⟨hb, hh⟩ | ⟨hb, hh⟩
 · exact cT hb (sy [12] [] (sp 160 [(12, bb true)]) [] 1 (Aw.ret (then_r (gvbs hh))))
 refine cF hb (Aw.xskip (fun _ _ _ hq => then_m hq) (Aw.sreg [1, 2, 3, 4, 5, 6, 13] [0] (yj 2  (sp 160 [z1, z4, z5, z6, z7, z8, (13, ii v1), z11, (33, bo C_90 x_aTags), (34, ii v1)]) [z10] 1 ?_)))
 obtain ⟨v2, hv2, hh⟩ := bind_some hh
 let z12 := (37, bb (decide (v2 < (0 : Int))))
 refine ys (.call 23 [(.t 33), (.t 34)]) (some 35) (op_call (r := ii v2) (v := ii v2) (Hr := []) (n' := 1) (laws_szLineS_fn hv2) (clz_v (vs := [bo C_90 x_aTags, ii v1]) kr (clz_c (clo_same (clean_bor (cleans_fl cl_C_90))) (cz1 clz_n))) rfl rfl kr ?_)
 refine yt (sp 160 [z1, z4, z5, z6, z7, z8, (13, ii v2)]) [z10] 1 (Aw.seq (sy [1, 2, 3, 4, 5, 6, 37] [0] (sp 160 [z1, z4, z5, z6, z7, z8, z12]) [z10] 1 ?_))
 rcases cond_some hh with ⟨hb, hh⟩ | ⟨hb, hh⟩
 · exact cT hb (sy [12] [] (sp 160 [(12, bb true)]) [] 1 (Aw.ret (then_r (gvbs hh))))
 refine cF hb (Aw.xskip (fun _ _ _ hq => then_m hq) (Aw.sreg [1, 2, 3, 4, 5, 6, 14, 15, 16] [0] (yj 1  (sp 160 [z1, z4, z5, z6, z7, z8, z12, (39, .agg [bo (eI .i64) x_aH.Words, bo B_126 x_aH.Guests])]) [z10] 1 ?_)))
 obtain ⟨v3, hv3, hh⟩ := bind_some hh
 let q2 : Root := (rO108 v3.Guests); let q3 : Root := (rI_3 v3.Words)
 refine ys (.call 24 [(.t 39)]) (some 40) (op_call (r := .agg [.own 3 1 (List.length v3.Words) (fl (eI .i64) v3.Words), .own 108 17 (List.length v3.Guests) (fl O_108 v3.Guests)]) (v := .agg [sw 1 v3.Words, .sref 2 [] 0 (List.length v3.Guests) 17]) (Hr := [(2, some q2), (1, some q3)]) (n' := 3) (laws_toHost_fn hv3) (clz_v (vs := [.agg [bo (eI .i64) x_aH.Words, bo B_126 x_aH.Guests]]) kr (clz_c (clo_agg cz) clz_n)) nrr nrr kr ?_)
 refine yu 1 [(40, .agg [sw 1 v3.Words, .sref 2 [] 0 (List.length v3.Guests) 17]), (41, bo C_90 x_aTags)] [(2, some q2), (1, some q3), z10] 3 ?_
 obtain ⟨v4, hv4, hh⟩ := bind_some hh
 let z13 : EH := (3, some (rC47 v4))
 refine ys (.call 25 [(.t 41)]) (some 42) (op_call (r := .own 47 8 (List.length v4) (fl C_47 v4)) (v := .sref 3 [] 0 (List.length v4) 8) (Hr := [z13]) (n' := 4) (laws_toLineS_fn hv4) (clz_v (vs := [bo C_90 x_aTags]) kr (clz_c (clo_same (clean_bor (cleans_fl cl_C_90))) clz_n)) nrr nrr kr ?_)
 refine yu 4 [(42, .sref 3 [] 0 (List.length v4) 8), (43, ii x_aG), (44, ii x_aAddr), (45, bb x_aUser), (46, bb x_aWrite)] [z13, (2, some q2), (1, some q3), z10] 4 ?_
 obtain ⟨v5, hv5, hh⟩ := bind_some hh
 let z14 := (14, bo C_47 v5.1); let z15 := (15, ii v5.2.1); let z16 := (16, ii v5.2.2)
 refine ys (.call 16 [(.t 40), (.t 42), (.t 43), (.t 44), (.t 45), (.t 46)]) (some 47) (op_callz (args := [.agg [sw 1 v3.Words, .sref 2 [] 0 (List.length v3.Guests) 17], .sref 3 [] 0 (List.length v4) 8, ii x_aG, ii x_aAddr, bb x_aUser, bb x_aWrite]) (args2 := [.agg (B_26 v3), bo C_47 v4, ii x_aG, ii x_aAddr, bb x_aUser, bb x_aWrite]) (H2 := [(3, none), (2, none), (1, none), z13, (2, some q2), (1, some q3), z10]) (r := .tup [bo C_47 v5.1, ii v5.2.1, ii v5.2.2]) (v := .tup [bo C_47 v5.1, ii v5.2.1, ii v5.2.2]) (Hr := []) (n' := 4) kr (Ent.trans (Ent.freezeK (R := 3) (cs := (fl C_47 v4)) (e := 47) (xs2 := [.agg (B_26 v3), bo C_47 v4, ii x_aG, ii x_aAddr, bb x_aUser, bb x_aWrite]) kr (noOwn_fl no_C_47) (frs_c (.same _) (frs_c (fr_all len_C_47 eqn) (frs_c (.same _) (frs_c (.same _) (frs_c (.same _) (frs_c (.same _) frs_n))))))) (Ent.trans (Ent.freezeOK (R := 2) (O := O_108) (B := B_108) (xs := v3.Guests) (e := 108) (us2 := [.agg (B_26 v3), .sref 3 [] 0 (List.length v4) 8, ii x_aG, ii x_aAddr, bb x_aUser, bb x_aWrite]) kr th_O_108 sh_O_108 (frs_c (.agg _ _ (frs_c (.same _) (frs_c (fr_all len_B_108 eqn) frs_n))) (frs_c (.same _) (frs_c (.same _) (frs_c (.same _) (frs_c (.same _) (frs_c (.same _) frs_n))))))) (Ent.freezeK (R := 1) (cs := (fl (eI .i64) v3.Words)) (e := 3) (xs2 := [.agg [bo (eI .i64) v3.Words, .sref 2 [] 0 (List.length v3.Guests) 17], .sref 3 [] 0 (List.length v4) 8, ii x_aG, ii x_aAddr, bb x_aUser, bb x_aWrite]) kr (noOwn_fl no_eI) (frs_c (.agg _ _ (frs_c (fr_all len_eI eqn) (frs_c (.same _) frs_n))) (frs_c (.same _) (frs_c (.same _) (frs_c (.same _) (frs_c (.same _) (frs_c (.same _) frs_n))))))))) (spec_TagWalk_fn hv5) (clz_c (clo_same (clean_agg (cl_B_26 _))) (clz_c (clo_same (clean_bor (cleans_fl cl_C_47))) (cz1 (cz1 (cz1 (cz1 clz_n)))))) nrr kr ?_)
 refine yt (sp 160 [z1, z4, z5, z6, z7, z8, z14, z15, z16]) [z10] 4 (Aw.sreg [1, 2, 3, 4, 5, 6, 14, 15, 16, 17] [0, 4, 5, 6] (yu 1 [(51, .agg [bo (eI .i64) x_aH.Words, bo B_126 x_aH.Guests])] [z10] 4 ?_))
 obtain ⟨v6, hv6, hh⟩ := bind_some hh
 let z17 : EV := (80, .agg [sw 4 v6.Words, .sref 5 [] 0 (List.length v6.Guests) 17]); let q4 : Root := (rO108 v6.Guests); let z18 := (5, some q4); let q5 : Root := (rI_3 v6.Words); let z19 := (4, some q5)
 refine ys (.call 24 [(.t 51)]) (some 52) (op_call (r := .agg [.own 3 1 (List.length v6.Words) (fl (eI .i64) v6.Words), .own 108 17 (List.length v6.Guests) (fl O_108 v6.Guests)]) (v := .agg [sw 4 v6.Words, .sref 5 [] 0 (List.length v6.Guests) 17]) (Hr := [z18, z19]) (n' := 6) (laws_toHost_fn hv6) (clz_v (vs := [.agg [bo (eI .i64) x_aH.Words, bo B_126 x_aH.Guests]]) kr (clz_c (clo_agg cz) clz_n)) nrr nrr kr ?_)
 let q6 : Root := ⟨26, [sw 4 v6.Words, .sref 5 [] 0 (List.length v6.Guests) 17]⟩; let z20 := (6, some q6)
 refine yt (sp 160 [z1, z4, z5, z6, z7, z8, z14, z15, z16, z3]) [z10, z19, z18, z20] 7 (Aw.sreg [1, 2, 3, 4, 5, 6, 14, 15, 16, 17, 18] [0, 4, 5, 6, 7] (yu 1 [(53, bo C_90 x_aTags)] [z10, z19, z18, z20] 7 ?_))
 obtain ⟨v7, hv7, hh⟩ := bind_some hh
 let z21 : EV := (18, .sref 7 [] 0 (List.length v7) 8); let z22 : EH := (7, some (rC47 v7))
 refine ys (.call 25 [(.t 53)]) (some 54) (op_call (r := .own 47 8 (List.length v7) (fl C_47 v7)) (v := .sref 7 [] 0 (List.length v7) 8) (Hr := [z22]) (n' := 8) (laws_toLineS_fn hv7) (clz_v (vs := [bo C_90 x_aTags]) kr (clz_c (clo_same (clean_bor (cleans_fl cl_C_90))) clz_n)) nrr nrr kr ?_)
 refine yt (sp 160 [z1, z4, z5, z6, z7, z8, z14, z15, z16, z3, z21]) [z10, z19, z18, z20, z22] 8 (Aw.sreg [1, 2, 3, 4, 5, 6, 14, 15, 16, 17, 18, 19, 20, 21] [0, 4, 5, 6, 7, 8] (yu 6 [(56, .agg [sw 4 v6.Words, .sref 5 [] 0 (List.length v6.Guests) 17]), (57, .sref 7 [] 0 (List.length v7) 8), (58, ii x_aG), (59, ii x_aAddr), (60, bb x_aUser), (61, bb x_aWrite)] [z10, z19, z18, z20, z22] 8 ?_))
 obtain ⟨v8, hv8, hh⟩ := bind_some hh
 let z23 : EV := (19, .sref 8 [] 0 (List.length v8.1) 8); let z24 := (20, ii v8.2.1); let z25 := (21, ii v8.2.2); let z26 := (79, bb (!decide (v8.2.2 = v5.2.2))); let z27 : EH := (8, some (rC47 v8.1))
 refine ys (.call 15 [(.t 56), (.t 57), (.t 58), (.t 59), (.t 60), (.t 61)]) (some 62) (op_call (r := .tup [.own 47 8 (List.length v8.1) (fl C_47 v8.1), ii v8.2.1, ii v8.2.2]) (v := .tup [.sref 8 [] 0 (List.length v8.1) 8, ii v8.2.1, ii v8.2.2]) (Hr := [z27]) (n' := 9) (impl_TagWalk_fn hv8) (clz_v (vs := [.agg [sw 4 v6.Words, .sref 5 [] 0 (List.length v6.Guests) 17], .sref 7 [] 0 (List.length v7) 8, ii x_aG, ii x_aAddr, bb x_aUser, bb x_aWrite]) kr (clz_c (clo_agg (clos_c (clo_own (c := (eI .i64)) (xs := v6.Words) (e := 3) eqn len_eI no_eI cl_eI kr) (clos_c (clo_flr (B := B_108) (xs := v6.Guests) (e := 108) oc_O_108 len_O_108 eqn kr) clos_n))) (clz_c (clo_own (c := C_47) (xs := v7) (e := 47) eqn len_C_47 no_C_47 cl_C_47 kr) (cz1 (cz1 (cz1 (cz1 clz_n))))))) nrr nrr kr ?_)
 refine yt (sp 160 [z1, z4, z5, z6, z7, z8, z14, z15, z16, z3, z21, z23, z24, z25]) [z10, z19, z18, z20, z22, z27] 9 (Aw.seq (Aw.sreg [1, 2, 3, 4, 5, 6, 14, 15, 16, 17, 18, 19, 20, 21, 79] [0, 4, 5, 6, 7, 8] (yj 2  (sp 160 [z1, z4, z5, z6, z7, z8, z14, z15, z16, z3, z21, z23, z24, z25, (66, .sref 8 [] 0 (List.length v8.1) 8), (67, bo C_47 v5.1)]) [z10, z19, z18, z20, z22, z27] 9 ?_)))
 obtain ⟨v9, hv9, hh⟩ := bind_some hh
 refine ys (.call 27 [(.t 66), (.t 67)]) (some 68) (op_call (r := bb v9) (v := bb v9) (Hr := []) (n' := 9) (laws_eqLineS_fn hv9) (clz_v (vs := [.sref 8 [] 0 (List.length v8.1) 8, bo C_47 v5.1]) kr (clz_c (clo_own (c := C_47) (xs := v8.1) (e := 47) eqn len_C_47 no_C_47 cl_C_47 kr) (clz_c (clo_same (clean_bor (cleans_fl cl_C_47))) clz_n))) rfl rfl kr ?_)
 refine yu 2 [(68, bb v9), (69, bb (!v9)), (70, bb (!v9))] [z10, z19, z18, z20, z22, z27] 9 ?_
 rcases cond_some hh with ⟨hb, hh⟩ | ⟨hb, hh⟩
 · exact yb 69 hb (yb 70 hb (yt (sp 160 [z1, z4, z5, z6, z7, z8, z14, z15, z16, z3, z21, z23, z24, z25, (79, bb true)]) [z10, z19, z18, z20, z22, z27] 9 (cT rfl (sy [12] [] (sp 160 [z2]) [] 9 (Aw.ret (then_r (gvbs hh)))))))
 refine yb 69 hb (yb 70 hb (yu 5 [(69, bb false), (70, bb false), (71, ii v8.2.1), (72, ii v5.2.1), (73, bb (!decide (v8.2.1 = v5.2.1))), (74, bb (!decide (v8.2.1 = v5.2.1))), (75, bb (!decide (v8.2.1 = v5.2.1)))] [z10, z19, z18, z20, z22, z27] 9 ?_))
 rcases cond_some hh with ⟨hb, hh⟩ | ⟨hb, hh⟩
 · exact yb 73 hb (yb 74 hb (yb 75 hb (yt (sp 160 [z1, z4, z5, z6, z7, z8, z14, z15, z16, z3, z21, z23, z24, z25, (79, bb true)]) [z10, z19, z18, z20, z22, z27] 9 (cT rfl (sy [12] [] (sp 160 [z2]) [] 9 (Aw.ret (then_r (gvbs hh))))))))
 refine yb 73 hb (yb 74 hb (yb 75 hb (yt (sp 160 [z1, z4, z5, z6, z7, z8, z14, z15, z16, z3, z21, z23, z24, z25, z26]) [z10, z19, z18, z20, z22, z27] 9 ?_)))
 rcases cond_some hh with ⟨hb, hh⟩ | ⟨hb, hh⟩
 · exact cT hb (sy [12] [] (sp 160 [z2]) [] 9 (Aw.ret (then_r (gvbs hh))))
 refine cF hb (Aw.xskip (fun _ _ _ hq => then_m hq) (Aw.seq (Aw.sregd [1, 2, 3, 4, 5, 6, 14, 15, 16, 17, 18, 19, 20, 21, 84] [0, 4, 5, 6, 7, 8] [] kr (dj 2 (sp 160 [z1, z4, z5, z6, z7, z8, z14, z15, z16, z3, z21, z23, z24, z25, z26, z17, z9]) [z10, z19, z18, z20, z22, z27] 9 ?_))))
 obtain ⟨v10, hv10, hh⟩ := bind_some hh
 let q7 : Root := (rO108 v10.Guests); let q8 : Root := (rI_3 v10.Words)
 refine ds (.call 24 [(.t 81)]) (some 82) (ydo_n rfl (op_call (r := .agg [.own 3 1 (List.length v10.Words) (fl (eI .i64) v10.Words), .own 108 17 (List.length v10.Guests) (fl O_108 v10.Guests)]) (v := .agg [sw 9 v10.Words, .sref 10 [] 0 (List.length v10.Guests) 17]) (Hr := [(10, some q7), (9, some q8)]) (n' := 11) (laws_toHost_fn hv10) (clz_v (vs := [.agg [bo (eI .i64) x_aH.Words, bo B_126 x_aH.Guests]]) kr (clz_c (clo_agg cz) clz_n)) nrr nrr kr ⟨⟨⟨by decide, agr_name (n := 9) (n0 := 9) (r := .agg [.own 3 1 (List.length v10.Words) (fl (eI .i64) v10.Words), .own 108 17 (List.length v10.Guests) (fl O_108 v10.Guests)]) (v := .agg [sw 9 v10.Words, .sref 10 [] 0 (List.length v10.Guests) 17]) (Hr := [(10, some q7), (9, some q8)]) (n' := 11) kr dd⟩, Hld.un ?_⟩⟩))
 refine dt (sp 160 [z1, z4, z5, z6, z7, z8, z14, z15, z16, z3, z21, z23, z24, z25, z26, z17, z9, (82, .agg [sw 9 v10.Words, .sref 10 [] 0 (List.length v10.Guests) 17])]) [(10, some q7), (9, some q8), z10, z19, z18, z20, z22, z27] 11 ?_
 obtain ⟨v11, hv11, hh⟩ := bind_some hh
 refine ys (.call 26 [(.t 80), (.t 82)]) (some 83) (op_call (r := bb v11) (v := bb v11) (Hr := []) (n' := 11) (laws_eqHost_fn hv11) (clz_v (vs := [.agg [sw 4 v6.Words, .sref 5 [] 0 (List.length v6.Guests) 17], .agg [sw 9 v10.Words, .sref 10 [] 0 (List.length v10.Guests) 17]]) kr (clz_c (clo_agg (clos_c (clo_own (c := (eI .i64)) (xs := v6.Words) (e := 3) eqn len_eI no_eI cl_eI kr) (clos_c (clo_flr (B := B_108) (xs := v6.Guests) (e := 108) oc_O_108 len_O_108 eqn kr) clos_n))) (clz_c (clo_agg (clos_c (clo_own (c := (eI .i64)) (xs := v10.Words) (e := 3) eqn len_eI no_eI cl_eI kr) (clos_c (clo_flr (B := B_108) (xs := v10.Guests) (e := 108) oc_O_108 len_O_108 eqn kr) clos_n))) clz_n))) rfl rfl kr ?_)
 refine yt (sp 160 [z1, z4, z5, z6, z7, z8, z14, z15, z16, z3, z21, z23, z24, z25, (84, bb (!v11))]) [z10, z19, z18, z20, z22, z27] 11 ?_
 rcases cond_some hh with ⟨hb, hh⟩ | ⟨hb, hh⟩
 · exact cT hb (sy [12] [] (sp 160 [z2]) [] 11 (Aw.ret (then_r (gvbs hh))))
 refine cF hb (Aw.xskip (fun _ _ _ hq => then_m hq) (Aw.seq (Aw.sreg [1, 2, 3, 4, 5, 6, 14, 15, 16, 17, 18, 19, 20, 21, 89] [0, 4, 5, 6, 7, 8] (yj 2  (sp 160 [z1, z4, z5, z6, z7, z8, z14, z15, z16, z3, z21, z23, z24, z25, (84, bb (!v11)), (85, .sref 7 [] 0 (List.length v7) 8), (86, bo C_90 x_aTags)]) [z10, z19, z18, z20, z22, z27] 11 ?_))))
 obtain ⟨v12, hv12, hh⟩ := bind_some hh
 refine ys (.call 25 [(.t 86)]) (some 87) (op_call (r := .own 47 8 (List.length v12) (fl C_47 v12)) (v := .sref 11 [] 0 (List.length v12) 8) (Hr := [(11, some (rC47 v12))]) (n' := 12) (laws_toLineS_fn hv12) (clz_v (vs := [bo C_90 x_aTags]) kr (clz_c (clo_same (clean_bor (cleans_fl cl_C_90))) clz_n)) nrr nrr kr ?_)
 obtain ⟨v13, hv13, hh⟩ := bind_some hh
 refine ys (.call 27 [(.t 85), (.t 87)]) (some 88) (op_call (r := bb v13) (v := bb v13) (Hr := []) (n' := 12) (laws_eqLineS_fn hv13) (clz_v (vs := [.sref 7 [] 0 (List.length v7) 8, .sref 11 [] 0 (List.length v12) 8]) kr (clz_c (clo_own (c := C_47) (xs := v7) (e := 47) eqn len_C_47 no_C_47 cl_C_47 kr) (clz_c (clo_own (c := C_47) (xs := v12) (e := 47) eqn len_C_47 no_C_47 cl_C_47 kr) clz_n))) rfl rfl kr ?_)
 refine yt (sp 160 [z1, z4, z5, z6, z7, z8, z14, z15, z16, z3, z21, z23, z24, z25, (89, bb (!v13))]) [z10, z19, z18, z20, z22, z27] 12 ?_
 rcases cond_some hh with ⟨hb, hh⟩ | ⟨hb, hh⟩
 · exact cT hb (sy [12] [] (sp 160 [z2]) [] 12 (Aw.ret (then_r (gvbs hh))))
 refine cF hb (Aw.xskip (fun _ _ _ hq => then_m hq) (sy [1, 2, 3, 4, 5, 6, 14, 15, 16, 17, 18, 19, 20, 21, 22] [0, 4, 5, 6, 7, 8] (sp 160 [z1, z4, z5, z6, z7, z8, z14, z15, z16, z3, z21, z23, z24, z25, (22, ii 1)]) [z10, z19, z18, z20, z22, z27] 12 (Aw.sreg [1, 2, 3, 4, 5, 6, 14, 15, 16, 18, 19, 20, 21, 22] [0, 7, 8] (yu 2 [(90, .agg [sw 4 v6.Words, .sref 5 [] 0 (List.length v6.Guests) 17]), (91, ii 1)] [z10, z19, z18, z20, z22, z27] 12 ?_))))
 obtain ⟨v14, hv14, hh⟩ := bind_some hh
 obtain ⟨hg3, hh⟩ := grd_some hh
 obtain ⟨hg4, hh⟩ := grd_some hh
 let q9 : Root := (rI_3 v14.1); let q10 : Root := (rO108 v14.2.1)
 refine ys (.call 28 [(.t 90), (.t 91)]) (some 92) (cf (ii v14.2.2) [(4, some q9), (5, some q10)] 12 [4, 5] (laws_markHost_fn hv14) [.agg [sw 4 v6.Words, .sref 5 [] 0 (List.length v6.Guests) 17], ii 1] rz (hn nr_O_108 (hn nr_eI hs_nil)) ren_i (hn nr_eI (hn nr_O_108 hs_nil)) ?_)
 refine yt (sp 160 [z1, z4, z5, z6, z7, z8, z14, z15, z16, z21, z23, z24, z25, (22, ii v14.2.2)]) [z10, z22, z27] 12 (Aw.sreg [1, 2, 3, 4, 5, 6, 14, 15, 16, 19, 20, 21, 22] [0, 8] (yu 2 [(93, .sref 7 [] 0 (List.length v7) 8), (94, ii v14.2.2)] [z10, z22, z27] 12 ?_))
 obtain ⟨v15, hv15, hh⟩ := bind_some hh
 obtain ⟨hg6, hh⟩ := grd_some hh
 refine ys (.call 29 [(.t 93), (.t 94)]) (some 95) (cf (ii v15.2) [(7, some (rC47 v15.1))] 12 [7] (laws_markLineS_fn hv15) [.sref 7 [] 0 (List.length v7) 8, ii v14.2.2] rz (hn nr_C_47 hs_nil) ren_i (hn nr_C_47 hs_nil) ?_)
 refine yt (sp 160 [z1, z4, z5, z6, z7, z8, z14, z15, z16, z23, z24, z25, (22, ii v15.2)]) [z10, z27] 12 (Aw.seq (Aw.sreg [1, 2, 3, 4, 5, 6, 14, 15, 16, 19, 113] [0, 8] (yj 3  (sp 160 [z1, z4, z5, z6, z7, z8, z14, z15, z16, z23, z24, z25, (22, ii v15.2), (96, ii v15.2), (97, bb (decide (v15.2 < (0 : Int)))), (98, bb (decide (v15.2 < (0 : Int))))]) [z10, z27] 12 ?_)))
 rcases cond_some hh with ⟨hb, hh⟩ | ⟨hb, hh⟩
 · exact yb 97 hb (yb 98 hb (yt (sp 160 [z1, z4, z5, z6, z7, z8, z14, z15, z16, z23, (113, bb true)]) [z10, z27] 12 (cT rfl (sy [12] [] (sp 160 [z2]) [] 12 (Aw.ret (then_r (gvbs hh)))))))
 refine yb 97 hb (yb 98 hb (yu 2 [(97, bb false), (98, bb false), (99, .sref 8 [] 0 (List.length v8.1) 8), (100, bo C_47 v5.1)] [z10, z27] 12 ?_))
 obtain ⟨v16, hv16, hh⟩ := bind_some hh
 refine yg (.call 27 [(.t 99), (.t 100)]) (some 101) 98 false (op_call (r := bb v16) (v := bb v16) (Hr := []) (n' := 12) (laws_eqLineS_fn hv16) (clz_v (vs := [.sref 8 [] 0 (List.length v8.1) 8, bo C_47 v5.1]) kr (clz_c (clo_own (c := C_47) (xs := v8.1) (e := 47) eqn len_C_47 no_C_47 cl_C_47 kr) (clz_c (clo_same (clean_bor (cleans_fl cl_C_47))) clz_n))) rfl rfl kr ?_)
 refine yu 3 [(101, bb v16), (102, bb (!v16)), (103, bb (!v16)), (104, bb (!v16))] [z10, z27] 12 ?_
 rcases cond_some hh with ⟨hb, hh⟩ | ⟨hb, hh⟩
 · exact yb 102 hb (yb 103 hb (yb 104 hb (yt (sp 160 [z1, z4, z5, z6, z7, z8, z14, z15, z16, z23, (113, bb true)]) [z10, z27] 12 (cT rfl (sy [12] [] (sp 160 [z2]) [] 12 (Aw.ret (then_r (gvbs hh))))))))
 refine yb 102 hb (yb 103 hb (yb 104 hb (yu 5 [(102, bb false), (103, bb false), (104, bb false), (105, ii v8.2.1), (106, ii v5.2.1), (107, bb (!decide (v8.2.1 = v5.2.1))), (108, bb (!decide (v8.2.1 = v5.2.1))), (109, bb (!decide (v8.2.1 = v5.2.1)))] [z10, z27] 12 ?_)))
 rcases cond_some hh with ⟨hb, hh⟩ | ⟨hb, hh⟩
 · exact yb 107 hb (yb 108 hb (yb 109 hb (yt (sp 160 [z1, z4, z5, z6, z7, z8, z14, z15, z16, z23, (113, bb true)]) [z10, z27] 12 (cT rfl (sy [12] [] (sp 160 [z2]) [] 12 (Aw.ret (then_r (gvbs hh))))))))
 refine yb 107 hb (yb 108 hb (yb 109 hb (yt (sp 160 [z1, z4, z5, z6, z7, z8, z14, z15, z16, z23, (113, bb (!decide (v8.2.2 = v5.2.2)))]) [z10, z27] 12 ?_)))
 rcases cond_some hh with ⟨hb, hh⟩ | ⟨hb, hh⟩
 · exact cT hb (sy [12] [] (sp 160 [z2]) [] 12 (Aw.ret (then_r (gvbs hh))))
 refine cF hb (Aw.xskip (fun _ _ _ hq => then_m hq) (sy [1, 2, 3, 4, 5, 6, 14, 15, 16, 19, 23] [0, 8] (sp 160 [z1, z4, z5, z6, z7, z8, z14, z15, z16, z23, (23, ii 1)]) [z10, z27] 12 (Aw.sreg [1, 2, 3, 4, 5, 6, 14, 15, 16, 19, 23] [0, 8] (yu 2 [(114, .sref 8 [] 0 (List.length v8.1) 8), (115, ii 1)] [z10, z27] 12 ?_))))
 obtain ⟨v17, hv17, hh⟩ := bind_some hh
 let z28 := (23, ii v17.2); let z29 : EH := (8, some (rC47 v17.1))
 obtain ⟨hg8, hh⟩ := grd_some hh
 refine ys (.call 29 [(.t 114), (.t 115)]) (some 116) (cf (ii v17.2) [z29] 12 [8] (laws_markLineS_fn hv17) [.sref 8 [] 0 (List.length v8.1) 8, ii 1] rz (hn nr_C_47 hs_nil) ren_i (hn nr_C_47 hs_nil) ?_)
 refine yt (sp 160 [z1, z4, z5, z6, z7, z8, z14, z15, z16, z23, z28]) [z10, z29] 12 (sy [1, 2, 3, 4, 5, 6, 14, 15, 16, 19, 23, 24] [0, 8] (sp 160 [z1, z4, z5, z6, z7, z8, z14, z15, z16, z23, z28, (24, ii 1)]) [z10, z29] 12 (Aw.sreg [1, 2, 3, 4, 5, 6, 14, 15, 16, 19, 23, 24] [0, 8] (yu 2 [(117, .sref 8 [] 0 (List.length v8.1) 8), (118, ii 1)] [z10, z29] 12 ?_)))
 obtain ⟨v18, hv18, hh⟩ := bind_some hh
 let z30 := (124, bb (!decide (v18 = v17.2)))
 refine ys (.call 30 [(.t 117), (.t 118)]) (some 119) (op_call (r := ii v18) (v := ii v18) (Hr := []) (n' := 12) (laws_heldLineS_fn hv18) (clz_v (vs := [.sref 8 [] 0 (List.length v8.1) 8, ii 1]) kr (clz_c (clo_own (c := C_47) (xs := v17.1) (e := 47) eqn len_C_47 no_C_47 cl_C_47 kr) (cz1 clz_n))) rfl rfl kr ?_)
 refine yt (sp 160 [z1, z4, z5, z6, z7, z8, z14, z15, z16, z23, z28, (24, ii v18)]) [z10, z29] 12 (Aw.seq (sy [1, 2, 3, 4, 5, 6, 14, 15, 16, 19, 23, 24, 121] [0, 8] (sp 160 [z1, z4, z5, z6, z7, z8, z14, z15, z16, z23, z28, (24, ii v18), (121, bb (decide (v18 < (0 : Int))))]) [z10, z29] 12 ?_))
 rcases cond_some hh with ⟨hb, hh⟩ | ⟨hb, hh⟩
 · exact cT hb (sy [12] [] (sp 160 [z2]) [] 12 (Aw.ret (then_r (gvbs hh))))
 refine cF hb (Aw.xskip (fun _ _ _ hq => then_m hq) (Aw.seq (sy [1, 2, 3, 4, 5, 6, 14, 15, 16, 19, 23, 124] [0, 8] (sp 160 [z1, z4, z5, z6, z7, z8, z14, z15, z16, z23, z28, z30]) [z10, z29] 12 ?_)))
 rcases cond_some hh with ⟨hb, hh⟩ | ⟨hb, hh⟩
 · exact cT hb (sy [12] [] (sp 160 [z2]) [] 12 (Aw.ret (then_r (gvbs hh))))
 refine cF hb (Aw.xskip (fun _ _ _ hq => then_m hq) (Aw.sreg [14, 15, 16, 19, 23, 25, 26, 27] [8, 15] (yj 1  (sp 160 [z1, z4, z5, z6, z7, z8, z14, z15, z16, z23, z28, z30, (126, .agg [bo (eI .i64) x_aH.Words, bo B_126 x_aH.Guests])]) [z10, z29] 12 ?_)))
 obtain ⟨v19, hv19, hh⟩ := bind_some hh
 let q11 : Root := (rO108 v19.Guests); let q12 : Root := (rI_3 v19.Words)
 refine ys (.call 24 [(.t 126)]) (some 127) (op_call (r := .agg [.own 3 1 (List.length v19.Words) (fl (eI .i64) v19.Words), .own 108 17 (List.length v19.Guests) (fl O_108 v19.Guests)]) (v := .agg [sw 12 v19.Words, .sref 13 [] 0 (List.length v19.Guests) 17]) (Hr := [(13, some q11), (12, some q12)]) (n' := 14) (laws_toHost_fn hv19) (clz_v (vs := [.agg [bo (eI .i64) x_aH.Words, bo B_126 x_aH.Guests]]) kr (clz_c (clo_agg cz) clz_n)) nrr nrr kr ?_)
 refine yu 1 [(127, .agg [sw 12 v19.Words, .sref 13 [] 0 (List.length v19.Guests) 17]), (128, bo C_90 x_aTags)] [(13, some q11), (12, some q12), z10, z29] 14 ?_
 obtain ⟨v20, hv20, hh⟩ := bind_some hh
 let z31 : EH := (14, some (rC47 v20))
 refine ys (.call 25 [(.t 128)]) (some 129) (op_call (r := .own 47 8 (List.length v20) (fl C_47 v20)) (v := .sref 14 [] 0 (List.length v20) 8) (Hr := [z31]) (n' := 15) (laws_toLineS_fn hv20) (clz_v (vs := [bo C_90 x_aTags]) kr (clz_c (clo_same (clean_bor (cleans_fl cl_C_90))) clz_n)) nrr nrr kr ?_)
 refine yu 4 [(129, .sref 14 [] 0 (List.length v20) 8), (130, ii x_aG), (131, ii x_aAddr), (132, bb x_aUser), (133, bb x_aWrite)] [z31, (13, some q11), (12, some q12), z10, z29] 15 ?_
 obtain ⟨v21, hv21, hh⟩ := bind_some hh
 let z32 : EH := (15, some (rC47 v21.1)); let z33 : EV := (25, .sref 15 [] 0 (List.length v21.1) 8)
 refine ys (.call 15 [(.t 127), (.t 129), (.t 130), (.t 131), (.t 132), (.t 133)]) (some 134) (op_call (r := .tup [.own 47 8 (List.length v21.1) (fl C_47 v21.1), ii v21.2.1, ii v21.2.2]) (v := .tup [.sref 15 [] 0 (List.length v21.1) 8, ii v21.2.1, ii v21.2.2]) (Hr := [z32]) (n' := 16) (impl_TagWalk_fn hv21) (clz_v (vs := [.agg [sw 12 v19.Words, .sref 13 [] 0 (List.length v19.Guests) 17], .sref 14 [] 0 (List.length v20) 8, ii x_aG, ii x_aAddr, bb x_aUser, bb x_aWrite]) kr (clz_c (clo_agg (clos_c (clo_own (c := (eI .i64)) (xs := v19.Words) (e := 3) eqn len_eI no_eI cl_eI kr) (clos_c (clo_flr (B := B_108) (xs := v19.Guests) (e := 108) oc_O_108 len_O_108 eqn kr) clos_n))) (clz_c (clo_own (c := C_47) (xs := v20) (e := 47) eqn len_C_47 no_C_47 cl_C_47 kr) (cz1 (cz1 (cz1 (cz1 clz_n))))))) nrr nrr kr ?_)
 refine yt (sp 160 [z14, z15, z16, z23, z28, z33, (26, ii v21.2.1), (27, ii v21.2.2)]) [z29, z32] 16 (Aw.seq (Aw.sreg [19, 23, 151] [8] (yj 2  (sp 160 [z14, z15, z16, z23, z28, z33, (26, ii v21.2.1), (27, ii v21.2.2), (138, .sref 15 [] 0 (List.length v21.1) 8), (139, bo C_47 v5.1)]) [z29, z32] 16 ?_)))
 obtain ⟨v22, hv22, hh⟩ := bind_some hh
 refine ys (.call 27 [(.t 138), (.t 139)]) (some 140) (op_call (r := bb v22) (v := bb v22) (Hr := []) (n' := 16) (laws_eqLineS_fn hv22) (clz_v (vs := [.sref 15 [] 0 (List.length v21.1) 8, bo C_47 v5.1]) kr (clz_c (clo_own (c := C_47) (xs := v21.1) (e := 47) eqn len_C_47 no_C_47 cl_C_47 kr) (clz_c (clo_same (clean_bor (cleans_fl cl_C_47))) clz_n))) rfl rfl kr ?_)
 refine yu 2 [(140, bb v22), (141, bb (!v22)), (142, bb (!v22))] [z29, z32] 16 ?_
 rcases cond_some hh with ⟨hb, hh⟩ | ⟨hb, hh⟩
 · exact yb 141 hb (yb 142 hb (yt (sp 160 [z23, z28, (151, bb true)]) [z29] 16 (cT rfl (sy [12] [] (sp 160 [z2]) [] 16 (Aw.ret (then_r (gvbs hh)))))))
 refine yb 141 hb (yb 142 hb (yu 5 [(141, bb false), (142, bb false), (143, ii v21.2.1), (144, ii v5.2.1), (145, bb (!decide (v21.2.1 = v5.2.1))), (146, bb (!decide (v21.2.1 = v5.2.1))), (147, bb (!decide (v21.2.1 = v5.2.1)))] [z29, z32] 16 ?_))
 rcases cond_some hh with ⟨hb, hh⟩ | ⟨hb, hh⟩
 · exact yb 145 hb (yb 146 hb (yb 147 hb (yt (sp 160 [z23, z28, (151, bb true)]) [z29] 16 (cT rfl (sy [12] [] (sp 160 [z2]) [] 16 (Aw.ret (then_r (gvbs hh))))))))
 refine yb 145 hb (yb 146 hb (yb 147 hb (yt (sp 160 [z23, z28, (151, bb (!decide (v21.2.2 = v5.2.2)))]) [z29] 16 ?_)))
 rcases cond_some hh with ⟨hb, hh⟩ | ⟨hb, hh⟩
 · exact cT hb (sy [12] [] (sp 160 [z2]) [] 16 (Aw.ret (then_r (gvbs hh))))
 refine cF hb (Aw.xskip (fun _ _ _ hq => then_m hq) (sy [19, 23, 24] [8] (sp 160 [z23, z28, (24, ii 1)]) [z29] 16 (Aw.sreg [23, 24] [] (yu 2 [(152, .sref 8 [] 0 (List.length v8.1) 8), (153, ii 1)] [z29] 16 ?_))))
 obtain ⟨v23, hv23, hh⟩ := bind_some hh
 refine ys (.call 30 [(.t 152), (.t 153)]) (some 154) (op_call (r := ii v23) (v := ii v23) (Hr := []) (n' := 16) (laws_heldLineS_fn hv23) (clz_v (vs := [.sref 8 [] 0 (List.length v8.1) 8, ii 1]) kr (clz_c (clo_own (c := C_47) (xs := v17.1) (e := 47) eqn len_C_47 no_C_47 cl_C_47 kr) (cz1 clz_n))) rfl rfl kr ?_)
 refine yt (sp 160 [z28, (24, ii v23)]) [] 16 (Aw.seq (sy [23, 24, 156] [] (sp 160 [z28, (24, ii v23), (156, bb (decide (v23 < (0 : Int))))]) [] 16 ?_))
 rcases cond_some hh with ⟨hb, hh⟩ | ⟨hb, hh⟩
 · exact cT hb (sy [12] [] (sp 160 [z2]) [] 16 (Aw.ret (then_r (gvbs hh))))
 refine cF hb (Aw.xskip (fun _ _ _ hq => then_m hq) (Aw.seq (sy [159] [] (sp 160 [(159, bb (!decide (v23 = v17.2)))]) [] 16 ?_)))
 rcases cond_some hh with ⟨hb, hh⟩ | ⟨hb, hh⟩
 · exact cT hb (sy [12] [] (sp 160 [z2]) [] 16 (Aw.ret (then_r (gvbs hh))))
 exact cF hb (Aw.xskip (fun _ _ _ hq => then_m hq) (sy [12] [] (sp 160 [(12, bb true)]) [] 16 (Aw.ret (gvbs hh))))
end Go.Proofs.Ytbnjdmclnojlmaa
