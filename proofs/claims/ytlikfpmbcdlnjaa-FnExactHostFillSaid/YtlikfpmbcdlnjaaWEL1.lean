/- Plain functions of the program, and that it hands back what they say. Made by program. -/
import Derived.Test.YtlikfpmbcdlnjaaWT
import Derived.Test.YtlikfpmbcdlnjaaProg
import Derived.Test.YtlikfpmbcdlnjaaWHM1
import Derived.Test.YtlikfpmbcdlnjaaWHT1
import Derived.Test.YtlikfpmbcdlnjaaWSL1
namespace Go.Proofs.Ytlikfpmbcdlnjaa
open Go.RowKit
set_option maxRecDepth 100000
set_option linter.all false
set_option maxHeartbeats 0
def Lf11_r0 : List LOper := [oX 3 65 0, oF 6]
def Lf11_r1 : List LOper := [oN 7 1048576]
def Lf11_r2 : List LOper := [oL 18 2 3, om 19 7, oK 20 39 [18, 19], om 7 20]
def Lf11_r3 : List LOper := [om 21 7, ob 22 .lss 21 0]
def Lf11_r4 : List LOper := [oT 6]
def Lf11_r5 : List LOper := [oL 24 2 3, oK 25 41 [24], om 26 1, om 27 2, oK 28 35 [25, 26, 27], om 23 28, oE 29 23 0, oE 30 23 1, oo 8 (.fresh 26 [.nil, .nil]), oS 2 8 29, om 9 30]
def Lf11_r6 : List LOper := [oL 31 2 3, oK 32 41 [31], oo 10 (.fresh 26 [.nil, .nil]), oS 2 10 32]
def Lf11_r7 : List LOper := [oL 34 2 10, om 35 1, om 36 2, oK 37 34 [34, 35, 36], om 33 37, oE 38 33 0, oE 39 33 1, oo 11 (.fresh 26 [.nil, .nil]), oS 2 11 38, om 12 39]
def Lf11_r8 : List LOper := [oL 40 2 11, oL 41 2 8, oK 42 43 [40, 41], oU 43 42, om 44 43, og 45 (.mv (.t 12)) 44 false, og 46 (.mv (.t 9)) 44 false, og 47 (.binb true (.t 45) (.t 46)) 44 false, oQ 48 44 47]
def Lf11_r9 : List LOper := [oF 6]
def Lf11_r10 : List LOper := [oL 49 2 10, oL 50 2 3, oK 51 41 [50]]
def Lf11_r10t : List LOper := [oK 52 43 [49, 51], oU 53 52]
def Lf11_r12 : List LOper := [oF 6]
def Lf11_r13 : List LOper := [oN 13 1]
def Lf11_r14 : List LOper := [oL 54 2 10, om 55 13, oK 56 45 [54, 55], om 13 56]
def Lf11_r15 : List LOper := [om 57 13, ob 58 .lss 57 0, om 59 58, og 60 (.load true 2 (.t 11)) 59 false, og 61 (.load true 2 (.t 8)) 59 false, og 62 (.call 43 [(.t 60), (.t 61)]) 59 false, og 63 (.un .not (.t 62)) 59 false, oQ 64 59 63, om 65 64, og 66 (.mv (.t 12)) 65 false, og 67 (.mv (.t 9)) 65 false, og 68 (.binb true (.t 66) (.t 67)) 65 false, oQ 69 65 68]
def Lf11_r16 : List LOper := [oF 6]
def Lf11_r17 : List LOper := [oN 14 1]
def Lf11_r18 : List LOper := [oL 70 2 11, om 71 14, oK 72 45 [70, 71], om 14 72]
def Lf11_r19 : List LOper := [oN 15 1]
def Lf11_r20 : List LOper := [oL 73 2 11, om 74 15, oK 75 47 [73, 74], om 15 75]
def Lf11_r21 : List LOper := [om 76 15, ob 77 .lss 76 0]
def Lf11_r22 : List LOper := [oF 6]
def Lf11_r23 : List LOper := [om 78 15, om 79 14, oB 80 .neq 78 79]
def Lf11_r24 : List LOper := [oF 6]
def Lf11_r25 : List LOper := [oL 82 2 3, oK 83 41 [82], om 84 1, om 85 2, oK 86 34 [83, 84, 85], om 81 86, oE 87 81 0, oE 88 81 1, oo 16 (.fresh 26 [.nil, .nil]), oS 2 16 87, om 17 88]
def Lf11_r26 : List LOper := [oL 89 2 16, oL 90 2 8, oK 91 43 [89, 90], oU 92 91, om 93 92, og 94 (.mv (.t 17)) 93 false, og 95 (.mv (.t 9)) 93 false, og 96 (.binb true (.t 94) (.t 95)) 93 false, oQ 97 93 96]
def Lf11_r27 : List LOper := [oF 6]
def Lf11_r28 : List LOper := [oN 15 1]
def Lf11_r29 : List LOper := [oL 98 2 11, om 99 15, oK 100 47 [98, 99], om 15 100]
def Lf11_r30 : List LOper := [om 101 15, ob 102 .lss 101 0]
def Lf11_r31 : List LOper := [oF 6]
def Lf11_r32 : List LOper := [om 103 15, om 104 14, oB 105 .neq 103 104]
def Lf11_r33 : List LOper := [oF 6]
def Lf11_r34 : List LOper := [oT 6]
def Lf11 : LFun := ⟨106, [(.tmp 6)], (.seq (.reg false Lf11_r0) (.seq (.reg false Lf11_r1) (.seq (.reg false Lf11_r2) (.seq (.seq (.reg false Lf11_r3) (.cond (.t 22) (.seq (.reg false Lf11_r4) .ret) .skip)) (.seq (.reg false Lf11_r5) (.seq (.reg false Lf11_r6) (.seq (.reg false Lf11_r7) (.seq (.seq (.reg false Lf11_r8) (.cond (.t 48) (.seq (.reg false Lf11_r9) .ret) .skip)) (.seq (.seq (.regd Lf11_r10 Lf11_r10t) (.cond (.t 53) (.seq (.reg false Lf11_r12) .ret) .skip)) (.seq (.reg false Lf11_r13) (.seq (.reg false Lf11_r14) (.seq (.seq (.reg false Lf11_r15) (.cond (.t 69) (.seq (.reg false Lf11_r16) .ret) .skip)) (.seq (.reg false Lf11_r17) (.seq (.reg false Lf11_r18) (.seq (.reg false Lf11_r19) (.seq (.reg false Lf11_r20) (.seq (.seq (.reg false Lf11_r21) (.cond (.t 77) (.seq (.reg false Lf11_r22) .ret) .skip)) (.seq (.seq (.reg false Lf11_r23) (.cond (.t 80) (.seq (.reg false Lf11_r24) .ret) .skip)) (.seq (.reg false Lf11_r25) (.seq (.seq (.reg false Lf11_r26) (.cond (.t 97) (.seq (.reg false Lf11_r27) .ret) .skip)) (.seq (.reg false Lf11_r28) (.seq (.reg false Lf11_r29) (.seq (.seq (.reg false Lf11_r30) (.cond (.t 102) (.seq (.reg false Lf11_r31) .ret) .skip)) (.seq (.seq (.reg false Lf11_r32) (.cond (.t 105) (.seq (.reg false Lf11_r33) .ret) .skip)) (.seq (.reg false Lf11_r34) .ret)))))))))))))))))))))))))⟩
theorem low_laws_FnExactHostFill : lowFun Go.Proofs.Try.prog 11 = some Lf11 := by kernel_rfl
noncomputable def F_laws_FnExactHostFill (x_aH : DHost) (x_aG : Int) (x_aPage : Int) : Option Bool :=
 Option.bind (F_laws_szHost x_aH (1048576 : Int)) fun v1 =>
 cond (decide (v1 < (0 : Int)))
  (some true)
  (Option.bind (F_laws_toHost x_aH) fun v2 =>
  Option.bind (F_spec_HostFill v2 x_aG x_aPage) fun v3 =>
  Option.bind (F_laws_toHost x_aH) fun v4 =>
  Option.bind (F_impl_HostFill v4 x_aG x_aPage) fun v5 =>
  Option.bind (F_laws_eqHost v5.1 v3.1) fun v6 =>
  cond (!v6)
   (some false)
   (cond (!(v5.2 == v3.2))
    (some false)
    (Option.bind (F_laws_toHost x_aH) fun v7 =>
    Option.bind (F_laws_eqHost v4 v7) fun v8 =>
    cond (!v8)
     (some false)
     (Option.bind (F_laws_markHost v4 (1 : Int)) fun v9 =>
     grd (List.length v9.1 = (List.length v4.Words)) (grd (List.length v9.2.1 = (List.length v4.Guests)) (cond (decide (v9.2.2 < (0 : Int)))
      (some false)
      (Option.bind (F_laws_eqHost v5.1 v3.1) fun v10 =>
      cond (!v10)
       (some false)
       (cond (!(v5.2 == v3.2))
        (some false)
        (Option.bind (F_laws_markHost v5.1 (1 : Int)) fun v11 =>
        grd (List.length v11.1 = (List.length v5.1.Words)) (grd (List.length v11.2.1 = (List.length v5.1.Guests)) (Option.bind (F_laws_heldHost (DHost.mk v11.1 v11.2.1) (1 : Int)) fun v12 =>
         cond (decide (v12 < (0 : Int)))
          (some false)
          (cond (!decide (v12 = v11.2.2))
           (some false)
           (Option.bind (F_laws_toHost x_aH) fun v13 =>
           Option.bind (F_impl_HostFill v13 x_aG x_aPage) fun v14 =>
           Option.bind (F_laws_eqHost v14.1 v3.1) fun v15 =>
           cond (!v15)
            (some false)
            (cond (!(v14.2 == v3.2))
             (some false)
             (Option.bind (F_laws_heldHost (DHost.mk v11.1 v11.2.1) (1 : Int)) fun v16 =>
             cond (decide (v16 < (0 : Int)))
              (some false)
              (cond (!decide (v16 = v11.2.2))
               (some false)
               (some true)))))))))))))))))
theorem laws_FnExactHostFill_fn {x_aH : DHost} {x_aG : Int} {x_aPage : Int} {R_ : Bool} (hh : F_laws_FnExactHostFill x_aH x_aG x_aPage = some R_) : Fn Try.prog 11 [.agg [bo (eI .i64) x_aH.Words, bo B_149 x_aH.Guests], .int .i64 x_aG, .int .i64 x_aPage] (.bool R_) := by
 let z1 := (1, ii x_aG); let z2 := (10, pp 8); let z3 := (11, pp 11); let z4 := (2, ii x_aPage); let z5 := (3, pp 0); let z6 : EV := (50, .agg [bo (eI .i64) x_aH.Words, bo B_149 x_aH.Guests]); let z7 := (6, bb false); let z8 := (8, pp 5)
 unfold F_laws_FnExactHostFill at hh
 refine Fn.start low_laws_FnExactHostFill [0, 1, 2] (E := sp 106 [(0, .agg [bo (eI .i64) x_aH.Words, bo B_149 x_aH.Guests]), z1, z4]) kr (v := bb R_) (Hr := []) (k := 0) kr (Aw.sreg [1, 2, 3] [0] ?_)
 let q1 : Root := ⟨65, [bo (eI .i64) x_aH.Words, bo B_149 x_aH.Guests]⟩; let z9 := (0, some q1)
 refine yt (sp 106 [z1, z4, z5]) [z9] 1 (sy [1, 2, 3, 7] [0] (sp 106 [z1, z4, z5, (7, ii 1048576)]) [z9] 1 (Aw.sreg [1, 2, 3, 7] [0] (yu 2 [(18, .agg [bo (eI .i64) x_aH.Words, bo B_149 x_aH.Guests]), (19, ii 1048576)] [z9] 1 ?_)))
 obtain ⟨v1, hv1, hh⟩ := bind_some hh
 let z10 := (22, bb (decide (v1 < (0 : Int))))
 refine ys (.call 39 [(.t 18), (.t 19)]) (some 20) (op_call (r := ii v1) (v := ii v1) (Hr := []) (n' := 1) (laws_szHost_fn hv1) (clz_v (vs := [.agg [bo (eI .i64) x_aH.Words, bo B_149 x_aH.Guests], ii 1048576]) kr (clz_c (clo_agg cz) (cz1 clz_n))) rfl rfl kr ?_)
 refine yt (sp 106 [z1, z4, z5, (7, ii v1)]) [z9] 1 (Aw.seq (sy [1, 2, 3, 22] [0] (sp 106 [z1, z4, z5, z10]) [z9] 1 ?_))
 rcases cond_some hh with ⟨hb, hh⟩ | ⟨hb, hh⟩
 · exact cT hb (sy [6] [] (sp 106 [(6, bb true)]) [] 1 (Aw.ret (then_r (gvbs hh))))
 refine cF hb (Aw.xskip (fun _ _ _ hq => then_m hq) (Aw.sreg [1, 2, 3, 8, 9] [0, 3, 4, 5] (yj 1  (sp 106 [z1, z4, z5, z10, (24, .agg [bo (eI .i64) x_aH.Words, bo B_149 x_aH.Guests])]) [z9] 1 ?_)))
 obtain ⟨v2, hv2, hh⟩ := bind_some hh
 let q2 : Root := ⟨53, (fl O_53 v2.Guests)⟩; let q3 : Root := ⟨3, (fl (eI .i64) v2.Words)⟩
 refine ys (.call 41 [(.t 24)]) (some 25) (op_call (r := .agg [.own 3 1 (List.length v2.Words) (fl (eI .i64) v2.Words), .own 53 17 (List.length v2.Guests) (fl O_53 v2.Guests)]) (v := .agg [sw 1 v2.Words, .sref 2 [] 0 (List.length v2.Guests) 17]) (Hr := [(2, some q2), (1, some q3)]) (n' := 3) (laws_toHost_fn hv2) (clz_v (vs := [.agg [bo (eI .i64) x_aH.Words, bo B_149 x_aH.Guests]]) kr (clz_c (clo_agg cz) clz_n)) (by simp only [AV.noRef, noRefs, Bool.and_self, noRefs_fl nr_eI, noRefs_fl nr_O_53]) (by simp only [AV.noBor, noBors, Bool.and_self, noBors_fl nb_eI, noBors_fl nb_O_53]) kr ?_)
 refine yu 2 [(25, .agg [sw 1 v2.Words, .sref 2 [] 0 (List.length v2.Guests) 17]), (26, ii x_aG), (27, ii x_aPage)] [(2, some q2), (1, some q3), z9] 3 ?_
 obtain ⟨v3, hv3, hh⟩ := bind_some hh
 let z11 := (9, bb v3.2); let q4 : Root := ⟨53, (fl O_53 v3.1.Guests)⟩; let z12 := (4, some q4); let q5 : Root := ⟨3, (fl (eI .i64) v3.1.Words)⟩; let z13 := (3, some q5)
 refine ys (.call 35 [(.t 25), (.t 26), (.t 27)]) (some 28) (op_call (r := .tup [.agg [.own 3 1 (List.length v3.1.Words) (fl (eI .i64) v3.1.Words), .own 53 17 (List.length v3.1.Guests) (fl O_53 v3.1.Guests)], bb v3.2]) (v := .tup [.agg [sw 3 v3.1.Words, .sref 4 [] 0 (List.length v3.1.Guests) 17], bb v3.2]) (Hr := [z12, z13]) (n' := 5) (spec_HostFill_fn hv3) (clz_v (vs := [.agg [sw 1 v2.Words, .sref 2 [] 0 (List.length v2.Guests) 17], ii x_aG, ii x_aPage]) kr (clz_c (clo_agg (clos_c (clo_own (c := (eI .i64)) (xs := v2.Words) (e := 3) eqn len_eI no_eI cl_eI kr) (clos_c (clo_flr (B := B_53) (xs := v2.Guests) (e := 53) oc_O_53 len_O_53 eqn kr) clos_n))) (cz1 (cz1 clz_n)))) (by simp only [AV.noRef, noRefs, Bool.and_self, noRefs_fl nr_eI, noRefs_fl nr_O_53]) (by simp only [AV.noBor, noBors, Bool.and_self, noBors_fl nb_eI, noBors_fl nb_O_53]) kr ?_)
 let q6 : Root := ⟨26, [sw 3 v3.1.Words, .sref 4 [] 0 (List.length v3.1.Guests) 17]⟩; let z14 := (5, some q6)
 refine yt (sp 106 [z1, z4, z5, z8, z11]) [z9, z13, z12, z14] 6 (Aw.sreg [1, 2, 3, 8, 9, 10] [0, 3, 4, 5, 6, 7, 8] (yu 1 [(31, .agg [bo (eI .i64) x_aH.Words, bo B_149 x_aH.Guests])] [z9, z13, z12, z14] 6 ?_))
 obtain ⟨v4, hv4, hh⟩ := bind_some hh
 let z15 : EV := (49, .agg [sw 6 v4.Words, .sref 7 [] 0 (List.length v4.Guests) 17]); let q7 : Root := ⟨53, (fl O_53 v4.Guests)⟩; let z16 := (7, some q7); let q8 : Root := ⟨3, (fl (eI .i64) v4.Words)⟩; let z17 := (6, some q8)
 refine ys (.call 41 [(.t 31)]) (some 32) (op_call (r := .agg [.own 3 1 (List.length v4.Words) (fl (eI .i64) v4.Words), .own 53 17 (List.length v4.Guests) (fl O_53 v4.Guests)]) (v := .agg [sw 6 v4.Words, .sref 7 [] 0 (List.length v4.Guests) 17]) (Hr := [z16, z17]) (n' := 8) (laws_toHost_fn hv4) (clz_v (vs := [.agg [bo (eI .i64) x_aH.Words, bo B_149 x_aH.Guests]]) kr (clz_c (clo_agg cz) clz_n)) (by simp only [AV.noRef, noRefs, Bool.and_self, noRefs_fl nr_eI, noRefs_fl nr_O_53]) (by simp only [AV.noBor, noBors, Bool.and_self, noBors_fl nb_eI, noBors_fl nb_O_53]) kr ?_)
 let q9 : Root := ⟨26, [sw 6 v4.Words, .sref 7 [] 0 (List.length v4.Guests) 17]⟩; let z18 := (8, some q9)
 refine yt (sp 106 [z1, z4, z5, z8, z11, z2]) [z9, z13, z12, z14, z17, z16, z18] 9 (Aw.sreg [1, 2, 3, 8, 9, 10, 11, 12] [0, 3, 4, 5, 6, 7, 8, 9, 10, 11] (yu 3 [(34, .agg [sw 6 v4.Words, .sref 7 [] 0 (List.length v4.Guests) 17]), (35, ii x_aG), (36, ii x_aPage)] [z9, z13, z12, z14, z17, z16, z18] 9 ?_))
 obtain ⟨v5, hv5, hh⟩ := bind_some hh
 let z19 := (12, bb v5.2); let z20 := (48, bb (!(v5.2 == v3.2))); let q10 : Root := ⟨53, (fl O_53 v5.1.Guests)⟩; let z21 := (10, some q10); let q11 : Root := ⟨3, (fl (eI .i64) v5.1.Words)⟩; let z22 := (9, some q11)
 refine ys (.call 34 [(.t 34), (.t 35), (.t 36)]) (some 37) (op_call (r := .tup [.agg [.own 3 1 (List.length v5.1.Words) (fl (eI .i64) v5.1.Words), .own 53 17 (List.length v5.1.Guests) (fl O_53 v5.1.Guests)], bb v5.2]) (v := .tup [.agg [sw 9 v5.1.Words, .sref 10 [] 0 (List.length v5.1.Guests) 17], bb v5.2]) (Hr := [z21, z22]) (n' := 11) (impl_HostFill_fn hv5) (clz_v (vs := [.agg [sw 6 v4.Words, .sref 7 [] 0 (List.length v4.Guests) 17], ii x_aG, ii x_aPage]) kr (clz_c (clo_agg (clos_c (clo_own (c := (eI .i64)) (xs := v4.Words) (e := 3) eqn len_eI no_eI cl_eI kr) (clos_c (clo_flr (B := B_53) (xs := v4.Guests) (e := 53) oc_O_53 len_O_53 eqn kr) clos_n))) (cz1 (cz1 clz_n)))) (by simp only [AV.noRef, noRefs, Bool.and_self, noRefs_fl nr_eI, noRefs_fl nr_O_53]) (by simp only [AV.noBor, noBors, Bool.and_self, noBors_fl nb_eI, noBors_fl nb_O_53]) kr ?_)
 let q12 : Root := ⟨26, [sw 9 v5.1.Words, .sref 10 [] 0 (List.length v5.1.Guests) 17]⟩; let z23 := (11, some q12)
 refine yt (sp 106 [z1, z4, z5, z8, z11, z2, z3, z19]) [z9, z13, z12, z14, z17, z16, z18, z22, z21, z23] 12 (Aw.seq (Aw.sreg [1, 2, 3, 8, 9, 10, 11, 12, 48] [0, 3, 4, 5, 6, 7, 8, 9, 10, 11] (yj 2  (sp 106 [z1, z4, z5, z8, z11, z2, z3, z19, (40, .agg [sw 9 v5.1.Words, .sref 10 [] 0 (List.length v5.1.Guests) 17]), (41, .agg [sw 3 v3.1.Words, .sref 4 [] 0 (List.length v3.1.Guests) 17])]) [z9, z13, z12, z14, z17, z16, z18, z22, z21, z23] 12 ?_)))
 obtain ⟨v6, hv6, hh⟩ := bind_some hh
 refine ys (.call 43 [(.t 40), (.t 41)]) (some 42) (op_call (r := bb v6) (v := bb v6) (Hr := []) (n' := 12) (laws_eqHost_fn hv6) (clz_v (vs := [.agg [sw 9 v5.1.Words, .sref 10 [] 0 (List.length v5.1.Guests) 17], .agg [sw 3 v3.1.Words, .sref 4 [] 0 (List.length v3.1.Guests) 17]]) kr (clz_c (clo_agg (clos_c (clo_own (c := (eI .i64)) (xs := v5.1.Words) (e := 3) eqn len_eI no_eI cl_eI kr) (clos_c (clo_flr (B := B_53) (xs := v5.1.Guests) (e := 53) oc_O_53 len_O_53 eqn kr) clos_n))) (clz_c (clo_agg (clos_c (clo_own (c := (eI .i64)) (xs := v3.1.Words) (e := 3) eqn len_eI no_eI cl_eI kr) (clos_c (clo_flr (B := B_53) (xs := v3.1.Guests) (e := 53) oc_O_53 len_O_53 eqn kr) clos_n))) clz_n))) rfl rfl kr ?_)
 refine yu 2 [(42, bb v6), (43, bb (!v6)), (44, bb (!v6))] [z9, z13, z12, z14, z17, z16, z18, z22, z21, z23] 12 ?_
 rcases cond_some hh with ⟨hb, hh⟩ | ⟨hb, hh⟩
 · exact yb 43 hb (yb 44 hb (yt (sp 106 [z1, z4, z5, z8, z11, z2, z3, z19, (48, bb true)]) [z9, z13, z12, z14, z17, z16, z18, z22, z21, z23] 12 (cT rfl (sy [6] [] (sp 106 [z7]) [] 12 (Aw.ret (then_r (gvbs hh)))))))
 refine yb 43 hb (yb 44 hb (yt (sp 106 [z1, z4, z5, z8, z11, z2, z3, z19, z20]) [z9, z13, z12, z14, z17, z16, z18, z22, z21, z23] 12 ?_))
 rcases cond_some hh with ⟨hb, hh⟩ | ⟨hb, hh⟩
 · exact cT hb (sy [6] [] (sp 106 [z7]) [] 12 (Aw.ret (then_r (gvbs hh))))
 refine cF hb (Aw.xskip (fun _ _ _ hq => then_m hq) (Aw.seq (Aw.sregd [1, 2, 3, 8, 9, 10, 11, 12, 53] [0, 3, 4, 5, 6, 7, 8, 9, 10, 11] [] kr (dc (cs := []) (E' := (sp 106 [z1, z4, z5, z8, z11, z2, z3, z19, z20, z15, z6])) (H' := [z9, z13, z12, z14, z17, z16, z18, z22, z21, z23]) (n' := 12) (fs' := none) (pre := (List.take 2 Lf11_r10)) (L' := (List.drop 2 Lf11_r10)) kr (fun K => by kernel_rfl) .nil ?_))))
 obtain ⟨v7, hv7, hh⟩ := bind_some hh
 let q13 : Root := ⟨53, (fl O_53 v7.Guests)⟩; let q14 : Root := ⟨3, (fl (eI .i64) v7.Words)⟩
 refine ds (.call 41 [(.t 50)]) (some 51) (ydo_n rfl (op_call (r := .agg [.own 3 1 (List.length v7.Words) (fl (eI .i64) v7.Words), .own 53 17 (List.length v7.Guests) (fl O_53 v7.Guests)]) (v := .agg [sw 12 v7.Words, .sref 13 [] 0 (List.length v7.Guests) 17]) (Hr := [(13, some q13), (12, some q14)]) (n' := 14) (laws_toHost_fn hv7) (clz_v (vs := [.agg [bo (eI .i64) x_aH.Words, bo B_149 x_aH.Guests]]) kr (clz_c (clo_agg cz) clz_n)) (by simp only [AV.noRef, noRefs, Bool.and_self, noRefs_fl nr_eI, noRefs_fl nr_O_53]) (by simp only [AV.noBor, noBors, Bool.and_self, noBors_fl nb_eI, noBors_fl nb_O_53]) kr ⟨⟨agr_name (n := 12) (n0 := 12) (r := .agg [.own 3 1 (List.length v7.Words) (fl (eI .i64) v7.Words), .own 53 17 (List.length v7.Guests) (fl O_53 v7.Guests)]) (v := .agg [sw 12 v7.Words, .sref 13 [] 0 (List.length v7.Guests) 17]) (Hr := [(13, some q13), (12, some q14)]) (n' := 14) kr dd, Hld.un ?_⟩⟩))
 refine dct (cs := []) (E' := (sp 106 [z1, z4, z5, z8, z11, z2, z3, z19, z20, z15, z6, (51, .agg [sw 12 v7.Words, .sref 13 [] 0 (List.length v7.Guests) 17])])) (H' := [(13, some q13), (12, some q14), z9, z13, z12, z14, z17, z16, z18, z22, z21, z23]) (n' := 14) (fun K => by kernel_rfl) .nil ?_
 obtain ⟨v8, hv8, hh⟩ := bind_some hh
 refine ys (.call 43 [(.t 49), (.t 51)]) (some 52) (op_call (r := bb v8) (v := bb v8) (Hr := []) (n' := 14) (laws_eqHost_fn hv8) (clz_v (vs := [.agg [sw 6 v4.Words, .sref 7 [] 0 (List.length v4.Guests) 17], .agg [sw 12 v7.Words, .sref 13 [] 0 (List.length v7.Guests) 17]]) kr (clz_c (clo_agg (clos_c (clo_own (c := (eI .i64)) (xs := v4.Words) (e := 3) eqn len_eI no_eI cl_eI kr) (clos_c (clo_flr (B := B_53) (xs := v4.Guests) (e := 53) oc_O_53 len_O_53 eqn kr) clos_n))) (clz_c (clo_agg (clos_c (clo_own (c := (eI .i64)) (xs := v7.Words) (e := 3) eqn len_eI no_eI cl_eI kr) (clos_c (clo_flr (B := B_53) (xs := v7.Guests) (e := 53) oc_O_53 len_O_53 eqn kr) clos_n))) clz_n))) rfl rfl kr ?_)
 refine yt (sp 106 [z1, z4, z5, z8, z11, z2, z3, z19, (53, bb (!v8))]) [z9, z13, z12, z14, z17, z16, z18, z22, z21, z23] 14 ?_
 rcases cond_some hh with ⟨hb, hh⟩ | ⟨hb, hh⟩
 · exact cT hb (sy [6] [] (sp 106 [z7]) [] 14 (Aw.ret (then_r (gvbs hh))))
 refine cF hb (Aw.xskip (fun _ _ _ hq => then_m hq) (sy [1, 2, 3, 8, 9, 10, 11, 12, 13] [0, 3, 4, 5, 6, 7, 8, 9, 10, 11] (sp 106 [z1, z4, z5, z8, z11, z2, z3, z19, (13, ii 1)]) [z9, z13, z12, z14, z17, z16, z18, z22, z21, z23] 14 (Aw.sreg [1, 2, 3, 8, 9, 11, 12, 13] [0, 3, 4, 5, 9, 10, 11] (yu 2 [(54, .agg [sw 6 v4.Words, .sref 7 [] 0 (List.length v4.Guests) 17]), (55, ii 1)] [z9, z13, z12, z14, z17, z16, z18, z22, z21, z23] 14 ?_))))
 obtain ⟨v9, hv9, hh⟩ := bind_some hh
 obtain ⟨hg3, hh⟩ := grd_some hh
 obtain ⟨hg4, hh⟩ := grd_some hh
 refine ys (.call 45 [(.t 54), (.t 55)]) (some 56) (op_callf (v' := ii v9.2.2) (Hp' := [(6, some ⟨3, (fl (eI .i64) v9.1)⟩), (7, some ⟨53, (fl O_53 v9.2.1)⟩)]) (n' := 14) [6, 7] (laws_markHost_fn hv9) (args' := [.agg [sw 6 v4.Words, .sref 7 [] 0 (List.length v4.Guests) 17], ii 1]) kr rfl rfl rfl rz rfl (hn nr_O_53 (hn nr_eI hs_nil)) ren_i rfl (hn nr_eI (hn nr_O_53 hs_nil)) rfl ?_)
 refine yt (sp 106 [z1, z4, z5, z8, z11, z3, z19, (13, ii v9.2.2)]) [z9, z13, z12, z14, z22, z21, z23] 14 (Aw.seq (Aw.sreg [1, 2, 3, 8, 9, 11, 69] [0, 3, 4, 5, 9, 10, 11] (yj 3  (sp 106 [z1, z4, z5, z8, z11, z3, z19, (13, ii v9.2.2), (57, ii v9.2.2), (58, bb (decide (v9.2.2 < (0 : Int)))), (59, bb (decide (v9.2.2 < (0 : Int))))]) [z9, z13, z12, z14, z22, z21, z23] 14 ?_)))
 rcases cond_some hh with ⟨hb, hh⟩ | ⟨hb, hh⟩
 · exact yb 58 hb (yb 59 hb (yt (sp 106 [z1, z4, z5, z8, z11, z3, (69, bb true)]) [z9, z13, z12, z14, z22, z21, z23] 14 (cT rfl (sy [6] [] (sp 106 [z7]) [] 14 (Aw.ret (then_r (gvbs hh)))))))
 refine yb 58 hb (yb 59 hb (yu 2 [(58, bb false), (59, bb false), (60, .agg [sw 9 v5.1.Words, .sref 10 [] 0 (List.length v5.1.Guests) 17]), (61, .agg [sw 3 v3.1.Words, .sref 4 [] 0 (List.length v3.1.Guests) 17])] [z9, z13, z12, z14, z22, z21, z23] 14 ?_))
 obtain ⟨v10, hv10, hh⟩ := bind_some hh
 refine yg (.call 43 [(.t 60), (.t 61)]) (some 62) 59 false (op_call (r := bb v10) (v := bb v10) (Hr := []) (n' := 14) (laws_eqHost_fn hv10) (clz_v (vs := [.agg [sw 9 v5.1.Words, .sref 10 [] 0 (List.length v5.1.Guests) 17], .agg [sw 3 v3.1.Words, .sref 4 [] 0 (List.length v3.1.Guests) 17]]) kr (clz_c (clo_agg (clos_c (clo_own (c := (eI .i64)) (xs := v5.1.Words) (e := 3) eqn len_eI no_eI cl_eI kr) (clos_c (clo_flr (B := B_53) (xs := v5.1.Guests) (e := 53) oc_O_53 len_O_53 eqn kr) clos_n))) (clz_c (clo_agg (clos_c (clo_own (c := (eI .i64)) (xs := v3.1.Words) (e := 3) eqn len_eI no_eI cl_eI kr) (clos_c (clo_flr (B := B_53) (xs := v3.1.Guests) (e := 53) oc_O_53 len_O_53 eqn kr) clos_n))) clz_n))) rfl rfl kr ?_)
 refine yu 3 [(62, bb v10), (63, bb (!v10)), (64, bb (!v10)), (65, bb (!v10))] [z9, z13, z12, z14, z22, z21, z23] 14 ?_
 rcases cond_some hh with ⟨hb, hh⟩ | ⟨hb, hh⟩
 · exact yb 63 hb (yb 64 hb (yb 65 hb (yt (sp 106 [z1, z4, z5, z8, z11, z3, (69, bb true)]) [z9, z13, z12, z14, z22, z21, z23] 14 (cT rfl (sy [6] [] (sp 106 [z7]) [] 14 (Aw.ret (then_r (gvbs hh))))))))
 refine yb 63 hb (yb 64 hb (yb 65 hb (yt (sp 106 [z1, z4, z5, z8, z11, z3, (69, bb (!(v5.2 == v3.2)))]) [z9, z13, z12, z14, z22, z21, z23] 14 ?_)))
 rcases cond_some hh with ⟨hb, hh⟩ | ⟨hb, hh⟩
 · exact cT hb (sy [6] [] (sp 106 [z7]) [] 14 (Aw.ret (then_r (gvbs hh))))
 refine cF hb (Aw.xskip (fun _ _ _ hq => then_m hq) (sy [1, 2, 3, 8, 9, 11, 14] [0, 3, 4, 5, 9, 10, 11] (sp 106 [z1, z4, z5, z8, z11, z3, (14, ii 1)]) [z9, z13, z12, z14, z22, z21, z23] 14 (Aw.sreg [1, 2, 3, 8, 9, 11, 14] [0, 3, 4, 5, 9, 10, 11] (yu 2 [(70, .agg [sw 9 v5.1.Words, .sref 10 [] 0 (List.length v5.1.Guests) 17]), (71, ii 1)] [z9, z13, z12, z14, z22, z21, z23] 14 ?_))))
 obtain ⟨v11, hv11, hh⟩ := bind_some hh
 let z24 : EH := (10, some ⟨53, (fl O_53 v11.2.1)⟩); let z25 := (14, ii v11.2.2)
 obtain ⟨hg7, hh⟩ := grd_some hh
 obtain ⟨hg8, hh⟩ := grd_some hh
 let q15 : Root := ⟨3, (fl (eI .i64) v11.1)⟩; let z26 := (9, some q15)
 refine ys (.call 45 [(.t 70), (.t 71)]) (some 72) (op_callf (v' := ii v11.2.2) (Hp' := [z26, z24]) (n' := 14) [9, 10] (laws_markHost_fn hv11) (args' := [.agg [sw 9 v5.1.Words, .sref 10 [] 0 (List.length v5.1.Guests) 17], ii 1]) kr rfl rfl rfl rz rfl (hn nr_O_53 (hn nr_eI hs_nil)) ren_i rfl (hn nr_eI (hn nr_O_53 hs_nil)) rfl ?_)
 refine yt (sp 106 [z1, z4, z5, z8, z11, z3, z25]) [z9, z13, z12, z14, z26, z24, z23] 14 (sy [1, 2, 3, 8, 9, 11, 14, 15] [0, 3, 4, 5, 9, 10, 11] (sp 106 [z1, z4, z5, z8, z11, z3, z25, (15, ii 1)]) [z9, z13, z12, z14, z26, z24, z23] 14 (Aw.sreg [1, 2, 3, 8, 9, 11, 14, 15] [0, 3, 4, 5, 9, 10, 11] (yu 2 [(73, .agg [sw 9 v5.1.Words, .sref 10 [] 0 (List.length v5.1.Guests) 17]), (74, ii 1)] [z9, z13, z12, z14, z26, z24, z23] 14 ?_)))
 obtain ⟨v12, hv12, hh⟩ := bind_some hh
 let z27 := (80, bb (!decide (v12 = v11.2.2)))
 refine ys (.call 47 [(.t 73), (.t 74)]) (some 75) (op_call (r := ii v12) (v := ii v12) (Hr := []) (n' := 14) (laws_heldHost_fn hv12) (clz_v (vs := [.agg [sw 9 v5.1.Words, .sref 10 [] 0 (List.length v5.1.Guests) 17], ii 1]) kr (clz_c (clo_agg (clos_c (clo_own (c := (eI .i64)) (xs := v11.1) (e := 3) eqn len_eI no_eI cl_eI kr) (clos_c (clo_flr (B := B_53) (xs := v11.2.1) (e := 53) oc_O_53 len_O_53 eqn kr) clos_n))) (cz1 clz_n))) rfl rfl kr ?_)
 refine yt (sp 106 [z1, z4, z5, z8, z11, z3, z25, (15, ii v12)]) [z9, z13, z12, z14, z26, z24, z23] 14 (Aw.seq (sy [1, 2, 3, 8, 9, 11, 14, 15, 77] [0, 3, 4, 5, 9, 10, 11] (sp 106 [z1, z4, z5, z8, z11, z3, z25, (15, ii v12), (77, bb (decide (v12 < (0 : Int))))]) [z9, z13, z12, z14, z26, z24, z23] 14 ?_))
 rcases cond_some hh with ⟨hb, hh⟩ | ⟨hb, hh⟩
 · exact cT hb (sy [6] [] (sp 106 [z7]) [] 14 (Aw.ret (then_r (gvbs hh))))
 refine cF hb (Aw.xskip (fun _ _ _ hq => then_m hq) (Aw.seq (sy [1, 2, 3, 8, 9, 11, 14, 80] [0, 3, 4, 5, 9, 10, 11] (sp 106 [z1, z4, z5, z8, z11, z3, z25, z27]) [z9, z13, z12, z14, z26, z24, z23] 14 ?_)))
 rcases cond_some hh with ⟨hb, hh⟩ | ⟨hb, hh⟩
 · exact cT hb (sy [6] [] (sp 106 [z7]) [] 14 (Aw.ret (then_r (gvbs hh))))
 refine cF hb (Aw.xskip (fun _ _ _ hq => then_m hq) (Aw.sreg [8, 9, 11, 14, 16, 17] [3, 4, 5, 9, 10, 11, 16, 17, 18] (yj 1  (sp 106 [z1, z4, z5, z8, z11, z3, z25, z27, (82, .agg [bo (eI .i64) x_aH.Words, bo B_149 x_aH.Guests])]) [z9, z13, z12, z14, z26, z24, z23] 14 ?_)))
 obtain ⟨v13, hv13, hh⟩ := bind_some hh
 let q16 : Root := ⟨53, (fl O_53 v13.Guests)⟩; let q17 : Root := ⟨3, (fl (eI .i64) v13.Words)⟩
 refine ys (.call 41 [(.t 82)]) (some 83) (op_call (r := .agg [.own 3 1 (List.length v13.Words) (fl (eI .i64) v13.Words), .own 53 17 (List.length v13.Guests) (fl O_53 v13.Guests)]) (v := .agg [sw 14 v13.Words, .sref 15 [] 0 (List.length v13.Guests) 17]) (Hr := [(15, some q16), (14, some q17)]) (n' := 16) (laws_toHost_fn hv13) (clz_v (vs := [.agg [bo (eI .i64) x_aH.Words, bo B_149 x_aH.Guests]]) kr (clz_c (clo_agg cz) clz_n)) (by simp only [AV.noRef, noRefs, Bool.and_self, noRefs_fl nr_eI, noRefs_fl nr_O_53]) (by simp only [AV.noBor, noBors, Bool.and_self, noBors_fl nb_eI, noBors_fl nb_O_53]) kr ?_)
 refine yu 2 [(83, .agg [sw 14 v13.Words, .sref 15 [] 0 (List.length v13.Guests) 17]), (84, ii x_aG), (85, ii x_aPage)] [(15, some q16), (14, some q17), z9, z13, z12, z14, z26, z24, z23] 16 ?_
 obtain ⟨v14, hv14, hh⟩ := bind_some hh
 let q18 : Root := ⟨53, (fl O_53 v14.1.Guests)⟩; let z28 := (17, some q18); let q19 : Root := ⟨3, (fl (eI .i64) v14.1.Words)⟩; let z29 := (16, some q19)
 refine ys (.call 34 [(.t 83), (.t 84), (.t 85)]) (some 86) (op_call (r := .tup [.agg [.own 3 1 (List.length v14.1.Words) (fl (eI .i64) v14.1.Words), .own 53 17 (List.length v14.1.Guests) (fl O_53 v14.1.Guests)], bb v14.2]) (v := .tup [.agg [sw 16 v14.1.Words, .sref 17 [] 0 (List.length v14.1.Guests) 17], bb v14.2]) (Hr := [z28, z29]) (n' := 18) (impl_HostFill_fn hv14) (clz_v (vs := [.agg [sw 14 v13.Words, .sref 15 [] 0 (List.length v13.Guests) 17], ii x_aG, ii x_aPage]) kr (clz_c (clo_agg (clos_c (clo_own (c := (eI .i64)) (xs := v13.Words) (e := 3) eqn len_eI no_eI cl_eI kr) (clos_c (clo_flr (B := B_53) (xs := v13.Guests) (e := 53) oc_O_53 len_O_53 eqn kr) clos_n))) (cz1 (cz1 clz_n)))) (by simp only [AV.noRef, noRefs, Bool.and_self, noRefs_fl nr_eI, noRefs_fl nr_O_53]) (by simp only [AV.noBor, noBors, Bool.and_self, noBors_fl nb_eI, noBors_fl nb_O_53]) kr ?_)
 let q20 : Root := ⟨26, [sw 16 v14.1.Words, .sref 17 [] 0 (List.length v14.1.Guests) 17]⟩
 refine yt (sp 106 [z8, z11, z3, z25, (16, pp 18), (17, bb v14.2)]) [z13, z12, z14, z26, z24, z23, z29, z28, (18, some q20)] 19 (Aw.seq (Aw.sreg [11, 14, 97] [9, 10, 11] (yj 2  (sp 106 [z8, z11, z3, z25, (16, pp 18), (17, bb v14.2), (89, .agg [sw 16 v14.1.Words, .sref 17 [] 0 (List.length v14.1.Guests) 17]), (90, .agg [sw 3 v3.1.Words, .sref 4 [] 0 (List.length v3.1.Guests) 17])]) [z13, z12, z14, z26, z24, z23, z29, z28, (18, some q20)] 19 ?_)))
 obtain ⟨v15, hv15, hh⟩ := bind_some hh
 refine ys (.call 43 [(.t 89), (.t 90)]) (some 91) (op_call (r := bb v15) (v := bb v15) (Hr := []) (n' := 19) (laws_eqHost_fn hv15) (clz_v (vs := [.agg [sw 16 v14.1.Words, .sref 17 [] 0 (List.length v14.1.Guests) 17], .agg [sw 3 v3.1.Words, .sref 4 [] 0 (List.length v3.1.Guests) 17]]) kr (clz_c (clo_agg (clos_c (clo_own (c := (eI .i64)) (xs := v14.1.Words) (e := 3) eqn len_eI no_eI cl_eI kr) (clos_c (clo_flr (B := B_53) (xs := v14.1.Guests) (e := 53) oc_O_53 len_O_53 eqn kr) clos_n))) (clz_c (clo_agg (clos_c (clo_own (c := (eI .i64)) (xs := v3.1.Words) (e := 3) eqn len_eI no_eI cl_eI kr) (clos_c (clo_flr (B := B_53) (xs := v3.1.Guests) (e := 53) oc_O_53 len_O_53 eqn kr) clos_n))) clz_n))) rfl rfl kr ?_)
 refine yu 2 [(91, bb v15), (92, bb (!v15)), (93, bb (!v15))] [z13, z12, z14, z26, z24, z23, z29, z28, (18, some q20)] 19 ?_
 rcases cond_some hh with ⟨hb, hh⟩ | ⟨hb, hh⟩
 · exact yb 92 hb (yb 93 hb (yt (sp 106 [z3, z25, (97, bb true)]) [z26, z24, z23] 19 (cT rfl (sy [6] [] (sp 106 [z7]) [] 19 (Aw.ret (then_r (gvbs hh)))))))
 refine yb 92 hb (yb 93 hb (yt (sp 106 [z3, z25, (97, bb (!(v14.2 == v3.2)))]) [z26, z24, z23] 19 ?_))
 rcases cond_some hh with ⟨hb, hh⟩ | ⟨hb, hh⟩
 · exact cT hb (sy [6] [] (sp 106 [z7]) [] 19 (Aw.ret (then_r (gvbs hh))))
 refine cF hb (Aw.xskip (fun _ _ _ hq => then_m hq) (sy [11, 14, 15] [9, 10, 11] (sp 106 [z3, z25, (15, ii 1)]) [z26, z24, z23] 19 (Aw.sreg [14, 15] [] (yu 2 [(98, .agg [sw 9 v5.1.Words, .sref 10 [] 0 (List.length v5.1.Guests) 17]), (99, ii 1)] [z26, z24, z23] 19 ?_))))
 obtain ⟨v16, hv16, hh⟩ := bind_some hh
 refine ys (.call 47 [(.t 98), (.t 99)]) (some 100) (op_call (r := ii v16) (v := ii v16) (Hr := []) (n' := 19) (laws_heldHost_fn hv16) (clz_v (vs := [.agg [sw 9 v5.1.Words, .sref 10 [] 0 (List.length v5.1.Guests) 17], ii 1]) kr (clz_c (clo_agg (clos_c (clo_own (c := (eI .i64)) (xs := v11.1) (e := 3) eqn len_eI no_eI cl_eI kr) (clos_c (clo_flr (B := B_53) (xs := v11.2.1) (e := 53) oc_O_53 len_O_53 eqn kr) clos_n))) (cz1 clz_n))) rfl rfl kr ?_)
 refine yt (sp 106 [z25, (15, ii v16)]) [] 19 (Aw.seq (sy [14, 15, 102] [] (sp 106 [z25, (15, ii v16), (102, bb (decide (v16 < (0 : Int))))]) [] 19 ?_))
 rcases cond_some hh with ⟨hb, hh⟩ | ⟨hb, hh⟩
 · exact cT hb (sy [6] [] (sp 106 [z7]) [] 19 (Aw.ret (then_r (gvbs hh))))
 refine cF hb (Aw.xskip (fun _ _ _ hq => then_m hq) (Aw.seq (sy [105] [] (sp 106 [(105, bb (!decide (v16 = v11.2.2)))]) [] 19 ?_)))
 rcases cond_some hh with ⟨hb, hh⟩ | ⟨hb, hh⟩
 · exact cT hb (sy [6] [] (sp 106 [z7]) [] 19 (Aw.ret (then_r (gvbs hh))))
 exact cF hb (Aw.xskip (fun _ _ _ hq => then_m hq) (sy [6] [] (sp 106 [(6, bb true)]) [] 19 (Aw.ret (gvbs hh))))
end Go.Proofs.Ytlikfpmbcdlnjaa
