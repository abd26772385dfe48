/- Plain functions of the program, and that it hands back what they say. Made by program. -/
import Derived.Test.YtlikfpmbcdlnjaaWT
import Derived.Test.YtlikfpmbcdlnjaaProg
import Derived.Test.YtlikfpmbcdlnjaaWHM1
import Derived.Test.YtlikfpmbcdlnjaaWHT1
import Derived.Test.YtlikfpmbcdlnjaaWSM1
import Derived.Test.YtlikfpmbcdlnjaaWSO1
namespace Go.Proofs.Ytlikfpmbcdlnjaa
open Go.RowKit
set_option maxRecDepth 100000
set_option linter.all false
set_option maxHeartbeats 0
def Lf9_r0 : List LOper := [oX 2 65 0, oF 4]
def Lf9_r1 : List LOper := [oN 5 1048576]
def Lf9_r2 : List LOper := [oL 13 2 2, om 14 5, oK 15 39 [13, 14], om 5 15]
def Lf9_r3 : List LOper := [om 16 5, ob 17 .lss 16 0]
def Lf9_r4 : List LOper := [oT 4]
def Lf9_r5 : List LOper := [oL 18 2 2, oK 19 41 [18], om 20 1, oK 21 28 [19, 20], om 6 21]
def Lf9_r6 : List LOper := [oL 22 2 2, oK 23 41 [22], oo 7 (.fresh 26 [.nil, .nil]), oS 2 7 23]
def Lf9_r7 : List LOper := [oL 24 2 7, om 25 1, oK 26 27 [24, 25], om 8 26]
def Lf9_r8 : List LOper := [om 27 8, om 28 6, oK 29 48 [27, 28], oU 30 29]
def Lf9_r9 : List LOper := [oF 4]
def Lf9_r10 : List LOper := [oL 31 2 7, oL 32 2 2, oK 33 41 [32]]
def Lf9_r10t : List LOper := [oK 34 43 [31, 33], oU 35 34]
def Lf9_r12 : List LOper := [oF 4]
def Lf9_r13 : List LOper := [oN 9 1]
def Lf9_r14 : List LOper := [oL 36 2 7, om 37 9, oK 38 45 [36, 37], om 9 38]
def Lf9_r15 : List LOper := [om 39 9, ob 40 .lss 39 0, om 41 40, og 42 (.mv (.t 8)) 41 false, og 43 (.mv (.t 6)) 41 false, og 44 (.call 48 [(.t 42), (.t 43)]) 41 false, og 45 (.un .not (.t 44)) 41 false, oQ 46 41 45]
def Lf9_r16 : List LOper := [oF 4]
def Lf9_r17 : List LOper := [oN 10 1]
def Lf9_r18 : List LOper := [om 47 8, om 48 10, oK 49 49 [47, 48], om 10 49]
def Lf9_r19 : List LOper := [oN 11 1]
def Lf9_r20 : List LOper := [om 50 8, om 51 11, oK 52 50 [50, 51], om 11 52]
def Lf9_r21 : List LOper := [om 53 11, ob 54 .lss 53 0]
def Lf9_r22 : List LOper := [oF 4]
def Lf9_r23 : List LOper := [om 55 11, om 56 10, oB 57 .neq 55 56]
def Lf9_r24 : List LOper := [oF 4]
def Lf9_r25 : List LOper := [oL 58 2 2, oK 59 41 [58], om 60 1, oK 61 27 [59, 60], om 12 61]
def Lf9_r26 : List LOper := [om 62 12, om 63 6, oK 64 48 [62, 63], oU 65 64]
def Lf9_r27 : List LOper := [oF 4]
def Lf9_r28 : List LOper := [oN 11 1]
def Lf9_r29 : List LOper := [om 66 8, om 67 11, oK 68 50 [66, 67], om 11 68]
def Lf9_r30 : List LOper := [om 69 11, ob 70 .lss 69 0]
def Lf9_r31 : List LOper := [oF 4]
def Lf9_r32 : List LOper := [om 71 11, om 72 10, oB 73 .neq 71 72]
def Lf9_r33 : List LOper := [oF 4]
def Lf9_r34 : List LOper := [oT 4]
def Lf9 : LFun := ⟨74, [(.tmp 4)], (.seq (.reg false Lf9_r0) (.seq (.reg false Lf9_r1) (.seq (.reg false Lf9_r2) (.seq (.seq (.reg false Lf9_r3) (.cond (.t 17) (.seq (.reg false Lf9_r4) .ret) .skip)) (.seq (.reg false Lf9_r5) (.seq (.reg false Lf9_r6) (.seq (.reg false Lf9_r7) (.seq (.seq (.reg false Lf9_r8) (.cond (.t 30) (.seq (.reg false Lf9_r9) .ret) .skip)) (.seq (.seq (.regd Lf9_r10 Lf9_r10t) (.cond (.t 35) (.seq (.reg false Lf9_r12) .ret) .skip)) (.seq (.reg false Lf9_r13) (.seq (.reg false Lf9_r14) (.seq (.seq (.reg false Lf9_r15) (.cond (.t 46) (.seq (.reg false Lf9_r16) .ret) .skip)) (.seq (.reg false Lf9_r17) (.seq (.reg false Lf9_r18) (.seq (.reg false Lf9_r19) (.seq (.reg false Lf9_r20) (.seq (.seq (.reg false Lf9_r21) (.cond (.t 54) (.seq (.reg false Lf9_r22) .ret) .skip)) (.seq (.seq (.reg false Lf9_r23) (.cond (.t 57) (.seq (.reg false Lf9_r24) .ret) .skip)) (.seq (.reg false Lf9_r25) (.seq (.seq (.reg false Lf9_r26) (.cond (.t 65) (.seq (.reg false Lf9_r27) .ret) .skip)) (.seq (.reg false Lf9_r28) (.seq (.reg false Lf9_r29) (.seq (.seq (.reg false Lf9_r30) (.cond (.t 70) (.seq (.reg false Lf9_r31) .ret) .skip)) (.seq (.seq (.reg false Lf9_r32) (.cond (.t 73) (.seq (.reg false Lf9_r33) .ret) .skip)) (.seq (.reg false Lf9_r34) .ret)))))))))))))))))))))))))⟩
theorem low_laws_FnExactShadowOf : lowFun Go.Proofs.Try.prog 9 = some Lf9 := by kernel_rfl
noncomputable def F_laws_FnExactShadowOf (x_aH : DHost) (x_aG : Int) : Option Bool :=
 Option.bind (F_laws_szHost x_aH (1048576 : Int)) fun v1 =>
 cond (decide (v1 < (0 : Int)))
  (some true)
  (Option.bind (F_laws_toHost x_aH) fun v2 =>
  Option.bind (F_spec_ShadowOf v2 x_aG) fun v3 =>
  Option.bind (F_laws_toHost x_aH) fun v4 =>
  Option.bind (F_impl_ShadowOf v4 x_aG) fun v5 =>
  Option.bind (F_laws_eqShadeS v5 v3) fun v6 =>
  cond (!v6)
   (some false)
   (Option.bind (F_laws_toHost x_aH) fun v7 =>
   Option.bind (F_laws_eqHost v4 v7) fun v8 =>
   cond (!v8)
    (some false)
    (Option.bind (F_laws_markHost v4 (1 : Int)) fun v9 =>
    grd (List.length v9.1 = (List.length v4.Words)) (grd (List.length v9.2.1 = (List.length v4.Guests)) (cond (decide (v9.2.2 < (0 : Int)))
     (some false)
     (Option.bind (F_laws_eqShadeS v5 v3) fun v10 =>
     cond (!v10)
      (some false)
      (Option.bind (F_laws_markShadeS v5 (1 : Int)) fun v11 =>
      grd (List.length v11.1 = (List.length v5)) (Option.bind (F_laws_heldShadeS v11.1 (1 : Int)) fun v12 =>
       cond (decide (v12 < (0 : Int)))
        (some false)
        (cond (!decide (v12 = v11.2))
         (some false)
         (Option.bind (F_laws_toHost x_aH) fun v13 =>
         Option.bind (F_impl_ShadowOf v13 x_aG) fun v14 =>
         Option.bind (F_laws_eqShadeS v14 v3) fun v15 =>
         cond (!v15)
          (some false)
          (Option.bind (F_laws_heldShadeS v11.1 (1 : Int)) fun v16 =>
          cond (decide (v16 < (0 : Int)))
           (some false)
           (cond (!decide (v16 = v11.2))
            (some false)
            (some true)))))))))))))
theorem laws_FnExactShadowOf_fn {x_aH : DHost} {x_aG : Int} {R_ : Bool} (hh : F_laws_FnExactShadowOf x_aH x_aG = some R_) : Fn Try.prog 9 [.agg [bo (eI .i64) x_aH.Words, bo B_149 x_aH.Guests], .int .i64 x_aG] (.bool R_) := by
 let z1 := (1, ii x_aG); let z2 := (2, pp 0); let z3 : EV := (32, .agg [bo (eI .i64) x_aH.Words, bo B_149 x_aH.Guests]); let z4 := (4, bb false); let z5 := (7, pp 6)
 unfold F_laws_FnExactShadowOf at hh
 refine Fn.start low_laws_FnExactShadowOf [0, 1] (E := sp 74 [(0, .agg [bo (eI .i64) x_aH.Words, bo B_149 x_aH.Guests]), z1]) kr (v := bb R_) (Hr := []) (k := 0) kr (Aw.sreg [1, 2] [0] ?_)
 let q1 : Root := ⟨65, [bo (eI .i64) x_aH.Words, bo B_149 x_aH.Guests]⟩; let z6 := (0, some q1)
 refine yt (sp 74 [z1, z2]) [z6] 1 (sy [1, 2, 5] [0] (sp 74 [z1, z2, (5, ii 1048576)]) [z6] 1 (Aw.sreg [1, 2, 5] [0] (yu 2 [(13, .agg [bo (eI .i64) x_aH.Words, bo B_149 x_aH.Guests]), (14, ii 1048576)] [z6] 1 ?_)))
 obtain ⟨v1, hv1, hh⟩ := bind_some hh
 let z7 := (17, bb (decide (v1 < (0 : Int))))
 refine ys (.call 39 [(.t 13), (.t 14)]) (some 15) (op_call (r := ii v1) (v := ii v1) (Hr := []) (n' := 1) (laws_szHost_fn hv1) (clz_v (vs := [.agg [bo (eI .i64) x_aH.Words, bo B_149 x_aH.Guests], ii 1048576]) kr (clz_c (clo_agg cz) (cz1 clz_n))) rfl rfl kr ?_)
 refine yt (sp 74 [z1, z2, (5, ii v1)]) [z6] 1 (Aw.seq (sy [1, 2, 17] [0] (sp 74 [z1, z2, z7]) [z6] 1 ?_))
 rcases cond_some hh with ⟨hb, hh⟩ | ⟨hb, hh⟩
 · exact cT hb (sy [4] [] (sp 74 [(4, bb true)]) [] 1 (Aw.ret (then_r (gvbs hh))))
 refine cF hb (Aw.xskip (fun _ _ _ hq => then_m hq) (Aw.sreg [1, 2, 6] [0, 3] (yj 1  (sp 74 [z1, z2, z7, (18, .agg [bo (eI .i64) x_aH.Words, bo B_149 x_aH.Guests])]) [z6] 1 ?_)))
 obtain ⟨v2, hv2, hh⟩ := bind_some hh
 let q2 : Root := ⟨53, (fl O_53 v2.Guests)⟩; let q3 : Root := ⟨3, (fl (eI .i64) v2.Words)⟩
 refine ys (.call 41 [(.t 18)]) (some 19) (op_call (r := .agg [.own 3 1 (List.length v2.Words) (fl (eI .i64) v2.Words), .own 53 17 (List.length v2.Guests) (fl O_53 v2.Guests)]) (v := .agg [sw 1 v2.Words, .sref 2 [] 0 (List.length v2.Guests) 17]) (Hr := [(2, some q2), (1, some q3)]) (n' := 3) (laws_toHost_fn hv2) (clz_v (vs := [.agg [bo (eI .i64) x_aH.Words, bo B_149 x_aH.Guests]]) kr (clz_c (clo_agg cz) clz_n)) (by simp only [AV.noRef, noRefs, Bool.and_self, noRefs_fl nr_eI, noRefs_fl nr_O_53]) (by simp only [AV.noBor, noBors, Bool.and_self, noBors_fl nb_eI, noBors_fl nb_O_53]) kr ?_)
 refine yu 1 [(19, .agg [sw 1 v2.Words, .sref 2 [] 0 (List.length v2.Guests) 17]), (20, ii x_aG)] [(2, some q2), (1, some q3), z6] 3 ?_
 obtain ⟨v3, hv3, hh⟩ := bind_some hh
 let z8 : EH := (3, some ⟨48, (fl C_48 v3)⟩); let z9 : EV := (6, .sref 3 [] 0 (List.length v3) 6)
 refine ys (.call 28 [(.t 19), (.t 20)]) (some 21) (op_call (r := .own 48 6 (List.length v3) (fl C_48 v3)) (v := .sref 3 [] 0 (List.length v3) 6) (Hr := [z8]) (n' := 4) (spec_ShadowOf_fn hv3) (clz_v (vs := [.agg [sw 1 v2.Words, .sref 2 [] 0 (List.length v2.Guests) 17], ii x_aG]) kr (clz_c (clo_agg (clos_c (clo_own (c := (eI .i64)) (xs := v2.Words) (e := 3) eqn len_eI no_eI cl_eI kr) (clos_c (clo_flr (B := B_53) (xs := v2.Guests) (e := 53) oc_O_53 len_O_53 eqn kr) clos_n))) (cz1 clz_n))) (by simp only [AV.noRef, noRefs, Bool.and_self, noRefs_fl nr_C_48]) (by simp only [AV.noBor, noBors, Bool.and_self, noBors_fl nb_C_48]) kr ?_)
 refine yt (sp 74 [z1, z2, z9]) [z6, z8] 4 (Aw.sreg [1, 2, 6, 7] [0, 3, 4, 5, 6] (yu 1 [(22, .agg [bo (eI .i64) x_aH.Words, bo B_149 x_aH.Guests])] [z6, z8] 4 ?_))
 obtain ⟨v4, hv4, hh⟩ := bind_some hh
 let z10 : EV := (31, .agg [sw 4 v4.Words, .sref 5 [] 0 (List.length v4.Guests) 17]); let q4 : Root := ⟨53, (fl O_53 v4.Guests)⟩; let z11 := (5, some q4); let q5 : Root := ⟨3, (fl (eI .i64) v4.Words)⟩; let z12 := (4, some q5)
 refine ys (.call 41 [(.t 22)]) (some 23) (op_call (r := .agg [.own 3 1 (List.length v4.Words) (fl (eI .i64) v4.Words), .own 53 17 (List.length v4.Guests) (fl O_53 v4.Guests)]) (v := .agg [sw 4 v4.Words, .sref 5 [] 0 (List.length v4.Guests) 17]) (Hr := [z11, z12]) (n' := 6) (laws_toHost_fn hv4) (clz_v (vs := [.agg [bo (eI .i64) x_aH.Words, bo B_149 x_aH.Guests]]) kr (clz_c (clo_agg cz) clz_n)) (by simp only [AV.noRef, noRefs, Bool.and_self, noRefs_fl nr_eI, noRefs_fl nr_O_53]) (by simp only [AV.noBor, noBors, Bool.and_self, noBors_fl nb_eI, noBors_fl nb_O_53]) kr ?_)
 let q6 : Root := ⟨26, [sw 4 v4.Words, .sref 5 [] 0 (List.length v4.Guests) 17]⟩; let z13 := (6, some q6)
 refine yt (sp 74 [z1, z2, z9, z5]) [z6, z8, z12, z11, z13] 7 (Aw.sreg [1, 2, 6, 7, 8] [0, 3, 4, 5, 6, 7] (yu 2 [(24, .agg [sw 4 v4.Words, .sref 5 [] 0 (List.length v4.Guests) 17]), (25, ii x_aG)] [z6, z8, z12, z11, z13] 7 ?_))
 obtain ⟨v5, hv5, hh⟩ := bind_some hh
 let z14 : EH := (7, some ⟨48, (fl C_48 v5)⟩); let z15 : EV := (8, .sref 7 [] 0 (List.length v5) 6)
 refine ys (.call 27 [(.t 24), (.t 25)]) (some 26) (op_call (r := .own 48 6 (List.length v5) (fl C_48 v5)) (v := .sref 7 [] 0 (List.length v5) 6) (Hr := [z14]) (n' := 8) (impl_ShadowOf_fn hv5) (clz_v (vs := [.agg [sw 4 v4.Words, .sref 5 [] 0 (List.length v4.Guests) 17], ii x_aG]) kr (clz_c (clo_agg (clos_c (clo_own (c := (eI .i64)) (xs := v4.Words) (e := 3) eqn len_eI no_eI cl_eI kr) (clos_c (clo_flr (B := B_53) (xs := v4.Guests) (e := 53) oc_O_53 len_O_53 eqn kr) clos_n))) (cz1 clz_n))) (by simp only [AV.noRef, noRefs, Bool.and_self, noRefs_fl nr_C_48]) (by simp only [AV.noBor, noBors, Bool.and_self, noBors_fl nb_C_48]) kr ?_)
 refine yt (sp 74 [z1, z2, z9, z5, z15]) [z6, z8, z12, z11, z13, z14] 8 (Aw.seq (Aw.sreg [1, 2, 6, 7, 8, 30] [0, 3, 4, 5, 6, 7] (yj 2  (sp 74 [z1, z2, z9, z5, z15, (27, .sref 7 [] 0 (List.length v5) 6), (28, .sref 3 [] 0 (List.length v3) 6)]) [z6, z8, z12, z11, z13, z14] 8 ?_)))
 obtain ⟨v6, hv6, hh⟩ := bind_some hh
 refine ys (.call 48 [(.t 27), (.t 28)]) (some 29) (op_call (r := bb v6) (v := bb v6) (Hr := []) (n' := 8) (laws_eqShadeS_fn hv6) (clz_v (vs := [.sref 7 [] 0 (List.length v5) 6, .sref 3 [] 0 (List.length v3) 6]) kr (clz_c (clo_own (c := C_48) (xs := v5) (e := 48) eqn len_C_48 no_C_48 cl_C_48 kr) (clz_c (clo_own (c := C_48) (xs := v3) (e := 48) eqn len_C_48 no_C_48 cl_C_48 kr) clz_n))) rfl rfl kr ?_)
 refine yt (sp 74 [z1, z2, z9, z5, z15, (30, bb (!v6))]) [z6, z8, z12, z11, z13, z14] 8 ?_
 rcases cond_some hh with ⟨hb, hh⟩ | ⟨hb, hh⟩
 · exact cT hb (sy [4] [] (sp 74 [z4]) [] 8 (Aw.ret (then_r (gvbs hh))))
 refine cF hb (Aw.xskip (fun _ _ _ hq => then_m hq) (Aw.seq (Aw.sregd [1, 2, 6, 7, 8, 35] [0, 3, 4, 5, 6, 7] [] kr (dc (cs := []) (E' := (sp 74 [z1, z2, z9, z5, z15, (30, bb (!v6)), z10, z3])) (H' := [z6, z8, z12, z11, z13, z14]) (n' := 8) (fs' := none) (pre := (List.take 2 Lf9_r10)) (L' := (List.drop 2 Lf9_r10)) kr (fun K => by kernel_rfl) .nil ?_))))
 obtain ⟨v7, hv7, hh⟩ := bind_some hh
 let q7 : Root := ⟨53, (fl O_53 v7.Guests)⟩; let q8 : Root := ⟨3, (fl (eI .i64) v7.Words)⟩
 refine ds (.call 41 [(.t 32)]) (some 33) (ydo_n rfl (op_call (r := .agg [.own 3 1 (List.length v7.Words) (fl (eI .i64) v7.Words), .own 53 17 (List.length v7.Guests) (fl O_53 v7.Guests)]) (v := .agg [sw 8 v7.Words, .sref 9 [] 0 (List.length v7.Guests) 17]) (Hr := [(9, some q7), (8, some q8)]) (n' := 10) (laws_toHost_fn hv7) (clz_v (vs := [.agg [bo (eI .i64) x_aH.Words, bo B_149 x_aH.Guests]]) kr (clz_c (clo_agg cz) clz_n)) (by simp only [AV.noRef, noRefs, Bool.and_self, noRefs_fl nr_eI, noRefs_fl nr_O_53]) (by simp only [AV.noBor, noBors, Bool.and_self, noBors_fl nb_eI, noBors_fl nb_O_53]) kr ⟨⟨agr_name (n := 8) (n0 := 8) (r := .agg [.own 3 1 (List.length v7.Words) (fl (eI .i64) v7.Words), .own 53 17 (List.length v7.Guests) (fl O_53 v7.Guests)]) (v := .agg [sw 8 v7.Words, .sref 9 [] 0 (List.length v7.Guests) 17]) (Hr := [(9, some q7), (8, some q8)]) (n' := 10) kr dd, Hld.un ?_⟩⟩))
 refine dct (cs := []) (E' := (sp 74 [z1, z2, z9, z5, z15, (30, bb (!v6)), z10, z3, (33, .agg [sw 8 v7.Words, .sref 9 [] 0 (List.length v7.Guests) 17])])) (H' := [(9, some q7), (8, some q8), z6, z8, z12, z11, z13, z14]) (n' := 10) (fun K => by kernel_rfl) .nil ?_
 obtain ⟨v8, hv8, hh⟩ := bind_some hh
 refine ys (.call 43 [(.t 31), (.t 33)]) (some 34) (op_call (r := bb v8) (v := bb v8) (Hr := []) (n' := 10) (laws_eqHost_fn hv8) (clz_v (vs := [.agg [sw 4 v4.Words, .sref 5 [] 0 (List.length v4.Guests) 17], .agg [sw 8 v7.Words, .sref 9 [] 0 (List.length v7.Guests) 17]]) kr (clz_c (clo_agg (clos_c (clo_own (c := (eI .i64)) (xs := v4.Words) (e := 3) eqn len_eI no_eI cl_eI kr) (clos_c (clo_flr (B := B_53) (xs := v4.Guests) (e := 53) oc_O_53 len_O_53 eqn kr) clos_n))) (clz_c (clo_agg (clos_c (clo_own (c := (eI .i64)) (xs := v7.Words) (e := 3) eqn len_eI no_eI cl_eI kr) (clos_c (clo_flr (B := B_53) (xs := v7.Guests) (e := 53) oc_O_53 len_O_53 eqn kr) clos_n))) clz_n))) rfl rfl kr ?_)
 refine yt (sp 74 [z1, z2, z9, z5, z15, (35, bb (!v8))]) [z6, z8, z12, z11, z13, z14] 10 ?_
 rcases cond_some hh with ⟨hb, hh⟩ | ⟨hb, hh⟩
 · exact cT hb (sy [4] [] (sp 74 [z4]) [] 10 (Aw.ret (then_r (gvbs hh))))
 refine cF hb (Aw.xskip (fun _ _ _ hq => then_m hq) (sy [1, 2, 6, 7, 8, 9] [0, 3, 4, 5, 6, 7] (sp 74 [z1, z2, z9, z5, z15, (9, ii 1)]) [z6, z8, z12, z11, z13, z14] 10 (Aw.sreg [1, 2, 6, 8, 9] [0, 3, 7] (yu 2 [(36, .agg [sw 4 v4.Words, .sref 5 [] 0 (List.length v4.Guests) 17]), (37, ii 1)] [z6, z8, z12, z11, z13, z14] 10 ?_))))
 obtain ⟨v9, hv9, hh⟩ := bind_some hh
 obtain ⟨hg3, hh⟩ := grd_some hh
 obtain ⟨hg4, hh⟩ := grd_some hh
 refine ys (.call 45 [(.t 36), (.t 37)]) (some 38) (op_callf (v' := ii v9.2.2) (Hp' := [(4, some ⟨3, (fl (eI .i64) v9.1)⟩), (5, some ⟨53, (fl O_53 v9.2.1)⟩)]) (n' := 10) [4, 5] (laws_markHost_fn hv9) (args' := [.agg [sw 4 v4.Words, .sref 5 [] 0 (List.length v4.Guests) 17], ii 1]) kr rfl rfl rfl rz rfl (hn nr_O_53 (hn nr_eI hs_nil)) ren_i rfl (hn nr_eI (hn nr_O_53 hs_nil)) rfl ?_)
 refine yt (sp 74 [z1, z2, z9, z15, (9, ii v9.2.2)]) [z6, z8, z14] 10 (Aw.seq (Aw.sreg [1, 2, 6, 8, 46] [0, 3, 7] (yj 3  (sp 74 [z1, z2, z9, z15, (9, ii v9.2.2), (39, ii v9.2.2), (40, bb (decide (v9.2.2 < (0 : Int)))), (41, bb (decide (v9.2.2 < (0 : Int))))]) [z6, z8, z14] 10 ?_)))
 rcases cond_some hh with ⟨hb, hh⟩ | ⟨hb, hh⟩
 · exact yb 40 hb (yb 41 hb (yt (sp 74 [z1, z2, z9, z15, (46, bb true)]) [z6, z8, z14] 10 (cT rfl (sy [4] [] (sp 74 [z4]) [] 10 (Aw.ret (then_r (gvbs hh)))))))
 refine yb 40 hb (yb 41 hb (yu 2 [(40, bb false), (41, bb false), (42, .sref 7 [] 0 (List.length v5) 6), (43, .sref 3 [] 0 (List.length v3) 6)] [z6, z8, z14] 10 ?_))
 obtain ⟨v10, hv10, hh⟩ := bind_some hh
 refine yg (.call 48 [(.t 42), (.t 43)]) (some 44) 41 false (op_call (r := bb v10) (v := bb v10) (Hr := []) (n' := 10) (laws_eqShadeS_fn hv10) (clz_v (vs := [.sref 7 [] 0 (List.length v5) 6, .sref 3 [] 0 (List.length v3) 6]) kr (clz_c (clo_own (c := C_48) (xs := v5) (e := 48) eqn len_C_48 no_C_48 cl_C_48 kr) (clz_c (clo_own (c := C_48) (xs := v3) (e := 48) eqn len_C_48 no_C_48 cl_C_48 kr) clz_n))) rfl rfl kr ?_)
 refine yt (sp 74 [z1, z2, z9, z15, (46, bb (!v10))]) [z6, z8, z14] 10 ?_
 rcases cond_some hh with ⟨hb, hh⟩ | ⟨hb, hh⟩
 · exact cT hb (sy [4] [] (sp 74 [z4]) [] 10 (Aw.ret (then_r (gvbs hh))))
 refine cF hb (Aw.xskip (fun _ _ _ hq => then_m hq) (sy [1, 2, 6, 8, 10] [0, 3, 7] (sp 74 [z1, z2, z9, z15, (10, ii 1)]) [z6, z8, z14] 10 (Aw.sreg [1, 2, 6, 8, 10] [0, 3, 7] (yu 2 [(47, .sref 7 [] 0 (List.length v5) 6), (48, ii 1)] [z6, z8, z14] 10 ?_))))
 obtain ⟨v11, hv11, hh⟩ := bind_some hh
 let z16 := (10, ii v11.2); let z17 : EH := (7, some ⟨48, (fl C_48 v11.1)⟩)
 obtain ⟨hg6, hh⟩ := grd_some hh
 refine ys (.call 49 [(.t 47), (.t 48)]) (some 49) (op_callf (v' := ii v11.2) (Hp' := [z17]) (n' := 10) [7] (laws_markShadeS_fn hv11) (args' := [.sref 7 [] 0 (List.length v5) 6, ii 1]) kr rfl rfl rfl rz rfl (hn nr_C_48 hs_nil) ren_i rfl (hn nr_C_48 hs_nil) rfl ?_)
 refine yt (sp 74 [z1, z2, z9, z15, z16]) [z6, z8, z17] 10 (sy [1, 2, 6, 8, 10, 11] [0, 3, 7] (sp 74 [z1, z2, z9, z15, z16, (11, ii 1)]) [z6, z8, z17] 10 (Aw.sreg [1, 2, 6, 8, 10, 11] [0, 3, 7] (yu 2 [(50, .sref 7 [] 0 (List.length v5) 6), (51, ii 1)] [z6, z8, z17] 10 ?_)))
 obtain ⟨v12, hv12, hh⟩ := bind_some hh
 let z18 := (57, bb (!decide (v12 = v11.2)))
 refine ys (.call 50 [(.t 50), (.t 51)]) (some 52) (op_call (r := ii v12) (v := ii v12) (Hr := []) (n' := 10) (laws_heldShadeS_fn hv12) (clz_v (vs := [.sref 7 [] 0 (List.length v5) 6, ii 1]) kr (clz_c (clo_own (c := C_48) (xs := v11.1) (e := 48) eqn len_C_48 no_C_48 cl_C_48 kr) (cz1 clz_n))) rfl rfl kr ?_)
 refine yt (sp 74 [z1, z2, z9, z15, z16, (11, ii v12)]) [z6, z8, z17] 10 (Aw.seq (sy [1, 2, 6, 8, 10, 11, 54] [0, 3, 7] (sp 74 [z1, z2, z9, z15, z16, (11, ii v12), (54, bb (decide (v12 < (0 : Int))))]) [z6, z8, z17] 10 ?_))
 rcases cond_some hh with ⟨hb, hh⟩ | ⟨hb, hh⟩
 · exact cT hb (sy [4] [] (sp 74 [z4]) [] 10 (Aw.ret (then_r (gvbs hh))))
 refine cF hb (Aw.xskip (fun _ _ _ hq => then_m hq) (Aw.seq (sy [1, 2, 6, 8, 10, 57] [0, 3, 7] (sp 74 [z1, z2, z9, z15, z16, z18]) [z6, z8, z17] 10 ?_)))
 rcases cond_some hh with ⟨hb, hh⟩ | ⟨hb, hh⟩
 · exact cT hb (sy [4] [] (sp 74 [z4]) [] 10 (Aw.ret (then_r (gvbs hh))))
 refine cF hb (Aw.xskip (fun _ _ _ hq => then_m hq) (Aw.sreg [6, 8, 10, 12] [3, 7, 12] (yj 1  (sp 74 [z1, z2, z9, z15, z16, z18, (58, .agg [bo (eI .i64) x_aH.Words, bo B_149 x_aH.Guests])]) [z6, z8, z17] 10 ?_)))
 obtain ⟨v13, hv13, hh⟩ := bind_some hh
 let q9 : Root := ⟨53, (fl O_53 v13.Guests)⟩; let q10 : Root := ⟨3, (fl (eI .i64) v13.Words)⟩
 refine ys (.call 41 [(.t 58)]) (some 59) (op_call (r := .agg [.own 3 1 (List.length v13.Words) (fl (eI .i64) v13.Words), .own 53 17 (List.length v13.Guests) (fl O_53 v13.Guests)]) (v := .agg [sw 10 v13.Words, .sref 11 [] 0 (List.length v13.Guests) 17]) (Hr := [(11, some q9), (10, some q10)]) (n' := 12) (laws_toHost_fn hv13) (clz_v (vs := [.agg [bo (eI .i64) x_aH.Words, bo B_149 x_aH.Guests]]) kr (clz_c (clo_agg cz) clz_n)) (by simp only [AV.noRef, noRefs, Bool.and_self, noRefs_fl nr_eI, noRefs_fl nr_O_53]) (by simp only [AV.noBor, noBors, Bool.and_self, noBors_fl nb_eI, noBors_fl nb_O_53]) kr ?_)
 refine yu 1 [(59, .agg [sw 10 v13.Words, .sref 11 [] 0 (List.length v13.Guests) 17]), (60, ii x_aG)] [(11, some q9), (10, some q10), z6, z8, z17] 12 ?_
 obtain ⟨v14, hv14, hh⟩ := bind_some hh
 let z19 : EV := (12, .sref 12 [] 0 (List.length v14) 6); let z20 : EH := (12, some ⟨48, (fl C_48 v14)⟩)
 refine ys (.call 27 [(.t 59), (.t 60)]) (some 61) (op_call (r := .own 48 6 (List.length v14) (fl C_48 v14)) (v := .sref 12 [] 0 (List.length v14) 6) (Hr := [z20]) (n' := 13) (impl_ShadowOf_fn hv14) (clz_v (vs := [.agg [sw 10 v13.Words, .sref 11 [] 0 (List.length v13.Guests) 17], ii x_aG]) kr (clz_c (clo_agg (clos_c (clo_own (c := (eI .i64)) (xs := v13.Words) (e := 3) eqn len_eI no_eI cl_eI kr) (clos_c (clo_flr (B := B_53) (xs := v13.Guests) (e := 53) oc_O_53 len_O_53 eqn kr) clos_n))) (cz1 clz_n))) (by simp only [AV.noRef, noRefs, Bool.and_self, noRefs_fl nr_C_48]) (by simp only [AV.noBor, noBors, Bool.and_self, noBors_fl nb_C_48]) kr ?_)
 refine yt (sp 74 [z9, z15, z16, z19]) [z8, z17, z20] 13 (Aw.seq (Aw.sreg [8, 10, 65] [7] (yj 2  (sp 74 [z9, z15, z16, z19, (62, .sref 12 [] 0 (List.length v14) 6), (63, .sref 3 [] 0 (List.length v3) 6)]) [z8, z17, z20] 13 ?_)))
 obtain ⟨v15, hv15, hh⟩ := bind_some hh
 refine ys (.call 48 [(.t 62), (.t 63)]) (some 64) (op_call (r := bb v15) (v := bb v15) (Hr := []) (n' := 13) (laws_eqShadeS_fn hv15) (clz_v (vs := [.sref 12 [] 0 (List.length v14) 6, .sref 3 [] 0 (List.length v3) 6]) kr (clz_c (clo_own (c := C_48) (xs := v14) (e := 48) eqn len_C_48 no_C_48 cl_C_48 kr) (clz_c (clo_own (c := C_48) (xs := v3) (e := 48) eqn len_C_48 no_C_48 cl_C_48 kr) clz_n))) rfl rfl kr ?_)
 refine yt (sp 74 [z15, z16, (65, bb (!v15))]) [z17] 13 ?_
 rcases cond_some hh with ⟨hb, hh⟩ | ⟨hb, hh⟩
 · exact cT hb (sy [4] [] (sp 74 [z4]) [] 13 (Aw.ret (then_r (gvbs hh))))
 refine cF hb (Aw.xskip (fun _ _ _ hq => then_m hq) (sy [8, 10, 11] [7] (sp 74 [z15, z16, (11, ii 1)]) [z17] 13 (Aw.sreg [10, 11] [] (yu 2 [(66, .sref 7 [] 0 (List.length v5) 6), (67, ii 1)] [z17] 13 ?_))))
 obtain ⟨v16, hv16, hh⟩ := bind_some hh
 refine ys (.call 50 [(.t 66), (.t 67)]) (some 68) (op_call (r := ii v16) (v := ii v16) (Hr := []) (n' := 13) (laws_heldShadeS_fn hv16) (clz_v (vs := [.sref 7 [] 0 (List.length v5) 6, ii 1]) kr (clz_c (clo_own (c := C_48) (xs := v11.1) (e := 48) eqn len_C_48 no_C_48 cl_C_48 kr) (cz1 clz_n))) rfl rfl kr ?_)
 refine yt (sp 74 [z16, (11, ii v16)]) [] 13 (Aw.seq (sy [10, 11, 70] [] (sp 74 [z16, (11, ii v16), (70, bb (decide (v16 < (0 : Int))))]) [] 13 ?_))
 rcases cond_some hh with ⟨hb, hh⟩ | ⟨hb, hh⟩
 · exact cT hb (sy [4] [] (sp 74 [z4]) [] 13 (Aw.ret (then_r (gvbs hh))))
 refine cF hb (Aw.xskip (fun _ _ _ hq => then_m hq) (Aw.seq (sy [73] [] (sp 74 [(73, bb (!decide (v16 = v11.2)))]) [] 13 ?_)))
 rcases cond_some hh with ⟨hb, hh⟩ | ⟨hb, hh⟩
 · exact cT hb (sy [4] [] (sp 74 [z4]) [] 13 (Aw.ret (then_r (gvbs hh))))
 exact cF hb (Aw.xskip (fun _ _ _ hq => then_m hq) (sy [4] [] (sp 74 [(4, bb true)]) [] 13 (Aw.ret (gvbs hh))))
end Go.Proofs.Ytlikfpmbcdlnjaa
