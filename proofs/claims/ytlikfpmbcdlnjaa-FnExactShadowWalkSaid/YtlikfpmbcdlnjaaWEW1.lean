/- Plain functions of the program, and that it hands back what they say. Made by program. -/
import Derived.Test.YtlikfpmbcdlnjaaWT
import Derived.Test.YtlikfpmbcdlnjaaProg
import Derived.Test.YtlikfpmbcdlnjaaWHT1
import Derived.Test.YtlikfpmbcdlnjaaWSW1
namespace Go.Proofs.Ytlikfpmbcdlnjaa
open Go.RowKit
set_option maxRecDepth 100000
set_option linter.all false
set_option maxHeartbeats 0
def Lf10_r0 : List LOper := [oX 5 65 0, oF 10]
def Lf10_r1 : List LOper := [oN 11 1048576]
def Lf10_r2 : List LOper := [oL 17 2 5, om 18 11, oK 19 39 [17, 18], om 11 19]
def Lf10_r3 : List LOper := [om 20 11, ob 21 .lss 20 0]
def Lf10_r4 : List LOper := [oT 10]
def Lf10_r5 : List LOper := [oL 23 2 5, oK 24 41 [23], om 25 1, om 26 2, om 27 3, om 28 4, oK 29 31 [24, 25, 26, 27, 28], om 22 29, oE 30 22 0, oE 31 22 1, om 12 30, om 13 31]
def Lf10_r6 : List LOper := [oL 32 2 5, oK 33 41 [32], oo 14 (.fresh 26 [.nil, .nil]), oS 2 14 33]
def Lf10_r7 : List LOper := [oL 35 2 14, om 36 1, om 37 2, om 38 3, om 39 4, oK 40 30 [35, 36, 37, 38, 39], om 34 40, oE 41 34 0, oE 42 34 1, om 15 41, om 16 42]
def Lf10_r8 : List LOper := [om 43 15, om 44 12, oB 45 .neq 43 44, om 46 45, og 47 (.mv (.t 16)) 46 false, og 48 (.mv (.t 13)) 46 false, og 49 (.bin .neq (.t 47) (.t 48)) 46 false, oQ 50 46 49]
def Lf10_r9 : List LOper := [oF 10]
def Lf10_r10 : List LOper := [oL 51 2 14, oL 52 2 5, oK 53 41 [52]]
def Lf10_r10t : List LOper := [oK 54 43 [51, 53], oU 55 54]
def Lf10_r12 : List LOper := [oF 10]
def Lf10_r13 : List LOper := [oT 10]
def Lf10 : LFun := ⟨56, [(.tmp 10)], (.seq (.reg false Lf10_r0) (.seq (.reg false Lf10_r1) (.seq (.reg false Lf10_r2) (.seq (.seq (.reg false Lf10_r3) (.cond (.t 21) (.seq (.reg false Lf10_r4) .ret) .skip)) (.seq (.reg false Lf10_r5) (.seq (.reg false Lf10_r6) (.seq (.reg false Lf10_r7) (.seq (.seq (.reg false Lf10_r8) (.cond (.t 50) (.seq (.reg false Lf10_r9) .ret) .skip)) (.seq (.seq (.regd Lf10_r10 Lf10_r10t) (.cond (.t 55) (.seq (.reg false Lf10_r12) .ret) .skip)) (.seq (.reg false Lf10_r13) .ret))))))))))⟩
theorem low_laws_FnExactShadowWalk : lowFun Go.Proofs.Try.prog 10 = some Lf10 := by kernel_rfl
noncomputable def F_laws_FnExactShadowWalk (x_aH : DHost) (x_aG : Int) (x_aAddr : Int) (x_aUser : Bool) (x_aWrite : Bool) : Option Bool :=
 Option.bind (F_laws_szHost x_aH (1048576 : Int)) fun v1 =>
 cond (decide (v1 < (0 : Int)))
  (some true)
  (Option.bind (F_laws_toHost x_aH) fun v2 =>
  Option.bind (F_spec_ShadowWalk v2 x_aG x_aAddr x_aUser x_aWrite) fun v3 =>
  Option.bind (F_laws_toHost x_aH) fun v4 =>
  Option.bind (F_impl_ShadowWalk v4 x_aG x_aAddr x_aUser x_aWrite) fun v5 =>
  cond (!decide (v5.1 = v3.1))
   (some false)
   (cond (!decide (v5.2 = v3.2))
    (some false)
    (Option.bind (F_laws_toHost x_aH) fun v6 =>
    Option.bind (F_laws_eqHost v4 v6) fun v7 =>
    cond (!v7)
     (some false)
     (some true))))
theorem laws_FnExactShadowWalk_fn {x_aH : DHost} {x_aG : Int} {x_aAddr : Int} {x_aUser : Bool} {x_aWrite : Bool} {R_ : Bool} (hh : F_laws_FnExactShadowWalk x_aH x_aG x_aAddr x_aUser x_aWrite = some R_) : Fn Try.prog 10 [.agg [bo (eI .i64) x_aH.Words, bo B_149 x_aH.Guests], .int .i64 x_aG, .int .i64 x_aAddr, .bool x_aUser, .bool x_aWrite] (.bool R_) := by
 let z1 := (1, ii x_aG); let z2 := (14, pp 5); let z3 := (2, ii x_aAddr); let z4 := (3, bb x_aUser); let z5 := (4, bb x_aWrite); let z6 := (5, pp 0); let z7 : EV := (52, .agg [bo (eI .i64) x_aH.Words, bo B_149 x_aH.Guests])
 unfold F_laws_FnExactShadowWalk at hh
 refine Fn.start low_laws_FnExactShadowWalk [0, 1, 2, 3, 4] (E := sp 56 [(0, .agg [bo (eI .i64) x_aH.Words, bo B_149 x_aH.Guests]), z1, z3, z4, z5]) kr (v := bb R_) (Hr := []) (k := 0) kr (Aw.sreg [1, 2, 3, 4, 5] [0] ?_)
 let q1 : Root := ⟨65, [bo (eI .i64) x_aH.Words, bo B_149 x_aH.Guests]⟩; let z8 := (0, some q1)
 refine yt (sp 56 [z1, z3, z4, z5, z6]) [z8] 1 (sy [1, 2, 3, 4, 5, 11] [0] (sp 56 [z1, z3, z4, z5, z6, (11, ii 1048576)]) [z8] 1 (Aw.sreg [1, 2, 3, 4, 5, 11] [0] (yu 2 [(17, .agg [bo (eI .i64) x_aH.Words, bo B_149 x_aH.Guests]), (18, ii 1048576)] [z8] 1 ?_)))
 obtain ⟨v1, hv1, hh⟩ := bind_some hh
 let z9 := (21, bb (decide (v1 < (0 : Int))))
 refine ys (.call 39 [(.t 17), (.t 18)]) (some 19) (op_call (r := ii v1) (v := ii v1) (Hr := []) (n' := 1) (laws_szHost_fn hv1) (clz_v (vs := [.agg [bo (eI .i64) x_aH.Words, bo B_149 x_aH.Guests], ii 1048576]) kr (clz_c (clo_agg cz) (cz1 clz_n))) rfl rfl kr ?_)
 refine yt (sp 56 [z1, z3, z4, z5, z6, (11, ii v1)]) [z8] 1 (Aw.seq (sy [1, 2, 3, 4, 5, 21] [0] (sp 56 [z1, z3, z4, z5, z6, z9]) [z8] 1 ?_))
 rcases cond_some hh with ⟨hb, hh⟩ | ⟨hb, hh⟩
 · exact cT hb (sy [10] [] (sp 56 [(10, bb true)]) [] 1 (Aw.ret (then_r (gvbs hh))))
 refine cF hb (Aw.xskip (fun _ _ _ hq => then_m hq) (Aw.sreg [1, 2, 3, 4, 5, 12, 13] [0] (yj 1  (sp 56 [z1, z3, z4, z5, z6, z9, (23, .agg [bo (eI .i64) x_aH.Words, bo B_149 x_aH.Guests])]) [z8] 1 ?_)))
 obtain ⟨v2, hv2, hh⟩ := bind_some hh
 let q2 : Root := ⟨53, (fl O_53 v2.Guests)⟩; let q3 : Root := ⟨3, (fl (eI .i64) v2.Words)⟩
 refine ys (.call 41 [(.t 23)]) (some 24) (op_call (r := .agg [.own 3 1 (List.length v2.Words) (fl (eI .i64) v2.Words), .own 53 17 (List.length v2.Guests) (fl O_53 v2.Guests)]) (v := .agg [sw 1 v2.Words, .sref 2 [] 0 (List.length v2.Guests) 17]) (Hr := [(2, some q2), (1, some q3)]) (n' := 3) (laws_toHost_fn hv2) (clz_v (vs := [.agg [bo (eI .i64) x_aH.Words, bo B_149 x_aH.Guests]]) kr (clz_c (clo_agg cz) clz_n)) (by simp only [AV.noRef, noRefs, Bool.and_self, noRefs_fl nr_eI, noRefs_fl nr_O_53]) (by simp only [AV.noBor, noBors, Bool.and_self, noBors_fl nb_eI, noBors_fl nb_O_53]) kr ?_)
 refine yu 4 [(24, .agg [sw 1 v2.Words, .sref 2 [] 0 (List.length v2.Guests) 17]), (25, ii x_aG), (26, ii x_aAddr), (27, bb x_aUser), (28, bb x_aWrite)] [(2, some q2), (1, some q3), z8] 3 ?_
 obtain ⟨v3, hv3, hh⟩ := bind_some hh
 let z10 := (12, ii v3.1); let z11 := (13, ii v3.2)
 refine ys (.call 31 [(.t 24), (.t 25), (.t 26), (.t 27), (.t 28)]) (some 29) (op_call (r := .tup [ii v3.1, ii v3.2]) (v := .tup [ii v3.1, ii v3.2]) (Hr := []) (n' := 3) (spec_ShadowWalk_fn hv3) (clz_v (vs := [.agg [sw 1 v2.Words, .sref 2 [] 0 (List.length v2.Guests) 17], ii x_aG, ii x_aAddr, bb x_aUser, bb x_aWrite]) kr (clz_c (clo_agg (clos_c (clo_own (c := (eI .i64)) (xs := v2.Words) (e := 3) eqn len_eI no_eI cl_eI kr) (clos_c (clo_flr (B := B_53) (xs := v2.Guests) (e := 53) oc_O_53 len_O_53 eqn kr) clos_n))) (cz1 (cz1 (cz1 (cz1 clz_n)))))) rfl rfl kr ?_)
 refine yt (sp 56 [z1, z3, z4, z5, z6, z10, z11]) [z8] 3 (Aw.sreg [1, 2, 3, 4, 5, 12, 13, 14] [0, 3, 4, 5] (yu 1 [(32, .agg [bo (eI .i64) x_aH.Words, bo B_149 x_aH.Guests])] [z8] 3 ?_))
 obtain ⟨v4, hv4, hh⟩ := bind_some hh
 let z12 : EV := (51, .agg [sw 3 v4.Words, .sref 4 [] 0 (List.length v4.Guests) 17]); let q4 : Root := ⟨53, (fl O_53 v4.Guests)⟩; let z13 := (4, some q4); let q5 : Root := ⟨3, (fl (eI .i64) v4.Words)⟩; let z14 := (3, some q5)
 refine ys (.call 41 [(.t 32)]) (some 33) (op_call (r := .agg [.own 3 1 (List.length v4.Words) (fl (eI .i64) v4.Words), .own 53 17 (List.length v4.Guests) (fl O_53 v4.Guests)]) (v := .agg [sw 3 v4.Words, .sref 4 [] 0 (List.length v4.Guests) 17]) (Hr := [z13, z14]) (n' := 5) (laws_toHost_fn hv4) (clz_v (vs := [.agg [bo (eI .i64) x_aH.Words, bo B_149 x_aH.Guests]]) kr (clz_c (clo_agg cz) clz_n)) (by simp only [AV.noRef, noRefs, Bool.and_self, noRefs_fl nr_eI, noRefs_fl nr_O_53]) (by simp only [AV.noBor, noBors, Bool.and_self, noBors_fl nb_eI, noBors_fl nb_O_53]) kr ?_)
 let q6 : Root := ⟨26, [sw 3 v4.Words, .sref 4 [] 0 (List.length v4.Guests) 17]⟩; let z15 := (5, some q6)
 refine yt (sp 56 [z1, z3, z4, z5, z6, z10, z11, z2]) [z8, z14, z13, z15] 6 (Aw.sreg [5, 12, 13, 14, 15, 16] [0, 3, 4, 5] (yu 5 [(35, .agg [sw 3 v4.Words, .sref 4 [] 0 (List.length v4.Guests) 17]), (36, ii x_aG), (37, ii x_aAddr), (38, bb x_aUser), (39, bb x_aWrite)] [z8, z14, z13, z15] 6 ?_))
 obtain ⟨v5, hv5, hh⟩ := bind_some hh
 let z16 := (50, bb (!decide (v5.2 = v3.2)))
 refine ys (.call 30 [(.t 35), (.t 36), (.t 37), (.t 38), (.t 39)]) (some 40) (op_call (r := .tup [ii v5.1, ii v5.2]) (v := .tup [ii v5.1, ii v5.2]) (Hr := []) (n' := 6) (impl_ShadowWalk_fn hv5) (clz_v (vs := [.agg [sw 3 v4.Words, .sref 4 [] 0 (List.length v4.Guests) 17], ii x_aG, ii x_aAddr, bb x_aUser, bb x_aWrite]) kr (clz_c (clo_agg (clos_c (clo_own (c := (eI .i64)) (xs := v4.Words) (e := 3) eqn len_eI no_eI cl_eI kr) (clos_c (clo_flr (B := B_53) (xs := v4.Guests) (e := 53) oc_O_53 len_O_53 eqn kr) clos_n))) (cz1 (cz1 (cz1 (cz1 clz_n)))))) rfl rfl kr ?_)
 refine yt (sp 56 [z6, z10, z11, z2, (15, ii v5.1), (16, ii v5.2)]) [z8, z14, z13, z15] 6 (Aw.seq (Aw.sreg [5, 14, 50] [0, 3, 4, 5] (yj 4  (sp 56 [z6, z10, z11, z2, (15, ii v5.1), (16, ii v5.2), (43, ii v5.1), (44, ii v3.1), (45, bb (!decide (v5.1 = v3.1))), (46, bb (!decide (v5.1 = v3.1)))]) [z8, z14, z13, z15] 6 ?_)))
 rcases cond_some hh with ⟨hb, hh⟩ | ⟨hb, hh⟩
 · exact yb 45 hb (yb 46 hb (yt (sp 56 [z6, z2, (50, bb true)]) [z8, z14, z13, z15] 6 (cT rfl (sy [10] [] (sp 56 [(10, bb false)]) [] 6 (Aw.ret (then_r (gvbs hh)))))))
 refine yb 45 hb (yb 46 hb (yt (sp 56 [z6, z2, z16]) [z8, z14, z13, z15] 6 ?_))
 rcases cond_some hh with ⟨hb, hh⟩ | ⟨hb, hh⟩
 · exact cT hb (sy [10] [] (sp 56 [(10, bb false)]) [] 6 (Aw.ret (then_r (gvbs hh))))
 refine cF hb (Aw.xskip (fun _ _ _ hq => then_m hq) (Aw.seq (Aw.sregd [55] [] [] kr (dc (cs := []) (E' := (sp 56 [z6, z2, z16, z12, z7])) (H' := [z8, z14, z13, z15]) (n' := 6) (fs' := none) (pre := (List.take 2 Lf10_r10)) (L' := (List.drop 2 Lf10_r10)) kr (fun K => by kernel_rfl) .nil ?_))))
 obtain ⟨v6, hv6, hh⟩ := bind_some hh
 let q7 : Root := ⟨53, (fl O_53 v6.Guests)⟩; let q8 : Root := ⟨3, (fl (eI .i64) v6.Words)⟩
 refine ds (.call 41 [(.t 52)]) (some 53) (ydo_n rfl (op_call (r := .agg [.own 3 1 (List.length v6.Words) (fl (eI .i64) v6.Words), .own 53 17 (List.length v6.Guests) (fl O_53 v6.Guests)]) (v := .agg [sw 6 v6.Words, .sref 7 [] 0 (List.length v6.Guests) 17]) (Hr := [(7, some q7), (6, some q8)]) (n' := 8) (laws_toHost_fn hv6) (clz_v (vs := [.agg [bo (eI .i64) x_aH.Words, bo B_149 x_aH.Guests]]) kr (clz_c (clo_agg cz) clz_n)) (by simp only [AV.noRef, noRefs, Bool.and_self, noRefs_fl nr_eI, noRefs_fl nr_O_53]) (by simp only [AV.noBor, noBors, Bool.and_self, noBors_fl nb_eI, noBors_fl nb_O_53]) kr ⟨⟨agr_name (n := 6) (n0 := 6) (r := .agg [.own 3 1 (List.length v6.Words) (fl (eI .i64) v6.Words), .own 53 17 (List.length v6.Guests) (fl O_53 v6.Guests)]) (v := .agg [sw 6 v6.Words, .sref 7 [] 0 (List.length v6.Guests) 17]) (Hr := [(7, some q7), (6, some q8)]) (n' := 8) kr dd, Hld.un ?_⟩⟩))
 refine dct (cs := []) (E' := (sp 56 [z6, z2, z16, z12, z7, (53, .agg [sw 6 v6.Words, .sref 7 [] 0 (List.length v6.Guests) 17])])) (H' := [(7, some q7), (6, some q8), z8, z14, z13, z15]) (n' := 8) (fun K => by kernel_rfl) .nil ?_
 obtain ⟨v7, hv7, hh⟩ := bind_some hh
 refine ys (.call 43 [(.t 51), (.t 53)]) (some 54) (op_call (r := bb v7) (v := bb v7) (Hr := []) (n' := 8) (laws_eqHost_fn hv7) (clz_v (vs := [.agg [sw 3 v4.Words, .sref 4 [] 0 (List.length v4.Guests) 17], .agg [sw 6 v6.Words, .sref 7 [] 0 (List.length v6.Guests) 17]]) kr (clz_c (clo_agg (clos_c (clo_own (c := (eI .i64)) (xs := v4.Words) (e := 3) eqn len_eI no_eI cl_eI kr) (clos_c (clo_flr (B := B_53) (xs := v4.Guests) (e := 53) oc_O_53 len_O_53 eqn kr) clos_n))) (clz_c (clo_agg (clos_c (clo_own (c := (eI .i64)) (xs := v6.Words) (e := 3) eqn len_eI no_eI cl_eI kr) (clos_c (clo_flr (B := B_53) (xs := v6.Guests) (e := 53) oc_O_53 len_O_53 eqn kr) clos_n))) clz_n))) rfl rfl kr ?_)
 refine yt (sp 56 [(55, bb (!v7))]) [] 8 ?_
 rcases cond_some hh with ⟨hb, hh⟩ | ⟨hb, hh⟩
 · exact cT hb (sy [10] [] (sp 56 [(10, bb false)]) [] 8 (Aw.ret (then_r (gvbs hh))))
 exact cF hb (Aw.xskip (fun _ _ _ hq => then_m hq) (sy [10] [] (sp 56 [(10, bb true)]) [] 8 (Aw.ret (gvbs hh))))
end Go.Proofs.Ytlikfpmbcdlnjaa
