/- Plain functions of the program, and that it hands back what they say. Made by program. -/
import Derived.Test.YthbefahhpikcaaaWT
import Derived.Test.YthbefahhpikcaaaProg
import Derived.Test.YthbefahhpikcaaaWH1
import Derived.Test.YthbefahhpikcaaaWQ1
namespace Go.Proofs.Ythbefahhpikcaaa
open Go.RowKit
set_option maxRecDepth 100000
set_option linter.all false
set_option maxHeartbeats 0

-- 14 loop.example/guesthouse/laws.FnExactBareRun
def Lf14_r0 : List LOper := [oo 2 (.box 58 (.t 0)), oo 4 (.mv (.c (.bool false)))]
def Lf14_r1 : List LOper := [oo 5 (.mv (.c (.int .i64 1048576)))]
def Lf14_r2 : List LOper := [oo 13 (.load true 16 (.t 2)), om 14 5, oo 15 (.call 46 [(.t 13), (.t 14)]), om 5 15]
def Lf14_r3 : List LOper := [om 16 5, oo 17 (.bin .lss (.t 16) (.c (.int .i64 0)))]
def Lf14_r4 : List LOper := [oo 4 (.mv (.c (.bool true)))]
def Lf14_r5 : List LOper := [oo 18 (.load true 16 (.t 2)), oo 19 (.call 47 [(.t 18)]), om 20 1, oo 21 (.call 42 [(.t 19), (.t 20)]), oo 6 (.fresh 43 [.nil, (.int .i64 0), (.int .i64 0), (.int .i64 0), (.int .i64 0), (.bool false), (.int .i64 0), (.int .i64 0), (.int .i64 0), (.bool false), (.bool false), (.bool false), (.bool false), .nil, .nil, .nil]), ⟨none, (.store 16 (.t 6) (.t 21)), none⟩]
def Lf14_r6 : List LOper := [oo 22 (.load true 16 (.t 2)), oo 23 (.call 47 [(.t 22)]), oo 7 (.fresh 43 [.nil, (.int .i64 0), (.int .i64 0), (.int .i64 0), (.int .i64 0), (.bool false), (.int .i64 0), (.int .i64 0), (.int .i64 0), (.bool false), (.bool false), (.bool false), (.bool false), .nil, .nil, .nil]), ⟨none, (.store 16 (.t 7) (.t 23)), none⟩]
def Lf14_r7 : List LOper := [oo 24 (.load true 16 (.t 7)), om 25 1, oo 26 (.call 41 [(.t 24), (.t 25)]), oo 8 (.fresh 43 [.nil, (.int .i64 0), (.int .i64 0), (.int .i64 0), (.int .i64 0), (.bool false), (.int .i64 0), (.int .i64 0), (.int .i64 0), (.bool false), (.bool false), (.bool false), (.bool false), .nil, .nil, .nil]), ⟨none, (.store 16 (.t 8) (.t 26)), none⟩]
def Lf14_r8 : List LOper := [oo 27 (.load true 16 (.t 8)), oo 28 (.load true 16 (.t 6)), oo 29 (.call 48 [(.t 27), (.t 28)]), oo 30 (.un .not (.t 29))]
def Lf14_r9 : List LOper := [oo 4 (.mv (.c (.bool false)))]
def Lf14_r10 : List LOper := [oo 31 (.load true 16 (.t 7)), oo 32 (.load true 16 (.t 2)), oo 33 (.call 47 [(.t 32)]), oo 34 (.call 48 [(.t 31), (.t 33)])]
def Lf14_r10t : List LOper := [oo 35 (.un .not (.t 34))]
def Lf14_r12 : List LOper := [oo 4 (.mv (.c (.bool false)))]
def Lf14_r13 : List LOper := [oo 9 (.mv (.c (.int .i64 1)))]
def Lf14_r14 : List LOper := [oo 36 (.load true 16 (.t 7)), om 37 9, oo 38 (.call 49 [(.t 36), (.t 37)]), om 9 38]
def Lf14_r15 : List LOper := [om 39 9, oo 40 (.bin .lss (.t 39) (.c (.int .i64 0))), om 41 40, ⟨(some 42), (.load true 16 (.t 8)), (some (41, false))⟩, ⟨(some 43), (.load true 16 (.t 6)), (some (41, false))⟩, ⟨(some 44), (.call 48 [(.t 42), (.t 43)]), (some (41, false))⟩, ⟨(some 45), (.un .not (.t 44)), (some (41, false))⟩, oo 46 (.pick (.t 41) (.c (.bool true)) (.t 45))]
def Lf14_r16 : List LOper := [oo 4 (.mv (.c (.bool false)))]
def Lf14_r17 : List LOper := [oo 10 (.mv (.c (.int .i64 1)))]
def Lf14_r18 : List LOper := [oo 47 (.load true 16 (.t 8)), om 48 10, oo 49 (.call 49 [(.t 47), (.t 48)]), om 10 49]
def Lf14_r19 : List LOper := [oo 11 (.mv (.c (.int .i64 1)))]
def Lf14_r20 : List LOper := [oo 50 (.load true 16 (.t 8)), om 51 11, oo 52 (.call 50 [(.t 50), (.t 51)]), om 11 52]
def Lf14_r21 : List LOper := [om 53 11, oo 54 (.bin .lss (.t 53) (.c (.int .i64 0)))]
def Lf14_r22 : List LOper := [oo 4 (.mv (.c (.bool false)))]
def Lf14_r23 : List LOper := [om 55 11, om 56 10, oo 57 (.bin .neq (.t 55) (.t 56))]
def Lf14_r24 : List LOper := [oo 4 (.mv (.c (.bool false)))]
def Lf14_r25 : List LOper := [oo 58 (.load true 16 (.t 2)), oo 59 (.call 47 [(.t 58)]), om 60 1, oo 61 (.call 41 [(.t 59), (.t 60)]), oo 12 (.fresh 43 [.nil, (.int .i64 0), (.int .i64 0), (.int .i64 0), (.int .i64 0), (.bool false), (.int .i64 0), (.int .i64 0), (.int .i64 0), (.bool false), (.bool false), (.bool false), (.bool false), .nil, .nil, .nil]), ⟨none, (.store 16 (.t 12) (.t 61)), none⟩]
def Lf14_r26 : List LOper := [oo 62 (.load true 16 (.t 12)), oo 63 (.load true 16 (.t 6)), oo 64 (.call 48 [(.t 62), (.t 63)]), oo 65 (.un .not (.t 64))]
def Lf14_r27 : List LOper := [oo 4 (.mv (.c (.bool false)))]
def Lf14_r28 : List LOper := [oo 11 (.mv (.c (.int .i64 1)))]
def Lf14_r29 : List LOper := [oo 66 (.load true 16 (.t 8)), om 67 11, oo 68 (.call 50 [(.t 66), (.t 67)]), om 11 68]
def Lf14_r30 : List LOper := [om 69 11, oo 70 (.bin .lss (.t 69) (.c (.int .i64 0)))]
def Lf14_r31 : List LOper := [oo 4 (.mv (.c (.bool false)))]
def Lf14_r32 : List LOper := [om 71 11, om 72 10, oo 73 (.bin .neq (.t 71) (.t 72))]
def Lf14_r33 : List LOper := [oo 4 (.mv (.c (.bool false)))]
def Lf14_r34 : List LOper := [oo 4 (.mv (.c (.bool true)))]
def Lf14 : LFun := ⟨74, [(.tmp 4)], (.seq (.reg false Lf14_r0) (.seq (.reg false Lf14_r1) (.seq (.reg false Lf14_r2) (.seq (.seq (.reg false Lf14_r3) (.cond (.t 17) (.seq (.reg false Lf14_r4) .ret) .skip)) (.seq (.reg false Lf14_r5) (.seq (.reg false Lf14_r6) (.seq (.reg false Lf14_r7) (.seq (.seq (.reg false Lf14_r8) (.cond (.t 30) (.seq (.reg false Lf14_r9) .ret) .skip)) (.seq (.seq (.regd Lf14_r10 Lf14_r10t) (.cond (.t 35) (.seq (.reg false Lf14_r12) .ret) .skip)) (.seq (.reg false Lf14_r13) (.seq (.reg false Lf14_r14) (.seq (.seq (.reg false Lf14_r15) (.cond (.t 46) (.seq (.reg false Lf14_r16) .ret) .skip)) (.seq (.reg false Lf14_r17) (.seq (.reg false Lf14_r18) (.seq (.reg false Lf14_r19) (.seq (.reg false Lf14_r20) (.seq (.seq (.reg false Lf14_r21) (.cond (.t 54) (.seq (.reg false Lf14_r22) .ret) .skip)) (.seq (.seq (.reg false Lf14_r23) (.cond (.t 57) (.seq (.reg false Lf14_r24) .ret) .skip)) (.seq (.reg false Lf14_r25) (.seq (.seq (.reg false Lf14_r26) (.cond (.t 65) (.seq (.reg false Lf14_r27) .ret) .skip)) (.seq (.reg false Lf14_r28) (.seq (.reg false Lf14_r29) (.seq (.seq (.reg false Lf14_r30) (.cond (.t 70) (.seq (.reg false Lf14_r31) .ret) .skip)) (.seq (.seq (.reg false Lf14_r32) (.cond (.t 73) (.seq (.reg false Lf14_r33) .ret) .skip)) (.seq (.reg false Lf14_r34) .ret)))))))))))))))))))))))))⟩
theorem low_laws_FnExactBareRun : lowFun Go.Proofs.Try.prog 14 = some Lf14 := by kernel_rfl
noncomputable def F_laws_FnExactBareRun (x_aB : DBare) (x_aSteps : Int) : Option Bool :=
  Option.bind (F_laws_szBare x_aB (1048576 : Int)) fun v1 =>
  cond (decide (v1 < (0 : Int)))
    (some true)
    (Option.bind (F_laws_toBare x_aB) fun v2 =>
    Option.bind (F_spec_BareRun v2 x_aSteps) fun v3 =>
    Option.bind (F_laws_toBare x_aB) fun v4 =>
    Option.bind (F_impl_BareRun v4 x_aSteps) fun v5 =>
    Option.bind (F_laws_eqBare v5 v3) fun v6 =>
    cond (!v6)
      (some false)
      (Option.bind (F_laws_toBare x_aB) fun v7 =>
      Option.bind (F_laws_eqBare v4 v7) fun v8 =>
      cond (!v8)
        (some false)
        (Option.bind (F_laws_markBare v4 (1 : Int)) fun v9 =>
        grd (List.length v9.1 = (List.length v4.C.Regs)) (grd (List.length v9.2.1 = (List.length v4.Mem)) (grd (List.length v9.2.2.1 = (List.length v4.In)) (grd (List.length v9.2.2.2.1 = (List.length v4.Out)) (cond (decide (v9.2.2.2.2 < (0 : Int)))
                  (some false)
                  (Option.bind (F_laws_eqBare v5 v3) fun v10 =>
                  cond (!v10)
                    (some false)
                    (Option.bind (F_laws_markBare v5 (1 : Int)) fun v11 =>
                    grd (List.length v11.1 = (List.length v5.C.Regs)) (grd (List.length v11.2.1 = (List.length v5.Mem)) (grd (List.length v11.2.2.1 = (List.length v5.In)) (grd (List.length v11.2.2.2.1 = (List.length v5.Out)) (Option.bind (F_laws_heldBare (DBare.mk (DCore.mk v11.1 v5.C.Pc v5.C.Root v5.C.Vector v5.C.Saved v5.C.SavedUser v5.C.Cause v5.C.Bad v5.C.Timer v5.C.Waits v5.C.User v5.C.On v5.C.Stopped) v11.2.1 v11.2.2.1 v11.2.2.2.1) (1 : Int)) fun v12 =>
                            cond (decide (v12 < (0 : Int)))
                              (some false)
                              (cond (!decide (v12 = v11.2.2.2.2))
                                (some false)
                                (Option.bind (F_laws_toBare x_aB) fun v13 =>
                                Option.bind (F_impl_BareRun v13 x_aSteps) fun v14 =>
                                Option.bind (F_laws_eqBare v14 v3) fun v15 =>
                                cond (!v15)
                                  (some false)
                                  (Option.bind (F_laws_heldBare (DBare.mk (DCore.mk v11.1 v5.C.Pc v5.C.Root v5.C.Vector v5.C.Saved v5.C.SavedUser v5.C.Cause v5.C.Bad v5.C.Timer v5.C.Waits v5.C.User v5.C.On v5.C.Stopped) v11.2.1 v11.2.2.1 v11.2.2.2.1) (1 : Int)) fun v16 =>
                                  cond (decide (v16 < (0 : Int)))
                                    (some false)
                                    (cond (!decide (v16 = v11.2.2.2.2))
                                      (some false)
                                      (some true))))))))))))))))))
theorem laws_FnExactBareRun_fn {x_aB : DBare} {x_aSteps : Int} {R_ : Bool} (hh : F_laws_FnExactBareRun x_aB x_aSteps = some R_) : Fn Try.prog 14 [.agg (B_43 x_aB), .int .i64 x_aSteps] (.bool R_) := by
  unfold F_laws_FnExactBareRun at hh
  refine Fn.start low_laws_FnExactBareRun [0, 1] (E := sp 74 [(0, .agg (B_43 x_aB)), (1, .int .i64 x_aSteps)]) (by kernel_rfl) (v := .bool R_) (Hr := []) (k := 0) (by kernel_rfl) ?_
  refine Aw.sreg [1, 2] [0] ?_
  refine yt (sp 74 [(1, .int .i64 x_aSteps), (2, pp 0)]) [(0, some ⟨58, (B_43 x_aB)⟩)] 1 ?_
  refine Aw.sreg [1, 2, 5] [0] ?_
  refine yt (sp 74 [(1, .int .i64 x_aSteps), (2, pp 0), (5, .int .i64 (1048576 : Int))]) [(0, some ⟨58, (B_43 x_aB)⟩)] 1 ?_
  refine Aw.sreg [1, 2, 5] [0] ?_
  refine yj 2  (sp 74 [(1, .int .i64 x_aSteps), (2, pp 0), (5, .int .i64 (1048576 : Int)), (13, .agg (B_43 x_aB)), (14, .int .i64 (1048576 : Int))]) [(0, some ⟨58, (B_43 x_aB)⟩)] 1 ?_
  obtain ⟨v1, hv1, hh⟩ := bind_some hh
  refine ys (.call 46 [(.t 13), (.t 14)]) (some 15) (op_call (r := .int .i64 v1) (v := .int .i64 v1) (Hr := []) (n' := 1) (laws_szBare_fn hv1) (clz_v (vs := [.agg (B_43 x_aB), .int .i64 (1048576 : Int)]) (by kernel_rfl) (clz_c (clo_same (clean_agg (cl_B_43 _))) (cz1 clz_n))) rfl rfl (by kernel_rfl) ?_)
  refine yt (sp 74 [(1, .int .i64 x_aSteps), (2, pp 0), (5, .int .i64 v1)]) [(0, some ⟨58, (B_43 x_aB)⟩)] 1 ?_
  refine Aw.seq ?_
  refine Aw.sreg [1, 2, 17] [0] ?_
  refine yt (sp 74 [(1, .int .i64 x_aSteps), (2, pp 0), (17, .bool (decide (v1 < (0 : Int))))]) [(0, some ⟨58, (B_43 x_aB)⟩)] 1 ?_
  rcases cond_some hh with ⟨hb, hh⟩ | ⟨hb, hh⟩
  · refine Aw.condT (by kernel_rfl) hb ?_
    refine Aw.sreg [4] [] ?_
    refine yt (sp 74 [(4, .bool true)]) [] 1 ?_
    refine Aw.ret ?_
    refine then_r ?_
    rw [some_some hh]
    exact gvb
  refine Aw.condF (by kernel_rfl) hb ?_
  refine Aw.xskip (fun _ _ _ hq => then_m hq) ?_
  refine Aw.sreg [1, 2, 6] [0, 5] ?_
  refine yj 1  (sp 74 [(1, .int .i64 x_aSteps), (2, pp 0), (17, .bool (decide (v1 < (0 : Int)))), (18, .agg (B_43 x_aB))]) [(0, some ⟨58, (B_43 x_aB)⟩)] 1 ?_
  obtain ⟨v2, hv2, hh⟩ := bind_some hh
  let q1 : Root := ⟨3, (fl (eI .i64) v2.Out)⟩
  let q2 : Root := ⟨3, (fl (eI .i64) v2.In)⟩
  let q3 : Root := ⟨3, (fl (eI .i64) v2.Mem)⟩
  let q4 : Root := ⟨3, (fl (eI .i64) v2.C.Regs)⟩
  refine ys (.call 47 [(.t 18)]) (some 19) (op_call (r := .agg (.own 3 1 (List.length v2.C.Regs) (fl (eI .i64) v2.C.Regs) :: ru39 v2.C [.own 3 1 (List.length v2.Mem) (fl (eI .i64) v2.Mem), .own 3 1 (List.length v2.In) (fl (eI .i64) v2.In), .own 3 1 (List.length v2.Out) (fl (eI .i64) v2.Out)])) (v := .agg (.sref 1 [] 0 (List.length v2.C.Regs) 1 :: ru39 v2.C [.sref 2 [] 0 (List.length v2.Mem) 1, .sref 3 [] 0 (List.length v2.In) 1, .sref 4 [] 0 (List.length v2.Out) 1])) (Hr := [(4, some q1), (3, some q2), (2, some q3), (1, some q4)]) (n' := 5) (laws_toBare_fn hv2) (clz_v (vs := [.agg (B_43 x_aB)]) (by kernel_rfl) (clz_c (clo_same (clean_agg (cl_B_43 _))) clz_n)) (by simp only [ru39, AV.noRef, noRefs, Bool.and_self, noRefs_fl nr_eI]) (by simp only [ru39, AV.noBor, noBors, Bool.and_self, noBors_fl nb_eI]) (by kernel_rfl) ?_)
  refine yj 1  (sp 74 [(1, .int .i64 x_aSteps), (2, pp 0), (17, .bool (decide (v1 < (0 : Int)))), (18, .agg (B_43 x_aB)), (19, .agg (.sref 1 [] 0 (List.length v2.C.Regs) 1 :: ru39 v2.C [.sref 2 [] 0 (List.length v2.Mem) 1, .sref 3 [] 0 (List.length v2.In) 1, .sref 4 [] 0 (List.length v2.Out) 1])), (20, .int .i64 x_aSteps)]) [(4, some q1), (3, some q2), (2, some q3), (1, some q4), (0, some ⟨58, (B_43 x_aB)⟩)] 5 ?_
  obtain ⟨v3, hv3, hh⟩ := bind_some hh
  refine ys (.call 42 [(.t 19), (.t 20)]) (some 21) (op_callz (args := [.agg (.sref 1 [] 0 (List.length v2.C.Regs) 1 :: ru39 v2.C [.sref 2 [] 0 (List.length v2.Mem) 1, .sref 3 [] 0 (List.length v2.In) 1, .sref 4 [] 0 (List.length v2.Out) 1]), .int .i64 x_aSteps]) (args2 := [.agg (B_43 v2), .int .i64 x_aSteps]) (H2 := [(4, none), (3, none), (2, none), (1, none), (4, some q1), (3, some q2), (2, some q3), (1, some q4), (0, some ⟨58, (B_43 x_aB)⟩)]) (r := .agg (B_43 v3)) (v := .agg (B_43 v3)) (Hr := []) (n' := 5) (by kernel_rfl) (Ent.trans (Ent.freezeK (R := 4) (cs := (fl (eI .i64) v2.Out)) (e := 3) (xs2 := [.agg (B_43 v2), .int .i64 x_aSteps]) (by kernel_rfl) (noOwn_fl no_eI) (frs_c (.agg _ _ (frs_c (.same _) (frs_c (.same _) (frs_c (.same _) (frs_c (.same _) (frs_c (.same _) (frs_c (.same _) (frs_c (.same _) (frs_c (.same _) (frs_c (.same _) (frs_c (.same _) (frs_c (.same _) (frs_c (.same _) (frs_c (.same _) (frs_c (.same _) (frs_c (.same _) (frs_c (fr_all len_eI (by first | rfl | omega | (simp only [List.length_set, over_len, List.length_replicate, List.length_append, List.length_cons, List.length_nil, List.length_take, List.length_drop] <;> omega))) frs_n))))))))))))))))) (frs_c (.same _) frs_n))) (Ent.trans (Ent.freezeK (R := 3) (cs := (fl (eI .i64) v2.In)) (e := 3) (xs2 := [.agg (bo (eI .i64) v2.C.Regs :: ru39 v2.C [bo (eI .i64) v2.Mem, bo (eI .i64) v2.In, .sref 4 [] 0 (List.length v2.Out) 1]), .int .i64 x_aSteps]) (by kernel_rfl) (noOwn_fl no_eI) (frs_c (.agg _ _ (frs_c (.same _) (frs_c (.same _) (frs_c (.same _) (frs_c (.same _) (frs_c (.same _) (frs_c (.same _) (frs_c (.same _) (frs_c (.same _) (frs_c (.same _) (frs_c (.same _) (frs_c (.same _) (frs_c (.same _) (frs_c (.same _) (frs_c (.same _) (frs_c (fr_all len_eI (by first | rfl | omega | (simp only [List.length_set, over_len, List.length_replicate, List.length_append, List.length_cons, List.length_nil, List.length_take, List.length_drop] <;> omega))) (frs_c (.same _) frs_n))))))))))))))))) (frs_c (.same _) frs_n))) (Ent.trans (Ent.freezeK (R := 2) (cs := (fl (eI .i64) v2.Mem)) (e := 3) (xs2 := [.agg (bo (eI .i64) v2.C.Regs :: ru39 v2.C [bo (eI .i64) v2.Mem, .sref 3 [] 0 (List.length v2.In) 1, .sref 4 [] 0 (List.length v2.Out) 1]), .int .i64 x_aSteps]) (by kernel_rfl) (noOwn_fl no_eI) (frs_c (.agg _ _ (frs_c (.same _) (frs_c (.same _) (frs_c (.same _) (frs_c (.same _) (frs_c (.same _) (frs_c (.same _) (frs_c (.same _) (frs_c (.same _) (frs_c (.same _) (frs_c (.same _) (frs_c (.same _) (frs_c (.same _) (frs_c (.same _) (frs_c (fr_all len_eI (by first | rfl | omega | (simp only [List.length_set, over_len, List.length_replicate, List.length_append, List.length_cons, List.length_nil, List.length_take, List.length_drop] <;> omega))) (frs_c (.same _) (frs_c (.same _) frs_n))))))))))))))))) (frs_c (.same _) frs_n))) (Ent.freezeK (R := 1) (cs := (fl (eI .i64) v2.C.Regs)) (e := 3) (xs2 := [.agg (bo (eI .i64) v2.C.Regs :: ru39 v2.C [.sref 2 [] 0 (List.length v2.Mem) 1, .sref 3 [] 0 (List.length v2.In) 1, .sref 4 [] 0 (List.length v2.Out) 1]), .int .i64 x_aSteps]) (by kernel_rfl) (noOwn_fl no_eI) (frs_c (.agg _ _ (frs_c (fr_all len_eI (by first | rfl | omega | (simp only [List.length_set, over_len, List.length_replicate, List.length_append, List.length_cons, List.length_nil, List.length_take, List.length_drop] <;> omega))) (frs_c (.same _) (frs_c (.same _) (frs_c (.same _) (frs_c (.same _) (frs_c (.same _) (frs_c (.same _) (frs_c (.same _) (frs_c (.same _) (frs_c (.same _) (frs_c (.same _) (frs_c (.same _) (frs_c (.same _) (frs_c (.same _) (frs_c (.same _) (frs_c (.same _) frs_n))))))))))))))))) (frs_c (.same _) frs_n)))))) (spec_BareRun_fn hv3) (clz_c (clo_same (clean_agg (cl_B_43 _))) (cz1 clz_n)) (by simp only [ru39, AV.noRef, noRefs, Bool.and_self, noRefs_fl nr_eI, nr_B_43]) (by kernel_rfl) ?_)
  refine yt (sp 74 [(1, .int .i64 x_aSteps), (2, pp 0), (6, pp 5)]) [(0, some ⟨58, (B_43 x_aB)⟩), (5, some ⟨43, (B_43 v3)⟩)] 6 ?_
  refine Aw.sreg [1, 2, 6, 7] [0, 5, 6, 7, 8, 9, 10] ?_
  refine yj 1  (sp 74 [(1, .int .i64 x_aSteps), (2, pp 0), (6, pp 5), (22, .agg (B_43 x_aB))]) [(0, some ⟨58, (B_43 x_aB)⟩), (5, some ⟨43, (B_43 v3)⟩)] 6 ?_
  obtain ⟨v4, hv4, hh⟩ := bind_some hh
  let q5 : Root := ⟨3, (fl (eI .i64) v4.Out)⟩
  let q6 : Root := ⟨3, (fl (eI .i64) v4.In)⟩
  let q7 : Root := ⟨3, (fl (eI .i64) v4.Mem)⟩
  let q8 : Root := ⟨3, (fl (eI .i64) v4.C.Regs)⟩
  refine ys (.call 47 [(.t 22)]) (some 23) (op_call (r := .agg (.own 3 1 (List.length v4.C.Regs) (fl (eI .i64) v4.C.Regs) :: ru39 v4.C [.own 3 1 (List.length v4.Mem) (fl (eI .i64) v4.Mem), .own 3 1 (List.length v4.In) (fl (eI .i64) v4.In), .own 3 1 (List.length v4.Out) (fl (eI .i64) v4.Out)])) (v := .agg (.sref 6 [] 0 (List.length v4.C.Regs) 1 :: ru39 v4.C [.sref 7 [] 0 (List.length v4.Mem) 1, .sref 8 [] 0 (List.length v4.In) 1, .sref 9 [] 0 (List.length v4.Out) 1])) (Hr := [(9, some q5), (8, some q6), (7, some q7), (6, some q8)]) (n' := 10) (laws_toBare_fn hv4) (clz_v (vs := [.agg (B_43 x_aB)]) (by kernel_rfl) (clz_c (clo_same (clean_agg (cl_B_43 _))) clz_n)) (by simp only [ru39, AV.noRef, noRefs, Bool.and_self, noRefs_fl nr_eI]) (by simp only [ru39, AV.noBor, noBors, Bool.and_self, noBors_fl nb_eI]) (by kernel_rfl) ?_)
  let q9 : Root := ⟨43, (.sref 6 [] 0 (List.length v4.C.Regs) 1 :: ru39 v4.C [.sref 7 [] 0 (List.length v4.Mem) 1, .sref 8 [] 0 (List.length v4.In) 1, .sref 9 [] 0 (List.length v4.Out) 1])⟩
  refine yt (sp 74 [(1, .int .i64 x_aSteps), (2, pp 0), (6, pp 5), (7, pp 10)]) [(0, some ⟨58, (B_43 x_aB)⟩), (5, some ⟨43, (B_43 v3)⟩), (6, some q8), (7, some q7), (8, some q6), (9, some q5), (10, some q9)] 11 ?_
  refine Aw.sreg [1, 2, 6, 7, 8] [0, 5, 6, 7, 8, 9, 10, 11, 12, 13, 14, 15] ?_
  refine yj 2  (sp 74 [(1, .int .i64 x_aSteps), (2, pp 0), (6, pp 5), (7, pp 10), (24, .agg (.sref 6 [] 0 (List.length v4.C.Regs) 1 :: ru39 v4.C [.sref 7 [] 0 (List.length v4.Mem) 1, .sref 8 [] 0 (List.length v4.In) 1, .sref 9 [] 0 (List.length v4.Out) 1])), (25, .int .i64 x_aSteps)]) [(0, some ⟨58, (B_43 x_aB)⟩), (5, some ⟨43, (B_43 v3)⟩), (6, some q8), (7, some q7), (8, some q6), (9, some q5), (10, some q9)] 11 ?_
  obtain ⟨v5, hv5, hh⟩ := bind_some hh
  let q10 : Root := ⟨3, (fl (eI .i64) v5.Out)⟩
  let q11 : Root := ⟨3, (fl (eI .i64) v5.In)⟩
  let q12 : Root := ⟨3, (fl (eI .i64) v5.Mem)⟩
  let q13 : Root := ⟨3, (fl (eI .i64) v5.C.Regs)⟩
  refine ys (.call 41 [(.t 24), (.t 25)]) (some 26) (op_call (r := .agg (.own 3 1 (List.length v5.C.Regs) (fl (eI .i64) v5.C.Regs) :: ru39 v5.C [.own 3 1 (List.length v5.Mem) (fl (eI .i64) v5.Mem), .own 3 1 (List.length v5.In) (fl (eI .i64) v5.In), .own 3 1 (List.length v5.Out) (fl (eI .i64) v5.Out)])) (v := .agg (.sref 11 [] 0 (List.length v5.C.Regs) 1 :: ru39 v5.C [.sref 12 [] 0 (List.length v5.Mem) 1, .sref 13 [] 0 (List.length v5.In) 1, .sref 14 [] 0 (List.length v5.Out) 1])) (Hr := [(14, some q10), (13, some q11), (12, some q12), (11, some q13)]) (n' := 15) (impl_BareRun_fn hv5) (clz_v (vs := [.agg (.sref 6 [] 0 (List.length v4.C.Regs) 1 :: ru39 v4.C [.sref 7 [] 0 (List.length v4.Mem) 1, .sref 8 [] 0 (List.length v4.In) 1, .sref 9 [] 0 (List.length v4.Out) 1]), .int .i64 x_aSteps]) (by kernel_rfl) (clz_c (clo_agg (clos_c (clo_own (c := (eI .i64)) (xs := v4.C.Regs) (e := 3) (by first | rfl | omega | (simp only [List.length_set, over_len, List.length_replicate, List.length_append, List.length_cons, List.length_nil, List.length_take, List.length_drop] <;> omega)) len_eI no_eI cl_eI (by kernel_rfl)) (cs1 (cs1 (cs1 (cs1 (cs1 (cs1 (cs1 (cs1 (cs1 (cs1 (cs1 (cs1 (clos_c (clo_own (c := (eI .i64)) (xs := v4.Mem) (e := 3) (by first | rfl | omega | (simp only [List.length_set, over_len, List.length_replicate, List.length_append, List.length_cons, List.length_nil, List.length_take, List.length_drop] <;> omega)) len_eI no_eI cl_eI (by kernel_rfl)) (clos_c (clo_own (c := (eI .i64)) (xs := v4.In) (e := 3) (by first | rfl | omega | (simp only [List.length_set, over_len, List.length_replicate, List.length_append, List.length_cons, List.length_nil, List.length_take, List.length_drop] <;> omega)) len_eI no_eI cl_eI (by kernel_rfl)) (clos_c (clo_own (c := (eI .i64)) (xs := v4.Out) (e := 3) (by first | rfl | omega | (simp only [List.length_set, over_len, List.length_replicate, List.length_append, List.length_cons, List.length_nil, List.length_take, List.length_drop] <;> omega)) len_eI no_eI cl_eI (by kernel_rfl)) clos_n))))))))))))))))) (cz1 clz_n))) (by simp only [ru39, AV.noRef, noRefs, Bool.and_self, noRefs_fl nr_eI]) (by simp only [ru39, AV.noBor, noBors, Bool.and_self, noBors_fl nb_eI]) (by kernel_rfl) ?_)
  let q14 : Root := ⟨43, (.sref 11 [] 0 (List.length v5.C.Regs) 1 :: ru39 v5.C [.sref 12 [] 0 (List.length v5.Mem) 1, .sref 13 [] 0 (List.length v5.In) 1, .sref 14 [] 0 (List.length v5.Out) 1])⟩
  refine yt (sp 74 [(1, .int .i64 x_aSteps), (2, pp 0), (6, pp 5), (7, pp 10), (8, pp 15)]) [(0, some ⟨58, (B_43 x_aB)⟩), (5, some ⟨43, (B_43 v3)⟩), (6, some q8), (7, some q7), (8, some q6), (9, some q5), (10, some q9), (11, some q13), (12, some q12), (13, some q11), (14, some q10), (15, some q14)] 16 ?_
  refine Aw.seq ?_
  refine Aw.sreg [1, 2, 6, 7, 8, 30] [0, 5, 6, 7, 8, 9, 10, 11, 12, 13, 14, 15] ?_
  refine yj 2  (sp 74 [(1, .int .i64 x_aSteps), (2, pp 0), (6, pp 5), (7, pp 10), (8, pp 15), (27, .agg (.sref 11 [] 0 (List.length v5.C.Regs) 1 :: ru39 v5.C [.sref 12 [] 0 (List.length v5.Mem) 1, .sref 13 [] 0 (List.length v5.In) 1, .sref 14 [] 0 (List.length v5.Out) 1])), (28, .agg (B_43 v3))]) [(0, some ⟨58, (B_43 x_aB)⟩), (5, some ⟨43, (B_43 v3)⟩), (6, some q8), (7, some q7), (8, some q6), (9, some q5), (10, some q9), (11, some q13), (12, some q12), (13, some q11), (14, some q10), (15, some q14)] 16 ?_
  obtain ⟨v6, hv6, hh⟩ := bind_some hh
  refine ys (.call 48 [(.t 27), (.t 28)]) (some 29) (op_call (r := .bool v6) (v := .bool v6) (Hr := []) (n' := 16) (laws_eqBare_fn hv6) (clz_v (vs := [.agg (.sref 11 [] 0 (List.length v5.C.Regs) 1 :: ru39 v5.C [.sref 12 [] 0 (List.length v5.Mem) 1, .sref 13 [] 0 (List.length v5.In) 1, .sref 14 [] 0 (List.length v5.Out) 1]), .agg (B_43 v3)]) (by kernel_rfl) (clz_c (clo_agg (clos_c (clo_own (c := (eI .i64)) (xs := v5.C.Regs) (e := 3) (by first | rfl | omega | (simp only [List.length_set, over_len, List.length_replicate, List.length_append, List.length_cons, List.length_nil, List.length_take, List.length_drop] <;> omega)) len_eI no_eI cl_eI (by kernel_rfl)) (cs1 (cs1 (cs1 (cs1 (cs1 (cs1 (cs1 (cs1 (cs1 (cs1 (cs1 (cs1 (clos_c (clo_own (c := (eI .i64)) (xs := v5.Mem) (e := 3) (by first | rfl | omega | (simp only [List.length_set, over_len, List.length_replicate, List.length_append, List.length_cons, List.length_nil, List.length_take, List.length_drop] <;> omega)) len_eI no_eI cl_eI (by kernel_rfl)) (clos_c (clo_own (c := (eI .i64)) (xs := v5.In) (e := 3) (by first | rfl | omega | (simp only [List.length_set, over_len, List.length_replicate, List.length_append, List.length_cons, List.length_nil, List.length_take, List.length_drop] <;> omega)) len_eI no_eI cl_eI (by kernel_rfl)) (clos_c (clo_own (c := (eI .i64)) (xs := v5.Out) (e := 3) (by first | rfl | omega | (simp only [List.length_set, over_len, List.length_replicate, List.length_append, List.length_cons, List.length_nil, List.length_take, List.length_drop] <;> omega)) len_eI no_eI cl_eI (by kernel_rfl)) clos_n))))))))))))))))) (clz_c (clo_same (clean_agg (cl_B_43 _))) clz_n))) rfl rfl (by kernel_rfl) ?_)
  refine yt (sp 74 [(1, .int .i64 x_aSteps), (2, pp 0), (6, pp 5), (7, pp 10), (8, pp 15), (30, .bool (!v6))]) [(0, some ⟨58, (B_43 x_aB)⟩), (5, some ⟨43, (B_43 v3)⟩), (6, some q8), (7, some q7), (8, some q6), (9, some q5), (10, some q9), (11, some q13), (12, some q12), (13, some q11), (14, some q10), (15, some q14)] 16 ?_
  rcases cond_some hh with ⟨hb, hh⟩ | ⟨hb, hh⟩
  · refine Aw.condT (by kernel_rfl) hb ?_
    refine Aw.sreg [4] [] ?_
    refine yt (sp 74 [(4, .bool false)]) [] 16 ?_
    refine Aw.ret ?_
    refine then_r ?_
    rw [some_some hh]
    exact gvb
  refine Aw.condF (by kernel_rfl) hb ?_
  refine Aw.xskip (fun _ _ _ hq => then_m hq) ?_
  refine Aw.seq ?_
  refine Aw.sregd [1, 2, 6, 7, 8, 35] [0, 5, 6, 7, 8, 9, 10, 11, 12, 13, 14, 15] [] (by kernel_rfl) ?_
  refine dc (cs := []) (E' := (sp 74 [(1, .int .i64 x_aSteps), (2, pp 0), (6, pp 5), (7, pp 10), (8, pp 15), (30, .bool (!v6)), (31, .agg (.sref 6 [] 0 (List.length v4.C.Regs) 1 :: ru39 v4.C [.sref 7 [] 0 (List.length v4.Mem) 1, .sref 8 [] 0 (List.length v4.In) 1, .sref 9 [] 0 (List.length v4.Out) 1])), (32, .agg (B_43 x_aB))])) (H' := [(0, some ⟨58, (B_43 x_aB)⟩), (5, some ⟨43, (B_43 v3)⟩), (6, some q8), (7, some q7), (8, some q6), (9, some q5), (10, some q9), (11, some q13), (12, some q12), (13, some q11), (14, some q10), (15, some q14)]) (n' := 16) (fs' := none) (pre := (List.take 2 Lf14_r10)) (L' := (List.drop 2 Lf14_r10)) (by kernel_rfl) (fun K => by kernel_rfl) .nil ?_
  obtain ⟨v7, hv7, hh⟩ := bind_some hh
  let q15 : Root := ⟨3, (fl (eI .i64) v7.Out)⟩
  let q16 : Root := ⟨3, (fl (eI .i64) v7.In)⟩
  let q17 : Root := ⟨3, (fl (eI .i64) v7.Mem)⟩
  let q18 : Root := ⟨3, (fl (eI .i64) v7.C.Regs)⟩
  refine ds (.call 47 [(.t 32)]) (some 33) (ydo_n rfl (op_call (r := .agg (.own 3 1 (List.length v7.C.Regs) (fl (eI .i64) v7.C.Regs) :: ru39 v7.C [.own 3 1 (List.length v7.Mem) (fl (eI .i64) v7.Mem), .own 3 1 (List.length v7.In) (fl (eI .i64) v7.In), .own 3 1 (List.length v7.Out) (fl (eI .i64) v7.Out)])) (v := .agg (.sref 16 [] 0 (List.length v7.C.Regs) 1 :: ru39 v7.C [.sref 17 [] 0 (List.length v7.Mem) 1, .sref 18 [] 0 (List.length v7.In) 1, .sref 19 [] 0 (List.length v7.Out) 1])) (Hr := [(19, some q15), (18, some q16), (17, some q17), (16, some q18)]) (n' := 20) (laws_toBare_fn hv7) (clz_v (vs := [.agg (B_43 x_aB)]) (by kernel_rfl) (clz_c (clo_same (clean_agg (cl_B_43 _))) clz_n)) (by simp only [ru39, AV.noRef, noRefs, Bool.and_self, noRefs_fl nr_eI]) (by simp only [ru39, AV.noBor, noBors, Bool.and_self, noBors_fl nb_eI]) (by kernel_rfl) ⟨⟨agr_name (n := 16) (n0 := 16) (r := .agg (.own 3 1 (List.length v7.C.Regs) (fl (eI .i64) v7.C.Regs) :: ru39 v7.C [.own 3 1 (List.length v7.Mem) (fl (eI .i64) v7.Mem), .own 3 1 (List.length v7.In) (fl (eI .i64) v7.In), .own 3 1 (List.length v7.Out) (fl (eI .i64) v7.Out)])) (v := .agg (.sref 16 [] 0 (List.length v7.C.Regs) 1 :: ru39 v7.C [.sref 17 [] 0 (List.length v7.Mem) 1, .sref 18 [] 0 (List.length v7.In) 1, .sref 19 [] 0 (List.length v7.Out) 1])) (Hr := [(19, some q15), (18, some q16), (17, some q17), (16, some q18)]) (n' := 20) (by kernel_rfl) (by decide), Hld.un ?_⟩⟩))
  obtain ⟨v8, hv8, hh⟩ := bind_some hh
  refine ds (.call 48 [(.t 31), (.t 33)]) (some 34) (ydo_n rfl (op_call (r := .bool v8) (v := .bool v8) (Hr := []) (n' := 20) (laws_eqBare_fn hv8) (clz_v (vs := [.agg (.sref 6 [] 0 (List.length v4.C.Regs) 1 :: ru39 v4.C [.sref 7 [] 0 (List.length v4.Mem) 1, .sref 8 [] 0 (List.length v4.In) 1, .sref 9 [] 0 (List.length v4.Out) 1]), .agg (.sref 16 [] 0 (List.length v7.C.Regs) 1 :: ru39 v7.C [.sref 17 [] 0 (List.length v7.Mem) 1, .sref 18 [] 0 (List.length v7.In) 1, .sref 19 [] 0 (List.length v7.Out) 1])]) (by kernel_rfl) (clz_c (clo_agg (clos_c (clo_own (c := (eI .i64)) (xs := v4.C.Regs) (e := 3) (by first | rfl | omega | (simp only [List.length_set, over_len, List.length_replicate, List.length_append, List.length_cons, List.length_nil, List.length_take, List.length_drop] <;> omega)) len_eI no_eI cl_eI (by kernel_rfl)) (cs1 (cs1 (cs1 (cs1 (cs1 (cs1 (cs1 (cs1 (cs1 (cs1 (cs1 (cs1 (clos_c (clo_own (c := (eI .i64)) (xs := v4.Mem) (e := 3) (by first | rfl | omega | (simp only [List.length_set, over_len, List.length_replicate, List.length_append, List.length_cons, List.length_nil, List.length_take, List.length_drop] <;> omega)) len_eI no_eI cl_eI (by kernel_rfl)) (clos_c (clo_own (c := (eI .i64)) (xs := v4.In) (e := 3) (by first | rfl | omega | (simp only [List.length_set, over_len, List.length_replicate, List.length_append, List.length_cons, List.length_nil, List.length_take, List.length_drop] <;> omega)) len_eI no_eI cl_eI (by kernel_rfl)) (clos_c (clo_own (c := (eI .i64)) (xs := v4.Out) (e := 3) (by first | rfl | omega | (simp only [List.length_set, over_len, List.length_replicate, List.length_append, List.length_cons, List.length_nil, List.length_take, List.length_drop] <;> omega)) len_eI no_eI cl_eI (by kernel_rfl)) clos_n))))))))))))))))) (clz_c (clo_agg (clos_c (clo_own (c := (eI .i64)) (xs := v7.C.Regs) (e := 3) (by first | rfl | omega | (simp only [List.length_set, over_len, List.length_replicate, List.length_append, List.length_cons, List.length_nil, List.length_take, List.length_drop] <;> omega)) len_eI no_eI cl_eI (by kernel_rfl)) (cs1 (cs1 (cs1 (cs1 (cs1 (cs1 (cs1 (cs1 (cs1 (cs1 (cs1 (cs1 (clos_c (clo_own (c := (eI .i64)) (xs := v7.Mem) (e := 3) (by first | rfl | omega | (simp only [List.length_set, over_len, List.length_replicate, List.length_append, List.length_cons, List.length_nil, List.length_take, List.length_drop] <;> omega)) len_eI no_eI cl_eI (by kernel_rfl)) (clos_c (clo_own (c := (eI .i64)) (xs := v7.In) (e := 3) (by first | rfl | omega | (simp only [List.length_set, over_len, List.length_replicate, List.length_append, List.length_cons, List.length_nil, List.length_take, List.length_drop] <;> omega)) len_eI no_eI cl_eI (by kernel_rfl)) (clos_c (clo_own (c := (eI .i64)) (xs := v7.Out) (e := 3) (by first | rfl | omega | (simp only [List.length_set, over_len, List.length_replicate, List.length_append, List.length_cons, List.length_nil, List.length_take, List.length_drop] <;> omega)) len_eI no_eI cl_eI (by kernel_rfl)) clos_n))))))))))))))))) clz_n))) rfl rfl (by kernel_rfl) ⟨⟨agr_name (n := 20) (n0 := 16) (r := .bool v8) (v := .bool v8) (Hr := []) (n' := 20) (by kernel_rfl) (by decide), Hld.un ?_⟩⟩))
  refine dct (cs := []) (E' := (sp 74 [(1, .int .i64 x_aSteps), (2, pp 0), (6, pp 5), (7, pp 10), (8, pp 15), (30, .bool (!v6)), (31, .agg (.sref 6 [] 0 (List.length v4.C.Regs) 1 :: ru39 v4.C [.sref 7 [] 0 (List.length v4.Mem) 1, .sref 8 [] 0 (List.length v4.In) 1, .sref 9 [] 0 (List.length v4.Out) 1])), (32, .agg (B_43 x_aB)), (33, .agg (.sref 16 [] 0 (List.length v7.C.Regs) 1 :: ru39 v7.C [.sref 17 [] 0 (List.length v7.Mem) 1, .sref 18 [] 0 (List.length v7.In) 1, .sref 19 [] 0 (List.length v7.Out) 1])), (34, .bool v8)])) (H' := [(19, some q15), (18, some q16), (17, some q17), (16, some q18), (0, some ⟨58, (B_43 x_aB)⟩), (5, some ⟨43, (B_43 v3)⟩), (6, some q8), (7, some q7), (8, some q6), (9, some q5), (10, some q9), (11, some q13), (12, some q12), (13, some q11), (14, some q10), (15, some q14)]) (n' := 20) (fun K => by kernel_rfl) .nil ?_
  refine yt (sp 74 [(1, .int .i64 x_aSteps), (2, pp 0), (6, pp 5), (7, pp 10), (8, pp 15), (35, .bool (!v8))]) [(0, some ⟨58, (B_43 x_aB)⟩), (5, some ⟨43, (B_43 v3)⟩), (6, some q8), (7, some q7), (8, some q6), (9, some q5), (10, some q9), (11, some q13), (12, some q12), (13, some q11), (14, some q10), (15, some q14)] 20 ?_
  rcases cond_some hh with ⟨hb, hh⟩ | ⟨hb, hh⟩
  · refine Aw.condT (by kernel_rfl) hb ?_
    refine Aw.sreg [4] [] ?_
    refine yt (sp 74 [(4, .bool false)]) [] 20 ?_
    refine Aw.ret ?_
    refine then_r ?_
    rw [some_some hh]
    exact gvb
  refine Aw.condF (by kernel_rfl) hb ?_
  refine Aw.xskip (fun _ _ _ hq => then_m hq) ?_
  refine Aw.sreg [1, 2, 6, 7, 8, 9] [0, 5, 6, 7, 8, 9, 10, 11, 12, 13, 14, 15] ?_
  refine yt (sp 74 [(1, .int .i64 x_aSteps), (2, pp 0), (6, pp 5), (7, pp 10), (8, pp 15), (9, .int .i64 (1 : Int))]) [(0, some ⟨58, (B_43 x_aB)⟩), (5, some ⟨43, (B_43 v3)⟩), (6, some q8), (7, some q7), (8, some q6), (9, some q5), (10, some q9), (11, some q13), (12, some q12), (13, some q11), (14, some q10), (15, some q14)] 20 ?_
  refine Aw.sreg [1, 2, 6, 8, 9] [0, 5, 11, 12, 13, 14, 15] ?_
  refine yj 2  (sp 74 [(1, .int .i64 x_aSteps), (2, pp 0), (6, pp 5), (7, pp 10), (8, pp 15), (9, .int .i64 (1 : Int)), (36, .agg (.sref 6 [] 0 (List.length v4.C.Regs) 1 :: ru39 v4.C [.sref 7 [] 0 (List.length v4.Mem) 1, .sref 8 [] 0 (List.length v4.In) 1, .sref 9 [] 0 (List.length v4.Out) 1])), (37, .int .i64 (1 : Int))]) [(0, some ⟨58, (B_43 x_aB)⟩), (5, some ⟨43, (B_43 v3)⟩), (6, some q8), (7, some q7), (8, some q6), (9, some q5), (10, some q9), (11, some q13), (12, some q12), (13, some q11), (14, some q10), (15, some q14)] 20 ?_
  obtain ⟨v9, hv9, hh⟩ := bind_some hh
  obtain ⟨hg5, hh⟩ := grd_some hh
  obtain ⟨hg6, hh⟩ := grd_some hh
  obtain ⟨hg7, hh⟩ := grd_some hh
  obtain ⟨hg8, hh⟩ := grd_some hh
  let q19 : Root := ⟨3, (fl (eI .i64) v9.2.1)⟩
  let q20 : Root := ⟨3, (fl (eI .i64) v9.2.2.1)⟩
  let q21 : Root := ⟨3, (fl (eI .i64) v9.2.2.2.1)⟩
  refine ys (.call 49 [(.t 36), (.t 37)]) (some 38) (op_callf (v' := .int .i64 v9.2.2.2.2) (Hp' := [(6, some ⟨3, (fl (eI .i64) v9.1)⟩), (7, some q19), (8, some q20), (9, some q21)]) (n' := 20) [6, 7, 8, 9] (laws_markBare_fn hv9) (args' := [.agg (.sref 6 [] 0 (List.length v4.C.Regs) 1 :: ru39 v4.C [.sref 7 [] 0 (List.length v4.Mem) 1, .sref 8 [] 0 (List.length v4.In) 1, .sref 9 [] 0 (List.length v4.Out) 1]), .int .i64 (1 : Int)]) (by kernel_rfl) rfl rfl rfl (rens_c (ren_agg (rens_c ren_sx (rens_i (rens_i (rens_i (rens_i (rens_b (rens_i (rens_i (rens_i (rens_b (rens_b (rens_b (rens_b (rens_c ren_sx (rens_c ren_sx (rens_c ren_sx rens_n))))))))))))))))) (rens_i rens_n)) rfl (hq q5 (rens_same (noRefs_fl nr_eI)) (hq q6 (rens_same (noRefs_fl nr_eI)) (hq q7 (rens_same (noRefs_fl nr_eI)) (hq q8 (rens_same (noRefs_fl nr_eI)) hs_nil)))) ren_i rfl (hq ⟨3, (fl (eI .i64) v9.1)⟩ (rens_same (noRefs_fl nr_eI)) (hq q19 (rens_same (noRefs_fl nr_eI)) (hq q20 (rens_same (noRefs_fl nr_eI)) (hq q21 (rens_same (noRefs_fl nr_eI)) hs_nil)))) rfl ?_)
  refine yt (sp 74 [(1, .int .i64 x_aSteps), (2, pp 0), (6, pp 5), (8, pp 15), (9, .int .i64 v9.2.2.2.2)]) [(0, some ⟨58, (B_43 x_aB)⟩), (5, some ⟨43, (B_43 v3)⟩), (11, some q13), (12, some q12), (13, some q11), (14, some q10), (15, some q14)] 20 ?_
  refine Aw.seq ?_
  refine Aw.sreg [1, 2, 6, 8, 46] [0, 5, 11, 12, 13, 14, 15] ?_
  refine yj 3  (sp 74 [(1, .int .i64 x_aSteps), (2, pp 0), (6, pp 5), (8, pp 15), (9, .int .i64 v9.2.2.2.2), (39, .int .i64 v9.2.2.2.2), (40, .bool (decide (v9.2.2.2.2 < (0 : Int)))), (41, .bool (decide (v9.2.2.2.2 < (0 : Int))))]) [(0, some ⟨58, (B_43 x_aB)⟩), (5, some ⟨43, (B_43 v3)⟩), (11, some q13), (12, some q12), (13, some q11), (14, some q10), (15, some q14)] 20 ?_
  rcases cond_some hh with ⟨hb, hh⟩ | ⟨hb, hh⟩
  · refine ybl (t := 40) hb ?_
    refine ybl (t := 41) hb ?_
    refine yt (sp 74 [(1, .int .i64 x_aSteps), (2, pp 0), (6, pp 5), (8, pp 15), (46, .bool true)]) [(0, some ⟨58, (B_43 x_aB)⟩), (5, some ⟨43, (B_43 v3)⟩), (11, some q13), (12, some q12), (13, some q11), (14, some q10), (15, some q14)] 20 ?_
    refine Aw.condT (by kernel_rfl) rfl ?_
    refine Aw.sreg [4] [] ?_
    refine yt (sp 74 [(4, .bool false)]) [] 20 ?_
    refine Aw.ret ?_
    refine then_r ?_
    rw [some_some hh]
    exact gvb
  refine ybl (t := 40) hb ?_
  refine ybl (t := 41) hb ?_
  refine yj 2  (sp 74 [(1, .int .i64 x_aSteps), (2, pp 0), (6, pp 5), (8, pp 15), (9, .int .i64 v9.2.2.2.2), (39, .int .i64 v9.2.2.2.2), (40, .bool false), (41, .bool false), (42, .agg (.sref 11 [] 0 (List.length v5.C.Regs) 1 :: ru39 v5.C [.sref 12 [] 0 (List.length v5.Mem) 1, .sref 13 [] 0 (List.length v5.In) 1, .sref 14 [] 0 (List.length v5.Out) 1])), (43, .agg (B_43 v3))]) [(0, some ⟨58, (B_43 x_aB)⟩), (5, some ⟨43, (B_43 v3)⟩), (11, some q13), (12, some q12), (13, some q11), (14, some q10), (15, some q14)] 20 ?_
  obtain ⟨v10, hv10, hh⟩ := bind_some hh
  refine yg (.call 48 [(.t 42), (.t 43)]) (some 44) 41 false (op_call (r := .bool v10) (v := .bool v10) (Hr := []) (n' := 20) (laws_eqBare_fn hv10) (clz_v (vs := [.agg (.sref 11 [] 0 (List.length v5.C.Regs) 1 :: ru39 v5.C [.sref 12 [] 0 (List.length v5.Mem) 1, .sref 13 [] 0 (List.length v5.In) 1, .sref 14 [] 0 (List.length v5.Out) 1]), .agg (B_43 v3)]) (by kernel_rfl) (clz_c (clo_agg (clos_c (clo_own (c := (eI .i64)) (xs := v5.C.Regs) (e := 3) (by first | rfl | omega | (simp only [List.length_set, over_len, List.length_replicate, List.length_append, List.length_cons, List.length_nil, List.length_take, List.length_drop] <;> omega)) len_eI no_eI cl_eI (by kernel_rfl)) (cs1 (cs1 (cs1 (cs1 (cs1 (cs1 (cs1 (cs1 (cs1 (cs1 (cs1 (cs1 (clos_c (clo_own (c := (eI .i64)) (xs := v5.Mem) (e := 3) (by first | rfl | omega | (simp only [List.length_set, over_len, List.length_replicate, List.length_append, List.length_cons, List.length_nil, List.length_take, List.length_drop] <;> omega)) len_eI no_eI cl_eI (by kernel_rfl)) (clos_c (clo_own (c := (eI .i64)) (xs := v5.In) (e := 3) (by first | rfl | omega | (simp only [List.length_set, over_len, List.length_replicate, List.length_append, List.length_cons, List.length_nil, List.length_take, List.length_drop] <;> omega)) len_eI no_eI cl_eI (by kernel_rfl)) (clos_c (clo_own (c := (eI .i64)) (xs := v5.Out) (e := 3) (by first | rfl | omega | (simp only [List.length_set, over_len, List.length_replicate, List.length_append, List.length_cons, List.length_nil, List.length_take, List.length_drop] <;> omega)) len_eI no_eI cl_eI (by kernel_rfl)) clos_n))))))))))))))))) (clz_c (clo_same (clean_agg (cl_B_43 _))) clz_n))) rfl rfl (by kernel_rfl) ?_)
  refine yt (sp 74 [(1, .int .i64 x_aSteps), (2, pp 0), (6, pp 5), (8, pp 15), (46, .bool (!v10))]) [(0, some ⟨58, (B_43 x_aB)⟩), (5, some ⟨43, (B_43 v3)⟩), (11, some q13), (12, some q12), (13, some q11), (14, some q10), (15, some q14)] 20 ?_
  rcases cond_some hh with ⟨hb, hh⟩ | ⟨hb, hh⟩
  · refine Aw.condT (by kernel_rfl) hb ?_
    refine Aw.sreg [4] [] ?_
    refine yt (sp 74 [(4, .bool false)]) [] 20 ?_
    refine Aw.ret ?_
    refine then_r ?_
    rw [some_some hh]
    exact gvb
  refine Aw.condF (by kernel_rfl) hb ?_
  refine Aw.xskip (fun _ _ _ hq => then_m hq) ?_
  refine Aw.sreg [1, 2, 6, 8, 10] [0, 5, 11, 12, 13, 14, 15] ?_
  refine yt (sp 74 [(1, .int .i64 x_aSteps), (2, pp 0), (6, pp 5), (8, pp 15), (10, .int .i64 (1 : Int))]) [(0, some ⟨58, (B_43 x_aB)⟩), (5, some ⟨43, (B_43 v3)⟩), (11, some q13), (12, some q12), (13, some q11), (14, some q10), (15, some q14)] 20 ?_
  refine Aw.sreg [1, 2, 6, 8, 10] [0, 5, 11, 12, 13, 14, 15] ?_
  refine yj 2  (sp 74 [(1, .int .i64 x_aSteps), (2, pp 0), (6, pp 5), (8, pp 15), (10, .int .i64 (1 : Int)), (47, .agg (.sref 11 [] 0 (List.length v5.C.Regs) 1 :: ru39 v5.C [.sref 12 [] 0 (List.length v5.Mem) 1, .sref 13 [] 0 (List.length v5.In) 1, .sref 14 [] 0 (List.length v5.Out) 1])), (48, .int .i64 (1 : Int))]) [(0, some ⟨58, (B_43 x_aB)⟩), (5, some ⟨43, (B_43 v3)⟩), (11, some q13), (12, some q12), (13, some q11), (14, some q10), (15, some q14)] 20 ?_
  obtain ⟨v11, hv11, hh⟩ := bind_some hh
  obtain ⟨hg13, hh⟩ := grd_some hh
  obtain ⟨hg14, hh⟩ := grd_some hh
  obtain ⟨hg15, hh⟩ := grd_some hh
  obtain ⟨hg16, hh⟩ := grd_some hh
  let q22 : Root := ⟨3, (fl (eI .i64) v11.1)⟩
  let q23 : Root := ⟨3, (fl (eI .i64) v11.2.1)⟩
  let q24 : Root := ⟨3, (fl (eI .i64) v11.2.2.1)⟩
  let q25 : Root := ⟨3, (fl (eI .i64) v11.2.2.2.1)⟩
  refine ys (.call 49 [(.t 47), (.t 48)]) (some 49) (op_callf (v' := .int .i64 v11.2.2.2.2) (Hp' := [(11, some q22), (12, some q23), (13, some q24), (14, some q25)]) (n' := 20) [11, 12, 13, 14] (laws_markBare_fn hv11) (args' := [.agg (.sref 11 [] 0 (List.length v5.C.Regs) 1 :: ru39 v5.C [.sref 12 [] 0 (List.length v5.Mem) 1, .sref 13 [] 0 (List.length v5.In) 1, .sref 14 [] 0 (List.length v5.Out) 1]), .int .i64 (1 : Int)]) (by kernel_rfl) rfl rfl rfl (rens_c (ren_agg (rens_c ren_sx (rens_i (rens_i (rens_i (rens_i (rens_b (rens_i (rens_i (rens_i (rens_b (rens_b (rens_b (rens_b (rens_c ren_sx (rens_c ren_sx (rens_c ren_sx rens_n))))))))))))))))) (rens_i rens_n)) rfl (hq q10 (rens_same (noRefs_fl nr_eI)) (hq q11 (rens_same (noRefs_fl nr_eI)) (hq q12 (rens_same (noRefs_fl nr_eI)) (hq q13 (rens_same (noRefs_fl nr_eI)) hs_nil)))) ren_i rfl (hq q22 (rens_same (noRefs_fl nr_eI)) (hq q23 (rens_same (noRefs_fl nr_eI)) (hq q24 (rens_same (noRefs_fl nr_eI)) (hq q25 (rens_same (noRefs_fl nr_eI)) hs_nil)))) rfl ?_)
  refine yt (sp 74 [(1, .int .i64 x_aSteps), (2, pp 0), (6, pp 5), (8, pp 15), (10, .int .i64 v11.2.2.2.2)]) [(0, some ⟨58, (B_43 x_aB)⟩), (5, some ⟨43, (B_43 v3)⟩), (11, some q22), (12, some q23), (13, some q24), (14, some q25), (15, some q14)] 20 ?_
  refine Aw.sreg [1, 2, 6, 8, 10, 11] [0, 5, 11, 12, 13, 14, 15] ?_
  refine yt (sp 74 [(1, .int .i64 x_aSteps), (2, pp 0), (6, pp 5), (8, pp 15), (10, .int .i64 v11.2.2.2.2), (11, .int .i64 (1 : Int))]) [(0, some ⟨58, (B_43 x_aB)⟩), (5, some ⟨43, (B_43 v3)⟩), (11, some q22), (12, some q23), (13, some q24), (14, some q25), (15, some q14)] 20 ?_
  refine Aw.sreg [1, 2, 6, 8, 10, 11] [0, 5, 11, 12, 13, 14, 15] ?_
  refine yj 2  (sp 74 [(1, .int .i64 x_aSteps), (2, pp 0), (6, pp 5), (8, pp 15), (10, .int .i64 v11.2.2.2.2), (11, .int .i64 (1 : Int)), (50, .agg (.sref 11 [] 0 (List.length v5.C.Regs) 1 :: ru39 v5.C [.sref 12 [] 0 (List.length v5.Mem) 1, .sref 13 [] 0 (List.length v5.In) 1, .sref 14 [] 0 (List.length v5.Out) 1])), (51, .int .i64 (1 : Int))]) [(0, some ⟨58, (B_43 x_aB)⟩), (5, some ⟨43, (B_43 v3)⟩), (11, some q22), (12, some q23), (13, some q24), (14, some q25), (15, some q14)] 20 ?_
  obtain ⟨v12, hv12, hh⟩ := bind_some hh
  refine ys (.call 50 [(.t 50), (.t 51)]) (some 52) (op_call (r := .int .i64 v12) (v := .int .i64 v12) (Hr := []) (n' := 20) (laws_heldBare_fn hv12) (clz_v (vs := [.agg (.sref 11 [] 0 (List.length v5.C.Regs) 1 :: ru39 v5.C [.sref 12 [] 0 (List.length v5.Mem) 1, .sref 13 [] 0 (List.length v5.In) 1, .sref 14 [] 0 (List.length v5.Out) 1]), .int .i64 (1 : Int)]) (by kernel_rfl) (clz_c (clo_agg (clos_c (clo_own (c := (eI .i64)) (xs := v11.1) (e := 3) (by first | rfl | omega | (simp only [List.length_set, over_len, List.length_replicate, List.length_append, List.length_cons, List.length_nil, List.length_take, List.length_drop] <;> omega)) len_eI no_eI cl_eI (by kernel_rfl)) (cs1 (cs1 (cs1 (cs1 (cs1 (cs1 (cs1 (cs1 (cs1 (cs1 (cs1 (cs1 (clos_c (clo_own (c := (eI .i64)) (xs := v11.2.1) (e := 3) (by first | rfl | omega | (simp only [List.length_set, over_len, List.length_replicate, List.length_append, List.length_cons, List.length_nil, List.length_take, List.length_drop] <;> omega)) len_eI no_eI cl_eI (by kernel_rfl)) (clos_c (clo_own (c := (eI .i64)) (xs := v11.2.2.1) (e := 3) (by first | rfl | omega | (simp only [List.length_set, over_len, List.length_replicate, List.length_append, List.length_cons, List.length_nil, List.length_take, List.length_drop] <;> omega)) len_eI no_eI cl_eI (by kernel_rfl)) (clos_c (clo_own (c := (eI .i64)) (xs := v11.2.2.2.1) (e := 3) (by first | rfl | omega | (simp only [List.length_set, over_len, List.length_replicate, List.length_append, List.length_cons, List.length_nil, List.length_take, List.length_drop] <;> omega)) len_eI no_eI cl_eI (by kernel_rfl)) clos_n))))))))))))))))) (cz1 clz_n))) rfl rfl (by kernel_rfl) ?_)
  refine yt (sp 74 [(1, .int .i64 x_aSteps), (2, pp 0), (6, pp 5), (8, pp 15), (10, .int .i64 v11.2.2.2.2), (11, .int .i64 v12)]) [(0, some ⟨58, (B_43 x_aB)⟩), (5, some ⟨43, (B_43 v3)⟩), (11, some q22), (12, some q23), (13, some q24), (14, some q25), (15, some q14)] 20 ?_
  refine Aw.seq ?_
  refine Aw.sreg [1, 2, 6, 8, 10, 11, 54] [0, 5, 11, 12, 13, 14, 15] ?_
  refine yt (sp 74 [(1, .int .i64 x_aSteps), (2, pp 0), (6, pp 5), (8, pp 15), (10, .int .i64 v11.2.2.2.2), (11, .int .i64 v12), (54, .bool (decide (v12 < (0 : Int))))]) [(0, some ⟨58, (B_43 x_aB)⟩), (5, some ⟨43, (B_43 v3)⟩), (11, some q22), (12, some q23), (13, some q24), (14, some q25), (15, some q14)] 20 ?_
  rcases cond_some hh with ⟨hb, hh⟩ | ⟨hb, hh⟩
  · refine Aw.condT (by kernel_rfl) hb ?_
    refine Aw.sreg [4] [] ?_
    refine yt (sp 74 [(4, .bool false)]) [] 20 ?_
    refine Aw.ret ?_
    refine then_r ?_
    rw [some_some hh]
    exact gvb
  refine Aw.condF (by kernel_rfl) hb ?_
  refine Aw.xskip (fun _ _ _ hq => then_m hq) ?_
  refine Aw.seq ?_
  refine Aw.sreg [1, 2, 6, 8, 10, 57] [0, 5, 11, 12, 13, 14, 15] ?_
  refine yt (sp 74 [(1, .int .i64 x_aSteps), (2, pp 0), (6, pp 5), (8, pp 15), (10, .int .i64 v11.2.2.2.2), (57, .bool (!decide (v12 = v11.2.2.2.2)))]) [(0, some ⟨58, (B_43 x_aB)⟩), (5, some ⟨43, (B_43 v3)⟩), (11, some q22), (12, some q23), (13, some q24), (14, some q25), (15, some q14)] 20 ?_
  rcases cond_some hh with ⟨hb, hh⟩ | ⟨hb, hh⟩
  · refine Aw.condT (by kernel_rfl) hb ?_
    refine Aw.sreg [4] [] ?_
    refine yt (sp 74 [(4, .bool false)]) [] 20 ?_
    refine Aw.ret ?_
    refine then_r ?_
    rw [some_some hh]
    exact gvb
  refine Aw.condF (by kernel_rfl) hb ?_
  refine Aw.xskip (fun _ _ _ hq => then_m hq) ?_
  refine Aw.sreg [6, 8, 10, 12] [5, 11, 12, 13, 14, 15, 24, 25, 26, 27, 28] ?_
  refine yj 1  (sp 74 [(1, .int .i64 x_aSteps), (2, pp 0), (6, pp 5), (8, pp 15), (10, .int .i64 v11.2.2.2.2), (57, .bool (!decide (v12 = v11.2.2.2.2))), (58, .agg (B_43 x_aB))]) [(0, some ⟨58, (B_43 x_aB)⟩), (5, some ⟨43, (B_43 v3)⟩), (11, some q22), (12, some q23), (13, some q24), (14, some q25), (15, some q14)] 20 ?_
  obtain ⟨v13, hv13, hh⟩ := bind_some hh
  let q26 : Root := ⟨3, (fl (eI .i64) v13.Out)⟩
  let q27 : Root := ⟨3, (fl (eI .i64) v13.In)⟩
  let q28 : Root := ⟨3, (fl (eI .i64) v13.Mem)⟩
  let q29 : Root := ⟨3, (fl (eI .i64) v13.C.Regs)⟩
  refine ys (.call 47 [(.t 58)]) (some 59) (op_call (r := .agg (.own 3 1 (List.length v13.C.Regs) (fl (eI .i64) v13.C.Regs) :: ru39 v13.C [.own 3 1 (List.length v13.Mem) (fl (eI .i64) v13.Mem), .own 3 1 (List.length v13.In) (fl (eI .i64) v13.In), .own 3 1 (List.length v13.Out) (fl (eI .i64) v13.Out)])) (v := .agg (.sref 20 [] 0 (List.length v13.C.Regs) 1 :: ru39 v13.C [.sref 21 [] 0 (List.length v13.Mem) 1, .sref 22 [] 0 (List.length v13.In) 1, .sref 23 [] 0 (List.length v13.Out) 1])) (Hr := [(23, some q26), (22, some q27), (21, some q28), (20, some q29)]) (n' := 24) (laws_toBare_fn hv13) (clz_v (vs := [.agg (B_43 x_aB)]) (by kernel_rfl) (clz_c (clo_same (clean_agg (cl_B_43 _))) clz_n)) (by simp only [ru39, AV.noRef, noRefs, Bool.and_self, noRefs_fl nr_eI]) (by simp only [ru39, AV.noBor, noBors, Bool.and_self, noBors_fl nb_eI]) (by kernel_rfl) ?_)
  refine yj 1  (sp 74 [(1, .int .i64 x_aSteps), (2, pp 0), (6, pp 5), (8, pp 15), (10, .int .i64 v11.2.2.2.2), (57, .bool (!decide (v12 = v11.2.2.2.2))), (58, .agg (B_43 x_aB)), (59, .agg (.sref 20 [] 0 (List.length v13.C.Regs) 1 :: ru39 v13.C [.sref 21 [] 0 (List.length v13.Mem) 1, .sref 22 [] 0 (List.length v13.In) 1, .sref 23 [] 0 (List.length v13.Out) 1])), (60, .int .i64 x_aSteps)]) [(23, some q26), (22, some q27), (21, some q28), (20, some q29), (0, some ⟨58, (B_43 x_aB)⟩), (5, some ⟨43, (B_43 v3)⟩), (11, some q22), (12, some q23), (13, some q24), (14, some q25), (15, some q14)] 24 ?_
  obtain ⟨v14, hv14, hh⟩ := bind_some hh
  let q30 : Root := ⟨3, (fl (eI .i64) v14.Out)⟩
  let q31 : Root := ⟨3, (fl (eI .i64) v14.In)⟩
  let q32 : Root := ⟨3, (fl (eI .i64) v14.Mem)⟩
  let q33 : Root := ⟨3, (fl (eI .i64) v14.C.Regs)⟩
  refine ys (.call 41 [(.t 59), (.t 60)]) (some 61) (op_call (r := .agg (.own 3 1 (List.length v14.C.Regs) (fl (eI .i64) v14.C.Regs) :: ru39 v14.C [.own 3 1 (List.length v14.Mem) (fl (eI .i64) v14.Mem), .own 3 1 (List.length v14.In) (fl (eI .i64) v14.In), .own 3 1 (List.length v14.Out) (fl (eI .i64) v14.Out)])) (v := .agg (.sref 24 [] 0 (List.length v14.C.Regs) 1 :: ru39 v14.C [.sref 25 [] 0 (List.length v14.Mem) 1, .sref 26 [] 0 (List.length v14.In) 1, .sref 27 [] 0 (List.length v14.Out) 1])) (Hr := [(27, some q30), (26, some q31), (25, some q32), (24, some q33)]) (n' := 28) (impl_BareRun_fn hv14) (clz_v (vs := [.agg (.sref 20 [] 0 (List.length v13.C.Regs) 1 :: ru39 v13.C [.sref 21 [] 0 (List.length v13.Mem) 1, .sref 22 [] 0 (List.length v13.In) 1, .sref 23 [] 0 (List.length v13.Out) 1]), .int .i64 x_aSteps]) (by kernel_rfl) (clz_c (clo_agg (clos_c (clo_own (c := (eI .i64)) (xs := v13.C.Regs) (e := 3) (by first | rfl | omega | (simp only [List.length_set, over_len, List.length_replicate, List.length_append, List.length_cons, List.length_nil, List.length_take, List.length_drop] <;> omega)) len_eI no_eI cl_eI (by kernel_rfl)) (cs1 (cs1 (cs1 (cs1 (cs1 (cs1 (cs1 (cs1 (cs1 (cs1 (cs1 (cs1 (clos_c (clo_own (c := (eI .i64)) (xs := v13.Mem) (e := 3) (by first | rfl | omega | (simp only [List.length_set, over_len, List.length_replicate, List.length_append, List.length_cons, List.length_nil, List.length_take, List.length_drop] <;> omega)) len_eI no_eI cl_eI (by kernel_rfl)) (clos_c (clo_own (c := (eI .i64)) (xs := v13.In) (e := 3) (by first | rfl | omega | (simp only [List.length_set, over_len, List.length_replicate, List.length_append, List.length_cons, List.length_nil, List.length_take, List.length_drop] <;> omega)) len_eI no_eI cl_eI (by kernel_rfl)) (clos_c (clo_own (c := (eI .i64)) (xs := v13.Out) (e := 3) (by first | rfl | omega | (simp only [List.length_set, over_len, List.length_replicate, List.length_append, List.length_cons, List.length_nil, List.length_take, List.length_drop] <;> omega)) len_eI no_eI cl_eI (by kernel_rfl)) clos_n))))))))))))))))) (cz1 clz_n))) (by simp only [ru39, AV.noRef, noRefs, Bool.and_self, noRefs_fl nr_eI]) (by simp only [ru39, AV.noBor, noBors, Bool.and_self, noBors_fl nb_eI]) (by kernel_rfl) ?_)
  let q34 : Root := ⟨43, (.sref 24 [] 0 (List.length v14.C.Regs) 1 :: ru39 v14.C [.sref 25 [] 0 (List.length v14.Mem) 1, .sref 26 [] 0 (List.length v14.In) 1, .sref 27 [] 0 (List.length v14.Out) 1])⟩
  refine yt (sp 74 [(6, pp 5), (8, pp 15), (10, .int .i64 v11.2.2.2.2), (12, pp 28)]) [(5, some ⟨43, (B_43 v3)⟩), (11, some q22), (12, some q23), (13, some q24), (14, some q25), (15, some q14), (24, some q33), (25, some q32), (26, some q31), (27, some q30), (28, some q34)] 29 ?_
  refine Aw.seq ?_
  refine Aw.sreg [8, 10, 65] [11, 12, 13, 14, 15] ?_
  refine yj 2  (sp 74 [(6, pp 5), (8, pp 15), (10, .int .i64 v11.2.2.2.2), (12, pp 28), (62, .agg (.sref 24 [] 0 (List.length v14.C.Regs) 1 :: ru39 v14.C [.sref 25 [] 0 (List.length v14.Mem) 1, .sref 26 [] 0 (List.length v14.In) 1, .sref 27 [] 0 (List.length v14.Out) 1])), (63, .agg (B_43 v3))]) [(5, some ⟨43, (B_43 v3)⟩), (11, some q22), (12, some q23), (13, some q24), (14, some q25), (15, some q14), (24, some q33), (25, some q32), (26, some q31), (27, some q30), (28, some q34)] 29 ?_
  obtain ⟨v15, hv15, hh⟩ := bind_some hh
  refine ys (.call 48 [(.t 62), (.t 63)]) (some 64) (op_call (r := .bool v15) (v := .bool v15) (Hr := []) (n' := 29) (laws_eqBare_fn hv15) (clz_v (vs := [.agg (.sref 24 [] 0 (List.length v14.C.Regs) 1 :: ru39 v14.C [.sref 25 [] 0 (List.length v14.Mem) 1, .sref 26 [] 0 (List.length v14.In) 1, .sref 27 [] 0 (List.length v14.Out) 1]), .agg (B_43 v3)]) (by kernel_rfl) (clz_c (clo_agg (clos_c (clo_own (c := (eI .i64)) (xs := v14.C.Regs) (e := 3) (by first | rfl | omega | (simp only [List.length_set, over_len, List.length_replicate, List.length_append, List.length_cons, List.length_nil, List.length_take, List.length_drop] <;> omega)) len_eI no_eI cl_eI (by kernel_rfl)) (cs1 (cs1 (cs1 (cs1 (cs1 (cs1 (cs1 (cs1 (cs1 (cs1 (cs1 (cs1 (clos_c (clo_own (c := (eI .i64)) (xs := v14.Mem) (e := 3) (by first | rfl | omega | (simp only [List.length_set, over_len, List.length_replicate, List.length_append, List.length_cons, List.length_nil, List.length_take, List.length_drop] <;> omega)) len_eI no_eI cl_eI (by kernel_rfl)) (clos_c (clo_own (c := (eI .i64)) (xs := v14.In) (e := 3) (by first | rfl | omega | (simp only [List.length_set, over_len, List.length_replicate, List.length_append, List.length_cons, List.length_nil, List.length_take, List.length_drop] <;> omega)) len_eI no_eI cl_eI (by kernel_rfl)) (clos_c (clo_own (c := (eI .i64)) (xs := v14.Out) (e := 3) (by first | rfl | omega | (simp only [List.length_set, over_len, List.length_replicate, List.length_append, List.length_cons, List.length_nil, List.length_take, List.length_drop] <;> omega)) len_eI no_eI cl_eI (by kernel_rfl)) clos_n))))))))))))))))) (clz_c (clo_same (clean_agg (cl_B_43 _))) clz_n))) rfl rfl (by kernel_rfl) ?_)
  refine yt (sp 74 [(8, pp 15), (10, .int .i64 v11.2.2.2.2), (65, .bool (!v15))]) [(11, some q22), (12, some q23), (13, some q24), (14, some q25), (15, some q14)] 29 ?_
  rcases cond_some hh with ⟨hb, hh⟩ | ⟨hb, hh⟩
  · refine Aw.condT (by kernel_rfl) hb ?_
    refine Aw.sreg [4] [] ?_
    refine yt (sp 74 [(4, .bool false)]) [] 29 ?_
    refine Aw.ret ?_
    refine then_r ?_
    rw [some_some hh]
    exact gvb
  refine Aw.condF (by kernel_rfl) hb ?_
  refine Aw.xskip (fun _ _ _ hq => then_m hq) ?_
  refine Aw.sreg [8, 10, 11] [11, 12, 13, 14, 15] ?_
  refine yt (sp 74 [(8, pp 15), (10, .int .i64 v11.2.2.2.2), (11, .int .i64 (1 : Int))]) [(11, some q22), (12, some q23), (13, some q24), (14, some q25), (15, some q14)] 29 ?_
  refine Aw.sreg [10, 11] [] ?_
  refine yj 2  (sp 74 [(8, pp 15), (10, .int .i64 v11.2.2.2.2), (11, .int .i64 (1 : Int)), (66, .agg (.sref 11 [] 0 (List.length v5.C.Regs) 1 :: ru39 v5.C [.sref 12 [] 0 (List.length v5.Mem) 1, .sref 13 [] 0 (List.length v5.In) 1, .sref 14 [] 0 (List.length v5.Out) 1])), (67, .int .i64 (1 : Int))]) [(11, some q22), (12, some q23), (13, some q24), (14, some q25), (15, some q14)] 29 ?_
  obtain ⟨v16, hv16, hh⟩ := bind_some hh
  refine ys (.call 50 [(.t 66), (.t 67)]) (some 68) (op_call (r := .int .i64 v16) (v := .int .i64 v16) (Hr := []) (n' := 29) (laws_heldBare_fn hv16) (clz_v (vs := [.agg (.sref 11 [] 0 (List.length v5.C.Regs) 1 :: ru39 v5.C [.sref 12 [] 0 (List.length v5.Mem) 1, .sref 13 [] 0 (List.length v5.In) 1, .sref 14 [] 0 (List.length v5.Out) 1]), .int .i64 (1 : Int)]) (by kernel_rfl) (clz_c (clo_agg (clos_c (clo_own (c := (eI .i64)) (xs := v11.1) (e := 3) (by first | rfl | omega | (simp only [List.length_set, over_len, List.length_replicate, List.length_append, List.length_cons, List.length_nil, List.length_take, List.length_drop] <;> omega)) len_eI no_eI cl_eI (by kernel_rfl)) (cs1 (cs1 (cs1 (cs1 (cs1 (cs1 (cs1 (cs1 (cs1 (cs1 (cs1 (cs1 (clos_c (clo_own (c := (eI .i64)) (xs := v11.2.1) (e := 3) (by first | rfl | omega | (simp only [List.length_set, over_len, List.length_replicate, List.length_append, List.length_cons, List.length_nil, List.length_take, List.length_drop] <;> omega)) len_eI no_eI cl_eI (by kernel_rfl)) (clos_c (clo_own (c := (eI .i64)) (xs := v11.2.2.1) (e := 3) (by first | rfl | omega | (simp only [List.length_set, over_len, List.length_replicate, List.length_append, List.length_cons, List.length_nil, List.length_take, List.length_drop] <;> omega)) len_eI no_eI cl_eI (by kernel_rfl)) (clos_c (clo_own (c := (eI .i64)) (xs := v11.2.2.2.1) (e := 3) (by first | rfl | omega | (simp only [List.length_set, over_len, List.length_replicate, List.length_append, List.length_cons, List.length_nil, List.length_take, List.length_drop] <;> omega)) len_eI no_eI cl_eI (by kernel_rfl)) clos_n))))))))))))))))) (cz1 clz_n))) rfl rfl (by kernel_rfl) ?_)
  refine yt (sp 74 [(10, .int .i64 v11.2.2.2.2), (11, .int .i64 v16)]) [] 29 ?_
  refine Aw.seq ?_
  refine Aw.sreg [10, 11, 70] [] ?_
  refine yt (sp 74 [(10, .int .i64 v11.2.2.2.2), (11, .int .i64 v16), (70, .bool (decide (v16 < (0 : Int))))]) [] 29 ?_
  rcases cond_some hh with ⟨hb, hh⟩ | ⟨hb, hh⟩
  · refine Aw.condT (by kernel_rfl) hb ?_
    refine Aw.sreg [4] [] ?_
    refine yt (sp 74 [(4, .bool false)]) [] 29 ?_
    refine Aw.ret ?_
    refine then_r ?_
    rw [some_some hh]
    exact gvb
  refine Aw.condF (by kernel_rfl) hb ?_
  refine Aw.xskip (fun _ _ _ hq => then_m hq) ?_
  refine Aw.seq ?_
  refine Aw.sreg [73] [] ?_
  refine yt (sp 74 [(73, .bool (!decide (v16 = v11.2.2.2.2)))]) [] 29 ?_
  rcases cond_some hh with ⟨hb, hh⟩ | ⟨hb, hh⟩
  · refine Aw.condT (by kernel_rfl) hb ?_
    refine Aw.sreg [4] [] ?_
    refine yt (sp 74 [(4, .bool false)]) [] 29 ?_
    refine Aw.ret ?_
    refine then_r ?_
    rw [some_some hh]
    exact gvb
  refine Aw.condF (by kernel_rfl) hb ?_
  refine Aw.xskip (fun _ _ _ hq => then_m hq) ?_
  refine Aw.sreg [4] [] ?_
  refine yt (sp 74 [(4, .bool true)]) [] 29 ?_
  refine Aw.ret ?_
  rw [some_some hh]
  exact gvb

end Go.Proofs.Ythbefahhpikcaaa
