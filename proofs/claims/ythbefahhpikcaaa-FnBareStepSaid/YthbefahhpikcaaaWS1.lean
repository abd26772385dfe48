/- Plain functions of the program, and that it hands back what they say. Made by program. -/
import Derived.Test.YthbefahhpikcaaaWT
import Derived.Test.YthbefahhpikcaaaProg
import Derived.Test.YthbefahhpikcaaaWD1
import Derived.Test.YthbefahhpikcaaaWG1
import Derived.Test.YthbefahhpikcaaaWO1
import Derived.Test.YthbefahhpikcaaaWP1
import Derived.Test.YthbefahhpikcaaaWP2
import Derived.Test.YthbefahhpikcaaaWV1
namespace Go.Proofs.Ythbefahhpikcaaa
open Go.RowKit
set_option maxRecDepth 100000
set_option linter.all false
set_option maxHeartbeats 0
def Lf35_r0 : List LOper := [oo 2 (.fresh 43 [.nil, (ii 0), (ii 0), (ii 0), (ii 0), (bb false), (ii 0), (ii 0), (ii 0), (bb false), (bb false), (bb false), (bb false), .nil, .nil, .nil])]
def Lf35_r1 : List LOper := [om 6 0, oo 7 (.call 52 [(.t 6)]), om 3 7]
def Lf35_r2 : List LOper := [om 8 3, oo 9 (.call 63 [(.t 8), (.c (ii 25))]), oo 4 (.fresh 43 [.nil, (ii 0), (ii 0), (ii 0), (ii 0), (bb false), (ii 0), (ii 0), (ii 0), (bb false), (bb false), (bb false), (bb false), .nil, .nil, .nil]), ⟨none, (.store 16 (.t 4) (.t 9)), none⟩]
def Lf35_r3 : List LOper := [om 10 3, oo 11 (.call 55 [(.t 10), (.c (ii 3))]), oo 12 (.bin .eql (.t 11) (.c (ii 0))), om 13 12, ⟨(some 14), (.fadr 13 (.t 4)), (some (13, true))⟩, ⟨(some 15), (.load false 1 (.t 14)), (some (13, true))⟩, ⟨(some 16), (.len (.t 15)), (some (13, true))⟩, ⟨(some 17), (.bin .eql (.t 16) (.c (ii 64))), (some (13, true))⟩, oo 18 (.pick (.t 13) (.t 17) (.c (bb false))), om 19 18, ⟨(some 20), (.fadr 0 (.t 4)), (some (19, true))⟩, ⟨(some 21), (.fadr 0 (.t 20)), (some (19, true))⟩, ⟨(some 22), (.load false 1 (.t 21)), (some (19, true))⟩, ⟨(some 23), (.len (.t 22)), (some (19, true))⟩, ⟨(some 24), (.bin .eql (.t 23) (.c (ii 4))), (some (19, true))⟩, oo 25 (.pick (.t 19) (.t 24) (.c (bb false))), om 26 25, ⟨(some 27), (.fadr 0 (.t 4)), (some (26, true))⟩, ⟨(some 28), (.load true 13 (.t 27)), (some (26, true))⟩, ⟨(some 29), (.call 31 [(.t 28)]), (some (26, true))⟩, oo 30 (.pick (.t 26) (.t 29) (.c (bb false)))]
def Lf35_r4 : List LOper := [oo 31 (.fadr 13 (.t 4)), oo 32 (.load false 1 (.t 31)), oo 33 (.fadr 0 (.t 4)), oo 34 (.fadr 2 (.t 33)), oo 35 (.load false 1 (.t 34)), oo 36 (.fadr 0 (.t 4)), oo 37 (.fadr 1 (.t 36)), oo 38 (.load false 1 (.t 37)), oo 39 (.fadr 0 (.t 4)), oo 40 (.fadr 10 (.t 39)), oo 41 (.load false 1 (.t 40)), oo 42 (.call 28 [(.t 32), (.t 35), (.t 38), (.t 41), (.c (bb false))]), om 5 42]
def Lf35_r5 : List LOper := [om 43 5, oo 44 (.bin .geq (.t 43) (.c (ii 0)))]
def Lf35_r6 : List LOper := [oo 45 (.fadr 13 (.t 4)), oo 46 (.load false 1 (.t 45)), om 47 5, om 48 3, oo 49 (.call 67 [(.t 48), (.c (ii 0))]), oo 50 (.call 66 [(.t 49)]), oo 51 (.iadr 1 (.t 46) (.t 47))]
def Lf35_r6t : List LOper := [⟨none, (.store 1 (.t 51) (.t 50)), none⟩]
def Lf35_r8 : List LOper := [oo 52 (.load true 16 (.t 4)), ⟨none, (.store 16 (.t 2) (.t 52)), none⟩]
def Lf35 : LFun := ⟨53, [(.cell 2 true 16)], (.seq (.reg false Lf35_r0) (.seq (.reg false Lf35_r1) (.seq (.reg false Lf35_r2) (.seq (.seq (.reg false Lf35_r3) (.cond (.t 30) (.seq (.reg false Lf35_r4) (.seq (.reg false Lf35_r5) (.cond (.t 44) (.regd Lf35_r6 Lf35_r6t) .skip))) .skip)) (.seq (.reg false Lf35_r8) .ret)))))⟩
theorem low_spec_DrawBareStep : lowFun Go.Proofs.Try.prog 35 = some Lf35 := by kernel_rfl
noncomputable def F_spec_DrawBareStep_j3 (v2 : Dl20Rd × DBare) (s3 : (List Int)) : Option DBare :=
 some (DBare.mk v2.2.C s3 v2.2.In v2.2.Out)
noncomputable def F_spec_DrawBareStep (x_code : List Int) : Option DBare :=
 Option.bind (F_spec_l20Open x_code) fun v1 =>
 Option.bind (F_spec_l20Bare v1 (25 : Int)) fun v2 =>
 Option.bind (Option.bind (F___spec_l20Rd__pick v2.1 (3 : Int)) fun v4 =>
  cond (decide (v4.2 = (0 : Int)))
   (cond (decide ((((List.length v2.2.Mem) : Nat) : Int) = (64 : Int)))
    (cond (decide ((((List.length v2.2.C.Regs) : Nat) : Int) = (4 : Int)))
     (Option.bind (F_spec_CoreOk v2.2.C) fun v5 =>
     cond v5
      (Option.bind (F_spec_Walk v2.2.Mem v2.2.C.Root v2.2.C.Pc v2.2.C.User false) fun v6 =>
      cond (decide ((0 : Int) ≤ v6))
       (Option.bind (F_spec_l20Ins v4.1 (0 : Int)) fun v7 =>
       Option.bind (F_spec_InsWord v7.2) fun v8 =>
       grd ((0 : Int) ≤ v6 ∧ v6 < (((List.length v2.2.Mem) : Nat) : Int)) (some (.go (List.set v2.2.Mem (Int.toNat v6) v8))))
       (some (.go v2.2.Mem)))
      (some (.go v2.2.Mem)))
     (some (.go v2.2.Mem)))
    (some (.go v2.2.Mem)))
   (some (.go v2.2.Mem))) fun j3 =>
  JO.run j3 (F_spec_DrawBareStep_j3 v2)
theorem spec_DrawBareStep_fn {x_code : List Int} {R_ : DBare} (hh : F_spec_DrawBareStep x_code = some R_) : Fn Try.prog 35 [bo (eI .u8) x_code] (.agg (.own 3 1 (List.length R_.C.Regs) (fl (eI .i64) R_.C.Regs) :: ru39 R_.C [.own 3 1 (List.length R_.Mem) (fl (eI .i64) R_.Mem), .own 3 1 (List.length R_.In) (fl (eI .i64) R_.In), .own 3 1 (List.length R_.Out) (fl (eI .i64) R_.Out)])) := by
 unfold F_spec_DrawBareStep at hh
 refine Fn.start low_spec_DrawBareStep [0] (E := sp 53 [(0, bo (eI .u8) x_code)]) (by kernel_rfl) (v := .agg (.sref 0 [] 0 (List.length R_.C.Regs) 1 :: ru39 R_.C [.sref 1 [] 0 (List.length R_.Mem) 1, .sref 2 [] 0 (List.length R_.In) 1, .sref 3 [] 0 (List.length R_.Out) 1])) (Hr := [(3, some ⟨3, (fl (eI .i64) R_.Out)⟩), (2, some ⟨3, (fl (eI .i64) R_.In)⟩), (1, some ⟨3, (fl (eI .i64) R_.Mem)⟩), (0, some ⟨3, (fl (eI .i64) R_.C.Regs)⟩)]) (k := 4) (by kernel_rfl) ?_
 refine Aw.sreg [0, 2] [0] ?_
 let q1 : Root := ⟨43, (.nil :: zru39 [.nil, .nil, .nil])⟩
 refine yt (sp 53 [(0, bo (eI .u8) x_code), (2, pp 0)]) [(0, some q1)] 1 ?_
 refine Aw.sreg [2, 3] [0, 1] (yu 1 [(6, bo (eI .u8) x_code)] [(0, some q1)] 1 ?_)
 obtain ⟨v1, hv1, hh⟩ := bind_some hh
 refine ys (.call 52 [(.t 6)]) (some 7) (op_callf (v' := pp 1) (Hp' := [(1, some ⟨90, (B_90 v1)⟩)]) (n' := 2) [] (spec_l20Open_fn hv1) (args' := [bo (eI .u8) x_code]) (by kernel_rfl) rfl rfl rfl (rens_c (ren_bor (rens_same (noRefs_fl nr_eI))) rens_n) rfl hs_nil (ren_p (by decide) rfl) rfl (hq ⟨90, (B_90 v1)⟩ (rens_same (nr_B_90 _)) hs_nil) rfl ?_)
 refine yt (sp 53 [(2, pp 0), (3, pp 1)]) [(0, some q1), (1, some ⟨90, (B_90 v1)⟩)] 2 ?_
 refine Aw.sreg [2, 3, 4] [0, 1, 2, 3, 4, 5, 6] (yu 1 [(8, pp 1)] [(0, some q1), (1, some ⟨90, (B_90 v1)⟩)] 2 ?_)
 obtain ⟨v2, hv2, hh⟩ := bind_some hh
 let q2 : Root := ⟨3, (fl (eI .i64) v2.2.Out)⟩
 let q3 : Root := ⟨3, (fl (eI .i64) v2.2.In)⟩
 let q4 : Root := ⟨3, (fl (eI .i64) v2.2.Mem)⟩
 let q5 : Root := ⟨3, (fl (eI .i64) v2.2.C.Regs)⟩
 refine ys (.call 63 [(.t 8), (.c (ii 25))]) (some 9) (op_callf (v' := .agg (.sref 2 [] 0 (List.length v2.2.C.Regs) 1 :: ru39 v2.2.C [.sref 3 [] 0 (List.length v2.2.Mem) 1, .sref 4 [] 0 (List.length v2.2.In) 1, .sref 5 [] 0 (List.length v2.2.Out) 1])) (Hp' := [(5, some q2), (4, some q3), (3, some q4), (2, some q5), (1, some ⟨90, (B_90 v2.1)⟩)]) (n' := 6) [1] (spec_l20Bare_fn hv2) (args' := [pp 1, ii (25 : Int)]) (by kernel_rfl) rfl rfl rfl (rens_c (ren_p (by decide) rfl) (rens_i rens_n)) rfl (hq ⟨90, (B_90 v1)⟩ (rens_same (nr_B_90 _)) hs_nil) (ren_agg (rens_c ren_sx (rens_i (rens_i (rens_i (rens_i (rens_b (rens_i (rens_i (rens_i (rens_b (rens_b (rens_b (rens_b (rens_c ren_sx (rens_c ren_sx (rens_c ren_sx rens_n))))))))))))))))) rfl (hq q2 (rens_same (noRefs_fl nr_eI)) (hq q3 (rens_same (noRefs_fl nr_eI)) (hq q4 (rens_same (noRefs_fl nr_eI)) (hq q5 (rens_same (noRefs_fl nr_eI)) (hq ⟨90, (B_90 v2.1)⟩ (rens_same (nr_B_90 _)) hs_nil))))) rfl ?_)
 let q6 : Root := ⟨43, (.sref 2 [] 0 (List.length v2.2.C.Regs) 1 :: ru39 v2.2.C [.sref 3 [] 0 (List.length v2.2.Mem) 1, .sref 4 [] 0 (List.length v2.2.In) 1, .sref 5 [] 0 (List.length v2.2.Out) 1])⟩
 refine yt (sp 53 [(2, pp 0), (3, pp 1), (4, pp 6)]) [(0, some q1), (1, some ⟨90, (B_90 v2.1)⟩), (2, some q5), (3, some q4), (4, some q3), (5, some q2), (6, some q6)] 7 ?_
 obtain ⟨j3, hh, hk3⟩ := bind_some hh
 refine Aw.join (S := (List Int)) (fun s3 => sp 53 [(2, pp 0), (4, pp 1)]) (fun s3 => [(0, some ⟨43, (.nil :: zru39 [.nil, .nil, .nil])⟩), (1, some ⟨43, (.sref 2 [] 0 (List.length v2.2.C.Regs) 1 :: ru39 v2.2.C [.sref 3 [] 0 (List.length s3) 1, .sref 4 [] 0 (List.length v2.2.In) 1, .sref 5 [] 0 (List.length v2.2.Out) 1])⟩), (2, some ⟨3, (fl (eI .i64) v2.2.C.Regs)⟩), (3, some ⟨3, (fl (eI .i64) s3)⟩), (4, some ⟨3, (fl (eI .i64) v2.2.In)⟩), (5, some ⟨3, (fl (eI .i64) v2.2.Out)⟩)]) 6 (fun s3 => F_spec_DrawBareStep_j3 v2 s3 = some R_) ?_ ?_
 · intro s3 hh
   unfold F_spec_DrawBareStep_j3 at hh
   refine sy [2] [0, 2, 3, 4, 5] (sp 53 [(2, pp 0)]) [(0, some ⟨43, (.sref 2 [] 0 (List.length v2.2.C.Regs) 1 :: ru39 v2.2.C [.sref 3 [] 0 (List.length s3) 1, .sref 4 [] 0 (List.length v2.2.In) 1, .sref 5 [] 0 (List.length v2.2.Out) 1])⟩), (2, some q5), (3, some ⟨3, (fl (eI .i64) s3)⟩), (4, some q3), (5, some q2)] 6 ?_
   refine Aw.ret ?_
   rw [some_some hh]
   exact gives (r' := .agg (.sref 2 [] 0 (List.length v2.2.C.Regs) 1 :: ru39 v2.2.C [.sref 3 [] 0 (List.length s3) 1, .sref 4 [] 0 (List.length v2.2.In) 1, .sref 5 [] 0 (List.length v2.2.Out) 1])) (by kernel_rfl) (Ent.list [some 2, some 3, some 4, some 5] rfl rfl (Nat.zero_le _) (rens_1 (ren_agg (rens_c ren_sx (rens_i (rens_i (rens_i (rens_i (rens_b (rens_i (rens_i (rens_i (rens_b (rens_b (rens_b (rens_b (rens_c ren_sx (rens_c ren_sx (rens_c ren_sx rens_n)))))))))))))))))) (hq q2 (rens_same (noRefs_fl nr_eI)) (hq q3 (rens_same (noRefs_fl nr_eI)) (hq ⟨3, (fl (eI .i64) s3)⟩ (rens_same (noRefs_fl nr_eI)) (hq q5 (rens_same (noRefs_fl nr_eI)) hs_nil)))))
 intro Q3 hN3 hR3 hE3
 refine Aw.sreg [2, 3, 4, 30] [0, 1, 2, 3, 4, 5, 6] (yj 1  (sp 53 [(2, pp 0), (3, pp 1), (4, pp 6), (10, pp 1)]) [(0, some q1), (1, some ⟨90, (B_90 v2.1)⟩), (2, some q5), (3, some q4), (4, some q3), (5, some q2), (6, some q6)] 7 ?_)
 obtain ⟨v4, hv4, hh⟩ := bind_some hh
 refine ys (.call 55 [(.t 10), (.c (ii 3))]) (some 11) (op_callf (v' := ii v4.2) (Hp' := [(1, some ⟨90, (B_90 v4.1)⟩)]) (n' := 7) [1] (__spec_l20Rd__pick_fn hv4) (args' := [pp 1, ii (3 : Int)]) (by kernel_rfl) rfl rfl rfl (rens_c (ren_p (by decide) rfl) (rens_i rens_n)) rfl (hq ⟨90, (B_90 v2.1)⟩ (rens_same (nr_B_90 _)) hs_nil) ren_i rfl (hq ⟨90, (B_90 v4.1)⟩ (rens_same (nr_B_90 _)) hs_nil) rfl ?_)
 refine yu 2 [(11, ii v4.2), (12, bb (decide (v4.2 = (0 : Int)))), (13, bb (decide (v4.2 = (0 : Int))))] [(1, some ⟨90, (B_90 v4.1)⟩), (1, none), (0, some q1), (1, some ⟨90, (B_90 v2.1)⟩), (2, some q5), (3, some q4), (4, some q3), (5, some q2), (6, some q6)] 7 ?_
 rcases cond_some hh with ⟨hb, hh⟩ | ⟨hb, hh⟩
 · refine yb 12 hb ?_
   refine yb 13 hb ?_
   refine yu 6 [(12, bb true), (13, bb true), (14, .ptr 6 [] 13), (15, .sref 3 [] 0 (List.length v2.2.Mem) 1), (16, ii (((List.length v2.2.Mem) : Nat) : Int)), (17, bb (decide ((((List.length v2.2.Mem) : Nat) : Int) = (64 : Int)))), (18, bb (decide ((((List.length v2.2.Mem) : Nat) : Int) = (64 : Int)))), (19, bb (decide ((((List.length v2.2.Mem) : Nat) : Int) = (64 : Int))))] [(1, some ⟨90, (B_90 v4.1)⟩), (1, none), (0, some q1), (1, some ⟨90, (B_90 v2.1)⟩), (2, some q5), (3, some q4), (4, some q3), (5, some q2), (6, some q6)] 7 ?_
   rcases cond_some hh with ⟨hb, hh⟩ | ⟨hb, hh⟩
   · refine yb 17 hb ?_
     refine yb 18 hb ?_
     refine yb 19 hb ?_
     refine yu 7 [(17, bb true), (18, bb true), (19, bb true), (20, pp 6), (21, pp 6), (22, .sref 2 [] 0 (List.length v2.2.C.Regs) 1), (23, ii (((List.length v2.2.C.Regs) : Nat) : Int)), (24, bb (decide ((((List.length v2.2.C.Regs) : Nat) : Int) = (4 : Int)))), (25, bb (decide ((((List.length v2.2.C.Regs) : Nat) : Int) = (4 : Int)))), (26, bb (decide ((((List.length v2.2.C.Regs) : Nat) : Int) = (4 : Int))))] [(1, some ⟨90, (B_90 v4.1)⟩), (1, none), (0, some q1), (1, some ⟨90, (B_90 v2.1)⟩), (2, some q5), (3, some q4), (4, some q3), (5, some q2), (6, some q6)] 7 ?_
     rcases cond_some hh with ⟨hb, hh⟩ | ⟨hb, hh⟩
     · refine yb 24 hb ?_
       refine yb 25 hb ?_
       refine yb 26 hb ?_
       refine yu 2 [(24, bb true), (25, bb true), (26, bb true), (27, pp 6), (28, .agg (.sref 2 [] 0 (List.length v2.2.C.Regs) 1 :: ru39 v2.2.C []))] [(1, some ⟨90, (B_90 v4.1)⟩), (1, none), (0, some q1), (1, some ⟨90, (B_90 v2.1)⟩), (2, some q5), (3, some q4), (4, some q3), (5, some q2), (6, some q6)] 7 ?_
       obtain ⟨v5, hv5, hh⟩ := bind_some hh
       refine yg (.call 31 [(.t 28)]) (some 29) 26 true (op_call (r := bb v5) (v := bb v5) (Hr := []) (n' := 7) (spec_CoreOk_fn hv5) (clz_v (vs := [.agg (.sref 2 [] 0 (List.length v2.2.C.Regs) 1 :: ru39 v2.2.C [])]) (by kernel_rfl) (clz_c (clo_agg (clos_c (clo_own (c := (eI .i64)) (xs := v2.2.C.Regs) (e := 3) (by first | rfl | omega | (simp only [List.length_set, over_len, List.length_replicate, List.length_append, List.length_cons, List.length_nil, List.length_take, List.length_drop] <;> omega)) len_eI no_eI cl_eI (by kernel_rfl)) (cs1 (cs1 (cs1 (cs1 (cs1 (cs1 (cs1 (cs1 (cs1 (cs1 (cs1 (cs1 clos_n)))))))))))))) clz_n)) rfl rfl (by kernel_rfl) ?_)
       refine yt (sp 53 [(2, pp 0), (3, pp 1), (4, pp 6), (30, bb v5)]) [(0, some q1), (1, some ⟨90, (B_90 v4.1)⟩), (2, some q5), (3, some q4), (4, some q3), (5, some q2), (6, some q6)] 7 ?_
       rcases cond_some hh with ⟨hb, hh⟩ | ⟨hb, hh⟩
       · refine cT hb ?_
         refine Aw.sreg [2, 3, 4, 5] [0, 1, 2, 3, 4, 5, 6] (yu 11 [(31, .ptr 6 [] 13), (32, .sref 3 [] 0 (List.length v2.2.Mem) 1), (33, pp 6), (34, .ptr 6 [] 2), (35, ii v2.2.C.Root), (36, pp 6), (37, .ptr 6 [] 1), (38, ii v2.2.C.Pc), (39, pp 6), (40, .ptr 6 [] 10), (41, bb v2.2.C.User)] [(0, some q1), (1, some ⟨90, (B_90 v4.1)⟩), (2, some q5), (3, some q4), (4, some q3), (5, some q2), (6, some q6)] 7 ?_)
         obtain ⟨v6, hv6, hh⟩ := bind_some hh
         refine ys (.call 28 [(.t 32), (.t 35), (.t 38), (.t 41), (.c (bb false))]) (some 42) (op_call (r := ii v6) (v := ii v6) (Hr := []) (n' := 7) (spec_Walk_fn hv6) (clz_v (vs := [.sref 3 [] 0 (List.length v2.2.Mem) 1, ii v2.2.C.Root, ii v2.2.C.Pc, bb v2.2.C.User, bb false]) (by kernel_rfl) (clz_c (clo_own (c := (eI .i64)) (xs := v2.2.Mem) (e := 3) (by first | rfl | omega | (simp only [List.length_set, over_len, List.length_replicate, List.length_append, List.length_cons, List.length_nil, List.length_take, List.length_drop] <;> omega)) len_eI no_eI cl_eI (by kernel_rfl)) (cz1 (cz1 (cz1 (cz1 clz_n)))))) rfl rfl (by kernel_rfl) ?_)
         refine yt (sp 53 [(2, pp 0), (3, pp 1), (4, pp 6), (5, ii v6)]) [(0, some q1), (1, some ⟨90, (B_90 v4.1)⟩), (2, some q5), (3, some q4), (4, some q3), (5, some q2), (6, some q6)] 7 ?_
         refine sy [2, 3, 4, 5, 44] [0, 1, 2, 3, 4, 5, 6] (sp 53 [(2, pp 0), (3, pp 1), (4, pp 6), (5, ii v6), (44, bb (decide ((0 : Int) ≤ v6)))]) [(0, some q1), (1, some ⟨90, (B_90 v4.1)⟩), (2, some q5), (3, some q4), (4, some q3), (5, some q2), (6, some q6)] 7 ?_
         rcases cond_some hh with ⟨hb, hh⟩ | ⟨hb, hh⟩
         · refine cT hb ?_
           refine Aw.oregd [1] (by kernel_rfl) ?_
           refine dc (cs := []) (E' := (sp 53 [(2, pp 0), (3, pp 1), (4, pp 6), (5, ii v6), (44, bb (decide ((0 : Int) ≤ v6))), (45, .ptr 6 [] 13), (46, .sref 3 [] 0 (List.length v2.2.Mem) 1), (47, ii v6), (48, pp 1)])) (H' := [(0, some q1), (1, some ⟨90, (B_90 v4.1)⟩), (2, some q5), (3, some q4), (4, some q3), (5, some q2), (6, some q6)]) (n' := 7) (fs' := none) (pre := (List.take 4 Lf35_r6)) (L' := (List.drop 4 Lf35_r6)) (by kernel_rfl) (fun K => by kernel_rfl) .nil ?_
           obtain ⟨v7, hv7, hh⟩ := bind_some hh
           refine ds (.call 67 [(.t 48), (.c (ii 0))]) (some 49) (ydo_n rfl (op_callf (v' := .agg (C_76 v7.2)) (Hp' := [(1, some ⟨90, (B_90 v7.1)⟩)]) (n' := 7) [1] (spec_l20Ins_fn hv7) (args' := [pp 1, ii (0 : Int)]) (by kernel_rfl) rfl rfl rfl (rens_c (ren_p (by decide) rfl) (rens_i rens_n)) rfl (hq ⟨90, (B_90 v4.1)⟩ (rens_same (nr_B_90 _)) hs_nil) (ren_agg (rens_same (nr_C_76 _))) rfl (hq ⟨90, (B_90 v7.1)⟩ (rens_same (nr_B_90 _)) hs_nil) rfl ⟨⟨agr_callf rfl rfl, Hld.un ?_⟩⟩))
           obtain ⟨v8, hv8, hh⟩ := bind_some hh
           refine ds (.call 66 [(.t 49)]) (some 50) (ydo_n rfl (op_call (r := ii v8) (v := ii v8) (Hr := []) (n' := 7) (spec_InsWord_fn hv8) (clz_v (vs := [.agg (C_76 v7.2)]) (by kernel_rfl) (cz1 clz_n)) rfl rfl (by kernel_rfl) ⟨⟨agr_name (n := 7) (n0 := 7) (r := ii v8) (v := ii v8) (Hr := []) (n' := 7) (by kernel_rfl) (by decide), Hld.un ?_⟩⟩))
           obtain ⟨hg6, hh⟩ := grd_some hh
           refine dct (cs := [(0 : Int) ≤ v6 ∧ v6 < (((List.length v2.2.Mem) : Nat) : Int)]) (E' := (sp 53 [(2, pp 0), (3, pp 1), (4, pp 6), (5, ii v6), (44, bb (decide ((0 : Int) ≤ v6))), (45, .ptr 6 [] 13), (46, .sref 3 [] 0 (List.length v2.2.Mem) 1), (47, ii v6), (48, pp 1), (49, .agg (C_76 v7.2)), (50, ii v8), (51, .ptr 3 [] (0 + (Int.toNat v6) * 1))])) (H' := [(1, some ⟨90, (B_90 v7.1)⟩), (1, none), (0, some q1), (1, some ⟨90, (B_90 v4.1)⟩), (2, some q5), (3, some q4), (4, some q3), (5, some q2), (6, some q6)]) (n' := 7) (fun K => by kernel_rfl) (.cons hg6 .nil) ?_
           let q7 : Root := ⟨3, (fl (eI .i64) (List.set v2.2.Mem (Int.toNat v6) v8))⟩
           refine ys (.store 1 (.t 51) (.t 50)) none (op_store (c := (eI .i64)) (xs := v2.2.Mem) (e := 3) (r := 3) (π := []) (o := 0 + (Int.toNat v6) * 1) (i := (Int.toNat v6)) (off := 0) (vs := [ii v8]) (y := v8) (H' := [(3, some q7), (1, some ⟨90, (B_90 v7.1)⟩), (1, none), (0, some q1), (1, some ⟨90, (B_90 v4.1)⟩), (2, some q5), (3, some q4), (4, some q3), (5, some q2), (6, some q6)]) len_eI (by kernel_rfl) (by kernel_rfl) (by kernel_rfl) (by kernel_rfl) (by omega) (by omega) (by decide) (by kernel_rfl) (by kernel_rfl) ?_)
           refine ye (sp 53 [(2, pp 0), (3, pp 1), (4, pp 6), (5, ii v6), (44, bb (decide ((0 : Int) ≤ v6))), (45, .ptr 6 [] 13), (46, .sref 3 [] 0 (List.length v2.2.Mem) 1), (47, ii v6), (48, pp 1), (49, .agg (C_76 v7.2)), (50, ii v8), (51, .ptr 3 [] (0 + (Int.toNat v6) * 1))]) [(3, some q7), (1, some ⟨90, (B_90 v7.1)⟩), (1, none), (0, some q1), (1, some ⟨90, (B_90 v4.1)⟩), (2, some q5), (3, some q4), (4, some q3), (5, some q2), (6, some q6)] 7 ?_
           obtain rfl := some_some hh
           exact hN3 (List.set v2.2.Mem (Int.toNat v6) v8) _ _ _ hk3 (Ent.list2 [some 0, some 6, some 2, some 3, some 4, some 5] rfl rfl (by decide) (rens_sp (by kernel_rfl) (rl_c (u := pp 0) (by kernel_rfl) (ren_p (by decide) rfl) (rl_c (u := pp 6) (by kernel_rfl) (ren_p (by decide) rfl) rl_n))) (hq q1 (rens_c ren_nil (rens_i (rens_i (rens_i (rens_i (rens_b (rens_i (rens_i (rens_i (rens_b (rens_b (rens_b (rens_b (rens_c ren_nil (rens_c ren_nil (rens_c ren_nil rens_n)))))))))))))))) (hq q6 (rens_c ren_sx (rens_i (rens_i (rens_i (rens_i (rens_b (rens_i (rens_i (rens_i (rens_b (rens_b (rens_b (rens_b (rens_c ren_sx (rens_c ren_sx (rens_c ren_sx rens_n)))))))))))))))) (hq q5 (rens_same (noRefs_fl nr_eI)) (hq q7 (rens_same (noRefs_fl nr_eI)) (hq q3 (rens_same (noRefs_fl nr_eI)) (hq q2 (rens_same (noRefs_fl nr_eI)) hs_nil)))))))
         refine cF hb ?_
         refine Aw.skip ?_
         obtain rfl := some_some hh
         exact hN3 v2.2.Mem _ _ _ hk3 (Ent.list2 [some 0, some 6, some 2, some 3, some 4, some 5] rfl rfl (by decide) (rens_sp (by kernel_rfl) (rl_c (u := pp 0) (by kernel_rfl) (ren_p (by decide) rfl) (rl_c (u := pp 6) (by kernel_rfl) (ren_p (by decide) rfl) rl_n))) (hq q1 (rens_c ren_nil (rens_i (rens_i (rens_i (rens_i (rens_b (rens_i (rens_i (rens_i (rens_b (rens_b (rens_b (rens_b (rens_c ren_nil (rens_c ren_nil (rens_c ren_nil rens_n)))))))))))))))) (hq q6 (rens_c ren_sx (rens_i (rens_i (rens_i (rens_i (rens_b (rens_i (rens_i (rens_i (rens_b (rens_b (rens_b (rens_b (rens_c ren_sx (rens_c ren_sx (rens_c ren_sx rens_n)))))))))))))))) (hq q5 (rens_same (noRefs_fl nr_eI)) (hq q4 (rens_same (noRefs_fl nr_eI)) (hq q3 (rens_same (noRefs_fl nr_eI)) (hq q2 (rens_same (noRefs_fl nr_eI)) hs_nil)))))))
       refine cF hb ?_
       refine Aw.skip ?_
       obtain rfl := some_some hh
       exact hN3 v2.2.Mem _ _ _ hk3 (Ent.list2 [some 0, some 6, some 2, some 3, some 4, some 5] rfl rfl (by decide) (rens_sp (by kernel_rfl) (rl_c (u := pp 0) (by kernel_rfl) (ren_p (by decide) rfl) (rl_c (u := pp 6) (by kernel_rfl) (ren_p (by decide) rfl) rl_n))) (hq q1 (rens_c ren_nil (rens_i (rens_i (rens_i (rens_i (rens_b (rens_i (rens_i (rens_i (rens_b (rens_b (rens_b (rens_b (rens_c ren_nil (rens_c ren_nil (rens_c ren_nil rens_n)))))))))))))))) (hq q6 (rens_c ren_sx (rens_i (rens_i (rens_i (rens_i (rens_b (rens_i (rens_i (rens_i (rens_b (rens_b (rens_b (rens_b (rens_c ren_sx (rens_c ren_sx (rens_c ren_sx rens_n)))))))))))))))) (hq q5 (rens_same (noRefs_fl nr_eI)) (hq q4 (rens_same (noRefs_fl nr_eI)) (hq q3 (rens_same (noRefs_fl nr_eI)) (hq q2 (rens_same (noRefs_fl nr_eI)) hs_nil)))))))
     refine yb 24 hb ?_
     refine yb 25 hb ?_
     refine yb 26 hb ?_
     refine yt (sp 53 [(2, pp 0), (3, pp 1), (4, pp 6), (30, bb false)]) [(0, some q1), (1, some ⟨90, (B_90 v4.1)⟩), (2, some q5), (3, some q4), (4, some q3), (5, some q2), (6, some q6)] 7 ?_
     refine cF rfl ?_
     refine Aw.skip ?_
     obtain rfl := some_some hh
     exact hN3 v2.2.Mem _ _ _ hk3 (Ent.list2 [some 0, some 6, some 2, some 3, some 4, some 5] rfl rfl (by decide) (rens_sp (by kernel_rfl) (rl_c (u := pp 0) (by kernel_rfl) (ren_p (by decide) rfl) (rl_c (u := pp 6) (by kernel_rfl) (ren_p (by decide) rfl) rl_n))) (hq q1 (rens_c ren_nil (rens_i (rens_i (rens_i (rens_i (rens_b (rens_i (rens_i (rens_i (rens_b (rens_b (rens_b (rens_b (rens_c ren_nil (rens_c ren_nil (rens_c ren_nil rens_n)))))))))))))))) (hq q6 (rens_c ren_sx (rens_i (rens_i (rens_i (rens_i (rens_b (rens_i (rens_i (rens_i (rens_b (rens_b (rens_b (rens_b (rens_c ren_sx (rens_c ren_sx (rens_c ren_sx rens_n)))))))))))))))) (hq q5 (rens_same (noRefs_fl nr_eI)) (hq q4 (rens_same (noRefs_fl nr_eI)) (hq q3 (rens_same (noRefs_fl nr_eI)) (hq q2 (rens_same (noRefs_fl nr_eI)) hs_nil)))))))
   refine yb 17 hb ?_
   refine yb 18 hb ?_
   refine yb 19 hb ?_
   refine yt (sp 53 [(2, pp 0), (3, pp 1), (4, pp 6), (30, bb false)]) [(0, some q1), (1, some ⟨90, (B_90 v4.1)⟩), (2, some q5), (3, some q4), (4, some q3), (5, some q2), (6, some q6)] 7 ?_
   refine cF rfl ?_
   refine Aw.skip ?_
   obtain rfl := some_some hh
   exact hN3 v2.2.Mem _ _ _ hk3 (Ent.list2 [some 0, some 6, some 2, some 3, some 4, some 5] rfl rfl (by decide) (rens_sp (by kernel_rfl) (rl_c (u := pp 0) (by kernel_rfl) (ren_p (by decide) rfl) (rl_c (u := pp 6) (by kernel_rfl) (ren_p (by decide) rfl) rl_n))) (hq q1 (rens_c ren_nil (rens_i (rens_i (rens_i (rens_i (rens_b (rens_i (rens_i (rens_i (rens_b (rens_b (rens_b (rens_b (rens_c ren_nil (rens_c ren_nil (rens_c ren_nil rens_n)))))))))))))))) (hq q6 (rens_c ren_sx (rens_i (rens_i (rens_i (rens_i (rens_b (rens_i (rens_i (rens_i (rens_b (rens_b (rens_b (rens_b (rens_c ren_sx (rens_c ren_sx (rens_c ren_sx rens_n)))))))))))))))) (hq q5 (rens_same (noRefs_fl nr_eI)) (hq q4 (rens_same (noRefs_fl nr_eI)) (hq q3 (rens_same (noRefs_fl nr_eI)) (hq q2 (rens_same (noRefs_fl nr_eI)) hs_nil)))))))
 refine yb 12 hb ?_
 refine yb 13 hb ?_
 refine yt (sp 53 [(2, pp 0), (3, pp 1), (4, pp 6), (30, bb false)]) [(0, some q1), (1, some ⟨90, (B_90 v4.1)⟩), (2, some q5), (3, some q4), (4, some q3), (5, some q2), (6, some q6)] 7 ?_
 refine cF rfl ?_
 refine Aw.skip ?_
 obtain rfl := some_some hh
 exact hN3 v2.2.Mem _ _ _ hk3 (Ent.list2 [some 0, some 6, some 2, some 3, some 4, some 5] rfl rfl (by decide) (rens_sp (by kernel_rfl) (rl_c (u := pp 0) (by kernel_rfl) (ren_p (by decide) rfl) (rl_c (u := pp 6) (by kernel_rfl) (ren_p (by decide) rfl) rl_n))) (hq q1 (rens_c ren_nil (rens_i (rens_i (rens_i (rens_i (rens_b (rens_i (rens_i (rens_i (rens_b (rens_b (rens_b (rens_b (rens_c ren_nil (rens_c ren_nil (rens_c ren_nil rens_n)))))))))))))))) (hq q6 (rens_c ren_sx (rens_i (rens_i (rens_i (rens_i (rens_b (rens_i (rens_i (rens_i (rens_b (rens_b (rens_b (rens_b (rens_c ren_sx (rens_c ren_sx (rens_c ren_sx rens_n)))))))))))))))) (hq q5 (rens_same (noRefs_fl nr_eI)) (hq q4 (rens_same (noRefs_fl nr_eI)) (hq q3 (rens_same (noRefs_fl nr_eI)) (hq q2 (rens_same (noRefs_fl nr_eI)) hs_nil)))))))
def Lf39_r0 : List LOper := [oo 4 (.mv (.c (bb false)))]
def Lf39_r1 : List LOper := [om 6 0, oo 7 (.len (.t 6)), om 8 1, oo 9 (.len (.t 8)), oo 10 (.bin .neq (.t 7) (.t 9))]
def Lf39_r2 : List LOper := [oo 4 (.mv (.c (bb false)))]
def Lf39_r3 : List LOper := [oo 5 (.mv (.c (ii 0)))]
def Lf39_r4 : List LOper := [om 11 5, om 12 0, oo 13 (.len (.t 12)), oo 14 (.bin .lss (.t 11) (.t 13))]
def Lf39_r5 : List LOper := [om 17 0, om 18 5, oo 19 (.iadr 1 (.t 17) (.t 18)), oo 20 (.load false 1 (.t 19)), om 21 1, om 22 5, oo 23 (.iadr 1 (.t 21) (.t 22)), oo 24 (.load false 1 (.t 23)), oo 25 (.bin .neq (.t 20) (.t 24))]
def Lf39_r6 : List LOper := [oo 4 (.mv (.c (bb false)))]
def Lf39_r7 : List LOper := [om 15 5, oo 16 (.bin .add (.t 15) (.c (ii 1))), om 5 16]
def Lf39_l8 : LCode := (.seq (.seq (.reg false Lf39_r4) (.cond (.t 14) .skip (.exit 0))) (.seq (.block 1 (.seq (.reg true Lf39_r5) (.cond (.t 25) (.seq (.reg false Lf39_r6) .ret) .skip))) (.reg false Lf39_r7)))
def Lf39_r9 : List LOper := [oo 4 (.mv (.c (bb true)))]
def Lf39 : LFun := ⟨26, [(.tmp 4)], (.seq (.reg false Lf39_r0) (.seq (.seq (.reg false Lf39_r1) (.cond (.t 10) (.seq (.reg false Lf39_r2) .ret) .skip)) (.seq (.seq (.reg false Lf39_r3) (.block 0 (.loop Lf39_l8))) (.seq (.reg false Lf39_r9) .ret))))⟩
theorem low_laws_sameInts : lowFun Go.Proofs.Try.prog 39 = some Lf39 := by kernel_rfl
noncomputable def F_laws_sameInts_j1  (s1 : Unit) : Option Bool :=
 some true
noncomputable def F_laws_sameInts_l2 (x_a : List Int) (x_b : List Int) (s2 : Int) : Option (LO Int (JO Unit Bool)) :=
 cond (decide (s2 < (((List.length x_a) : Nat) : Int)))
  (grd ((0 : Int) ≤ s2 ∧ s2 < ((List.length x_a : Nat) : Int)) (grd ((0 : Int) ≤ s2 ∧ s2 < ((List.length x_b : Nat) : Int)) (cond (!decide ((List.getD x_a (Int.toNat s2) default) = (List.getD x_b (Int.toNat s2) default)))
   (some (.ret (.out false)))
   (some (.next (w64 (s2 + (1 : Int))))))))
  (some (.ret (.go ())))
noncomputable def F_laws_sameInts (x_a : List Int) (x_b : List Int) : Option Bool :=
 cond (!decide ((((List.length x_a) : Nat) : Int) = (((List.length x_b) : Nat) : Int)))
  (some false)
  (Option.bind (Option.bind (iter (F_laws_sameInts_l2 x_a x_b) (0 : Int)) LO.val) fun j1 =>
   JO.run j1 (F_laws_sameInts_j1))
theorem laws_sameInts_fn {x_a : List Int} {x_b : List Int} {R_ : Bool} (hh : F_laws_sameInts x_a x_b = some R_) : Fn Try.prog 39 [bo (eI .i64) x_a, bo (eI .i64) x_b] (.bool R_) := by
 unfold F_laws_sameInts at hh
 refine Fn.start low_laws_sameInts [0, 1] (E := sp 26 [(0, bo (eI .i64) x_a), (1, bo (eI .i64) x_b)]) (by kernel_rfl) (v := bb R_) (Hr := []) (k := 0) (by kernel_rfl) ?_
 refine sy [0, 1] [] (sp 26 [(0, bo (eI .i64) x_a), (1, bo (eI .i64) x_b)]) [] 0 ?_
 refine Aw.seq ?_
 refine sy [0, 1, 10] [] (sp 26 [(0, bo (eI .i64) x_a), (1, bo (eI .i64) x_b), (10, bb (!decide ((((List.length x_a) : Nat) : Int) = (((List.length x_b) : Nat) : Int))))]) [] 0 ?_
 rcases cond_some hh with ⟨hb, hh⟩ | ⟨hb, hh⟩
 · refine cT hb ?_
   refine sy [4] [] (sp 26 [(4, bb false)]) [] 0 ?_
   refine Aw.ret ?_
   refine then_r ?_
   rw [some_some hh]
   exact gvb
 refine cF hb ?_
 refine Aw.xskip (fun _ _ _ hq => then_m hq) ?_
 obtain ⟨j1, hh, hk1⟩ := bind_some hh
 refine Aw.join (S := Unit) (fun s1 => sp 26 []) (fun s1 => []) 0 (fun s1 => F_laws_sameInts_j1 s1 = some R_) ?_ ?_
 · intro s1 hh
   unfold F_laws_sameInts_j1 at hh
   refine sy [4] [] (sp 26 [(4, bb true)]) [] 0 ?_
   refine Aw.ret ?_
   rw [some_some hh]
   exact gvb
 intro Q1 hN1 hR1 hE1
 refine sy [0, 1, 5] [] (sp 26 [(0, bo (eI .i64) x_a), (1, bo (eI .i64) x_b), (5, ii (0 : Int))]) [] 0 ?_
 refine Aw.block ?_
 obtain ⟨o2, hi2, hk2⟩ := bind_some hh
 refine Aw.iter (fun (s2 : Int) => sp 26 [(0, bo (eI .i64) x_a), (1, bo (eI .i64) x_b), (5, ii s2)]) (fun (s2 : Int) => []) 0 hi2 (Ent.list2 [] rfl rfl (by decide) (rens_sp (by kernel_rfl) (rl_c (u := bo (eI .i64) x_a) (by kernel_rfl) (ren_bor (rens_same (noRefs_fl nr_eI))) (rl_c (u := bo (eI .i64) x_b) (by kernel_rfl) (ren_bor (rens_same (noRefs_fl nr_eI))) (rl_c (u := ii (0 : Int)) (by kernel_rfl) ren_i rl_n)))) hs_nil) ?_
 intro s2 u2 Q2 hh hN2 hX2 hR2
 unfold F_laws_sameInts_l2 at hh
 refine Aw.seq ?_
 refine sy [0, 1, 5, 14] [] (sp 26 [(0, bo (eI .i64) x_a), (1, bo (eI .i64) x_b), (5, ii s2), (14, bb (decide (s2 < (((List.length x_a) : Nat) : Int))))]) [] 0 ?_
 rcases cond_some hh with ⟨hb, hh⟩ | ⟨hb, hh⟩
 · refine cT hb ?_
   refine Aw.xskip (fun _ _ _ hq => then_m hq) ?_
   refine Aw.seq ?_
   refine Aw.block ?_
   refine Aw.sregq [0, 1, 5, 25] ?_
   refine qc (cs := []) (E' := (sp 26 [(0, bo (eI .i64) x_a), (1, bo (eI .i64) x_b), (5, ii s2), (14, bb (decide (s2 < (((List.length x_a) : Nat) : Int)))), (17, bo (eI .i64) x_a), (18, ii s2)])) (pre := (List.take 2 Lf39_r5)) (L' := (List.drop 2 Lf39_r5)) (by kernel_rfl) (fun K => by kernel_rfl) .nil ?_
   obtain ⟨hg47, hh⟩ := grd_some hh
   refine qs (.iadr 1 (.t 17) (.t 18)) (some 19) (yq_q rfl (op_iadr (kd := .i64) (c := (eI .i64)) (xs := x_a) len_eI (by decide) (by kernel_rfl) (by kernel_rfl) hg47 ?_))
   refine qs (.load false 1 (.t 19)) (some 20) (yq_q rfl (op_loadb (c := (eI .i64)) (xs := x_a) (o := Int.toNat s2 * 1) (i := (Int.toNat s2)) (off := 0) (v := ii (List.getD x_a (Int.toNat s2) default)) len_eI (by kernel_rfl) (by omega) (by omega) (by decide) (by kernel_rfl) ?_))
   refine qc (cs := []) (E' := (sp 26 [(0, bo (eI .i64) x_a), (1, bo (eI .i64) x_b), (5, ii s2), (14, bb (decide (s2 < (((List.length x_a) : Nat) : Int)))), (17, bo (eI .i64) x_a), (18, ii s2), (19, .bptr (fl (eI .i64) x_a) (Int.toNat s2 * 1)), (20, ii (List.getD x_a (Int.toNat s2) default)), (21, bo (eI .i64) x_b), (22, ii s2)])) (pre := (List.take 2 (List.drop 4 Lf39_r5))) (L' := (List.drop 6 Lf39_r5)) (by kernel_rfl) (fun K => by kernel_rfl) .nil ?_
   obtain ⟨hg48, hh⟩ := grd_some hh
   refine qs (.iadr 1 (.t 21) (.t 22)) (some 23) (yq_q rfl (op_iadr (kd := .i64) (c := (eI .i64)) (xs := x_b) len_eI (by decide) (by kernel_rfl) (by kernel_rfl) hg48 ?_))
   refine qs (.load false 1 (.t 23)) (some 24) (yq_q rfl (op_loadb (c := (eI .i64)) (xs := x_b) (o := Int.toNat s2 * 1) (i := (Int.toNat s2)) (off := 0) (v := ii (List.getD x_b (Int.toNat s2) default)) len_eI (by kernel_rfl) (by omega) (by omega) (by decide) (by kernel_rfl) ?_))
   refine qct (cs := []) (E' := (sp 26 [(0, bo (eI .i64) x_a), (1, bo (eI .i64) x_b), (5, ii s2), (25, bb (!decide ((List.getD x_a (Int.toNat s2) default) = (List.getD x_b (Int.toNat s2) default))))])) (fun K => by kernel_rfl) .nil ?_
   rcases cond_some hh with ⟨hb, hh⟩ | ⟨hb, hh⟩
   · refine cT hb ?_
     refine sy [4] [] (sp 26 [(4, bb false)]) [] 0 ?_
     refine Aw.ret ?_
     refine blk_r (then_r ?_)
     refine hR2 _ _ _ _ (some_some hh) ?_
     intro hout
     rw [hout] at hk2
     refine blk_r ?_
     obtain rfl := some_some hk2
     refine hR1 _ _ _ ?_
     refine ?_
     rw [some_some hk1]
     exact gvb
   refine cF hb ?_
   refine Aw.xskip (fun _ _ _ hq => blk_m (then_m hq)) ?_
   refine Aw.oreg ?_
   refine ye (sp 26 [(0, bo (eI .i64) x_a), (1, bo (eI .i64) x_b), (5, ii (w64 (s2 + (1 : Int)))), (15, ii s2), (16, ii (w64 (s2 + (1 : Int)))), (25, bb (!decide ((List.getD x_a (Int.toNat s2) default) = (List.getD x_b (Int.toNat s2) default))))]) [] 0 ?_
   exact hN2 (w64 (s2 + (1 : Int))) _ _ _ (some_some hh) (Ent.list2 [] rfl rfl (by decide) (rens_sp (by kernel_rfl) (rl_c (u := bo (eI .i64) x_a) (by kernel_rfl) (ren_bor (rens_same (noRefs_fl nr_eI))) (rl_c (u := bo (eI .i64) x_b) (by kernel_rfl) (ren_bor (rens_same (noRefs_fl nr_eI))) (rl_c (u := ii (w64 (s2 + (1 : Int)))) (by kernel_rfl) ren_i rl_n)))) hs_nil)
 refine cF hb ?_
 refine Aw.exit ?_
 refine then_x ?_
 refine hX2 _ _ _ _ _ (some_some hh) ?_
 intro hout
 rw [hout] at hk2
 refine blk_x ?_
 obtain rfl := some_some hk2
 exact hN1 () _ _ _ hk1 (Ent.list2 [] rfl rfl (by decide) (rens_sp (by kernel_rfl) rl_n) hs_nil)
def Lf70_r0 : List LOper := [oo 2 (.box 39 (.t 0)), oo 3 (.box 39 (.t 1)), oo 4 (.mv (.c (bb false)))]
def Lf70_r1 : List LOper := [oo 5 (.fadr 0 (.t 2)), oo 6 (.load false 1 (.t 5)), oo 7 (.fadr 0 (.t 3)), oo 8 (.load false 1 (.t 7)), oo 9 (.call 39 [(.t 6), (.t 8)]), oo 10 (.un .not (.t 9)), om 11 10, ⟨(some 12), (.fadr 1 (.t 2)), (some (11, false))⟩, ⟨(some 13), (.load false 1 (.t 12)), (some (11, false))⟩, ⟨(some 14), (.fadr 1 (.t 3)), (some (11, false))⟩, ⟨(some 15), (.load false 1 (.t 14)), (some (11, false))⟩, ⟨(some 16), (.bin .neq (.t 13) (.t 15)), (some (11, false))⟩, oo 17 (.pick (.t 11) (.c (bb true)) (.t 16)), om 18 17, ⟨(some 19), (.fadr 2 (.t 2)), (some (18, false))⟩, ⟨(some 20), (.load false 1 (.t 19)), (some (18, false))⟩, ⟨(some 21), (.fadr 2 (.t 3)), (some (18, false))⟩, ⟨(some 22), (.load false 1 (.t 21)), (some (18, false))⟩, ⟨(some 23), (.bin .neq (.t 20) (.t 22)), (some (18, false))⟩, oo 24 (.pick (.t 18) (.c (bb true)) (.t 23)), om 25 24, ⟨(some 26), (.fadr 3 (.t 2)), (some (25, false))⟩, ⟨(some 27), (.load false 1 (.t 26)), (some (25, false))⟩, ⟨(some 28), (.fadr 3 (.t 3)), (some (25, false))⟩, ⟨(some 29), (.load false 1 (.t 28)), (some (25, false))⟩, ⟨(some 30), (.bin .neq (.t 27) (.t 29)), (some (25, false))⟩, oo 31 (.pick (.t 25) (.c (bb true)) (.t 30)), om 32 31, ⟨(some 33), (.fadr 4 (.t 2)), (some (32, false))⟩, ⟨(some 34), (.load false 1 (.t 33)), (some (32, false))⟩, ⟨(some 35), (.fadr 4 (.t 3)), (some (32, false))⟩, ⟨(some 36), (.load false 1 (.t 35)), (some (32, false))⟩, ⟨(some 37), (.bin .neq (.t 34) (.t 36)), (some (32, false))⟩, oo 38 (.pick (.t 32) (.c (bb true)) (.t 37)), om 39 38, ⟨(some 40), (.fadr 5 (.t 2)), (some (39, false))⟩, ⟨(some 41), (.load false 1 (.t 40)), (some (39, false))⟩, ⟨(some 42), (.fadr 5 (.t 3)), (some (39, false))⟩, ⟨(some 43), (.load false 1 (.t 42)), (some (39, false))⟩, ⟨(some 44), (.binb true (.t 41) (.t 43)), (some (39, false))⟩, oo 45 (.pick (.t 39) (.c (bb true)) (.t 44))]
def Lf70_r2 : List LOper := [oo 4 (.mv (.c (bb false)))]
def Lf70_r3 : List LOper := [oo 46 (.fadr 6 (.t 2)), oo 47 (.load false 1 (.t 46)), oo 48 (.fadr 6 (.t 3)), oo 49 (.load false 1 (.t 48)), oo 50 (.bin .eql (.t 47) (.t 49)), om 51 50, ⟨(some 52), (.fadr 7 (.t 2)), (some (51, true))⟩, ⟨(some 53), (.load false 1 (.t 52)), (some (51, true))⟩, ⟨(some 54), (.fadr 7 (.t 3)), (some (51, true))⟩, ⟨(some 55), (.load false 1 (.t 54)), (some (51, true))⟩, ⟨(some 56), (.bin .eql (.t 53) (.t 55)), (some (51, true))⟩, oo 57 (.pick (.t 51) (.t 56) (.c (bb false))), om 58 57, ⟨(some 59), (.fadr 8 (.t 2)), (some (58, true))⟩, ⟨(some 60), (.load false 1 (.t 59)), (some (58, true))⟩, ⟨(some 61), (.fadr 8 (.t 3)), (some (58, true))⟩, ⟨(some 62), (.load false 1 (.t 61)), (some (58, true))⟩, ⟨(some 63), (.bin .eql (.t 60) (.t 62)), (some (58, true))⟩, oo 64 (.pick (.t 58) (.t 63) (.c (bb false))), om 65 64, ⟨(some 66), (.fadr 9 (.t 2)), (some (65, true))⟩, ⟨(some 67), (.load false 1 (.t 66)), (some (65, true))⟩, ⟨(some 68), (.fadr 9 (.t 3)), (some (65, true))⟩, ⟨(some 69), (.load false 1 (.t 68)), (some (65, true))⟩, ⟨(some 70), (.binb false (.t 67) (.t 69)), (some (65, true))⟩, oo 71 (.pick (.t 65) (.t 70) (.c (bb false))), om 72 71, ⟨(some 73), (.fadr 10 (.t 2)), (some (72, true))⟩, ⟨(some 74), (.load false 1 (.t 73)), (some (72, true))⟩, ⟨(some 75), (.fadr 10 (.t 3)), (some (72, true))⟩, ⟨(some 76), (.load false 1 (.t 75)), (some (72, true))⟩, ⟨(some 77), (.binb false (.t 74) (.t 76)), (some (72, true))⟩, oo 78 (.pick (.t 72) (.t 77) (.c (bb false))), om 79 78, ⟨(some 80), (.fadr 11 (.t 2)), (some (79, true))⟩, ⟨(some 81), (.load false 1 (.t 80)), (some (79, true))⟩, ⟨(some 82), (.fadr 11 (.t 3)), (some (79, true))⟩, ⟨(some 83), (.load false 1 (.t 82)), (some (79, true))⟩, ⟨(some 84), (.binb false (.t 81) (.t 83)), (some (79, true))⟩, oo 85 (.pick (.t 79) (.t 84) (.c (bb false))), om 86 85, ⟨(some 87), (.fadr 12 (.t 2)), (some (86, true))⟩, ⟨(some 88), (.load false 1 (.t 87)), (some (86, true))⟩, ⟨(some 89), (.fadr 12 (.t 3)), (some (86, true))⟩, ⟨(some 90), (.load false 1 (.t 89)), (some (86, true))⟩, ⟨(some 91), (.binb false (.t 88) (.t 90)), (some (86, true))⟩, oo 92 (.pick (.t 86) (.t 91) (.c (bb false))), om 4 92]
def Lf70 : LFun := ⟨93, [(.tmp 4)], (.seq (.reg false Lf70_r0) (.seq (.seq (.reg false Lf70_r1) (.cond (.t 45) (.seq (.reg false Lf70_r2) .ret) .skip)) (.seq (.reg false Lf70_r3) .ret)))⟩
theorem low_laws_sameCore : lowFun Go.Proofs.Try.prog 70 = some Lf70 := by kernel_rfl
noncomputable def F_laws_sameCore (x_a : DCore) (x_b : DCore) : Option Bool :=
 Option.bind (F_laws_sameInts x_a.Regs x_b.Regs) fun v1 =>
 cond (!v1)
  (some false)
  (cond (!decide (x_a.Pc = x_b.Pc))
   (some false)
   (cond (!decide (x_a.Root = x_b.Root))
    (some false)
    (cond (!decide (x_a.Vector = x_b.Vector))
     (some false)
     (cond (!decide (x_a.Saved = x_b.Saved))
      (some false)
      (cond (!(x_a.SavedUser == x_b.SavedUser))
       (some false)
       (cond (decide (x_a.Cause = x_b.Cause))
        (cond (decide (x_a.Bad = x_b.Bad))
         (cond (decide (x_a.Timer = x_b.Timer))
          (cond (x_a.Waits == x_b.Waits)
           (cond (x_a.User == x_b.User)
            (cond (x_a.On == x_b.On)
             (some (x_a.Stopped == x_b.Stopped))
             (some false))
            (some false))
           (some false))
          (some false))
         (some false))
        (some false)))))))
theorem laws_sameCore_fn {x_a : DCore} {x_b : DCore} {R_ : Bool} (hh : F_laws_sameCore x_a x_b = some R_) : Fn Try.prog 70 [.agg (bo (eI .i64) x_a.Regs :: ru39 x_a []), .agg (bo (eI .i64) x_b.Regs :: ru39 x_b [])] (.bool R_) := by
 unfold F_laws_sameCore at hh
 refine Fn.start low_laws_sameCore [0, 1] (E := sp 93 [(0, .agg (B_39 x_a)), (1, .agg (B_39 x_b))]) (by kernel_rfl) (v := bb R_) (Hr := []) (k := 0) (by kernel_rfl) ?_
 refine Aw.sreg [2, 3] [0, 1] ?_
 let q1 : Root := ⟨39, (bo (eI .i64) x_a.Regs :: ru39 x_a [])⟩
 let q2 : Root := ⟨39, (bo (eI .i64) x_b.Regs :: ru39 x_b [])⟩
 refine yt (sp 93 [(2, pp 0), (3, pp 1)]) [(0, some q1), (1, some q2)] 2 ?_
 refine Aw.seq ?_
 refine Aw.sreg [2, 3, 45] [0, 1] (yj 4  (sp 93 [(2, pp 0), (3, pp 1), (5, pp 0), (6, bo (eI .i64) x_a.Regs), (7, pp 1), (8, bo (eI .i64) x_b.Regs)]) [(0, some q1), (1, some q2)] 2 ?_)
 obtain ⟨v1, hv1, hh⟩ := bind_some hh
 refine ys (.call 39 [(.t 6), (.t 8)]) (some 9) (oc (laws_sameInts_fn hv1) ?_)
 refine yu 2 [(9, bb v1), (10, bb (!v1)), (11, bb (!v1))] [(0, some q1), (1, some q2)] 2 ?_
 rcases cond_some hh with ⟨hb, hh⟩ | ⟨hb, hh⟩
 · refine yb 10 hb ?_
   refine yb 11 hb ?_
   refine yt (sp 93 [(2, pp 0), (3, pp 1), (45, bb true)]) [(0, some q1), (1, some q2)] 2 ?_
   refine cT rfl ?_
   refine sy [4] [] (sp 93 [(4, bb false)]) [] 2 ?_
   refine Aw.ret ?_
   refine then_r ?_
   rw [some_some hh]
   exact gvb
 refine yb 10 hb ?_
 refine yb 11 hb ?_
 refine yu 7 [(10, bb false), (11, bb false), (12, .ptr 0 [] 1), (13, ii x_a.Pc), (14, .ptr 1 [] 1), (15, ii x_b.Pc), (16, bb (!decide (x_a.Pc = x_b.Pc))), (17, bb (!decide (x_a.Pc = x_b.Pc))), (18, bb (!decide (x_a.Pc = x_b.Pc)))] [(0, some q1), (1, some q2)] 2 ?_
 rcases cond_some hh with ⟨hb, hh⟩ | ⟨hb, hh⟩
 · refine yb 16 hb ?_
   refine yb 17 hb ?_
   refine yb 18 hb ?_
   refine yt (sp 93 [(2, pp 0), (3, pp 1), (45, bb true)]) [(0, some q1), (1, some q2)] 2 ?_
   refine cT rfl ?_
   refine sy [4] [] (sp 93 [(4, bb false)]) [] 2 ?_
   refine Aw.ret ?_
   refine then_r ?_
   rw [some_some hh]
   exact gvb
 refine yb 16 hb ?_
 refine yb 17 hb ?_
 refine yb 18 hb ?_
 refine yu 7 [(16, bb false), (17, bb false), (18, bb false), (19, .ptr 0 [] 2), (20, ii x_a.Root), (21, .ptr 1 [] 2), (22, ii x_b.Root), (23, bb (!decide (x_a.Root = x_b.Root))), (24, bb (!decide (x_a.Root = x_b.Root))), (25, bb (!decide (x_a.Root = x_b.Root)))] [(0, some q1), (1, some q2)] 2 ?_
 rcases cond_some hh with ⟨hb, hh⟩ | ⟨hb, hh⟩
 · refine yb 23 hb ?_
   refine yb 24 hb ?_
   refine yb 25 hb ?_
   refine yt (sp 93 [(2, pp 0), (3, pp 1), (45, bb true)]) [(0, some q1), (1, some q2)] 2 ?_
   refine cT rfl ?_
   refine sy [4] [] (sp 93 [(4, bb false)]) [] 2 ?_
   refine Aw.ret ?_
   refine then_r ?_
   rw [some_some hh]
   exact gvb
 refine yb 23 hb ?_
 refine yb 24 hb ?_
 refine yb 25 hb ?_
 refine yu 7 [(23, bb false), (24, bb false), (25, bb false), (26, .ptr 0 [] 3), (27, ii x_a.Vector), (28, .ptr 1 [] 3), (29, ii x_b.Vector), (30, bb (!decide (x_a.Vector = x_b.Vector))), (31, bb (!decide (x_a.Vector = x_b.Vector))), (32, bb (!decide (x_a.Vector = x_b.Vector)))] [(0, some q1), (1, some q2)] 2 ?_
 rcases cond_some hh with ⟨hb, hh⟩ | ⟨hb, hh⟩
 · refine yb 30 hb ?_
   refine yb 31 hb ?_
   refine yb 32 hb ?_
   refine yt (sp 93 [(2, pp 0), (3, pp 1), (45, bb true)]) [(0, some q1), (1, some q2)] 2 ?_
   refine cT rfl ?_
   refine sy [4] [] (sp 93 [(4, bb false)]) [] 2 ?_
   refine Aw.ret ?_
   refine then_r ?_
   rw [some_some hh]
   exact gvb
 refine yb 30 hb ?_
 refine yb 31 hb ?_
 refine yb 32 hb ?_
 refine yu 7 [(30, bb false), (31, bb false), (32, bb false), (33, .ptr 0 [] 4), (34, ii x_a.Saved), (35, .ptr 1 [] 4), (36, ii x_b.Saved), (37, bb (!decide (x_a.Saved = x_b.Saved))), (38, bb (!decide (x_a.Saved = x_b.Saved))), (39, bb (!decide (x_a.Saved = x_b.Saved)))] [(0, some q1), (1, some q2)] 2 ?_
 rcases cond_some hh with ⟨hb, hh⟩ | ⟨hb, hh⟩
 · refine yb 37 hb ?_
   refine yb 38 hb ?_
   refine yb 39 hb ?_
   refine yt (sp 93 [(2, pp 0), (3, pp 1), (45, bb true)]) [(0, some q1), (1, some q2)] 2 ?_
   refine cT rfl ?_
   refine sy [4] [] (sp 93 [(4, bb false)]) [] 2 ?_
   refine Aw.ret ?_
   refine then_r ?_
   rw [some_some hh]
   exact gvb
 refine yb 37 hb ?_
 refine yb 38 hb ?_
 refine yb 39 hb ?_
 refine yt (sp 93 [(2, pp 0), (3, pp 1), (45, bb (!(x_a.SavedUser == x_b.SavedUser)))]) [(0, some q1), (1, some q2)] 2 ?_
 rcases cond_some hh with ⟨hb, hh⟩ | ⟨hb, hh⟩
 · refine cT hb ?_
   refine sy [4] [] (sp 93 [(4, bb false)]) [] 2 ?_
   refine Aw.ret ?_
   refine then_r ?_
   rw [some_some hh]
   exact gvb
 refine cF hb ?_
 refine Aw.xskip (fun _ _ _ hq => then_m hq) ?_
 refine Aw.sreg [4] [] (yj 6  (sp 93 [(2, pp 0), (3, pp 1), (45, bb (!(x_a.SavedUser == x_b.SavedUser))), (46, .ptr 0 [] 6), (47, ii x_a.Cause), (48, .ptr 1 [] 6), (49, ii x_b.Cause), (50, bb (decide (x_a.Cause = x_b.Cause))), (51, bb (decide (x_a.Cause = x_b.Cause)))]) [(0, some q1), (1, some q2)] 2 ?_)
 rcases cond_some hh with ⟨hb, hh⟩ | ⟨hb, hh⟩
 · refine yb 50 hb ?_
   refine yb 51 hb ?_
   refine yu 7 [(50, bb true), (51, bb true), (52, .ptr 0 [] 7), (53, ii x_a.Bad), (54, .ptr 1 [] 7), (55, ii x_b.Bad), (56, bb (decide (x_a.Bad = x_b.Bad))), (57, bb (decide (x_a.Bad = x_b.Bad))), (58, bb (decide (x_a.Bad = x_b.Bad)))] [(0, some q1), (1, some q2)] 2 ?_
   rcases cond_some hh with ⟨hb, hh⟩ | ⟨hb, hh⟩
   · refine yb 56 hb ?_
     refine yb 57 hb ?_
     refine yb 58 hb ?_
     refine yu 7 [(56, bb true), (57, bb true), (58, bb true), (59, .ptr 0 [] 8), (60, ii x_a.Timer), (61, .ptr 1 [] 8), (62, ii x_b.Timer), (63, bb (decide (x_a.Timer = x_b.Timer))), (64, bb (decide (x_a.Timer = x_b.Timer))), (65, bb (decide (x_a.Timer = x_b.Timer)))] [(0, some q1), (1, some q2)] 2 ?_
     rcases cond_some hh with ⟨hb, hh⟩ | ⟨hb, hh⟩
     · refine yb 63 hb ?_
       refine yb 64 hb ?_
       refine yb 65 hb ?_
       refine yu 7 [(63, bb true), (64, bb true), (65, bb true), (66, .ptr 0 [] 9), (67, bb x_a.Waits), (68, .ptr 1 [] 9), (69, bb x_b.Waits), (70, bb (x_a.Waits == x_b.Waits)), (71, bb (x_a.Waits == x_b.Waits)), (72, bb (x_a.Waits == x_b.Waits))] [(0, some q1), (1, some q2)] 2 ?_
       rcases cond_some hh with ⟨hb, hh⟩ | ⟨hb, hh⟩
       · refine yb 70 hb ?_
         refine yb 71 hb ?_
         refine yb 72 hb ?_
         refine yu 7 [(70, bb true), (71, bb true), (72, bb true), (73, .ptr 0 [] 10), (74, bb x_a.User), (75, .ptr 1 [] 10), (76, bb x_b.User), (77, bb (x_a.User == x_b.User)), (78, bb (x_a.User == x_b.User)), (79, bb (x_a.User == x_b.User))] [(0, some q1), (1, some q2)] 2 ?_
         rcases cond_some hh with ⟨hb, hh⟩ | ⟨hb, hh⟩
         · refine yb 77 hb ?_
           refine yb 78 hb ?_
           refine yb 79 hb ?_
           refine yu 7 [(77, bb true), (78, bb true), (79, bb true), (80, .ptr 0 [] 11), (81, bb x_a.On), (82, .ptr 1 [] 11), (83, bb x_b.On), (84, bb (x_a.On == x_b.On)), (85, bb (x_a.On == x_b.On)), (86, bb (x_a.On == x_b.On))] [(0, some q1), (1, some q2)] 2 ?_
           rcases cond_some hh with ⟨hb, hh⟩ | ⟨hb, hh⟩
           · refine yb 84 hb ?_
             refine yb 85 hb ?_
             refine yb 86 hb ?_
             refine yt (sp 93 [(4, bb (x_a.Stopped == x_b.Stopped))]) [] 2 ?_
             refine Aw.ret ?_
             rw [some_some hh]
             exact gvb
           refine yb 84 hb ?_
           refine yb 85 hb ?_
           refine yb 86 hb ?_
           refine yt (sp 93 [(4, bb false)]) [] 2 ?_
           refine Aw.ret ?_
           rw [some_some hh]
           exact gvb
         refine yb 77 hb ?_
         refine yb 78 hb ?_
         refine yb 79 hb ?_
         refine yt (sp 93 [(4, bb false)]) [] 2 ?_
         refine Aw.ret ?_
         rw [some_some hh]
         exact gvb
       refine yb 70 hb ?_
       refine yb 71 hb ?_
       refine yb 72 hb ?_
       refine yt (sp 93 [(4, bb false)]) [] 2 ?_
       refine Aw.ret ?_
       rw [some_some hh]
       exact gvb
     refine yb 63 hb ?_
     refine yb 64 hb ?_
     refine yb 65 hb ?_
     refine yt (sp 93 [(4, bb false)]) [] 2 ?_
     refine Aw.ret ?_
     rw [some_some hh]
     exact gvb
   refine yb 56 hb ?_
   refine yb 57 hb ?_
   refine yb 58 hb ?_
   refine yt (sp 93 [(4, bb false)]) [] 2 ?_
   refine Aw.ret ?_
   rw [some_some hh]
   exact gvb
 refine yb 50 hb ?_
 refine yb 51 hb ?_
 refine yt (sp 93 [(4, bb false)]) [] 2 ?_
 refine Aw.ret ?_
 rw [some_some hh]
 exact gvb
def Lf37_r0 : List LOper := [oo 2 (.box 43 (.t 0)), oo 3 (.box 43 (.t 1)), oo 4 (.mv (.c (bb false)))]
def Lf37_r1 : List LOper := [oo 5 (.fadr 0 (.t 2)), oo 6 (.load true 13 (.t 5)), oo 7 (.fadr 0 (.t 3)), oo 8 (.load true 13 (.t 7)), oo 9 (.call 70 [(.t 6), (.t 8)]), om 10 9, ⟨(some 11), (.fadr 13 (.t 2)), (some (10, true))⟩, ⟨(some 12), (.load false 1 (.t 11)), (some (10, true))⟩, ⟨(some 13), (.fadr 13 (.t 3)), (some (10, true))⟩, ⟨(some 14), (.load false 1 (.t 13)), (some (10, true))⟩, ⟨(some 15), (.call 39 [(.t 12), (.t 14)]), (some (10, true))⟩, oo 16 (.pick (.t 10) (.t 15) (.c (bb false))), om 17 16, ⟨(some 18), (.fadr 14 (.t 2)), (some (17, true))⟩, ⟨(some 19), (.load false 1 (.t 18)), (some (17, true))⟩, ⟨(some 20), (.fadr 14 (.t 3)), (some (17, true))⟩, ⟨(some 21), (.load false 1 (.t 20)), (some (17, true))⟩, ⟨(some 22), (.call 39 [(.t 19), (.t 21)]), (some (17, true))⟩, oo 23 (.pick (.t 17) (.t 22) (.c (bb false))), om 24 23, ⟨(some 25), (.fadr 15 (.t 2)), (some (24, true))⟩, ⟨(some 26), (.load false 1 (.t 25)), (some (24, true))⟩, ⟨(some 27), (.fadr 15 (.t 3)), (some (24, true))⟩, ⟨(some 28), (.load false 1 (.t 27)), (some (24, true))⟩, ⟨(some 29), (.call 39 [(.t 26), (.t 28)]), (some (24, true))⟩, oo 30 (.pick (.t 24) (.t 29) (.c (bb false))), om 4 30]
def Lf37 : LFun := ⟨31, [(.tmp 4)], (.seq (.reg false Lf37_r0) (.seq (.reg false Lf37_r1) .ret))⟩
theorem low_laws_sameBare : lowFun Go.Proofs.Try.prog 37 = some Lf37 := by kernel_rfl
noncomputable def F_laws_sameBare (x_a : DBare) (x_b : DBare) : Option Bool :=
 Option.bind (F_laws_sameCore x_a.C x_b.C) fun v1 =>
 cond v1
  (Option.bind (F_laws_sameInts x_a.Mem x_b.Mem) fun v2 =>
  cond v2
   (Option.bind (F_laws_sameInts x_a.In x_b.In) fun v3 =>
   cond v3
    (Option.bind (F_laws_sameInts x_a.Out x_b.Out) fun v4 =>
    some v4)
    (some false))
   (some false))
  (some false)
theorem laws_sameBare_fn {x_a : DBare} {x_b : DBare} {R_ : Bool} (hh : F_laws_sameBare x_a x_b = some R_) : Fn Try.prog 37 [.agg (bo (eI .i64) x_a.C.Regs :: ru39 x_a.C [bo (eI .i64) x_a.Mem, bo (eI .i64) x_a.In, bo (eI .i64) x_a.Out]), .agg (bo (eI .i64) x_b.C.Regs :: ru39 x_b.C [bo (eI .i64) x_b.Mem, bo (eI .i64) x_b.In, bo (eI .i64) x_b.Out])] (.bool R_) := by
 unfold F_laws_sameBare at hh
 refine Fn.start low_laws_sameBare [0, 1] (E := sp 31 [(0, .agg (B_43 x_a)), (1, .agg (B_43 x_b))]) (by kernel_rfl) (v := bb R_) (Hr := []) (k := 0) (by kernel_rfl) ?_
 refine Aw.sreg [2, 3] [0, 1] ?_
 let q1 : Root := ⟨43, (bo (eI .i64) x_a.C.Regs :: ru39 x_a.C [bo (eI .i64) x_a.Mem, bo (eI .i64) x_a.In, bo (eI .i64) x_a.Out])⟩
 let q2 : Root := ⟨43, (bo (eI .i64) x_b.C.Regs :: ru39 x_b.C [bo (eI .i64) x_b.Mem, bo (eI .i64) x_b.In, bo (eI .i64) x_b.Out])⟩
 refine yt (sp 31 [(2, pp 0), (3, pp 1)]) [(0, some q1), (1, some q2)] 2 ?_
 refine Aw.sreg [4] [] (yu 4 [(5, pp 0), (6, .agg (B_39 x_a.C)), (7, pp 1), (8, .agg (B_39 x_b.C))] [(0, some q1), (1, some q2)] 2 ?_)
 obtain ⟨v1, hv1, hh⟩ := bind_some hh
 refine ys (.call 70 [(.t 6), (.t 8)]) (some 9) (op_call (r := bb v1) (v := bb v1) (Hr := []) (n' := 2) (laws_sameCore_fn hv1) (clz_v (vs := [.agg (B_39 x_a.C), .agg (B_39 x_b.C)]) (by kernel_rfl) (clz_c (clo_same (clean_agg (cl_B_39 _))) (clz_c (clo_same (clean_agg (cl_B_39 _))) clz_n))) rfl rfl (by kernel_rfl) ?_)
 refine yu 1 [(9, bb v1), (10, bb v1)] [(0, some q1), (1, some q2)] 2 ?_
 rcases cond_some hh with ⟨hb, hh⟩ | ⟨hb, hh⟩
 · refine yb 9 hb ?_
   refine yb 10 hb ?_
   refine yu 4 [(9, bb true), (10, bb true), (11, .ptr 0 [] 13), (12, bo (eI .i64) x_a.Mem), (13, .ptr 1 [] 13), (14, bo (eI .i64) x_b.Mem)] [(0, some q1), (1, some q2)] 2 ?_
   obtain ⟨v2, hv2, hh⟩ := bind_some hh
   refine yg (.call 39 [(.t 12), (.t 14)]) (some 15) 10 true (oc (laws_sameInts_fn hv2) ?_)
   refine yu 2 [(15, bb v2), (16, bb v2), (17, bb v2)] [(0, some q1), (1, some q2)] 2 ?_
   rcases cond_some hh with ⟨hb, hh⟩ | ⟨hb, hh⟩
   · refine yb 15 hb ?_
     refine yb 16 hb ?_
     refine yb 17 hb ?_
     refine yu 4 [(15, bb true), (16, bb true), (17, bb true), (18, .ptr 0 [] 14), (19, bo (eI .i64) x_a.In), (20, .ptr 1 [] 14), (21, bo (eI .i64) x_b.In)] [(0, some q1), (1, some q2)] 2 ?_
     obtain ⟨v3, hv3, hh⟩ := bind_some hh
     refine yg (.call 39 [(.t 19), (.t 21)]) (some 22) 17 true (oc (laws_sameInts_fn hv3) ?_)
     refine yu 2 [(22, bb v3), (23, bb v3), (24, bb v3)] [(0, some q1), (1, some q2)] 2 ?_
     rcases cond_some hh with ⟨hb, hh⟩ | ⟨hb, hh⟩
     · refine yb 22 hb ?_
       refine yb 23 hb ?_
       refine yb 24 hb ?_
       refine yu 4 [(22, bb true), (23, bb true), (24, bb true), (25, .ptr 0 [] 15), (26, bo (eI .i64) x_a.Out), (27, .ptr 1 [] 15), (28, bo (eI .i64) x_b.Out)] [(0, some q1), (1, some q2)] 2 ?_
       obtain ⟨v4, hv4, hh⟩ := bind_some hh
       refine yg (.call 39 [(.t 26), (.t 28)]) (some 29) 24 true (oc (laws_sameInts_fn hv4) ?_)
       refine yt (sp 31 [(4, bb v4)]) [] 2 ?_
       refine Aw.ret ?_
       rw [some_some hh]
       exact gvb
     refine yb 22 hb ?_
     refine yb 23 hb ?_
     refine yb 24 hb ?_
     refine yt (sp 31 [(4, bb false)]) [] 2 ?_
     refine Aw.ret ?_
     rw [some_some hh]
     exact gvb
   refine yb 15 hb ?_
   refine yb 16 hb ?_
   refine yb 17 hb ?_
   refine yt (sp 31 [(4, bb false)]) [] 2 ?_
   refine Aw.ret ?_
   rw [some_some hh]
   exact gvb
 refine yb 9 hb ?_
 refine yb 10 hb ?_
 refine yt (sp 31 [(4, bb false)]) [] 2 ?_
 refine Aw.ret ?_
 rw [some_some hh]
 exact gvb
def Lf9_r0 : List LOper := [oo 2 (.mv (.c (bb false)))]
def Lf9_r1 : List LOper := [om 9 0, oo 10 (.len (.t 9)), oo 11 (.bin .gtr (.t 10) (.c (ii 1048576)))]
def Lf9_r2 : List LOper := [oo 2 (.mv (.c (bb true)))]
def Lf9_r3 : List LOper := [om 12 0, oo 13 (.call 35 [(.t 12)]), oo 3 (.fresh 43 [.nil, (ii 0), (ii 0), (ii 0), (ii 0), (bb false), (ii 0), (ii 0), (ii 0), (bb false), (bb false), (bb false), (bb false), .nil, .nil, .nil]), ⟨none, (.store 16 (.t 3) (.t 13)), none⟩]
def Lf9_r4 : List LOper := [oo 14 (.load true 16 (.t 3)), oo 15 (.call 36 [(.t 14)]), oo 4 (.fresh 43 [.nil, (ii 0), (ii 0), (ii 0), (ii 0), (bb false), (ii 0), (ii 0), (ii 0), (bb false), (bb false), (bb false), (bb false), .nil, .nil, .nil]), ⟨none, (.store 16 (.t 4) (.t 15)), none⟩]
def Lf9_r5 : List LOper := [oo 16 (.load true 16 (.t 4)), oo 17 (.load true 16 (.t 3)), oo 18 (.call 38 [(.t 17)]), oo 19 (.call 37 [(.t 16), (.t 18)])]
def Lf9_r5t : List LOper := [oo 20 (.un .not (.t 19))]
def Lf9_r7 : List LOper := [oo 2 (.mv (.c (bb false)))]
def Lf9_r8 : List LOper := [oo 21 (.load true 16 (.t 3)), oo 22 (.call 33 [(.t 21)]), oo 23 (.un .not (.t 22))]
def Lf9_r9 : List LOper := [oo 24 (.fadr 13 (.t 4)), oo 25 (.load false 1 (.t 24)), oo 26 (.len (.t 25)), oo 27 (.bin .eql (.t 26) (.c (ii 0))), om 28 27, ⟨(some 29), (.call 18 []), (some (28, true))⟩, oo 30 (.pick (.t 28) (.t 29) (.c (bb false))), om 2 30]
def Lf9_r10 : List LOper := [oo 31 (.load true 16 (.t 4)), oo 32 (.call 33 [(.t 31)]), oo 33 (.un .not (.t 32)), om 34 33, ⟨(some 35), (.fadr 0 (.t 3)), (some (34, false))⟩, ⟨(some 36), (.fadr 12 (.t 35)), (some (34, false))⟩, ⟨(some 37), (.load false 1 (.t 36)), (some (34, false))⟩, ⟨(some 38), (.mv (.t 37)), (some (34, false))⟩, ⟨(some 39), (.load true 16 (.t 4)), (some (38, true))⟩, ⟨(some 40), (.load true 16 (.t 3)), (some (38, true))⟩, ⟨(some 41), (.call 37 [(.t 39), (.t 40)]), (some (38, true))⟩, ⟨(some 42), (.un .not (.t 41)), (some (38, true))⟩, ⟨(some 43), (.pick (.t 38) (.t 42) (.c (bb false))), (some (34, false))⟩, oo 44 (.pick (.t 34) (.c (bb true)) (.t 43))]
def Lf9_r11 : List LOper := [oo 2 (.mv (.c (bb false)))]
def Lf9_r12 : List LOper := [oo 45 (.fadr 0 (.t 3)), oo 46 (.fadr 10 (.t 45)), oo 47 (.load false 1 (.t 46)), oo 48 (.un .not (.t 47)), om 49 48, ⟨(some 50), (.fadr 0 (.t 3)), (some (49, false))⟩, ⟨(some 51), (.fadr 12 (.t 50)), (some (49, false))⟩, ⟨(some 52), (.load false 1 (.t 51)), (some (49, false))⟩, oo 53 (.pick (.t 49) (.c (bb true)) (.t 52))]
def Lf9_r13 : List LOper := [oo 54 (.call 18 []), om 2 54]
def Lf9_r14 : List LOper := [oo 55 (.fadr 0 (.t 4)), oo 56 (.fadr 2 (.t 55)), oo 57 (.load false 1 (.t 56)), oo 58 (.fadr 0 (.t 3)), oo 59 (.fadr 2 (.t 58)), oo 60 (.load false 1 (.t 59)), oo 61 (.bin .neq (.t 57) (.t 60)), om 62 61, ⟨(some 63), (.fadr 0 (.t 4)), (some (62, false))⟩, ⟨(some 64), (.fadr 3 (.t 63)), (some (62, false))⟩, ⟨(some 65), (.load false 1 (.t 64)), (some (62, false))⟩, ⟨(some 66), (.fadr 0 (.t 3)), (some (62, false))⟩, ⟨(some 67), (.fadr 3 (.t 66)), (some (62, false))⟩, ⟨(some 68), (.load false 1 (.t 67)), (some (62, false))⟩, ⟨(some 69), (.bin .neq (.t 65) (.t 68)), (some (62, false))⟩, oo 70 (.pick (.t 62) (.c (bb true)) (.t 69)), om 71 70, ⟨(some 72), (.fadr 0 (.t 4)), (some (71, false))⟩, ⟨(some 73), (.fadr 8 (.t 72)), (some (71, false))⟩, ⟨(some 74), (.load false 1 (.t 73)), (some (71, false))⟩, ⟨(some 75), (.fadr 0 (.t 3)), (some (71, false))⟩, ⟨(some 76), (.fadr 8 (.t 75)), (some (71, false))⟩, ⟨(some 77), (.load false 1 (.t 76)), (some (71, false))⟩, ⟨(some 78), (.bin .sub (.t 77) (.c (ii 1))), (some (71, false))⟩, ⟨(some 79), (.mx true (.t 78) (.c (ii 0))), (some (71, false))⟩, ⟨(some 80), (.bin .neq (.t 74) (.t 79)), (some (71, false))⟩, oo 81 (.pick (.t 71) (.c (bb true)) (.t 80)), om 82 81, ⟨(some 83), (.fadr 14 (.t 4)), (some (82, false))⟩, ⟨(some 84), (.load false 1 (.t 83)), (some (82, false))⟩, ⟨(some 85), (.fadr 14 (.t 3)), (some (82, false))⟩, ⟨(some 86), (.load false 1 (.t 85)), (some (82, false))⟩, ⟨(some 87), (.call 39 [(.t 84), (.t 86)]), (some (82, false))⟩, ⟨(some 88), (.un .not (.t 87)), (some (82, false))⟩, oo 89 (.pick (.t 82) (.c (bb true)) (.t 88)), om 90 89, ⟨(some 91), (.fadr 15 (.t 4)), (some (90, false))⟩, ⟨(some 92), (.load false 1 (.t 91)), (some (90, false))⟩, ⟨(some 93), (.fadr 15 (.t 3)), (some (90, false))⟩, ⟨(some 94), (.load false 1 (.t 93)), (some (90, false))⟩, ⟨(some 95), (.call 39 [(.t 92), (.t 94)]), (some (90, false))⟩, ⟨(some 96), (.un .not (.t 95)), (some (90, false))⟩, oo 97 (.pick (.t 90) (.c (bb true)) (.t 96))]
def Lf9_r15 : List LOper := [oo 2 (.mv (.c (bb false)))]
def Lf9_r16 : List LOper := [oo 5 (.mv (.c (ii 0)))]
def Lf9_r17 : List LOper := [oo 6 (.mv (.c (ii 0)))]
def Lf9_r18 : List LOper := [om 98 6, oo 99 (.fadr 13 (.t 3)), oo 100 (.load false 1 (.t 99)), oo 101 (.len (.t 100)), oo 102 (.bin .lss (.t 98) (.t 101))]
def Lf9_r19 : List LOper := [oo 105 (.fadr 13 (.t 4)), oo 106 (.load false 1 (.t 105)), om 107 6, oo 108 (.iadr 1 (.t 106) (.t 107)), oo 109 (.load false 1 (.t 108)), oo 110 (.fadr 13 (.t 3)), oo 111 (.load false 1 (.t 110)), om 112 6, oo 113 (.iadr 1 (.t 111) (.t 112)), oo 114 (.load false 1 (.t 113)), oo 115 (.bin .eql (.t 109) (.t 114))]
def Lf9_r20 : List LOper := [om 116 5, oo 117 (.bin .add (.t 116) (.c (ii 1))), om 5 117]
def Lf9_r21 : List LOper := [oo 7 (.mv (.c (bb false)))]
def Lf9_r22 : List LOper := [oo 8 (.mv (.c (ii 0)))]
def Lf9_r23 : List LOper := [om 118 8, oo 119 (.bin .lss (.t 118) (.c (ii 64)))]
def Lf9_r24 : List LOper := [om 122 7, om 123 122, ⟨(some 124), (.fadr 13 (.t 3)), (some (123, false))⟩, ⟨(some 125), (.load false 1 (.t 124)), (some (123, false))⟩, ⟨(some 126), (.fadr 0 (.t 3)), (some (123, false))⟩, ⟨(some 127), (.fadr 2 (.t 126)), (some (123, false))⟩, ⟨(some 128), (.load false 1 (.t 127)), (some (123, false))⟩, ⟨(some 129), (.mv (.t 8)), (some (123, false))⟩, ⟨(some 130), (.call 27 [(.t 125), (.t 128), (.t 129), (.c (bb true)), (.c (bb true))]), (some (123, false))⟩, ⟨(some 131), (.mv (.t 6)), (some (123, false))⟩, ⟨(some 132), (.bin .eql (.t 130) (.t 131)), (some (123, false))⟩, oo 133 (.pick (.t 123) (.c (bb true)) (.t 132)), om 7 133]
def Lf9_r25 : List LOper := [om 120 8, oo 121 (.bin .add (.t 120) (.c (ii 1))), om 8 121]
def Lf9_l26 : LCode := (.seq (.seq (.reg false Lf9_r23) (.cond (.t 119) .skip (.exit 2))) (.seq (.block 3 (.reg false Lf9_r24)) (.reg false Lf9_r25)))
def Lf9_r27 : List LOper := [om 134 7, oo 135 (.un .not (.t 134))]
def Lf9_r28 : List LOper := [oo 2 (.mv (.c (bb false)))]
def Lf9_r29 : List LOper := [om 103 6, oo 104 (.bin .add (.t 103) (.c (ii 1))), om 6 104]
def Lf9_l30 : LCode := (.seq (.seq (.reg false Lf9_r18) (.cond (.t 102) .skip (.exit 0))) (.seq (.block 1 (.seq (.seq (.reg true Lf9_r19) (.cond (.t 115) (.exit 1) .skip)) (.seq (.reg false Lf9_r20) (.seq (.reg false Lf9_r21) (.seq (.seq (.reg false Lf9_r22) (.block 2 (.loop Lf9_l26))) (.seq (.reg false Lf9_r27) (.cond (.t 135) (.seq (.reg false Lf9_r28) .ret) .skip))))))) (.reg false Lf9_r29)))
def Lf9_r31 : List LOper := [om 136 5, oo 137 (.bin .leq (.t 136) (.c (ii 1))), om 138 137, ⟨(some 139), (.call 18 []), (some (138, true))⟩, oo 140 (.pick (.t 138) (.t 139) (.c (bb false))), om 2 140]
def Lf9 : LFun := ⟨141, [(.tmp 2)], (.seq (.reg false Lf9_r0) (.seq (.seq (.reg false Lf9_r1) (.cond (.t 11) (.seq (.reg false Lf9_r2) .ret) .skip)) (.seq (.reg false Lf9_r3) (.seq (.reg false Lf9_r4) (.seq (.seq (.regd Lf9_r5 Lf9_r5t) (.cond (.t 20) (.seq (.reg false Lf9_r7) .ret) .skip)) (.seq (.seq (.reg false Lf9_r8) (.cond (.t 23) (.seq (.reg false Lf9_r9) .ret) .skip)) (.seq (.seq (.reg false Lf9_r10) (.cond (.t 44) (.seq (.reg false Lf9_r11) .ret) .skip)) (.seq (.seq (.reg false Lf9_r12) (.cond (.t 53) (.seq (.reg false Lf9_r13) .ret) .skip)) (.seq (.seq (.reg false Lf9_r14) (.cond (.t 97) (.seq (.reg false Lf9_r15) .ret) .skip)) (.seq (.reg false Lf9_r16) (.seq (.seq (.reg false Lf9_r17) (.block 0 (.loop Lf9_l30))) (.seq (.reg false Lf9_r31) .ret))))))))))))⟩
theorem low_laws_FnBareStep : lowFun Go.Proofs.Try.prog 9 = some Lf9 := by kernel_rfl
noncomputable def F_laws_FnBareStep_j12  (s12 : Int) : Option Bool :=
 cond (decide (s12 ≤ (1 : Int)))
  (Option.bind (F_laws_alive ) fun v13 =>
  some v13)
  (some false)
noncomputable def F_laws_FnBareStep_j15 (s14 : Int × Int) (s15 : Int) : Option (LO (Int × Int) (JO Int Bool)) :=
 some (.next (s15, (w64 (s14.2 + (1 : Int)))))
noncomputable def F_laws_FnBareStep_j16 (s14 : Int × Int) (s16 : Bool) : Option (JO Int (LO (Int × Int) (JO Int Bool))) :=
 cond (!s16)
  (some (.out (.ret (.out false))))
  (some (.go (w64 (s14.1 + (1 : Int)))))
noncomputable def F_laws_FnBareStep_j18 (s17 : Bool × Int) (s18 : Bool) : Option (LO (Bool × Int) (JO Bool (JO Int (LO (Int × Int) (JO Int Bool))))) :=
 some (.next (s18, (w64 (s17.2 + (1 : Int)))))
noncomputable def F_laws_FnBareStep_l17 (v1 : DBare) (s14 : Int × Int) (s17 : Bool × Int) : Option (LO (Bool × Int) (JO Bool (JO Int (LO (Int × Int) (JO Int Bool))))) :=
 cond (decide (s17.2 < (64 : Int)))
  (Option.bind (cond s17.1
   (some (.go true))
   (Option.bind (F_impl_Walk v1.Mem v1.C.Root s17.2 true true) fun v19 =>
   some (.go (decide (v19 = s14.2))))) fun j18 =>
   JO.run j18 (F_laws_FnBareStep_j18 s17))
  (some (.ret (.go s17.1)))
noncomputable def F_laws_FnBareStep_l14 (v1 : DBare) (v2 : DBare) (s14 : Int × Int) : Option (LO (Int × Int) (JO Int Bool)) :=
 cond (decide (s14.2 < (((List.length v1.Mem) : Nat) : Int)))
  (Option.bind (grd ((0 : Int) ≤ s14.2 ∧ s14.2 < (((List.length v2.Mem) : Nat) : Int)) (grd ((0 : Int) ≤ s14.2 ∧ s14.2 < ((List.length v1.Mem : Nat) : Int)) (cond (decide ((List.getD v2.Mem (Int.toNat s14.2) default) = (List.getD v1.Mem (Int.toNat s14.2) default)))
   (some (.go s14.1))
   (Option.bind (Option.bind (iter (F_laws_FnBareStep_l17 v1 s14) (false, (0 : Int))) LO.val) fun j16 =>
    JO.run j16 (F_laws_FnBareStep_j16 s14))))) fun j15 =>
   JO.run j15 (F_laws_FnBareStep_j15 s14))
  (some (.ret (.go s14.1)))
noncomputable def F_laws_FnBareStep_j7 (v1 : DBare) (v2 : DBare) (s7 : Unit) : Option Bool :=
 cond (!v1.C.User)
  (Option.bind (F_laws_alive ) fun v8 =>
  some v8)
  (cond v1.C.Stopped
   (Option.bind (F_laws_alive ) fun v9 =>
   some v9)
   (cond (!decide (v2.C.Root = v1.C.Root))
    (some false)
    (cond (!decide (v2.C.Vector = v1.C.Vector))
     (some false)
     (cond (!decide (v2.C.Timer = (max (w64 (v1.C.Timer - (1 : Int))) (0 : Int))))
      (some false)
      (Option.bind (F_laws_sameInts v2.In v1.In) fun v10 =>
      cond (!v10)
       (some false)
       (Option.bind (F_laws_sameInts v2.Out v1.Out) fun v11 =>
       cond (!v11)
        (some false)
        (Option.bind (Option.bind (iter (F_laws_FnBareStep_l14 v1 v2) ((0 : Int), (0 : Int))) LO.val) fun j12 =>
         JO.run j12 (F_laws_FnBareStep_j12))))))))
noncomputable def F_laws_FnBareStep (x_code : List Int) : Option Bool :=
 cond (decide ((1048576 : Int) < (((List.length x_code) : Nat) : Int)))
  (some true)
  (Option.bind (F_spec_DrawBareStep x_code) fun v1 =>
  Option.bind (F_impl_BareStep v1) fun v2 =>
  Option.bind (F_spec_BareStep v1) fun v3 =>
  Option.bind (F_laws_sameBare v2 v3) fun v4 =>
  cond (!v4)
   (some false)
   (Option.bind (F_impl_BareOk v1) fun v5 =>
   cond (!v5)
    (cond (decide ((((List.length v2.Mem) : Nat) : Int) = (0 : Int)))
     (Option.bind (F_laws_alive ) fun v6 =>
     some v6)
     (some false))
    (Option.bind (Option.bind (F_impl_BareOk v2) fun v20 =>
     cond (!v20)
      (some (.out false))
      (cond v1.C.Stopped
       (Option.bind (F_laws_sameBare v2 v1) fun v21 =>
       cond (!v21)
        (some (.out false))
        (some (.go ())))
       (some (.go ())))) fun j7 =>
     JO.run j7 (F_laws_FnBareStep_j7 v1 v2))))
theorem laws_FnBareStep_fn {x_code : List Int} {R_ : Bool} (hh : F_laws_FnBareStep x_code = some R_) : Fn Try.prog 9 [bo (eI .u8) x_code] (.bool R_) := by
 unfold F_laws_FnBareStep at hh
 refine Fn.start low_laws_FnBareStep [0] (E := sp 141 [(0, bo (eI .u8) x_code)]) (by kernel_rfl) (v := bb R_) (Hr := []) (k := 0) (by kernel_rfl) ?_
 refine sy [0] [] (sp 141 [(0, bo (eI .u8) x_code)]) [] 0 ?_
 refine Aw.seq ?_
 refine sy [0, 11] [] (sp 141 [(0, bo (eI .u8) x_code), (11, bb (decide ((1048576 : Int) < (((List.length x_code) : Nat) : Int))))]) [] 0 ?_
 rcases cond_some hh with ⟨hb, hh⟩ | ⟨hb, hh⟩
 · refine cT hb ?_
   refine sy [2] [] (sp 141 [(2, bb true)]) [] 0 ?_
   refine Aw.ret ?_
   refine then_r ?_
   rw [some_some hh]
   exact gvb
 refine cF hb ?_
 refine Aw.xskip (fun _ _ _ hq => then_m hq) ?_
 refine Aw.sreg [3] [0, 1, 2, 3, 4] (yj 1  (sp 141 [(0, bo (eI .u8) x_code), (11, bb (decide ((1048576 : Int) < (((List.length x_code) : Nat) : Int)))), (12, bo (eI .u8) x_code)]) [] 0 ?_)
 obtain ⟨v1, hv1, hh⟩ := bind_some hh
 let q1 : Root := ⟨3, (fl (eI .i64) v1.Out)⟩
 let q2 : Root := ⟨3, (fl (eI .i64) v1.In)⟩
 let q3 : Root := ⟨3, (fl (eI .i64) v1.Mem)⟩
 let q4 : Root := ⟨3, (fl (eI .i64) v1.C.Regs)⟩
 refine ys (.call 35 [(.t 12)]) (some 13) (op_call (r := .agg (.own 3 1 (List.length v1.C.Regs) (fl (eI .i64) v1.C.Regs) :: ru39 v1.C [.own 3 1 (List.length v1.Mem) (fl (eI .i64) v1.Mem), .own 3 1 (List.length v1.In) (fl (eI .i64) v1.In), .own 3 1 (List.length v1.Out) (fl (eI .i64) v1.Out)])) (v := .agg (.sref 0 [] 0 (List.length v1.C.Regs) 1 :: ru39 v1.C [.sref 1 [] 0 (List.length v1.Mem) 1, .sref 2 [] 0 (List.length v1.In) 1, .sref 3 [] 0 (List.length v1.Out) 1])) (Hr := [(3, some q1), (2, some q2), (1, some q3), (0, some q4)]) (n' := 4) (spec_DrawBareStep_fn hv1) (clz_v (vs := [bo (eI .u8) x_code]) (by kernel_rfl) (clz_c (clo_same (clean_bor (cleans_fl cl_eI))) clz_n)) (by simp only [ru39, AV.noRef, noRefs, Bool.and_self, noRefs_fl nr_eI]) (by simp only [ru39, AV.noBor, noBors, Bool.and_self, noBors_fl nb_eI]) (by kernel_rfl) ?_)
 let q5 : Root := ⟨43, (.sref 0 [] 0 (List.length v1.C.Regs) 1 :: ru39 v1.C [.sref 1 [] 0 (List.length v1.Mem) 1, .sref 2 [] 0 (List.length v1.In) 1, .sref 3 [] 0 (List.length v1.Out) 1])⟩
 refine yt (sp 141 [(3, pp 4)]) [(0, some q4), (1, some q3), (2, some q2), (3, some q1), (4, some q5)] 5 ?_
 refine Aw.sreg [3, 4] [0, 1, 2, 3, 4, 5, 6, 7, 8, 9] (yu 1 [(14, .agg (.sref 0 [] 0 (List.length v1.C.Regs) 1 :: ru39 v1.C [.sref 1 [] 0 (List.length v1.Mem) 1, .sref 2 [] 0 (List.length v1.In) 1, .sref 3 [] 0 (List.length v1.Out) 1]))] [(0, some q4), (1, some q3), (2, some q2), (3, some q1), (4, some q5)] 5 ?_)
 obtain ⟨v2, hv2, hh⟩ := bind_some hh
 let q6 : Root := ⟨3, (fl (eI .i64) v2.Out)⟩
 let q7 : Root := ⟨3, (fl (eI .i64) v2.In)⟩
 let q8 : Root := ⟨3, (fl (eI .i64) v2.Mem)⟩
 let q9 : Root := ⟨3, (fl (eI .i64) v2.C.Regs)⟩
 refine ys (.call 36 [(.t 14)]) (some 15) (op_call (r := .agg (.own 3 1 (List.length v2.C.Regs) (fl (eI .i64) v2.C.Regs) :: ru39 v2.C [.own 3 1 (List.length v2.Mem) (fl (eI .i64) v2.Mem), .own 3 1 (List.length v2.In) (fl (eI .i64) v2.In), .own 3 1 (List.length v2.Out) (fl (eI .i64) v2.Out)])) (v := .agg (.sref 5 [] 0 (List.length v2.C.Regs) 1 :: ru39 v2.C [.sref 6 [] 0 (List.length v2.Mem) 1, .sref 7 [] 0 (List.length v2.In) 1, .sref 8 [] 0 (List.length v2.Out) 1])) (Hr := [(8, some q6), (7, some q7), (6, some q8), (5, some q9)]) (n' := 9) (impl_BareStep_fn hv2) (clz_v (vs := [.agg (.sref 0 [] 0 (List.length v1.C.Regs) 1 :: ru39 v1.C [.sref 1 [] 0 (List.length v1.Mem) 1, .sref 2 [] 0 (List.length v1.In) 1, .sref 3 [] 0 (List.length v1.Out) 1])]) (by kernel_rfl) (clz_c (clo_agg (clos_c (clo_own (c := (eI .i64)) (xs := v1.C.Regs) (e := 3) (by first | rfl | omega | (simp only [List.length_set, over_len, List.length_replicate, List.length_append, List.length_cons, List.length_nil, List.length_take, List.length_drop] <;> omega)) len_eI no_eI cl_eI (by kernel_rfl)) (cs1 (cs1 (cs1 (cs1 (cs1 (cs1 (cs1 (cs1 (cs1 (cs1 (cs1 (cs1 (clos_c (clo_own (c := (eI .i64)) (xs := v1.Mem) (e := 3) (by first | rfl | omega | (simp only [List.length_set, over_len, List.length_replicate, List.length_append, List.length_cons, List.length_nil, List.length_take, List.length_drop] <;> omega)) len_eI no_eI cl_eI (by kernel_rfl)) (clos_c (clo_own (c := (eI .i64)) (xs := v1.In) (e := 3) (by first | rfl | omega | (simp only [List.length_set, over_len, List.length_replicate, List.length_append, List.length_cons, List.length_nil, List.length_take, List.length_drop] <;> omega)) len_eI no_eI cl_eI (by kernel_rfl)) (clos_c (clo_own (c := (eI .i64)) (xs := v1.Out) (e := 3) (by first | rfl | omega | (simp only [List.length_set, over_len, List.length_replicate, List.length_append, List.length_cons, List.length_nil, List.length_take, List.length_drop] <;> omega)) len_eI no_eI cl_eI (by kernel_rfl)) clos_n))))))))))))))))) clz_n)) (by simp only [ru39, AV.noRef, noRefs, Bool.and_self, noRefs_fl nr_eI]) (by simp only [ru39, AV.noBor, noBors, Bool.and_self, noBors_fl nb_eI]) (by kernel_rfl) ?_)
 let q10 : Root := ⟨43, (.sref 5 [] 0 (List.length v2.C.Regs) 1 :: ru39 v2.C [.sref 6 [] 0 (List.length v2.Mem) 1, .sref 7 [] 0 (List.length v2.In) 1, .sref 8 [] 0 (List.length v2.Out) 1])⟩
 refine yt (sp 141 [(3, pp 4), (4, pp 9)]) [(0, some q4), (1, some q3), (2, some q2), (3, some q1), (4, some q5), (5, some q9), (6, some q8), (7, some q7), (8, some q6), (9, some q10)] 10 ?_
 refine Aw.seq ?_
 let q11 : Root := ⟨43, (bo (eI .i64) v1.C.Regs :: ru39 v1.C [.sref 1 [] 0 (List.length v1.Mem) 1, .sref 2 [] 0 (List.length v1.In) 1, .sref 3 [] 0 (List.length v1.Out) 1])⟩
 refine Aw.freeze 0 (cs := (fl (eI .i64) v1.C.Regs)) (e := 3) (env2 := sp 141 [(3, pp 4), (4, pp 9)]) (H2 := [(1, some q3), (2, some q2), (3, some q1), (4, some q11), (5, some q9), (6, some q8), (7, some q7), (8, some q6), (9, some q10)]) (by kernel_rfl) (noOwn_fl no_eI) (frs_sp (by kernel_rfl) (fl_c (u := pp 4) (by kernel_rfl) (.same _) (fl_c (u := pp 9) (by kernel_rfl) (.same _) fl_n))) (hf_c (t := q3) rfl (by kernel_rfl) rfl frs_same (hf_c (t := q2) rfl (by kernel_rfl) rfl frs_same (hf_c (t := q1) rfl (by kernel_rfl) rfl frs_same (hf_c (t := q5) rfl (by kernel_rfl) rfl (frs_c (fr_all len_eI (by first | rfl | omega | (simp only [List.length_set, over_len, List.length_replicate, List.length_append, List.length_cons, List.length_nil, List.length_take, List.length_drop] <;> omega))) (frs_c (.same _) (frs_c (.same _) (frs_c (.same _) (frs_c (.same _) (frs_c (.same _) (frs_c (.same _) (frs_c (.same _) (frs_c (.same _) (frs_c (.same _) (frs_c (.same _) (frs_c (.same _) (frs_c (.same _) (frs_c (.same _) (frs_c (.same _) (frs_c (.same _) frs_n)))))))))))))))) (hf_c (t := q9) rfl (by kernel_rfl) rfl frs_same (hf_c (t := q8) rfl (by kernel_rfl) rfl frs_same (hf_c (t := q7) rfl (by kernel_rfl) rfl frs_same (hf_c (t := q6) rfl (by kernel_rfl) rfl frs_same (hf_c (t := q10) rfl (by kernel_rfl) rfl (frs_c (.same _) (frs_c (.same _) (frs_c (.same _) (frs_c (.same _) (frs_c (.same _) (frs_c (.same _) (frs_c (.same _) (frs_c (.same _) (frs_c (.same _) (frs_c (.same _) (frs_c (.same _) (frs_c (.same _) (frs_c (.same _) (frs_c (.same _) (frs_c (.same _) (frs_c (.same _) frs_n)))))))))))))))) hf_n))))))))) ?_
 let q12 : Root := ⟨43, (bo (eI .i64) v1.C.Regs :: ru39 v1.C [bo (eI .i64) v1.Mem, .sref 2 [] 0 (List.length v1.In) 1, .sref 3 [] 0 (List.length v1.Out) 1])⟩
 refine Aw.freeze 1 (cs := (fl (eI .i64) v1.Mem)) (e := 3) (env2 := sp 141 [(3, pp 4), (4, pp 9)]) (H2 := [(2, some q2), (3, some q1), (4, some q12), (5, some q9), (6, some q8), (7, some q7), (8, some q6), (9, some q10)]) (by kernel_rfl) (noOwn_fl no_eI) (frs_sp (by kernel_rfl) (fl_c (u := pp 4) (by kernel_rfl) (.same _) (fl_c (u := pp 9) (by kernel_rfl) (.same _) fl_n))) (hf_c (t := q2) rfl (by kernel_rfl) rfl frs_same (hf_c (t := q1) rfl (by kernel_rfl) rfl frs_same (hf_c (t := q11) rfl (by kernel_rfl) rfl (frs_c (.same _) (frs_c (.same _) (frs_c (.same _) (frs_c (.same _) (frs_c (.same _) (frs_c (.same _) (frs_c (.same _) (frs_c (.same _) (frs_c (.same _) (frs_c (.same _) (frs_c (.same _) (frs_c (.same _) (frs_c (.same _) (frs_c (fr_all len_eI (by first | rfl | omega | (simp only [List.length_set, over_len, List.length_replicate, List.length_append, List.length_cons, List.length_nil, List.length_take, List.length_drop] <;> omega))) (frs_c (.same _) (frs_c (.same _) frs_n)))))))))))))))) (hf_c (t := q9) rfl (by kernel_rfl) rfl frs_same (hf_c (t := q8) rfl (by kernel_rfl) rfl frs_same (hf_c (t := q7) rfl (by kernel_rfl) rfl frs_same (hf_c (t := q6) rfl (by kernel_rfl) rfl frs_same (hf_c (t := q10) rfl (by kernel_rfl) rfl (frs_c (.same _) (frs_c (.same _) (frs_c (.same _) (frs_c (.same _) (frs_c (.same _) (frs_c (.same _) (frs_c (.same _) (frs_c (.same _) (frs_c (.same _) (frs_c (.same _) (frs_c (.same _) (frs_c (.same _) (frs_c (.same _) (frs_c (.same _) (frs_c (.same _) (frs_c (.same _) frs_n)))))))))))))))) hf_n)))))))) ?_
 let q13 : Root := ⟨43, (bo (eI .i64) v1.C.Regs :: ru39 v1.C [bo (eI .i64) v1.Mem, bo (eI .i64) v1.In, .sref 3 [] 0 (List.length v1.Out) 1])⟩
 refine Aw.freeze 2 (cs := (fl (eI .i64) v1.In)) (e := 3) (env2 := sp 141 [(3, pp 4), (4, pp 9)]) (H2 := [(3, some q1), (4, some q13), (5, some q9), (6, some q8), (7, some q7), (8, some q6), (9, some q10)]) (by kernel_rfl) (noOwn_fl no_eI) (frs_sp (by kernel_rfl) (fl_c (u := pp 4) (by kernel_rfl) (.same _) (fl_c (u := pp 9) (by kernel_rfl) (.same _) fl_n))) (hf_c (t := q1) rfl (by kernel_rfl) rfl frs_same (hf_c (t := q12) rfl (by kernel_rfl) rfl (frs_c (.same _) (frs_c (.same _) (frs_c (.same _) (frs_c (.same _) (frs_c (.same _) (frs_c (.same _) (frs_c (.same _) (frs_c (.same _) (frs_c (.same _) (frs_c (.same _) (frs_c (.same _) (frs_c (.same _) (frs_c (.same _) (frs_c (.same _) (frs_c (fr_all len_eI (by first | rfl | omega | (simp only [List.length_set, over_len, List.length_replicate, List.length_append, List.length_cons, List.length_nil, List.length_take, List.length_drop] <;> omega))) (frs_c (.same _) frs_n)))))))))))))))) (hf_c (t := q9) rfl (by kernel_rfl) rfl frs_same (hf_c (t := q8) rfl (by kernel_rfl) rfl frs_same (hf_c (t := q7) rfl (by kernel_rfl) rfl frs_same (hf_c (t := q6) rfl (by kernel_rfl) rfl frs_same (hf_c (t := q10) rfl (by kernel_rfl) rfl (frs_c (.same _) (frs_c (.same _) (frs_c (.same _) (frs_c (.same _) (frs_c (.same _) (frs_c (.same _) (frs_c (.same _) (frs_c (.same _) (frs_c (.same _) (frs_c (.same _) (frs_c (.same _) (frs_c (.same _) (frs_c (.same _) (frs_c (.same _) (frs_c (.same _) (frs_c (.same _) frs_n)))))))))))))))) hf_n))))))) ?_
 refine Aw.freeze 3 (cs := (fl (eI .i64) v1.Out)) (e := 3) (env2 := sp 141 [(3, pp 4), (4, pp 9)]) (H2 := [(4, some ⟨43, (B_43 v1)⟩), (5, some q9), (6, some q8), (7, some q7), (8, some q6), (9, some q10)]) (by kernel_rfl) (noOwn_fl no_eI) (frs_sp (by kernel_rfl) (fl_c (u := pp 4) (by kernel_rfl) (.same _) (fl_c (u := pp 9) (by kernel_rfl) (.same _) fl_n))) (hf_c (t := q13) rfl (by kernel_rfl) rfl (frs_c (.same _) (frs_c (.same _) (frs_c (.same _) (frs_c (.same _) (frs_c (.same _) (frs_c (.same _) (frs_c (.same _) (frs_c (.same _) (frs_c (.same _) (frs_c (.same _) (frs_c (.same _) (frs_c (.same _) (frs_c (.same _) (frs_c (.same _) (frs_c (.same _) (frs_c (fr_all len_eI (by first | rfl | omega | (simp only [List.length_set, over_len, List.length_replicate, List.length_append, List.length_cons, List.length_nil, List.length_take, List.length_drop] <;> omega))) frs_n)))))))))))))))) (hf_c (t := q9) rfl (by kernel_rfl) rfl frs_same (hf_c (t := q8) rfl (by kernel_rfl) rfl frs_same (hf_c (t := q7) rfl (by kernel_rfl) rfl frs_same (hf_c (t := q6) rfl (by kernel_rfl) rfl frs_same (hf_c (t := q10) rfl (by kernel_rfl) rfl (frs_c (.same _) (frs_c (.same _) (frs_c (.same _) (frs_c (.same _) (frs_c (.same _) (frs_c (.same _) (frs_c (.same _) (frs_c (.same _) (frs_c (.same _) (frs_c (.same _) (frs_c (.same _) (frs_c (.same _) (frs_c (.same _) (frs_c (.same _) (frs_c (.same _) (frs_c (.same _) frs_n)))))))))))))))) hf_n)))))) ?_
 refine Aw.sregd [3, 4, 20] [4, 5, 6, 7, 8, 9] [] (by kernel_rfl) ?_
 refine dc (cs := []) (E' := (sp 141 [(3, pp 4), (4, pp 9), (16, .agg (.sref 5 [] 0 (List.length v2.C.Regs) 1 :: ru39 v2.C [.sref 6 [] 0 (List.length v2.Mem) 1, .sref 7 [] 0 (List.length v2.In) 1, .sref 8 [] 0 (List.length v2.Out) 1])), (17, .agg (B_43 v1))])) (H' := [(4, some ⟨43, (B_43 v1)⟩), (5, some q9), (6, some q8), (7, some q7), (8, some q6), (9, some q10)]) (n' := 10) (fs' := none) (pre := (List.take 2 Lf9_r5)) (L' := (List.drop 2 Lf9_r5)) (by kernel_rfl) (fun K => by kernel_rfl) .nil ?_
 obtain ⟨v3, hv3, hh⟩ := bind_some hh
 refine ds (.call 38 [(.t 17)]) (some 18) (ydo_n rfl (op_callp (r := .agg (B_43 v3)) (v := .agg (B_43 v3)) (Hr := []) (n' := 10) (spec_BareStep_fn hv3) (clz_v (vs := [.agg (B_43 v1)]) (by kernel_rfl) (clz_c (clo_same (clean_agg (cl_B_43 _))) clz_n)) (by simp only [AV.noRef, noRefs, Bool.and_self, noRefs_fl nr_eI, nr_B_43]) (by kernel_rfl) ⟨⟨agr_name (n := 10) (n0 := 10) (r := .agg (B_43 v3)) (v := .agg (B_43 v3)) (Hr := []) (n' := 10) (by kernel_rfl) (by decide), Hld.un ?_⟩⟩))
 obtain ⟨v4, hv4, hh⟩ := bind_some hh
 refine ds (.call 37 [(.t 16), (.t 18)]) (some 19) (ydo_n rfl (op_call (r := bb v4) (v := bb v4) (Hr := []) (n' := 10) (laws_sameBare_fn hv4) (clz_v (vs := [.agg (.sref 5 [] 0 (List.length v2.C.Regs) 1 :: ru39 v2.C [.sref 6 [] 0 (List.length v2.Mem) 1, .sref 7 [] 0 (List.length v2.In) 1, .sref 8 [] 0 (List.length v2.Out) 1]), .agg (B_43 v3)]) (by kernel_rfl) (clz_c (clo_agg (clos_c (clo_own (c := (eI .i64)) (xs := v2.C.Regs) (e := 3) (by first | rfl | omega | (simp only [List.length_set, over_len, List.length_replicate, List.length_append, List.length_cons, List.length_nil, List.length_take, List.length_drop] <;> omega)) len_eI no_eI cl_eI (by kernel_rfl)) (cs1 (cs1 (cs1 (cs1 (cs1 (cs1 (cs1 (cs1 (cs1 (cs1 (cs1 (cs1 (clos_c (clo_own (c := (eI .i64)) (xs := v2.Mem) (e := 3) (by first | rfl | omega | (simp only [List.length_set, over_len, List.length_replicate, List.length_append, List.length_cons, List.length_nil, List.length_take, List.length_drop] <;> omega)) len_eI no_eI cl_eI (by kernel_rfl)) (clos_c (clo_own (c := (eI .i64)) (xs := v2.In) (e := 3) (by first | rfl | omega | (simp only [List.length_set, over_len, List.length_replicate, List.length_append, List.length_cons, List.length_nil, List.length_take, List.length_drop] <;> omega)) len_eI no_eI cl_eI (by kernel_rfl)) (clos_c (clo_own (c := (eI .i64)) (xs := v2.Out) (e := 3) (by first | rfl | omega | (simp only [List.length_set, over_len, List.length_replicate, List.length_append, List.length_cons, List.length_nil, List.length_take, List.length_drop] <;> omega)) len_eI no_eI cl_eI (by kernel_rfl)) clos_n))))))))))))))))) (clz_c (clo_same (clean_agg (cl_B_43 _))) clz_n))) rfl rfl (by kernel_rfl) ⟨⟨agr_name (n := 10) (n0 := 10) (r := bb v4) (v := bb v4) (Hr := []) (n' := 10) (by kernel_rfl) (by decide), Hld.un ?_⟩⟩))
 refine dct (cs := []) (E' := (sp 141 [(3, pp 4), (4, pp 9), (16, .agg (.sref 5 [] 0 (List.length v2.C.Regs) 1 :: ru39 v2.C [.sref 6 [] 0 (List.length v2.Mem) 1, .sref 7 [] 0 (List.length v2.In) 1, .sref 8 [] 0 (List.length v2.Out) 1])), (17, .agg (B_43 v1)), (18, .agg (B_43 v3)), (19, bb v4)])) (H' := [(4, some ⟨43, (B_43 v1)⟩), (5, some q9), (6, some q8), (7, some q7), (8, some q6), (9, some q10)]) (n' := 10) (fun K => by kernel_rfl) .nil ?_
 refine yt (sp 141 [(3, pp 4), (4, pp 9), (20, bb (!v4))]) [(4, some ⟨43, (B_43 v1)⟩), (5, some q9), (6, some q8), (7, some q7), (8, some q6), (9, some q10)] 10 ?_
 rcases cond_some hh with ⟨hb, hh⟩ | ⟨hb, hh⟩
 · refine cT hb ?_
   refine sy [2] [] (sp 141 [(2, bb false)]) [] 10 ?_
   refine Aw.ret ?_
   refine then_r ?_
   rw [some_some hh]
   exact gvb
 refine cF hb ?_
 refine Aw.xskip (fun _ _ _ hq => then_m hq) ?_
 refine Aw.seq ?_
 refine Aw.sreg [3, 4, 23] [4, 5, 6, 7, 8, 9] (yj 1  (sp 141 [(3, pp 4), (4, pp 9), (20, bb (!v4)), (21, .agg (B_43 v1))]) [(4, some ⟨43, (B_43 v1)⟩), (5, some q9), (6, some q8), (7, some q7), (8, some q6), (9, some q10)] 10 ?_)
 obtain ⟨v5, hv5, hh⟩ := bind_some hh
 refine ys (.call 33 [(.t 21)]) (some 22) (op_call (r := bb v5) (v := bb v5) (Hr := []) (n' := 10) (impl_BareOk_fn hv5) (clz_v (vs := [.agg (B_43 v1)]) (by kernel_rfl) (clz_c (clo_same (clean_agg (cl_B_43 _))) clz_n)) rfl rfl (by kernel_rfl) ?_)
 refine yt (sp 141 [(3, pp 4), (4, pp 9), (23, bb (!v5))]) [(4, some ⟨43, (B_43 v1)⟩), (5, some q9), (6, some q8), (7, some q7), (8, some q6), (9, some q10)] 10 ?_
 rcases cond_some hh with ⟨hb, hh⟩ | ⟨hb, hh⟩
 · refine cT hb ?_
   refine Aw.sreg [2] [] (yu 5 [(24, .ptr 9 [] 13), (25, .sref 6 [] 0 (List.length v2.Mem) 1), (26, ii (((List.length v2.Mem) : Nat) : Int)), (27, bb (decide ((((List.length v2.Mem) : Nat) : Int) = (0 : Int)))), (28, bb (decide ((((List.length v2.Mem) : Nat) : Int) = (0 : Int))))] [(4, some ⟨43, (B_43 v1)⟩), (5, some q9), (6, some q8), (7, some q7), (8, some q6), (9, some q10)] 10 ?_)
   rcases cond_some hh with ⟨hb, hh⟩ | ⟨hb, hh⟩
   · refine yb 27 hb ?_
     refine yb 28 hb ?_
     obtain ⟨v6, hv6, hh⟩ := bind_some hh
     refine yg (.call 18 []) (some 29) 28 true (oc (laws_alive_fn hv6) ?_)
     refine yt (sp 141 [(2, bb v6)]) [] 10 ?_
     refine Aw.ret ?_
     refine then_r ?_
     rw [some_some hh]
     exact gvb
   refine yb 27 hb ?_
   refine yb 28 hb ?_
   refine yt (sp 141 [(2, bb false)]) [] 10 ?_
   refine Aw.ret ?_
   refine then_r ?_
   rw [some_some hh]
   exact gvb
 refine cF hb ?_
 refine Aw.xskip (fun _ _ _ hq => then_m hq) ?_
 obtain ⟨j7, hh, hk7⟩ := bind_some hh
 refine Aw.join (S := Unit) (fun s7 => sp 141 [(3, pp 0), (4, pp 1)]) (fun s7 => [(0, some ⟨43, (B_43 v1)⟩), (1, some ⟨43, (.sref 2 [] 0 (List.length v2.C.Regs) 1 :: ru39 v2.C [.sref 3 [] 0 (List.length v2.Mem) 1, .sref 4 [] 0 (List.length v2.In) 1, .sref 5 [] 0 (List.length v2.Out) 1])⟩), (2, some ⟨3, (fl (eI .i64) v2.C.Regs)⟩), (3, some ⟨3, (fl (eI .i64) v2.Mem)⟩), (4, some ⟨3, (fl (eI .i64) v2.In)⟩), (5, some ⟨3, (fl (eI .i64) v2.Out)⟩)]) 6 (fun s7 => F_laws_FnBareStep_j7 v1 v2 s7 = some R_) ?_ ?_
 · intro s7 hh
   unfold F_laws_FnBareStep_j7 at hh
   refine Aw.seq ?_
   refine Aw.sreg [3, 4, 53] [0, 1, 2, 3, 4, 5] ?_
   let q14 : Root := ⟨43, (.sref 2 [] 0 (List.length v2.C.Regs) 1 :: ru39 v2.C [.sref 3 [] 0 (List.length v2.Mem) 1, .sref 4 [] 0 (List.length v2.In) 1, .sref 5 [] 0 (List.length v2.Out) 1])⟩
   refine yj 5  (sp 141 [(3, pp 0), (4, pp 1), (45, pp 0), (46, .ptr 0 [] 10), (47, bb v1.C.User), (48, bb (!v1.C.User)), (49, bb (!v1.C.User))]) [(0, some ⟨43, (B_43 v1)⟩), (1, some q14), (2, some q9), (3, some q8), (4, some q7), (5, some q6)] 6 ?_
   rcases cond_some hh with ⟨hb, hh⟩ | ⟨hb, hh⟩
   · refine yb 48 hb ?_
     refine yb 49 hb ?_
     refine yt (sp 141 [(3, pp 0), (4, pp 1), (53, bb true)]) [(0, some ⟨43, (B_43 v1)⟩), (1, some q14), (2, some q9), (3, some q8), (4, some q7), (5, some q6)] 6 ?_
     refine cT rfl ?_
     refine Aw.sreg [2] [] ?_
     obtain ⟨v8, hv8, hh⟩ := bind_some hh
     refine ys (.call 18 []) (some 54) (oc (laws_alive_fn hv8) ?_)
     refine yt (sp 141 [(2, bb v8)]) [] 6 ?_
     refine Aw.ret ?_
     refine then_r ?_
     rw [some_some hh]
     exact gvb
   refine yb 48 hb ?_
   refine yb 49 hb ?_
   refine yt (sp 141 [(3, pp 0), (4, pp 1), (53, bb v1.C.Stopped)]) [(0, some ⟨43, (B_43 v1)⟩), (1, some q14), (2, some q9), (3, some q8), (4, some q7), (5, some q6)] 6 ?_
   rcases cond_some hh with ⟨hb, hh⟩ | ⟨hb, hh⟩
   · refine cT hb ?_
     refine Aw.sreg [2] [] ?_
     obtain ⟨v9, hv9, hh⟩ := bind_some hh
     refine ys (.call 18 []) (some 54) (oc (laws_alive_fn hv9) ?_)
     refine yt (sp 141 [(2, bb v9)]) [] 6 ?_
     refine Aw.ret ?_
     refine then_r ?_
     rw [some_some hh]
     exact gvb
   refine cF hb ?_
   refine Aw.xskip (fun _ _ _ hq => then_m hq) ?_
   refine Aw.seq ?_
   refine Aw.sreg [3, 4, 97] [0, 1, 2, 3, 4, 5] (yj 8  (sp 141 [(3, pp 0), (4, pp 1), (53, bb v1.C.Stopped), (55, pp 1), (56, .ptr 1 [] 2), (57, ii v2.C.Root), (58, pp 0), (59, .ptr 0 [] 2), (60, ii v1.C.Root), (61, bb (!decide (v2.C.Root = v1.C.Root))), (62, bb (!decide (v2.C.Root = v1.C.Root)))]) [(0, some ⟨43, (B_43 v1)⟩), (1, some q14), (2, some q9), (3, some q8), (4, some q7), (5, some q6)] 6 ?_)
   rcases cond_some hh with ⟨hb, hh⟩ | ⟨hb, hh⟩
   · refine yb 61 hb ?_
     refine yb 62 hb ?_
     refine yt (sp 141 [(3, pp 0), (4, pp 1), (97, bb true)]) [(0, some ⟨43, (B_43 v1)⟩), (1, some q14), (2, some q9), (3, some q8), (4, some q7), (5, some q6)] 6 ?_
     refine cT rfl ?_
     refine sy [2] [] (sp 141 [(2, bb false)]) [] 6 ?_
     refine Aw.ret ?_
     refine then_r ?_
     rw [some_some hh]
     exact gvb
   refine yb 61 hb ?_
   refine yb 62 hb ?_
   refine yu 9 [(61, bb false), (62, bb false), (63, pp 1), (64, .ptr 1 [] 3), (65, ii v2.C.Vector), (66, pp 0), (67, .ptr 0 [] 3), (68, ii v1.C.Vector), (69, bb (!decide (v2.C.Vector = v1.C.Vector))), (70, bb (!decide (v2.C.Vector = v1.C.Vector))), (71, bb (!decide (v2.C.Vector = v1.C.Vector)))] [(0, some ⟨43, (B_43 v1)⟩), (1, some q14), (2, some q9), (3, some q8), (4, some q7), (5, some q6)] 6 ?_
   rcases cond_some hh with ⟨hb, hh⟩ | ⟨hb, hh⟩
   · refine yb 69 hb ?_
     refine yb 70 hb ?_
     refine yb 71 hb ?_
     refine yt (sp 141 [(3, pp 0), (4, pp 1), (97, bb true)]) [(0, some ⟨43, (B_43 v1)⟩), (1, some q14), (2, some q9), (3, some q8), (4, some q7), (5, some q6)] 6 ?_
     refine cT rfl ?_
     refine sy [2] [] (sp 141 [(2, bb false)]) [] 6 ?_
     refine Aw.ret ?_
     refine then_r ?_
     rw [some_some hh]
     exact gvb
   refine yb 69 hb ?_
   refine yb 70 hb ?_
   refine yb 71 hb ?_
   refine yu 11 [(69, bb false), (70, bb false), (71, bb false), (72, pp 1), (73, .ptr 1 [] 8), (74, ii v2.C.Timer), (75, pp 0), (76, .ptr 0 [] 8), (77, ii v1.C.Timer), (78, ii (w64 (v1.C.Timer - (1 : Int)))), (79, ii (max (w64 (v1.C.Timer - (1 : Int))) (0 : Int))), (80, bb (!decide (v2.C.Timer = (max (w64 (v1.C.Timer - (1 : Int))) (0 : Int))))), (81, bb (!decide (v2.C.Timer = (max (w64 (v1.C.Timer - (1 : Int))) (0 : Int))))), (82, bb (!decide (v2.C.Timer = (max (w64 (v1.C.Timer - (1 : Int))) (0 : Int)))))] [(0, some ⟨43, (B_43 v1)⟩), (1, some q14), (2, some q9), (3, some q8), (4, some q7), (5, some q6)] 6 ?_
   rcases cond_some hh with ⟨hb, hh⟩ | ⟨hb, hh⟩
   · refine yb 80 hb ?_
     refine yb 81 hb ?_
     refine yb 82 hb ?_
     refine yt (sp 141 [(3, pp 0), (4, pp 1), (97, bb true)]) [(0, some ⟨43, (B_43 v1)⟩), (1, some q14), (2, some q9), (3, some q8), (4, some q7), (5, some q6)] 6 ?_
     refine cT rfl ?_
     refine sy [2] [] (sp 141 [(2, bb false)]) [] 6 ?_
     refine Aw.ret ?_
     refine then_r ?_
     rw [some_some hh]
     exact gvb
   refine yb 80 hb ?_
   refine yb 81 hb ?_
   refine yb 82 hb ?_
   refine yu 4 [(80, bb false), (81, bb false), (82, bb false), (83, .ptr 1 [] 14), (84, .sref 4 [] 0 (List.length v2.In) 1), (85, .ptr 0 [] 14), (86, bo (eI .i64) v1.In)] [(0, some ⟨43, (B_43 v1)⟩), (1, some q14), (2, some q9), (3, some q8), (4, some q7), (5, some q6)] 6 ?_
   obtain ⟨v10, hv10, hh⟩ := bind_some hh
   refine yg (.call 39 [(.t 84), (.t 86)]) (some 87) 82 false (op_call (r := bb v10) (v := bb v10) (Hr := []) (n' := 6) (laws_sameInts_fn hv10) (clz_v (vs := [.sref 4 [] 0 (List.length v2.In) 1, bo (eI .i64) v1.In]) (by kernel_rfl) (clz_c (clo_own (c := (eI .i64)) (xs := v2.In) (e := 3) (by first | rfl | omega | (simp only [List.length_set, over_len, List.length_replicate, List.length_append, List.length_cons, List.length_nil, List.length_take, List.length_drop] <;> omega)) len_eI no_eI cl_eI (by kernel_rfl)) (clz_c (clo_same (clean_bor (cleans_fl cl_eI))) clz_n))) rfl rfl (by kernel_rfl) ?_)
   refine yu 3 [(87, bb v10), (88, bb (!v10)), (89, bb (!v10)), (90, bb (!v10))] [(0, some ⟨43, (B_43 v1)⟩), (1, some q14), (2, some q9), (3, some q8), (4, some q7), (5, some q6)] 6 ?_
   rcases cond_some hh with ⟨hb, hh⟩ | ⟨hb, hh⟩
   · refine yb 88 hb ?_
     refine yb 89 hb ?_
     refine yb 90 hb ?_
     refine yt (sp 141 [(3, pp 0), (4, pp 1), (97, bb true)]) [(0, some ⟨43, (B_43 v1)⟩), (1, some q14), (2, some q9), (3, some q8), (4, some q7), (5, some q6)] 6 ?_
     refine cT rfl ?_
     refine sy [2] [] (sp 141 [(2, bb false)]) [] 6 ?_
     refine Aw.ret ?_
     refine then_r ?_
     rw [some_some hh]
     exact gvb
   refine yb 88 hb ?_
   refine yb 89 hb ?_
   refine yb 90 hb ?_
   refine yu 4 [(88, bb false), (89, bb false), (90, bb false), (91, .ptr 1 [] 15), (92, .sref 5 [] 0 (List.length v2.Out) 1), (93, .ptr 0 [] 15), (94, bo (eI .i64) v1.Out)] [(0, some ⟨43, (B_43 v1)⟩), (1, some q14), (2, some q9), (3, some q8), (4, some q7), (5, some q6)] 6 ?_
   obtain ⟨v11, hv11, hh⟩ := bind_some hh
   refine yg (.call 39 [(.t 92), (.t 94)]) (some 95) 90 false (op_call (r := bb v11) (v := bb v11) (Hr := []) (n' := 6) (laws_sameInts_fn hv11) (clz_v (vs := [.sref 5 [] 0 (List.length v2.Out) 1, bo (eI .i64) v1.Out]) (by kernel_rfl) (clz_c (clo_own (c := (eI .i64)) (xs := v2.Out) (e := 3) (by first | rfl | omega | (simp only [List.length_set, over_len, List.length_replicate, List.length_append, List.length_cons, List.length_nil, List.length_take, List.length_drop] <;> omega)) len_eI no_eI cl_eI (by kernel_rfl)) (clz_c (clo_same (clean_bor (cleans_fl cl_eI))) clz_n))) rfl rfl (by kernel_rfl) ?_)
   refine yt (sp 141 [(3, pp 0), (4, pp 1), (97, bb (!v11))]) [(0, some ⟨43, (B_43 v1)⟩), (1, some q14), (2, some q9), (3, some q8), (4, some q7), (5, some q6)] 6 ?_
   rcases cond_some hh with ⟨hb, hh⟩ | ⟨hb, hh⟩
   · refine cT hb ?_
     refine sy [2] [] (sp 141 [(2, bb false)]) [] 6 ?_
     refine Aw.ret ?_
     refine then_r ?_
     rw [some_some hh]
     exact gvb
   refine cF hb ?_
   refine Aw.xskip (fun _ _ _ hq => then_m hq) ?_
   refine sy [3, 4, 5] [0, 1, 2, 3, 4, 5] (sp 141 [(3, pp 0), (4, pp 1), (5, ii (0 : Int))]) [(0, some ⟨43, (B_43 v1)⟩), (1, some q14), (2, some q9), (3, some q8), (4, some q7), (5, some q6)] 6 ?_
   obtain ⟨j12, hh, hk12⟩ := bind_some hh
   refine Aw.join (S := Int) (fun s12 => sp 141 [(5, ii s12)]) (fun s12 => []) 0 (fun s12 => F_laws_FnBareStep_j12 s12 = some R_) ?_ ?_
   · intro s12 hh
     unfold F_laws_FnBareStep_j12 at hh
     refine Aw.sreg [2] [] (yj 3  (sp 141 [(5, ii s12), (136, ii s12), (137, bb (decide (s12 ≤ (1 : Int)))), (138, bb (decide (s12 ≤ (1 : Int))))]) [] 0 ?_)
     rcases cond_some hh with ⟨hb, hh⟩ | ⟨hb, hh⟩
     · refine yb 137 hb ?_
       refine yb 138 hb ?_
       obtain ⟨v13, hv13, hh⟩ := bind_some hh
       refine yg (.call 18 []) (some 139) 138 true (oc (laws_alive_fn hv13) ?_)
       refine yt (sp 141 [(2, bb v13)]) [] 0 ?_
       refine Aw.ret ?_
       rw [some_some hh]
       exact gvb
     refine yb 137 hb ?_
     refine yb 138 hb ?_
     refine yt (sp 141 [(2, bb false)]) [] 0 ?_
     refine Aw.ret ?_
     rw [some_some hh]
     exact gvb
   intro Q12 hN12 hR12 hE12
   refine sy [3, 4, 5, 6] [0, 1, 2, 3, 4, 5] (sp 141 [(3, pp 0), (4, pp 1), (5, ii (0 : Int)), (6, ii (0 : Int))]) [(0, some ⟨43, (B_43 v1)⟩), (1, some q14), (2, some q9), (3, some q8), (4, some q7), (5, some q6)] 6 ?_
   refine Aw.block ?_
   obtain ⟨o14, hi14, hk14⟩ := bind_some hh
   refine Aw.iter (fun (s14 : Int × Int) => sp 141 [(3, pp 0), (4, pp 1), (5, ii s14.1), (6, ii s14.2)]) (fun (s14 : Int × Int) => [(0, some ⟨43, (B_43 v1)⟩), (1, some ⟨43, (.sref 2 [] 0 (List.length v2.C.Regs) 1 :: ru39 v2.C [.sref 3 [] 0 (List.length v2.Mem) 1, .sref 4 [] 0 (List.length v2.In) 1, .sref 5 [] 0 (List.length v2.Out) 1])⟩), (2, some ⟨3, (fl (eI .i64) v2.C.Regs)⟩), (3, some ⟨3, (fl (eI .i64) v2.Mem)⟩), (4, some ⟨3, (fl (eI .i64) v2.In)⟩), (5, some ⟨3, (fl (eI .i64) v2.Out)⟩)]) 6 hi14 (Ent.list2 [some 0, some 1, some 2, some 3, some 4, some 5] rfl rfl (by decide) (rens_sp (by kernel_rfl) (rl_c (u := pp 0) (by kernel_rfl) (ren_p (by decide) rfl) (rl_c (u := pp 1) (by kernel_rfl) (ren_p (by decide) rfl) (rl_c (u := ii (0 : Int)) (by kernel_rfl) ren_i (rl_c (u := ii (0 : Int)) (by kernel_rfl) ren_i rl_n))))) (hq ⟨43, (B_43 v1)⟩ (rens_same (nr_B_43 _)) (hq q14 (rens_c ren_sx (rens_i (rens_i (rens_i (rens_i (rens_b (rens_i (rens_i (rens_i (rens_b (rens_b (rens_b (rens_b (rens_c ren_sx (rens_c ren_sx (rens_c ren_sx rens_n)))))))))))))))) (hq q9 (rens_same (noRefs_fl nr_eI)) (hq q8 (rens_same (noRefs_fl nr_eI)) (hq q7 (rens_same (noRefs_fl nr_eI)) (hq q6 (rens_same (noRefs_fl nr_eI)) hs_nil))))))) ?_
   intro s14 u14 Q14 hh hN14 hX14 hR14
   unfold F_laws_FnBareStep_l14 at hh
   refine Aw.seq ?_
   refine sy [3, 4, 5, 6, 102] [0, 1, 2, 3, 4, 5] (sp 141 [(3, pp 0), (4, pp 1), (5, ii s14.1), (6, ii s14.2), (102, bb (decide (s14.2 < (((List.length v1.Mem) : Nat) : Int))))]) [(0, some ⟨43, (B_43 v1)⟩), (1, some q14), (2, some q9), (3, some q8), (4, some q7), (5, some q6)] 6 ?_
   rcases cond_some hh with ⟨hb, hh⟩ | ⟨hb, hh⟩
   · refine cT hb ?_
     refine Aw.xskip (fun _ _ _ hq => then_m hq) ?_
     obtain ⟨j15, hh, hk15⟩ := bind_some hh
     refine Aw.join (S := Int) (fun s15 => sp 141 [(3, pp 0), (4, pp 1), (5, ii s15), (6, ii s14.2)]) (fun s15 => [(0, some ⟨43, (B_43 v1)⟩), (1, some ⟨43, (.sref 2 [] 0 (List.length v2.C.Regs) 1 :: ru39 v2.C [.sref 3 [] 0 (List.length v2.Mem) 1, .sref 4 [] 0 (List.length v2.In) 1, .sref 5 [] 0 (List.length v2.Out) 1])⟩), (2, some ⟨3, (fl (eI .i64) v2.C.Regs)⟩), (3, some ⟨3, (fl (eI .i64) v2.Mem)⟩), (4, some ⟨3, (fl (eI .i64) v2.In)⟩), (5, some ⟨3, (fl (eI .i64) v2.Out)⟩)]) 6 (fun s15 => F_laws_FnBareStep_j15 s14 s15 = some u14) ?_ ?_
     · intro s15 hh
       unfold F_laws_FnBareStep_j15 at hh
       refine Aw.oreg ?_
       refine ye (sp 141 [(3, pp 0), (4, pp 1), (5, ii s15), (6, ii (w64 (s14.2 + (1 : Int)))), (103, ii s14.2), (104, ii (w64 (s14.2 + (1 : Int))))]) [(0, some ⟨43, (B_43 v1)⟩), (1, some q14), (2, some q9), (3, some q8), (4, some q7), (5, some q6)] 6 ?_
       exact hN14 (s15, (w64 (s14.2 + (1 : Int)))) _ _ _ (some_some hh) (Ent.list2 [some 0, some 1, some 2, some 3, some 4, some 5] rfl rfl (by decide) (rens_sp (by kernel_rfl) (rl_c (u := pp 0) (by kernel_rfl) (ren_p (by decide) rfl) (rl_c (u := pp 1) (by kernel_rfl) (ren_p (by decide) rfl) (rl_c (u := ii s15) (by kernel_rfl) ren_i (rl_c (u := ii (w64 (s14.2 + (1 : Int)))) (by kernel_rfl) ren_i rl_n))))) (hq ⟨43, (B_43 v1)⟩ (rens_same (nr_B_43 _)) (hq q14 (rens_c ren_sx (rens_i (rens_i (rens_i (rens_i (rens_b (rens_i (rens_i (rens_i (rens_b (rens_b (rens_b (rens_b (rens_c ren_sx (rens_c ren_sx (rens_c ren_sx rens_n)))))))))))))))) (hq q9 (rens_same (noRefs_fl nr_eI)) (hq q8 (rens_same (noRefs_fl nr_eI)) (hq q7 (rens_same (noRefs_fl nr_eI)) (hq q6 (rens_same (noRefs_fl nr_eI)) hs_nil)))))))
     intro Q15 hN15 hR15 hE15
     refine Aw.block ?_
     refine Aw.seq ?_
     refine Aw.sregq [3, 4, 5, 6, 115] ?_
     obtain ⟨hg96, hh⟩ := grd_some hh
     refine qc (cs := [(0 : Int) ≤ s14.2 ∧ s14.2 < (((List.length v2.Mem) : Nat) : Int)]) (E' := (sp 141 [(3, pp 0), (4, pp 1), (5, ii s14.1), (6, ii s14.2), (102, bb (decide (s14.2 < (((List.length v1.Mem) : Nat) : Int)))), (105, .ptr 1 [] 13), (106, .sref 3 [] 0 (List.length v2.Mem) 1), (107, ii s14.2), (108, .ptr 3 [] (0 + (Int.toNat s14.2) * 1))])) (pre := (List.take 4 Lf9_r19)) (L' := (List.drop 4 Lf9_r19)) (by kernel_rfl) (fun K => by kernel_rfl) (.cons hg96 .nil) ?_
     refine qs (.load false 1 (.t 108)) (some 109) (yq_q rfl (op_load (c := (eI .i64)) (xs := v2.Mem) (e := 3) (r := 3) (π := []) (o := 0 + (Int.toNat s14.2) * 1) (i := (Int.toNat s14.2)) (off := 0) (v := ii (List.getD v2.Mem (Int.toNat s14.2) default)) len_eI (by kernel_rfl) (by kernel_rfl) (by omega) (by omega) (by decide) (by kernel_rfl) ?_))
     refine qc (cs := []) (E' := (sp 141 [(3, pp 0), (4, pp 1), (5, ii s14.1), (6, ii s14.2), (102, bb (decide (s14.2 < (((List.length v1.Mem) : Nat) : Int)))), (105, .ptr 1 [] 13), (106, .sref 3 [] 0 (List.length v2.Mem) 1), (107, ii s14.2), (108, .ptr 3 [] (0 + (Int.toNat s14.2) * 1)), (109, ii (List.getD v2.Mem (Int.toNat s14.2) default)), (110, .ptr 0 [] 13), (111, bo (eI .i64) v1.Mem), (112, ii s14.2)])) (pre := (List.take 3 (List.drop 5 Lf9_r19))) (L' := (List.drop 8 Lf9_r19)) (by kernel_rfl) (fun K => by kernel_rfl) .nil ?_
     obtain ⟨hg95, hh⟩ := grd_some hh
     refine qs (.iadr 1 (.t 111) (.t 112)) (some 113) (yq_q rfl (op_iadr (kd := .i64) (c := (eI .i64)) (xs := v1.Mem) len_eI (by decide) (by kernel_rfl) (by kernel_rfl) hg95 ?_))
     refine qs (.load false 1 (.t 113)) (some 114) (yq_q rfl (op_loadb (c := (eI .i64)) (xs := v1.Mem) (o := Int.toNat s14.2 * 1) (i := (Int.toNat s14.2)) (off := 0) (v := ii (List.getD v1.Mem (Int.toNat s14.2) default)) len_eI (by kernel_rfl) (by omega) (by omega) (by decide) (by kernel_rfl) ?_))
     refine qct (cs := []) (E' := (sp 141 [(3, pp 0), (4, pp 1), (5, ii s14.1), (6, ii s14.2), (115, bb (decide ((List.getD v2.Mem (Int.toNat s14.2) default) = (List.getD v1.Mem (Int.toNat s14.2) default))))])) (fun K => by kernel_rfl) .nil ?_
     rcases cond_some hh with ⟨hb, hh⟩ | ⟨hb, hh⟩
     · refine cT hb ?_
       refine Aw.exit ?_
       refine then_x (blk_x ?_)
       obtain rfl := some_some hh
       exact hN15 s14.1 _ _ _ hk15 (Ent.list2 [some 0, some 1, some 2, some 3, some 4, some 5] rfl rfl (by decide) (rens_sp (by kernel_rfl) (rl_c (u := pp 0) (by kernel_rfl) (ren_p (by decide) rfl) (rl_c (u := pp 1) (by kernel_rfl) (ren_p (by decide) rfl) (rl_c (u := ii s14.1) (by kernel_rfl) ren_i (rl_c (u := ii s14.2) (by kernel_rfl) ren_i rl_n))))) (hq ⟨43, (B_43 v1)⟩ (rens_same (nr_B_43 _)) (hq q14 (rens_c ren_sx (rens_i (rens_i (rens_i (rens_i (rens_b (rens_i (rens_i (rens_i (rens_b (rens_b (rens_b (rens_b (rens_c ren_sx (rens_c ren_sx (rens_c ren_sx rens_n)))))))))))))))) (hq q9 (rens_same (noRefs_fl nr_eI)) (hq q8 (rens_same (noRefs_fl nr_eI)) (hq q7 (rens_same (noRefs_fl nr_eI)) (hq q6 (rens_same (noRefs_fl nr_eI)) hs_nil)))))))
     refine cF hb ?_
     refine Aw.xskip (fun _ _ _ hq => then_m hq) ?_
     refine sy [3, 4, 5, 6] [0, 1, 2, 3, 4, 5] (sp 141 [(3, pp 0), (4, pp 1), (5, ii (w64 (s14.1 + (1 : Int)))), (6, ii s14.2)]) [(0, some ⟨43, (B_43 v1)⟩), (1, some q14), (2, some q9), (3, some q8), (4, some q7), (5, some q6)] 6 ?_
     refine sy [3, 4, 5, 6, 7] [0, 1, 2, 3, 4, 5] (sp 141 [(3, pp 0), (4, pp 1), (5, ii (w64 (s14.1 + (1 : Int)))), (6, ii s14.2), (7, bb false)]) [(0, some ⟨43, (B_43 v1)⟩), (1, some q14), (2, some q9), (3, some q8), (4, some q7), (5, some q6)] 6 ?_
     obtain ⟨j16, hh, hk16⟩ := bind_some hh
     refine Aw.join (S := Bool) (fun s16 => sp 141 [(3, pp 0), (4, pp 1), (5, ii (w64 (s14.1 + (1 : Int)))), (6, ii s14.2), (7, bb s16)]) (fun s16 => [(0, some ⟨43, (B_43 v1)⟩), (1, some ⟨43, (.sref 2 [] 0 (List.length v2.C.Regs) 1 :: ru39 v2.C [.sref 3 [] 0 (List.length v2.Mem) 1, .sref 4 [] 0 (List.length v2.In) 1, .sref 5 [] 0 (List.length v2.Out) 1])⟩), (2, some ⟨3, (fl (eI .i64) v2.C.Regs)⟩), (3, some ⟨3, (fl (eI .i64) v2.Mem)⟩), (4, some ⟨3, (fl (eI .i64) v2.In)⟩), (5, some ⟨3, (fl (eI .i64) v2.Out)⟩)]) 6 (fun s16 => F_laws_FnBareStep_j16 s14 s16 = some j15) ?_ ?_
     · intro s16 hh
       unfold F_laws_FnBareStep_j16 at hh
       refine sy [3, 4, 5, 6, 135] [0, 1, 2, 3, 4, 5] (sp 141 [(3, pp 0), (4, pp 1), (5, ii (w64 (s14.1 + (1 : Int)))), (6, ii s14.2), (135, bb (!s16))]) [(0, some ⟨43, (B_43 v1)⟩), (1, some q14), (2, some q9), (3, some q8), (4, some q7), (5, some q6)] 6 ?_
       rcases cond_some hh with ⟨hb, hh⟩ | ⟨hb, hh⟩
       · refine cT hb ?_
         refine sy [2] [] (sp 141 [(2, bb false)]) [] 6 ?_
         refine Aw.ret ?_
         refine blk_r ?_
         obtain rfl := some_some hh
         refine hR15 _ _ _ ?_
         refine ?_
         refine hR14 _ _ _ _ (some_some hk15) ?_
         intro hout
         rw [hout] at hk14
         refine blk_r ?_
         obtain rfl := some_some hk14
         refine hR12 _ _ _ ?_
         refine ?_
         rw [some_some hk12]
         exact gvb
       refine cF hb ?_
       refine Aw.skip ?_
       refine blk_m ?_
       obtain rfl := some_some hh
       exact hN15 (w64 (s14.1 + (1 : Int))) _ _ _ hk15 (Ent.list2 [some 0, some 1, some 2, some 3, some 4, some 5] rfl rfl (by decide) (rens_sp (by kernel_rfl) (rl_c (u := pp 0) (by kernel_rfl) (ren_p (by decide) rfl) (rl_c (u := pp 1) (by kernel_rfl) (ren_p (by decide) rfl) (rl_c (u := ii (w64 (s14.1 + (1 : Int)))) (by kernel_rfl) ren_i (rl_c (u := ii s14.2) (by kernel_rfl) ren_i rl_n))))) (hq ⟨43, (B_43 v1)⟩ (rens_same (nr_B_43 _)) (hq q14 (rens_c ren_sx (rens_i (rens_i (rens_i (rens_i (rens_b (rens_i (rens_i (rens_i (rens_b (rens_b (rens_b (rens_b (rens_c ren_sx (rens_c ren_sx (rens_c ren_sx rens_n)))))))))))))))) (hq q9 (rens_same (noRefs_fl nr_eI)) (hq q8 (rens_same (noRefs_fl nr_eI)) (hq q7 (rens_same (noRefs_fl nr_eI)) (hq q6 (rens_same (noRefs_fl nr_eI)) hs_nil)))))))
     intro Q16 hN16 hR16 hE16
     refine sy [3, 4, 5, 6, 7, 8] [0, 1, 2, 3, 4, 5] (sp 141 [(3, pp 0), (4, pp 1), (5, ii (w64 (s14.1 + (1 : Int)))), (6, ii s14.2), (7, bb false), (8, ii (0 : Int))]) [(0, some ⟨43, (B_43 v1)⟩), (1, some q14), (2, some q9), (3, some q8), (4, some q7), (5, some q6)] 6 ?_
     refine Aw.block ?_
     obtain ⟨o17, hi17, hk17⟩ := bind_some hh
     refine Aw.iter (fun (s17 : Bool × Int) => sp 141 [(3, pp 0), (4, pp 1), (5, ii (w64 (s14.1 + (1 : Int)))), (6, ii s14.2), (7, bb s17.1), (8, ii s17.2)]) (fun (s17 : Bool × Int) => [(0, some ⟨43, (B_43 v1)⟩), (1, some ⟨43, (.sref 2 [] 0 (List.length v2.C.Regs) 1 :: ru39 v2.C [.sref 3 [] 0 (List.length v2.Mem) 1, .sref 4 [] 0 (List.length v2.In) 1, .sref 5 [] 0 (List.length v2.Out) 1])⟩), (2, some ⟨3, (fl (eI .i64) v2.C.Regs)⟩), (3, some ⟨3, (fl (eI .i64) v2.Mem)⟩), (4, some ⟨3, (fl (eI .i64) v2.In)⟩), (5, some ⟨3, (fl (eI .i64) v2.Out)⟩)]) 6 hi17 (Ent.list2 [some 0, some 1, some 2, some 3, some 4, some 5] rfl rfl (by decide) (rens_sp (by kernel_rfl) (rl_c (u := pp 0) (by kernel_rfl) (ren_p (by decide) rfl) (rl_c (u := pp 1) (by kernel_rfl) (ren_p (by decide) rfl) (rl_c (u := ii (w64 (s14.1 + (1 : Int)))) (by kernel_rfl) ren_i (rl_c (u := ii s14.2) (by kernel_rfl) ren_i (rl_c (u := bb false) (by kernel_rfl) ren_b (rl_c (u := ii (0 : Int)) (by kernel_rfl) ren_i rl_n))))))) (hq ⟨43, (B_43 v1)⟩ (rens_same (nr_B_43 _)) (hq q14 (rens_c ren_sx (rens_i (rens_i (rens_i (rens_i (rens_b (rens_i (rens_i (rens_i (rens_b (rens_b (rens_b (rens_b (rens_c ren_sx (rens_c ren_sx (rens_c ren_sx rens_n)))))))))))))))) (hq q9 (rens_same (noRefs_fl nr_eI)) (hq q8 (rens_same (noRefs_fl nr_eI)) (hq q7 (rens_same (noRefs_fl nr_eI)) (hq q6 (rens_same (noRefs_fl nr_eI)) hs_nil))))))) ?_
     intro s17 u17 Q17 hh hN17 hX17 hR17
     unfold F_laws_FnBareStep_l17 at hh
     refine Aw.seq ?_
     refine sy [3, 4, 5, 6, 7, 8, 119] [0, 1, 2, 3, 4, 5] (sp 141 [(3, pp 0), (4, pp 1), (5, ii (w64 (s14.1 + (1 : Int)))), (6, ii s14.2), (7, bb s17.1), (8, ii s17.2), (119, bb (decide (s17.2 < (64 : Int))))]) [(0, some ⟨43, (B_43 v1)⟩), (1, some q14), (2, some q9), (3, some q8), (4, some q7), (5, some q6)] 6 ?_
     rcases cond_some hh with ⟨hb, hh⟩ | ⟨hb, hh⟩
     · refine cT hb ?_
       refine Aw.xskip (fun _ _ _ hq => then_m hq) ?_
       obtain ⟨j18, hh, hk18⟩ := bind_some hh
       refine Aw.join (S := Bool) (fun s18 => sp 141 [(3, pp 0), (4, pp 1), (5, ii (w64 (s14.1 + (1 : Int)))), (6, ii s14.2), (7, bb s18), (8, ii s17.2)]) (fun s18 => [(0, some ⟨43, (B_43 v1)⟩), (1, some ⟨43, (.sref 2 [] 0 (List.length v2.C.Regs) 1 :: ru39 v2.C [.sref 3 [] 0 (List.length v2.Mem) 1, .sref 4 [] 0 (List.length v2.In) 1, .sref 5 [] 0 (List.length v2.Out) 1])⟩), (2, some ⟨3, (fl (eI .i64) v2.C.Regs)⟩), (3, some ⟨3, (fl (eI .i64) v2.Mem)⟩), (4, some ⟨3, (fl (eI .i64) v2.In)⟩), (5, some ⟨3, (fl (eI .i64) v2.Out)⟩)]) 6 (fun s18 => F_laws_FnBareStep_j18 s17 s18 = some u17) ?_ ?_
       · intro s18 hh
         unfold F_laws_FnBareStep_j18 at hh
         refine Aw.oreg ?_
         refine ye (sp 141 [(3, pp 0), (4, pp 1), (5, ii (w64 (s14.1 + (1 : Int)))), (6, ii s14.2), (7, bb s18), (8, ii (w64 (s17.2 + (1 : Int)))), (120, ii s17.2), (121, ii (w64 (s17.2 + (1 : Int))))]) [(0, some ⟨43, (B_43 v1)⟩), (1, some q14), (2, some q9), (3, some q8), (4, some q7), (5, some q6)] 6 ?_
         exact hN17 (s18, (w64 (s17.2 + (1 : Int)))) _ _ _ (some_some hh) (Ent.list2 [some 0, some 1, some 2, some 3, some 4, some 5] rfl rfl (by decide) (rens_sp (by kernel_rfl) (rl_c (u := pp 0) (by kernel_rfl) (ren_p (by decide) rfl) (rl_c (u := pp 1) (by kernel_rfl) (ren_p (by decide) rfl) (rl_c (u := ii (w64 (s14.1 + (1 : Int)))) (by kernel_rfl) ren_i (rl_c (u := ii s14.2) (by kernel_rfl) ren_i (rl_c (u := bb s18) (by kernel_rfl) ren_b (rl_c (u := ii (w64 (s17.2 + (1 : Int)))) (by kernel_rfl) ren_i rl_n))))))) (hq ⟨43, (B_43 v1)⟩ (rens_same (nr_B_43 _)) (hq q14 (rens_c ren_sx (rens_i (rens_i (rens_i (rens_i (rens_b (rens_i (rens_i (rens_i (rens_b (rens_b (rens_b (rens_b (rens_c ren_sx (rens_c ren_sx (rens_c ren_sx rens_n)))))))))))))))) (hq q9 (rens_same (noRefs_fl nr_eI)) (hq q8 (rens_same (noRefs_fl nr_eI)) (hq q7 (rens_same (noRefs_fl nr_eI)) (hq q6 (rens_same (noRefs_fl nr_eI)) hs_nil)))))))
       intro Q18 hN18 hR18 hE18
       refine Aw.block ?_
       refine Aw.oreg ?_
       refine yj 2  (sp 141 [(3, pp 0), (4, pp 1), (5, ii (w64 (s14.1 + (1 : Int)))), (6, ii s14.2), (7, bb s17.1), (8, ii s17.2), (119, bb (decide (s17.2 < (64 : Int)))), (122, bb s17.1), (123, bb s17.1)]) [(0, some ⟨43, (B_43 v1)⟩), (1, some q14), (2, some q9), (3, some q8), (4, some q7), (5, some q6)] 6 ?_
       rcases cond_some hh with ⟨hb, hh⟩ | ⟨hb, hh⟩
       · refine yb 7 hb ?_
         refine yb 122 hb ?_
         refine yb 123 hb ?_
         refine ye (sp 141 [(3, pp 0), (4, pp 1), (5, ii (w64 (s14.1 + (1 : Int)))), (6, ii s14.2), (7, bb true), (8, ii s17.2), (119, bb (decide (s17.2 < (64 : Int)))), (122, bb true), (123, bb true), (124, .und), (125, .und), (126, .und), (127, .und), (128, .und), (129, .und), (130, .und), (131, .und), (132, .und), (133, bb true)]) [(0, some ⟨43, (B_43 v1)⟩), (1, some q14), (2, some q9), (3, some q8), (4, some q7), (5, some q6)] 6 ?_
         refine blk_m ?_
         obtain rfl := some_some hh
         exact hN18 true _ _ _ hk18 (Ent.list2 [some 0, some 1, some 2, some 3, some 4, some 5] rfl rfl (by decide) (rens_sp (by kernel_rfl) (rl_c (u := pp 0) (by kernel_rfl) (ren_p (by decide) rfl) (rl_c (u := pp 1) (by kernel_rfl) (ren_p (by decide) rfl) (rl_c (u := ii (w64 (s14.1 + (1 : Int)))) (by kernel_rfl) ren_i (rl_c (u := ii s14.2) (by kernel_rfl) ren_i (rl_c (u := bb true) (by kernel_rfl) ren_b (rl_c (u := ii s17.2) (by kernel_rfl) ren_i rl_n))))))) (hq ⟨43, (B_43 v1)⟩ (rens_same (nr_B_43 _)) (hq q14 (rens_c ren_sx (rens_i (rens_i (rens_i (rens_i (rens_b (rens_i (rens_i (rens_i (rens_b (rens_b (rens_b (rens_b (rens_c ren_sx (rens_c ren_sx (rens_c ren_sx rens_n)))))))))))))))) (hq q9 (rens_same (noRefs_fl nr_eI)) (hq q8 (rens_same (noRefs_fl nr_eI)) (hq q7 (rens_same (noRefs_fl nr_eI)) (hq q6 (rens_same (noRefs_fl nr_eI)) hs_nil)))))))
       refine yb 7 hb ?_
       refine yb 122 hb ?_
       refine yb 123 hb ?_
       refine yu 6 [(7, bb false), (122, bb false), (123, bb false), (124, .ptr 0 [] 13), (125, bo (eI .i64) v1.Mem), (126, pp 0), (127, .ptr 0 [] 2), (128, ii v1.C.Root), (129, ii s17.2)] [(0, some ⟨43, (B_43 v1)⟩), (1, some q14), (2, some q9), (3, some q8), (4, some q7), (5, some q6)] 6 ?_
       obtain ⟨v19, hv19, hh⟩ := bind_some hh
       refine yg (.call 27 [(.t 125), (.t 128), (.t 129), (.c (bb true)), (.c (bb true))]) (some 130) 123 false (oc (impl_Walk_fn hv19) ?_)
       refine ye (sp 141 [(3, pp 0), (4, pp 1), (5, ii (w64 (s14.1 + (1 : Int)))), (6, ii s14.2), (7, bb (decide (v19 = s14.2))), (8, ii s17.2), (119, bb (decide (s17.2 < (64 : Int)))), (122, bb false), (123, bb false), (124, .ptr 0 [] 13), (125, bo (eI .i64) v1.Mem), (126, pp 0), (127, .ptr 0 [] 2), (128, ii v1.C.Root), (129, ii s17.2), (130, ii v19), (131, ii s14.2), (132, bb (decide (v19 = s14.2))), (133, bb (decide (v19 = s14.2)))]) [(0, some ⟨43, (B_43 v1)⟩), (1, some q14), (2, some q9), (3, some q8), (4, some q7), (5, some q6)] 6 ?_
       refine blk_m ?_
       obtain rfl := some_some hh
       exact hN18 (decide (v19 = s14.2)) _ _ _ hk18 (Ent.list2 [some 0, some 1, some 2, some 3, some 4, some 5] rfl rfl (by decide) (rens_sp (by kernel_rfl) (rl_c (u := pp 0) (by kernel_rfl) (ren_p (by decide) rfl) (rl_c (u := pp 1) (by kernel_rfl) (ren_p (by decide) rfl) (rl_c (u := ii (w64 (s14.1 + (1 : Int)))) (by kernel_rfl) ren_i (rl_c (u := ii s14.2) (by kernel_rfl) ren_i (rl_c (u := bb (decide (v19 = s14.2))) (by kernel_rfl) ren_b (rl_c (u := ii s17.2) (by kernel_rfl) ren_i rl_n))))))) (hq ⟨43, (B_43 v1)⟩ (rens_same (nr_B_43 _)) (hq q14 (rens_c ren_sx (rens_i (rens_i (rens_i (rens_i (rens_b (rens_i (rens_i (rens_i (rens_b (rens_b (rens_b (rens_b (rens_c ren_sx (rens_c ren_sx (rens_c ren_sx rens_n)))))))))))))))) (hq q9 (rens_same (noRefs_fl nr_eI)) (hq q8 (rens_same (noRefs_fl nr_eI)) (hq q7 (rens_same (noRefs_fl nr_eI)) (hq q6 (rens_same (noRefs_fl nr_eI)) hs_nil)))))))
     refine cF hb ?_
     refine Aw.exit ?_
     refine then_x ?_
     refine hX17 _ _ _ _ _ (some_some hh) ?_
     intro hout
     rw [hout] at hk17
     refine blk_x ?_
     obtain rfl := some_some hk17
     exact hN16 s17.1 _ _ _ hk16 (Ent.list2 [some 0, some 1, some 2, some 3, some 4, some 5] rfl rfl (by decide) (rens_sp (by kernel_rfl) (rl_c (u := pp 0) (by kernel_rfl) (ren_p (by decide) rfl) (rl_c (u := pp 1) (by kernel_rfl) (ren_p (by decide) rfl) (rl_c (u := ii (w64 (s14.1 + (1 : Int)))) (by kernel_rfl) ren_i (rl_c (u := ii s14.2) (by kernel_rfl) ren_i (rl_c (u := bb s17.1) (by kernel_rfl) ren_b rl_n)))))) (hq ⟨43, (B_43 v1)⟩ (rens_same (nr_B_43 _)) (hq q14 (rens_c ren_sx (rens_i (rens_i (rens_i (rens_i (rens_b (rens_i (rens_i (rens_i (rens_b (rens_b (rens_b (rens_b (rens_c ren_sx (rens_c ren_sx (rens_c ren_sx rens_n)))))))))))))))) (hq q9 (rens_same (noRefs_fl nr_eI)) (hq q8 (rens_same (noRefs_fl nr_eI)) (hq q7 (rens_same (noRefs_fl nr_eI)) (hq q6 (rens_same (noRefs_fl nr_eI)) hs_nil)))))))
   refine cF hb ?_
   refine Aw.exit ?_
   refine then_x ?_
   refine hX14 _ _ _ _ _ (some_some hh) ?_
   intro hout
   rw [hout] at hk14
   refine blk_x ?_
   obtain rfl := some_some hk14
   exact hN12 s14.1 _ _ _ hk12 (Ent.list2 [] rfl rfl (by decide) (rens_sp (by kernel_rfl) (rl_c (u := ii s14.1) (by kernel_rfl) ren_i rl_n)) hs_nil)
 intro Q7 hN7 hR7 hE7
 refine Aw.sreg [3, 4, 44] [4, 5, 6, 7, 8, 9] (yj 1  (sp 141 [(3, pp 4), (4, pp 9), (23, bb (!v5)), (31, .agg (.sref 5 [] 0 (List.length v2.C.Regs) 1 :: ru39 v2.C [.sref 6 [] 0 (List.length v2.Mem) 1, .sref 7 [] 0 (List.length v2.In) 1, .sref 8 [] 0 (List.length v2.Out) 1]))]) [(4, some ⟨43, (B_43 v1)⟩), (5, some q9), (6, some q8), (7, some q7), (8, some q6), (9, some q10)] 10 ?_)
 obtain ⟨v20, hv20, hh⟩ := bind_some hh
 refine ys (.call 33 [(.t 31)]) (some 32) (op_call (r := bb v20) (v := bb v20) (Hr := []) (n' := 10) (impl_BareOk_fn hv20) (clz_v (vs := [.agg (.sref 5 [] 0 (List.length v2.C.Regs) 1 :: ru39 v2.C [.sref 6 [] 0 (List.length v2.Mem) 1, .sref 7 [] 0 (List.length v2.In) 1, .sref 8 [] 0 (List.length v2.Out) 1])]) (by kernel_rfl) (clz_c (clo_agg (clos_c (clo_own (c := (eI .i64)) (xs := v2.C.Regs) (e := 3) (by first | rfl | omega | (simp only [List.length_set, over_len, List.length_replicate, List.length_append, List.length_cons, List.length_nil, List.length_take, List.length_drop] <;> omega)) len_eI no_eI cl_eI (by kernel_rfl)) (cs1 (cs1 (cs1 (cs1 (cs1 (cs1 (cs1 (cs1 (cs1 (cs1 (cs1 (cs1 (clos_c (clo_own (c := (eI .i64)) (xs := v2.Mem) (e := 3) (by first | rfl | omega | (simp only [List.length_set, over_len, List.length_replicate, List.length_append, List.length_cons, List.length_nil, List.length_take, List.length_drop] <;> omega)) len_eI no_eI cl_eI (by kernel_rfl)) (clos_c (clo_own (c := (eI .i64)) (xs := v2.In) (e := 3) (by first | rfl | omega | (simp only [List.length_set, over_len, List.length_replicate, List.length_append, List.length_cons, List.length_nil, List.length_take, List.length_drop] <;> omega)) len_eI no_eI cl_eI (by kernel_rfl)) (clos_c (clo_own (c := (eI .i64)) (xs := v2.Out) (e := 3) (by first | rfl | omega | (simp only [List.length_set, over_len, List.length_replicate, List.length_append, List.length_cons, List.length_nil, List.length_take, List.length_drop] <;> omega)) len_eI no_eI cl_eI (by kernel_rfl)) clos_n))))))))))))))))) clz_n)) rfl rfl (by kernel_rfl) ?_)
 refine yu 2 [(32, bb v20), (33, bb (!v20)), (34, bb (!v20))] [(4, some ⟨43, (B_43 v1)⟩), (5, some q9), (6, some q8), (7, some q7), (8, some q6), (9, some q10)] 10 ?_
 rcases cond_some hh with ⟨hb, hh⟩ | ⟨hb, hh⟩
 · refine yb 33 hb ?_
   refine yb 34 hb ?_
   refine yt (sp 141 [(3, pp 4), (4, pp 9), (44, bb true)]) [(4, some ⟨43, (B_43 v1)⟩), (5, some q9), (6, some q8), (7, some q7), (8, some q6), (9, some q10)] 10 ?_
   refine cT rfl ?_
   refine sy [2] [] (sp 141 [(2, bb false)]) [] 10 ?_
   refine Aw.ret ?_
   obtain rfl := some_some hh
   refine hR7 _ _ _ ?_
   refine ?_
   rw [some_some hk7]
   exact gvb
 refine yb 33 hb ?_
 refine yb 34 hb ?_
 refine yu 4 [(33, bb false), (34, bb false), (35, pp 4), (36, .ptr 4 [] 12), (37, bb v1.C.Stopped), (38, bb v1.C.Stopped)] [(4, some ⟨43, (B_43 v1)⟩), (5, some q9), (6, some q8), (7, some q7), (8, some q6), (9, some q10)] 10 ?_
 rcases cond_some hh with ⟨hb, hh⟩ | ⟨hb, hh⟩
 · refine yb 37 hb ?_
   refine yb 38 hb ?_
   refine yu 2 [(37, bb true), (38, bb true), (39, .agg (.sref 5 [] 0 (List.length v2.C.Regs) 1 :: ru39 v2.C [.sref 6 [] 0 (List.length v2.Mem) 1, .sref 7 [] 0 (List.length v2.In) 1, .sref 8 [] 0 (List.length v2.Out) 1])), (40, .agg (B_43 v1))] [(4, some ⟨43, (B_43 v1)⟩), (5, some q9), (6, some q8), (7, some q7), (8, some q6), (9, some q10)] 10 ?_
   obtain ⟨v21, hv21, hh⟩ := bind_some hh
   refine yg (.call 37 [(.t 39), (.t 40)]) (some 41) 38 true (op_call (r := bb v21) (v := bb v21) (Hr := []) (n' := 10) (laws_sameBare_fn hv21) (clz_v (vs := [.agg (.sref 5 [] 0 (List.length v2.C.Regs) 1 :: ru39 v2.C [.sref 6 [] 0 (List.length v2.Mem) 1, .sref 7 [] 0 (List.length v2.In) 1, .sref 8 [] 0 (List.length v2.Out) 1]), .agg (B_43 v1)]) (by kernel_rfl) (clz_c (clo_agg (clos_c (clo_own (c := (eI .i64)) (xs := v2.C.Regs) (e := 3) (by first | rfl | omega | (simp only [List.length_set, over_len, List.length_replicate, List.length_append, List.length_cons, List.length_nil, List.length_take, List.length_drop] <;> omega)) len_eI no_eI cl_eI (by kernel_rfl)) (cs1 (cs1 (cs1 (cs1 (cs1 (cs1 (cs1 (cs1 (cs1 (cs1 (cs1 (cs1 (clos_c (clo_own (c := (eI .i64)) (xs := v2.Mem) (e := 3) (by first | rfl | omega | (simp only [List.length_set, over_len, List.length_replicate, List.length_append, List.length_cons, List.length_nil, List.length_take, List.length_drop] <;> omega)) len_eI no_eI cl_eI (by kernel_rfl)) (clos_c (clo_own (c := (eI .i64)) (xs := v2.In) (e := 3) (by first | rfl | omega | (simp only [List.length_set, over_len, List.length_replicate, List.length_append, List.length_cons, List.length_nil, List.length_take, List.length_drop] <;> omega)) len_eI no_eI cl_eI (by kernel_rfl)) (clos_c (clo_own (c := (eI .i64)) (xs := v2.Out) (e := 3) (by first | rfl | omega | (simp only [List.length_set, over_len, List.length_replicate, List.length_append, List.length_cons, List.length_nil, List.length_take, List.length_drop] <;> omega)) len_eI no_eI cl_eI (by kernel_rfl)) clos_n))))))))))))))))) (clz_c (clo_same (clean_agg (cl_B_43 _))) clz_n))) rfl rfl (by kernel_rfl) ?_)
   refine yt (sp 141 [(3, pp 4), (4, pp 9), (44, bb (!v21))]) [(4, some ⟨43, (B_43 v1)⟩), (5, some q9), (6, some q8), (7, some q7), (8, some q6), (9, some q10)] 10 ?_
   rcases cond_some hh with ⟨hb, hh⟩ | ⟨hb, hh⟩
   · refine cT hb ?_
     refine sy [2] [] (sp 141 [(2, bb false)]) [] 10 ?_
     refine Aw.ret ?_
     obtain rfl := some_some hh
     refine hR7 _ _ _ ?_
     refine ?_
     rw [some_some hk7]
     exact gvb
   refine cF hb ?_
   refine Aw.skip ?_
   obtain rfl := some_some hh
   exact hN7 () _ _ _ hk7 (Ent.list2 [some 4, some 9, some 5, some 6, some 7, some 8] rfl rfl (by decide) (rens_sp (by kernel_rfl) (rl_c (u := pp 4) (by kernel_rfl) (ren_p (by decide) rfl) (rl_c (u := pp 9) (by kernel_rfl) (ren_p (by decide) rfl) rl_n))) (hq ⟨43, (B_43 v1)⟩ (rens_same (nr_B_43 _)) (hq q10 (rens_c ren_sx (rens_i (rens_i (rens_i (rens_i (rens_b (rens_i (rens_i (rens_i (rens_b (rens_b (rens_b (rens_b (rens_c ren_sx (rens_c ren_sx (rens_c ren_sx rens_n)))))))))))))))) (hq q9 (rens_same (noRefs_fl nr_eI)) (hq q8 (rens_same (noRefs_fl nr_eI)) (hq q7 (rens_same (noRefs_fl nr_eI)) (hq q6 (rens_same (noRefs_fl nr_eI)) hs_nil)))))))
 refine yb 37 hb ?_
 refine yb 38 hb ?_
 refine yt (sp 141 [(3, pp 4), (4, pp 9), (44, bb false)]) [(4, some ⟨43, (B_43 v1)⟩), (5, some q9), (6, some q8), (7, some q7), (8, some q6), (9, some q10)] 10 ?_
 refine cF rfl ?_
 refine Aw.skip ?_
 obtain rfl := some_some hh
 exact hN7 () _ _ _ hk7 (Ent.list2 [some 4, some 9, some 5, some 6, some 7, some 8] rfl rfl (by decide) (rens_sp (by kernel_rfl) (rl_c (u := pp 4) (by kernel_rfl) (ren_p (by decide) rfl) (rl_c (u := pp 9) (by kernel_rfl) (ren_p (by decide) rfl) rl_n))) (hq ⟨43, (B_43 v1)⟩ (rens_same (nr_B_43 _)) (hq q10 (rens_c ren_sx (rens_i (rens_i (rens_i (rens_i (rens_b (rens_i (rens_i (rens_i (rens_b (rens_b (rens_b (rens_b (rens_c ren_sx (rens_c ren_sx (rens_c ren_sx rens_n)))))))))))))))) (hq q9 (rens_same (noRefs_fl nr_eI)) (hq q8 (rens_same (noRefs_fl nr_eI)) (hq q7 (rens_same (noRefs_fl nr_eI)) (hq q6 (rens_same (noRefs_fl nr_eI)) hs_nil)))))))
end Go.Proofs.Ythbefahhpikcaaa
