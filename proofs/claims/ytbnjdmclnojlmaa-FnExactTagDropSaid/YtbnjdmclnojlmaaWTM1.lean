/- Plain functions of the program, and that it hands back what they say. Made by program. -/
import Derived.Test.YtbnjdmclnojlmaaWT
import Derived.Test.YtbnjdmclnojlmaaProg
namespace Go.Proofs.Ytbnjdmclnojlmaa
open Go.RowKit
set_option maxRecDepth 100000
set_option linter.all false
set_option maxHeartbeats 0
theorem low_laws_markLineS : LW 29 ⟨83, [(.tmp 4)], (.seq (.reg false (rg 29 0)) (.seq (.seq (.reg false (rg 29 1)) (.block 0 (.loop (.seq (.seq (.reg false (rg 29 2)) (.cond (.t 9) .skip (.exit 0))) (.seq (.block 1 (.seq (.reg false (rg 29 3)) (.seq (.reg false (rg 29 4)) (.seq (.reg false (rg 29 5)) (.seq (.reg false (rg 29 6)) (.seq (.reg false (rg 29 7)) (.seq (.reg false (rg 29 8)) (.seq (.reg false (rg 29 9)) (.seq (.reg false (rg 29 10)) (.seq (.reg false (rg 29 11)) (.seq (.reg false (rg 29 12)) (.seq (.reg false (rg 29 13)) (.seq (.reg false (rg 29 14)) (.seq (.reg false (rg 29 15)) (.seq (.reg false (rg 29 16)) (.seq (.reg false (rg 29 17)) (.reg false (rg 29 18)))))))))))))))))) (.reg false (rg 29 19))))))) (.seq (.reg false (rg 29 21)) .ret)))⟩ := kr
noncomputable def F_laws_markLineS_j1  (s1 : Int × (List DLine)) : Option ((List DLine) × Int) :=
 some (s1.2, s1.1)
noncomputable def F_laws_markLineS_l2  (s2 : (List DLine) × Int × Int) : Option (LO ((List DLine) × Int × Int) (JO (Int × (List DLine)) ((List DLine) × Int))) :=
 cond (decide (s2.2.2 < (((List.length s2.1) : Nat) : Int)))
  (grd ((0 : Int) ≤ s2.2.2 ∧ s2.2.2 < (((List.length s2.1) : Nat) : Int)) (grd ((0 : Int) ≤ s2.2.2 ∧ s2.2.2 < (((List.length s2.1) : Nat) : Int)) (grd ((0 : Int) ≤ s2.2.2 ∧ s2.2.2 < (((List.length s2.1) : Nat) : Int)) (grd ((0 : Int) ≤ s2.2.2 ∧ s2.2.2 < (((List.length s2.1) : Nat) : Int)) (grd ((0 : Int) ≤ s2.2.2 ∧ s2.2.2 < (((List.length s2.1) : Nat) : Int)) (grd ((0 : Int) ≤ s2.2.2 ∧ s2.2.2 < (((List.length s2.1) : Nat) : Int)) (grd ((0 : Int) ≤ s2.2.2 ∧ s2.2.2 < (((List.length s2.1) : Nat) : Int)) (grd ((0 : Int) ≤ s2.2.2 ∧ s2.2.2 < (((List.length s2.1) : Nat) : Int)) (some (.next ((List.set s2.1 (Int.toNat s2.2.2) (DLine.mk s2.2.1 (w64 (s2.2.1 + (1 : Int))) (DShade.mk (decide ((Int.tmod (w64 ((w64 (s2.2.1 + (1 : Int))) + (1 : Int))) (3 : Int)) = (0 : Int))) (decide ((Int.tmod (w64 ((w64 ((w64 (s2.2.1 + (1 : Int))) + (1 : Int))) + (1 : Int))) (3 : Int)) = (0 : Int))) (decide ((Int.tmod (w64 ((w64 ((w64 ((w64 (s2.2.1 + (1 : Int))) + (1 : Int))) + (1 : Int))) + (1 : Int))) (3 : Int)) = (0 : Int))) (w64 ((w64 ((w64 ((w64 ((w64 (s2.2.1 + (1 : Int))) + (1 : Int))) + (1 : Int))) + (1 : Int))) + (1 : Int))) (w64 ((w64 ((w64 ((w64 ((w64 ((w64 (s2.2.1 + (1 : Int))) + (1 : Int))) + (1 : Int))) + (1 : Int))) + (1 : Int))) + (1 : Int))) (decide ((Int.tmod (w64 ((w64 ((w64 ((w64 ((w64 ((w64 ((w64 (s2.2.1 + (1 : Int))) + (1 : Int))) + (1 : Int))) + (1 : Int))) + (1 : Int))) + (1 : Int))) + (1 : Int))) (3 : Int)) = (0 : Int)))))), (w64 ((w64 ((w64 ((w64 ((w64 ((w64 ((w64 ((w64 (s2.2.1 + (1 : Int))) + (1 : Int))) + (1 : Int))) + (1 : Int))) + (1 : Int))) + (1 : Int))) + (1 : Int))) + (1 : Int))), (w64 (s2.2.2 + (1 : Int))))))))))))))
  (some (.ret (.go (s2.2.1, s2.1))))
noncomputable def F_laws_markLineS (x_a : List DLine) (x_k : Int) : Option ((List DLine) × Int) :=
 Option.bind (Option.bind (iter (F_laws_markLineS_l2) (x_a, x_k, (0 : Int))) LO.val) fun j1 =>
  JO.run j1 (F_laws_markLineS_j1)
theorem laws_markLineS_fn {x_a : List DLine} {x_k : Int} {R_ : (List DLine) × Int} (hh : F_laws_markLineS x_a x_k = some R_) : Inl Try.prog 29 [.sref 0 [] 0 (List.length x_a) 8, .int .i64 x_k] [(0, some (rC47 x_a))] 1 (.int .i64 R_.2) [(0, some (rC47 R_.1))] 1 := by
 let z24 : EV := (0, .sref 0 [] 0 (List.length x_a) 8); let z25 : EH := (0, some (rC47 x_a))
 unfold F_laws_markLineS at hh
 refine Inl.start low_laws_markLineS [0, 1] [0] (E := sp 83 [z24, (1, ii x_k)]) (H1 := [z25]) kr kr (sy [0, 1] [0] (sp 83 [z24, (1, ii x_k)]) [z25] 1 ?_)
 obtain ⟨j1, hh, hk1⟩ := bind_some hh
 refine Aw.join (S := Int × (List DLine)) (fun s1 => sp 83 [(1, ii s1.1)]) (fun s1 => [(0, some (rC47 s1.2))]) 1 (fun s1 => F_laws_markLineS_j1 s1 = some R_) ?_ ?_
 · intro s1 hh
   unfold F_laws_markLineS_j1 at hh
   refine sy [4] [0] (sp 83 [(4, ii s1.1)]) [(0, some (rC47 s1.2))] 1 (Aw.ret ?_)
   rw [some_some hh]
   exact gives (r' := ii s1.1) kr (el [some 0] (rens_1 ren_i) (hn nr_C_47 hs_nil))
 intro Q1 hN1 hR1 hE1
 refine sy [0, 1, 5] [0] (sp 83 [z24, (1, ii x_k), (5, ii 0)]) [z25] 1 (Aw.block ?_)
 obtain ⟨o2, hi2, hk2⟩ := bind_some hh
 refine Aw.iter (fun (s2 : (List DLine) × Int × Int) => sp 83 [(0, .sref 0 [] 0 (List.length s2.1) 8), (1, ii s2.2.1), (5, ii s2.2.2)]) (fun (s2 : (List DLine) × Int × Int) => [(0, some (rC47 s2.1))]) 1 hi2 (el [some 0] (rens_sp kr (rs (.sref 0 [] 0 (List.length x_a) 8) (ri (ri rl_n)))) (hn nr_C_47 hs_nil)) ?_
 intro s2 u2 Q2 hh hN2 hX2 hR2
 let z26 : EV := (0, .sref 0 [] 0 (List.length s2.1) 8); let z27 : EH := (0, some (rC47 s2.1)); let z28 := (1, ii (w64 ((w64 ((w64 ((w64 ((w64 ((w64 ((w64 ((w64 (s2.2.1 + (1 : Int))) + (1 : Int))) + (1 : Int))) + (1 : Int))) + (1 : Int))) + (1 : Int))) + (1 : Int))) + (1 : Int)))); let z29 := (1, ii (w64 ((w64 ((w64 ((w64 ((w64 ((w64 ((w64 (s2.2.1 + (1 : Int))) + (1 : Int))) + (1 : Int))) + (1 : Int))) + (1 : Int))) + (1 : Int))) + (1 : Int)))); let z30 := (1, ii (w64 ((w64 ((w64 ((w64 ((w64 ((w64 (s2.2.1 + (1 : Int))) + (1 : Int))) + (1 : Int))) + (1 : Int))) + (1 : Int))) + (1 : Int)))); let z31 := (1, ii (w64 ((w64 ((w64 ((w64 ((w64 (s2.2.1 + (1 : Int))) + (1 : Int))) + (1 : Int))) + (1 : Int))) + (1 : Int)))); let z32 := (1, ii (w64 ((w64 ((w64 ((w64 (s2.2.1 + (1 : Int))) + (1 : Int))) + (1 : Int))) + (1 : Int)))); let z33 := (1, ii (w64 ((w64 ((w64 (s2.2.1 + (1 : Int))) + (1 : Int))) + (1 : Int)))); let z34 := (1, ii (w64 ((w64 (s2.2.1 + (1 : Int))) + (1 : Int)))); let z35 := (1, ii (w64 (s2.2.1 + (1 : Int)))); let z36 := (5, ii s2.2.2); let z37 := (9, bb (decide (s2.2.2 < (((List.length s2.1) : Nat) : Int)))); let z1 := DShade.mk (decide ((Int.tmod (w64 ((w64 (s2.2.1 + (1 : Int))) + (1 : Int))) (3 : Int)) = (0 : Int))) (decide ((Int.tmod (w64 ((w64 ((w64 (s2.2.1 + (1 : Int))) + (1 : Int))) + (1 : Int))) (3 : Int)) = (0 : Int))) (decide ((Int.tmod (w64 ((w64 ((w64 ((w64 (s2.2.1 + (1 : Int))) + (1 : Int))) + (1 : Int))) + (1 : Int))) (3 : Int)) = (0 : Int))) (w64 ((w64 ((w64 ((w64 ((w64 (s2.2.1 + (1 : Int))) + (1 : Int))) + (1 : Int))) + (1 : Int))) + (1 : Int))) (w64 ((w64 ((w64 ((w64 ((w64 ((w64 (s2.2.1 + (1 : Int))) + (1 : Int))) + (1 : Int))) + (1 : Int))) + (1 : Int))) + (1 : Int))) (decide ((Int.tmod (w64 ((w64 ((w64 ((w64 ((w64 ((w64 ((w64 (s2.2.1 + (1 : Int))) + (1 : Int))) + (1 : Int))) + (1 : Int))) + (1 : Int))) + (1 : Int))) + (1 : Int))) (3 : Int)) = (0 : Int))); let z3 := DLine.mk s2.2.1 (w64 (s2.2.1 + (1 : Int))) z1; let z11 := List.set s2.1 (Int.toNat s2.2.2) z3
 let z2 := List.getD s2.1 (Int.toNat s2.2.2) default; let z4 := DLine.mk s2.2.1 (w64 (s2.2.1 + (1 : Int))) (z2.What); let z12 := List.set s2.1 (Int.toNat s2.2.2) z4; let z5 := DLine.mk s2.2.1 (z2.At) (z2.What); let z13 := List.set s2.1 (Int.toNat s2.2.2) z5; let z6 := DShade.mk (decide ((Int.tmod (w64 ((w64 (s2.2.1 + (1 : Int))) + (1 : Int))) (3 : Int)) = (0 : Int))) ((z2.What).Write) ((z2.What).User) ((z2.What).Page) ((z2.What).Frame) ((z2.What).Ready); let z14 := DLine.mk s2.2.1 (w64 (s2.2.1 + (1 : Int))) z6; let z19 := List.set s2.1 (Int.toNat s2.2.2) z14; let z7 := DShade.mk (decide ((Int.tmod (w64 ((w64 (s2.2.1 + (1 : Int))) + (1 : Int))) (3 : Int)) = (0 : Int))) (decide ((Int.tmod (w64 ((w64 ((w64 (s2.2.1 + (1 : Int))) + (1 : Int))) + (1 : Int))) (3 : Int)) = (0 : Int))) ((z2.What).User) ((z2.What).Page) ((z2.What).Frame) ((z2.What).Ready); let z15 := DLine.mk s2.2.1 (w64 (s2.2.1 + (1 : Int))) z7; let z20 := List.set s2.1 (Int.toNat s2.2.2) z15; let z8 := DShade.mk (decide ((Int.tmod (w64 ((w64 (s2.2.1 + (1 : Int))) + (1 : Int))) (3 : Int)) = (0 : Int))) (decide ((Int.tmod (w64 ((w64 ((w64 (s2.2.1 + (1 : Int))) + (1 : Int))) + (1 : Int))) (3 : Int)) = (0 : Int))) (decide ((Int.tmod (w64 ((w64 ((w64 ((w64 (s2.2.1 + (1 : Int))) + (1 : Int))) + (1 : Int))) + (1 : Int))) (3 : Int)) = (0 : Int))) ((z2.What).Page) ((z2.What).Frame) ((z2.What).Ready); let z16 := DLine.mk s2.2.1 (w64 (s2.2.1 + (1 : Int))) z8; let z21 := List.set s2.1 (Int.toNat s2.2.2) z16; let z9 := DShade.mk (decide ((Int.tmod (w64 ((w64 (s2.2.1 + (1 : Int))) + (1 : Int))) (3 : Int)) = (0 : Int))) (decide ((Int.tmod (w64 ((w64 ((w64 (s2.2.1 + (1 : Int))) + (1 : Int))) + (1 : Int))) (3 : Int)) = (0 : Int))) (decide ((Int.tmod (w64 ((w64 ((w64 ((w64 (s2.2.1 + (1 : Int))) + (1 : Int))) + (1 : Int))) + (1 : Int))) (3 : Int)) = (0 : Int))) (w64 ((w64 ((w64 ((w64 ((w64 (s2.2.1 + (1 : Int))) + (1 : Int))) + (1 : Int))) + (1 : Int))) + (1 : Int))) ((z2.What).Frame) ((z2.What).Ready); let z17 := DLine.mk s2.2.1 (w64 (s2.2.1 + (1 : Int))) z9
 let z22 := List.set s2.1 (Int.toNat s2.2.2) z17; let z10 := DShade.mk (decide ((Int.tmod (w64 ((w64 (s2.2.1 + (1 : Int))) + (1 : Int))) (3 : Int)) = (0 : Int))) (decide ((Int.tmod (w64 ((w64 ((w64 (s2.2.1 + (1 : Int))) + (1 : Int))) + (1 : Int))) (3 : Int)) = (0 : Int))) (decide ((Int.tmod (w64 ((w64 ((w64 ((w64 (s2.2.1 + (1 : Int))) + (1 : Int))) + (1 : Int))) + (1 : Int))) (3 : Int)) = (0 : Int))) (w64 ((w64 ((w64 ((w64 ((w64 (s2.2.1 + (1 : Int))) + (1 : Int))) + (1 : Int))) + (1 : Int))) + (1 : Int))) (w64 ((w64 ((w64 ((w64 ((w64 ((w64 (s2.2.1 + (1 : Int))) + (1 : Int))) + (1 : Int))) + (1 : Int))) + (1 : Int))) + (1 : Int))) ((z2.What).Ready); let z18 := DLine.mk s2.2.1 (w64 (s2.2.1 + (1 : Int))) z10; let z23 := List.set s2.1 (Int.toNat s2.2.2) z18
 unfold F_laws_markLineS_l2 at hh
 refine Aw.seq (sy [0, 1, 5, 9] [0] (sp 83 [z26, (1, ii s2.2.1), z36, z37]) [z27] 1 ?_)
 rcases cond_sf hh with ⟨hb, hh⟩ | ⟨hb, hh⟩
 · refine cF hb (Aw.exit (then_x (hX2 _ _ _ _ _ (some_some hh) ?_)))
   intro hout
   rw [hout] at hk2
   refine blk_x ?_
   obtain rfl := some_some hk2
   exact hN1 (s2.2.1, s2.1) _ _ _ hk1 (el [some 0] (rens_sp kr (ri rl_n)) (hn nr_C_47 hs_nil))
 refine cT hb (Aw.xskip (fun _ _ _ hq => then_m hq) (Aw.seq (Aw.block (Aw.sreg [0, 1, 5] [0] ?_))))
 obtain ⟨hg192, hh⟩ := grd_some hh
 refine yjc 5 [(0 : Int) ≤ s2.2.2 ∧ s2.2.2 < (((List.length s2.1) : Nat) : Int)] (sp 83 [z26, (1, ii s2.2.1), z36, z37, (12, .sref 0 [] 0 (List.length s2.1) 8), (13, ii s2.2.2), (14, ii s2.2.1), (15, .ptr 0 [] (0 + (Int.toNat s2.2.2) * 8)), (16, .ptr 0 [] (0 + (Int.toNat s2.2.2) * 8 + 0))]) [z27] 1 (.cons hg192 .nil) ?_
 let q1 : Root := (rC47 z13); let z38 := (0, some q1)
 refine ys (.store 1 (.t 16) (.t 14)) none (op_store (c := C_47) (xs := s2.1) (e := 47) (r := 0) (π := []) (o := 0 + (Int.toNat s2.2.2) * 8 + 0) (i := (Int.toNat s2.2.2)) (off := 0) (vs := [ii s2.2.1]) (y := z5) (H' := [z38, z27]) len_C_47 kr kr kr kr ltn ltn dd kr kr ?_)
 refine yt (sp 83 [z26, (1, ii s2.2.1), z36]) [z38] 1 (sy [0, 1, 5] [0] (sp 83 [z26, z35, z36]) [z38] 1 (Aw.sreg [0, 1, 5] [0] ?_))
 obtain ⟨hg191, hh⟩ := grd_some hh
 refine yjc 5 [(0 : Int) ≤ s2.2.2 ∧ s2.2.2 < (((List.length s2.1) : Nat) : Int)] (sp 83 [z26, z35, z36, (19, .sref 0 [] 0 (List.length s2.1) 8), (20, ii s2.2.2), (21, ii (w64 (s2.2.1 + (1 : Int)))), (22, .ptr 0 [] (0 + (Int.toNat s2.2.2) * 8)), (23, .ptr 0 [] (0 + (Int.toNat s2.2.2) * 8 + 1))]) [z38] 1 (.cons hg191 .nil) ?_
 let q2 : Root := (rC47 z12); let z39 := (0, some q2)
 refine ys (.store 1 (.t 23) (.t 21)) none (op_storeE (getD_set_self ltn) (List.set_set ..) (c := C_47) (xs := z13) (e := 47) (r := 0) (π := []) (o := 0 + (Int.toNat s2.2.2) * 8 + 1) (i := (Int.toNat s2.2.2)) (off := 1) (vs := [ii (w64 (s2.2.1 + (1 : Int)))]) (y := z4) (H' := [z39, z38]) len_C_47 kr kr kr kr ltn ltn dd kr kr ?_)
 refine yt (sp 83 [z26, z35, z36]) [z39] 1 (sy [0, 1, 5] [0] (sp 83 [z26, z34, z36]) [z39] 1 (Aw.sreg [0, 1, 5] [0] ?_))
 obtain ⟨hg190, hh⟩ := grd_some hh
 refine yjc 8 [(3 : Int) ≠ 0, (0 : Int) ≤ s2.2.2 ∧ s2.2.2 < (((List.length s2.1) : Nat) : Int)] (sp 83 [z26, z34, z36, (26, .sref 0 [] 0 (List.length s2.1) 8), (27, ii s2.2.2), (28, ii (w64 ((w64 (s2.2.1 + (1 : Int))) + (1 : Int)))), (29, ii (Int.tmod (w64 ((w64 (s2.2.1 + (1 : Int))) + (1 : Int))) (3 : Int))), (30, bb (decide ((Int.tmod (w64 ((w64 (s2.2.1 + (1 : Int))) + (1 : Int))) (3 : Int)) = (0 : Int)))), (31, .ptr 0 [] (0 + (Int.toNat s2.2.2) * 8)), (32, .ptr 0 [] (0 + (Int.toNat s2.2.2) * 8 + 2)), (33, .ptr 0 [] (0 + (Int.toNat s2.2.2) * 8 + 2 + 0))]) [z39] 1 (.cons dd (.cons hg190 .nil)) ?_
 let q3 : Root := (rC47 z19); let z40 := (0, some q3)
 refine ys (.store 1 (.t 33) (.t 30)) none (op_storeE (getD_set_self ltn) (List.set_set ..) (c := C_47) (xs := z12) (e := 47) (r := 0) (π := []) (o := 0 + (Int.toNat s2.2.2) * 8 + 2 + 0) (i := (Int.toNat s2.2.2)) (off := 2) (vs := [bb (decide ((Int.tmod (w64 ((w64 (s2.2.1 + (1 : Int))) + (1 : Int))) (3 : Int)) = (0 : Int)))]) (y := z14) (H' := [z40, z39]) len_C_47 kr kr kr kr ltn ltn dd kr kr ?_)
 refine yt (sp 83 [z26, z34, z36]) [z40] 1 (sy [0, 1, 5] [0] (sp 83 [z26, z33, z36]) [z40] 1 (Aw.sreg [0, 1, 5] [0] ?_))
 obtain ⟨hg189, hh⟩ := grd_some hh
 refine yjc 8 [(3 : Int) ≠ 0, (0 : Int) ≤ s2.2.2 ∧ s2.2.2 < (((List.length s2.1) : Nat) : Int)] (sp 83 [z26, z33, z36, (36, .sref 0 [] 0 (List.length s2.1) 8), (37, ii s2.2.2), (38, ii (w64 ((w64 ((w64 (s2.2.1 + (1 : Int))) + (1 : Int))) + (1 : Int)))), (39, ii (Int.tmod (w64 ((w64 ((w64 (s2.2.1 + (1 : Int))) + (1 : Int))) + (1 : Int))) (3 : Int))), (40, bb (decide ((Int.tmod (w64 ((w64 ((w64 (s2.2.1 + (1 : Int))) + (1 : Int))) + (1 : Int))) (3 : Int)) = (0 : Int)))), (41, .ptr 0 [] (0 + (Int.toNat s2.2.2) * 8)), (42, .ptr 0 [] (0 + (Int.toNat s2.2.2) * 8 + 2)), (43, .ptr 0 [] (0 + (Int.toNat s2.2.2) * 8 + 2 + 1))]) [z40] 1 (.cons dd (.cons hg189 .nil)) ?_
 let q4 : Root := (rC47 z20); let z41 := (0, some q4)
 refine ys (.store 1 (.t 43) (.t 40)) none (op_storeE (getD_set_self ltn) (List.set_set ..) (c := C_47) (xs := z19) (e := 47) (r := 0) (π := []) (o := 0 + (Int.toNat s2.2.2) * 8 + 2 + 1) (i := (Int.toNat s2.2.2)) (off := 3) (vs := [bb (decide ((Int.tmod (w64 ((w64 ((w64 (s2.2.1 + (1 : Int))) + (1 : Int))) + (1 : Int))) (3 : Int)) = (0 : Int)))]) (y := z15) (H' := [z41, z40]) len_C_47 kr kr kr kr ltn ltn dd kr kr ?_)
 refine yt (sp 83 [z26, z33, z36]) [z41] 1 (sy [0, 1, 5] [0] (sp 83 [z26, z32, z36]) [z41] 1 (Aw.sreg [0, 1, 5] [0] ?_))
 obtain ⟨hg188, hh⟩ := grd_some hh
 refine yjc 8 [(3 : Int) ≠ 0, (0 : Int) ≤ s2.2.2 ∧ s2.2.2 < (((List.length s2.1) : Nat) : Int)] (sp 83 [z26, z32, z36, (46, .sref 0 [] 0 (List.length s2.1) 8), (47, ii s2.2.2), (48, ii (w64 ((w64 ((w64 ((w64 (s2.2.1 + (1 : Int))) + (1 : Int))) + (1 : Int))) + (1 : Int)))), (49, ii (Int.tmod (w64 ((w64 ((w64 ((w64 (s2.2.1 + (1 : Int))) + (1 : Int))) + (1 : Int))) + (1 : Int))) (3 : Int))), (50, bb (decide ((Int.tmod (w64 ((w64 ((w64 ((w64 (s2.2.1 + (1 : Int))) + (1 : Int))) + (1 : Int))) + (1 : Int))) (3 : Int)) = (0 : Int)))), (51, .ptr 0 [] (0 + (Int.toNat s2.2.2) * 8)), (52, .ptr 0 [] (0 + (Int.toNat s2.2.2) * 8 + 2)), (53, .ptr 0 [] (0 + (Int.toNat s2.2.2) * 8 + 2 + 2))]) [z41] 1 (.cons dd (.cons hg188 .nil)) ?_
 let q5 : Root := (rC47 z21); let z42 := (0, some q5)
 refine ys (.store 1 (.t 53) (.t 50)) none (op_storeE (getD_set_self ltn) (List.set_set ..) (c := C_47) (xs := z20) (e := 47) (r := 0) (π := []) (o := 0 + (Int.toNat s2.2.2) * 8 + 2 + 2) (i := (Int.toNat s2.2.2)) (off := 4) (vs := [bb (decide ((Int.tmod (w64 ((w64 ((w64 ((w64 (s2.2.1 + (1 : Int))) + (1 : Int))) + (1 : Int))) + (1 : Int))) (3 : Int)) = (0 : Int)))]) (y := z16) (H' := [z42, z41]) len_C_47 kr kr kr kr ltn ltn dd kr kr ?_)
 refine yt (sp 83 [z26, z32, z36]) [z42] 1 (sy [0, 1, 5] [0] (sp 83 [z26, z31, z36]) [z42] 1 (Aw.sreg [0, 1, 5] [0] ?_))
 obtain ⟨hg187, hh⟩ := grd_some hh
 refine yjc 6 [(0 : Int) ≤ s2.2.2 ∧ s2.2.2 < (((List.length s2.1) : Nat) : Int)] (sp 83 [z26, z31, z36, (56, .sref 0 [] 0 (List.length s2.1) 8), (57, ii s2.2.2), (58, ii (w64 ((w64 ((w64 ((w64 ((w64 (s2.2.1 + (1 : Int))) + (1 : Int))) + (1 : Int))) + (1 : Int))) + (1 : Int)))), (59, .ptr 0 [] (0 + (Int.toNat s2.2.2) * 8)), (60, .ptr 0 [] (0 + (Int.toNat s2.2.2) * 8 + 2)), (61, .ptr 0 [] (0 + (Int.toNat s2.2.2) * 8 + 2 + 3))]) [z42] 1 (.cons hg187 .nil) ?_
 let q6 : Root := (rC47 z22); let z43 := (0, some q6)
 refine ys (.store 1 (.t 61) (.t 58)) none (op_storeE (getD_set_self ltn) (List.set_set ..) (c := C_47) (xs := z21) (e := 47) (r := 0) (π := []) (o := 0 + (Int.toNat s2.2.2) * 8 + 2 + 3) (i := (Int.toNat s2.2.2)) (off := 5) (vs := [ii (w64 ((w64 ((w64 ((w64 ((w64 (s2.2.1 + (1 : Int))) + (1 : Int))) + (1 : Int))) + (1 : Int))) + (1 : Int)))]) (y := z17) (H' := [z43, z42]) len_C_47 kr kr kr kr ltn ltn dd kr kr ?_)
 refine yt (sp 83 [z26, z31, z36]) [z43] 1 (sy [0, 1, 5] [0] (sp 83 [z26, z30, z36]) [z43] 1 (Aw.sreg [0, 1, 5] [0] ?_))
 obtain ⟨hg186, hh⟩ := grd_some hh
 refine yjc 6 [(0 : Int) ≤ s2.2.2 ∧ s2.2.2 < (((List.length s2.1) : Nat) : Int)] (sp 83 [z26, z30, z36, (64, .sref 0 [] 0 (List.length s2.1) 8), (65, ii s2.2.2), (66, ii (w64 ((w64 ((w64 ((w64 ((w64 ((w64 (s2.2.1 + (1 : Int))) + (1 : Int))) + (1 : Int))) + (1 : Int))) + (1 : Int))) + (1 : Int)))), (67, .ptr 0 [] (0 + (Int.toNat s2.2.2) * 8)), (68, .ptr 0 [] (0 + (Int.toNat s2.2.2) * 8 + 2)), (69, .ptr 0 [] (0 + (Int.toNat s2.2.2) * 8 + 2 + 4))]) [z43] 1 (.cons hg186 .nil) ?_
 let q7 : Root := (rC47 z23); let z44 := (0, some q7)
 refine ys (.store 1 (.t 69) (.t 66)) none (op_storeE (getD_set_self ltn) (List.set_set ..) (c := C_47) (xs := z22) (e := 47) (r := 0) (π := []) (o := 0 + (Int.toNat s2.2.2) * 8 + 2 + 4) (i := (Int.toNat s2.2.2)) (off := 6) (vs := [ii (w64 ((w64 ((w64 ((w64 ((w64 ((w64 (s2.2.1 + (1 : Int))) + (1 : Int))) + (1 : Int))) + (1 : Int))) + (1 : Int))) + (1 : Int)))]) (y := z18) (H' := [z44, z43]) len_C_47 kr kr kr kr ltn ltn dd kr kr ?_)
 refine yt (sp 83 [z26, z30, z36]) [z44] 1 (sy [0, 1, 5] [0] (sp 83 [z26, z29, z36]) [z44] 1 (Aw.sreg [0, 1, 5] [0] ?_))
 obtain ⟨hg185, hh⟩ := grd_some hh
 refine yjc 8 [(3 : Int) ≠ 0, (0 : Int) ≤ s2.2.2 ∧ s2.2.2 < (((List.length s2.1) : Nat) : Int)] (sp 83 [z26, z29, z36, (72, .sref 0 [] 0 (List.length s2.1) 8), (73, ii s2.2.2), (74, ii (w64 ((w64 ((w64 ((w64 ((w64 ((w64 ((w64 (s2.2.1 + (1 : Int))) + (1 : Int))) + (1 : Int))) + (1 : Int))) + (1 : Int))) + (1 : Int))) + (1 : Int)))), (75, ii (Int.tmod (w64 ((w64 ((w64 ((w64 ((w64 ((w64 ((w64 (s2.2.1 + (1 : Int))) + (1 : Int))) + (1 : Int))) + (1 : Int))) + (1 : Int))) + (1 : Int))) + (1 : Int))) (3 : Int))), (76, bb (decide ((Int.tmod (w64 ((w64 ((w64 ((w64 ((w64 ((w64 ((w64 (s2.2.1 + (1 : Int))) + (1 : Int))) + (1 : Int))) + (1 : Int))) + (1 : Int))) + (1 : Int))) + (1 : Int))) (3 : Int)) = (0 : Int)))), (77, .ptr 0 [] (0 + (Int.toNat s2.2.2) * 8)), (78, .ptr 0 [] (0 + (Int.toNat s2.2.2) * 8 + 2)), (79, .ptr 0 [] (0 + (Int.toNat s2.2.2) * 8 + 2 + 5))]) [z44] 1 (.cons dd (.cons hg185 .nil)) ?_
 let q8 : Root := (rC47 z11)
 refine ys (.store 1 (.t 79) (.t 76)) none (op_storeE (getD_set_self ltn) (List.set_set ..) (c := C_47) (xs := z23) (e := 47) (r := 0) (π := []) (o := 0 + (Int.toNat s2.2.2) * 8 + 2 + 5) (i := (Int.toNat s2.2.2)) (off := 7) (vs := [bb (decide ((Int.tmod (w64 ((w64 ((w64 ((w64 ((w64 ((w64 ((w64 (s2.2.1 + (1 : Int))) + (1 : Int))) + (1 : Int))) + (1 : Int))) + (1 : Int))) + (1 : Int))) + (1 : Int))) (3 : Int)) = (0 : Int)))]) (y := z3) (H' := [(0, some q8), z44]) len_C_47 kr kr kr kr ltn ltn dd kr kr ?_)
 exact yt (sp 83 [z26, z29, z36]) [(0, some q8)] 1 (Aw.xreg [0, 1, 5] [0] (fun _ _ _ hq => blk_m (then_m hq)) (yt (sp 83 [z26, z28, z36]) [(0, some q8)] 1 (Aw.oreg (ye (sp 83 [z26, z28, (5, ii (w64 (s2.2.2 + (1 : Int)))), (10, ii s2.2.2), (11, ii (w64 (s2.2.2 + (1 : Int))))]) [(0, some q8)] 1 (hN2 (z11, (w64 ((w64 ((w64 ((w64 ((w64 ((w64 ((w64 ((w64 (s2.2.1 + (1 : Int))) + (1 : Int))) + (1 : Int))) + (1 : Int))) + (1 : Int))) + (1 : Int))) + (1 : Int))) + (1 : Int))), (w64 (s2.2.2 + (1 : Int)))) _ _ _ (some_some hh) (el [some 0] (rens_sp kr (rs (.sref 0 [] 0 (List.length s2.1) 8) (ri (ri rl_n)))) (hn nr_C_47 hs_nil)))))))
theorem low_laws_heldLineS : LW 30 ⟨99, [(.tmp 4)], (.seq (.reg false (rg 30 0)) (.seq (.seq (.reg false (rg 30 1)) (.block 0 (.loop (.seq (.seq (.reg false (rg 30 2)) (.cond (.t 9) .skip (.exit 0))) (.seq (.block 1 (.seq (.seq (.reg false (rg 30 3)) (.cond (.t 18) (.seq (.reg false (rg 30 4)) .ret) .skip)) (.seq (.reg false (rg 30 5)) (.seq (.seq (.reg false (rg 30 6)) (.cond (.t 27) (.seq (.reg false (rg 30 7)) .ret) .skip)) (.seq (.reg false (rg 30 8)) (.seq (.seq (.reg false (rg 30 9)) (.cond (.t 39) (.seq (.reg false (rg 30 10)) .ret) .skip)) (.seq (.reg false (rg 30 11)) (.seq (.seq (.reg false (rg 30 12)) (.cond (.t 51) (.seq (.reg false (rg 30 13)) .ret) .skip)) (.seq (.reg false (rg 30 14)) (.seq (.seq (.reg false (rg 30 15)) (.cond (.t 63) (.seq (.reg false (rg 30 16)) .ret) .skip)) (.seq (.reg false (rg 30 17)) (.seq (.seq (.reg false (rg 30 18)) (.cond (.t 73) (.seq (.reg false (rg 30 19)) .ret) .skip)) (.seq (.reg false (rg 30 20)) (.seq (.seq (.reg false (rg 30 21)) (.cond (.t 83) (.seq (.reg false (rg 30 22)) .ret) .skip)) (.seq (.reg false (rg 30 23)) (.seq (.seq (.reg false (rg 30 24)) (.cond (.t 95) (.seq (.reg false (rg 30 25)) .ret) .skip)) (.reg false (rg 30 26)))))))))))))))))) (.reg false (rg 30 27))))))) (.seq (.reg false (rg 30 29)) .ret)))⟩ := kr
noncomputable def F_laws_heldLineS_j1  (s1 : Int) : Option Int :=
 some s1
noncomputable def F_laws_heldLineS_l2 (x_a : List DLine) (s2 : Int × Int) : Option (LO (Int × Int) (JO Int Int)) :=
 cond (decide (s2.2 < (((List.length x_a) : Nat) : Int)))
  (grd ((0 : Int) ≤ s2.2 ∧ s2.2 < ((List.length x_a : Nat) : Int)) (cond (!decide (((List.getD x_a (Int.toNat s2.2) default).Tag) = s2.1))
   (some (.ret (.out (-1 : Int))))
   (grd ((0 : Int) ≤ s2.2 ∧ s2.2 < ((List.length x_a : Nat) : Int)) (cond (!decide (((List.getD x_a (Int.toNat s2.2) default).At) = (w64 (s2.1 + (1 : Int)))))
    (some (.ret (.out (-1 : Int))))
    (grd ((0 : Int) ≤ s2.2 ∧ s2.2 < ((List.length x_a : Nat) : Int)) (cond (!((((List.getD x_a (Int.toNat s2.2) default).What).There) == (decide ((Int.tmod (w64 ((w64 (s2.1 + (1 : Int))) + (1 : Int))) (3 : Int)) = (0 : Int)))))
     (some (.ret (.out (-1 : Int))))
     (grd ((0 : Int) ≤ s2.2 ∧ s2.2 < ((List.length x_a : Nat) : Int)) (cond (!((((List.getD x_a (Int.toNat s2.2) default).What).Write) == (decide ((Int.tmod (w64 ((w64 ((w64 (s2.1 + (1 : Int))) + (1 : Int))) + (1 : Int))) (3 : Int)) = (0 : Int)))))
      (some (.ret (.out (-1 : Int))))
      (grd ((0 : Int) ≤ s2.2 ∧ s2.2 < ((List.length x_a : Nat) : Int)) (cond (!((((List.getD x_a (Int.toNat s2.2) default).What).User) == (decide ((Int.tmod (w64 ((w64 ((w64 ((w64 (s2.1 + (1 : Int))) + (1 : Int))) + (1 : Int))) + (1 : Int))) (3 : Int)) = (0 : Int)))))
       (some (.ret (.out (-1 : Int))))
       (grd ((0 : Int) ≤ s2.2 ∧ s2.2 < ((List.length x_a : Nat) : Int)) (cond (!decide ((((List.getD x_a (Int.toNat s2.2) default).What).Page) = (w64 ((w64 ((w64 ((w64 ((w64 (s2.1 + (1 : Int))) + (1 : Int))) + (1 : Int))) + (1 : Int))) + (1 : Int)))))
        (some (.ret (.out (-1 : Int))))
        (grd ((0 : Int) ≤ s2.2 ∧ s2.2 < ((List.length x_a : Nat) : Int)) (cond (!decide ((((List.getD x_a (Int.toNat s2.2) default).What).Frame) = (w64 ((w64 ((w64 ((w64 ((w64 ((w64 (s2.1 + (1 : Int))) + (1 : Int))) + (1 : Int))) + (1 : Int))) + (1 : Int))) + (1 : Int)))))
         (some (.ret (.out (-1 : Int))))
         (grd ((0 : Int) ≤ s2.2 ∧ s2.2 < ((List.length x_a : Nat) : Int)) (cond (!((((List.getD x_a (Int.toNat s2.2) default).What).Ready) == (decide ((Int.tmod (w64 ((w64 ((w64 ((w64 ((w64 ((w64 ((w64 (s2.1 + (1 : Int))) + (1 : Int))) + (1 : Int))) + (1 : Int))) + (1 : Int))) + (1 : Int))) + (1 : Int))) (3 : Int)) = (0 : Int)))))
          (some (.ret (.out (-1 : Int))))
          (some (.next ((w64 ((w64 ((w64 ((w64 ((w64 ((w64 ((w64 ((w64 (s2.1 + (1 : Int))) + (1 : Int))) + (1 : Int))) + (1 : Int))) + (1 : Int))) + (1 : Int))) + (1 : Int))) + (1 : Int))), (w64 (s2.2 + (1 : Int))))))))))))))))))))))
  (some (.ret (.go s2.1)))
noncomputable def F_laws_heldLineS (x_a : List DLine) (x_k : Int) : Option Int :=
 Option.bind (Option.bind (iter (F_laws_heldLineS_l2 x_a) (x_k, (0 : Int))) LO.val) fun j1 =>
  JO.run j1 (F_laws_heldLineS_j1)
theorem laws_heldLineS_fn {x_a : List DLine} {x_k : Int} {R_ : Int} (hh : F_laws_heldLineS x_a x_k = some R_) : Fn Try.prog 30 [bo C_47 x_a, .int .i64 x_k] (.int .i64 R_) := by
 let z2 := (0, bo C_47 x_a); let z3 := (4, ii (-1))
 unfold F_laws_heldLineS at hh
 refine Fn.start low_laws_heldLineS [0, 1] (E := sp 99 [z2, (1, ii x_k)]) kr (v := ii R_) (Hr := []) (k := 0) kr (sy [0, 1] [] (sp 99 [z2, (1, ii x_k)]) [] 0 ?_)
 obtain ⟨j1, hh, hk1⟩ := bind_some hh
 refine Aw.join (S := Int) (fun s1 => sp 99 [(1, ii s1)]) (fun s1 => []) 0 (fun s1 => F_laws_heldLineS_j1 s1 = some R_) ?_ ?_
 · intro s1 hh
   unfold F_laws_heldLineS_j1 at hh
   exact sy [4] [] (sp 99 [(4, ii s1)]) [] 0 (Aw.ret (gvis hh))
 intro Q1 hN1 hR1 hE1
 refine sy [0, 1, 5] [] (sp 99 [z2, (1, ii x_k), (5, ii 0)]) [] 0 (Aw.block ?_)
 obtain ⟨o2, hi2, hk2⟩ := bind_some hh
 refine Aw.iter (fun (s2 : Int × Int) => sp 99 [(0, bo C_47 x_a), (1, ii s2.1), (5, ii s2.2)]) (fun (s2 : Int × Int) => []) 0 hi2 (el [] (rens_sp kr (ro nr_C_47 (ri (ri rl_n)))) hs_nil) ?_
 intro s2 u2 Q2 hh hN2 hX2 hR2
 let z4 := (1, ii (w64 ((w64 ((w64 ((w64 ((w64 ((w64 ((w64 ((w64 (s2.1 + (1 : Int))) + (1 : Int))) + (1 : Int))) + (1 : Int))) + (1 : Int))) + (1 : Int))) + (1 : Int))) + (1 : Int)))); let z5 := (1, ii (w64 ((w64 ((w64 ((w64 ((w64 ((w64 ((w64 (s2.1 + (1 : Int))) + (1 : Int))) + (1 : Int))) + (1 : Int))) + (1 : Int))) + (1 : Int))) + (1 : Int)))); let z6 := (1, ii (w64 ((w64 ((w64 ((w64 ((w64 ((w64 (s2.1 + (1 : Int))) + (1 : Int))) + (1 : Int))) + (1 : Int))) + (1 : Int))) + (1 : Int)))); let z7 := (1, ii (w64 ((w64 ((w64 ((w64 ((w64 (s2.1 + (1 : Int))) + (1 : Int))) + (1 : Int))) + (1 : Int))) + (1 : Int)))); let z8 := (1, ii (w64 ((w64 ((w64 ((w64 (s2.1 + (1 : Int))) + (1 : Int))) + (1 : Int))) + (1 : Int)))); let z9 := (1, ii (w64 ((w64 ((w64 (s2.1 + (1 : Int))) + (1 : Int))) + (1 : Int)))); let z10 := (1, ii (w64 ((w64 (s2.1 + (1 : Int))) + (1 : Int)))); let z11 := (1, ii (w64 (s2.1 + (1 : Int)))); let z12 := (5, ii s2.2); let z13 := (9, bb (decide (s2.2 < (((List.length x_a) : Nat) : Int)))); let z1 := List.getD x_a (Int.toNat s2.2) default
 unfold F_laws_heldLineS_l2 at hh
 refine Aw.seq (sy [0, 1, 5, 9] [] (sp 99 [z2, (1, ii s2.1), z12, z13]) [] 0 ?_)
 rcases cond_sf hh with ⟨hb, hh⟩ | ⟨hb, hh⟩
 · refine cF hb (Aw.exit (then_x (hX2 _ _ _ _ _ (some_some hh) ?_)))
   intro hout
   rw [hout] at hk2
   refine blk_x ?_
   obtain rfl := some_some hk2
   exact hN1 s2.1 _ _ _ hk1 (el [] (rens_sp kr (ri rl_n)) hs_nil)
 refine cT hb (Aw.xskip (fun _ _ _ hq => then_m hq) (Aw.seq (Aw.block (Aw.seq (Aw.sreg [0, 1, 5, 18] [] (yj 2  (sp 99 [z2, (1, ii s2.1), z12, z13, (12, bo C_47 x_a), (13, ii s2.2)]) [] 0 ?_))))))
 obtain ⟨hg356, hh⟩ := grd_some hh
 refine ys (.iadr 8 (.t 12) (.t 13)) (some 14) (op_iadr (kd := .i64) (c := C_47) (xs := x_a) len_C_47 dd kr kr hg356 ?_)
 refine yu 1 [(14, .bptr (fl C_47 x_a) (Int.toNat s2.2 * 8)), (15, .bptr (fl C_47 x_a) (Int.toNat s2.2 * 8 + 0))] [] 0 (ys (.load false 1 (.t 15)) (some 16) (op_loadb (c := C_47) (xs := x_a) (o := Int.toNat s2.2 * 8 + 0) (i := (Int.toNat s2.2)) (off := 0) (v := ii (z1.Tag)) len_C_47 kr ltn ltn dd kr ?_))
 refine yt (sp 99 [z2, (1, ii s2.1), z12, (18, bb (!decide ((z1.Tag) = s2.1)))]) [] 0 ?_
 rcases cond_some hh with ⟨hb, hh⟩ | ⟨hb, hh⟩
 · refine cT hb (sy [4] [] (sp 99 [z3]) [] 0 (Aw.ret (then_r (blk_r (then_r ?_)))))
   refine hR2 _ _ _ _ (some_some hh) ?_
   intro hout
   rw [hout] at hk2
   refine blk_r ?_
   obtain rfl := some_some hk2
   refine hR1 _ _ _ ?_
   rw [some_some hk1]
   exact gvi
 refine cF hb (Aw.xskip (fun _ _ _ hq => then_m hq) (sy [0, 1, 5] [] (sp 99 [z2, z11, z12]) [] 0 (Aw.seq (Aw.sreg [0, 1, 5, 27] [] (yj 2  (sp 99 [z2, z11, z12, (21, bo C_47 x_a), (22, ii s2.2)]) [] 0 ?_)))))
 obtain ⟨hg360, hh⟩ := grd_some hh
 refine ys (.iadr 8 (.t 21) (.t 22)) (some 23) (op_iadr (kd := .i64) (c := C_47) (xs := x_a) len_C_47 dd kr kr hg360 ?_)
 refine yu 1 [(23, .bptr (fl C_47 x_a) (Int.toNat s2.2 * 8)), (24, .bptr (fl C_47 x_a) (Int.toNat s2.2 * 8 + 1))] [] 0 (ys (.load false 1 (.t 24)) (some 25) (op_loadb (c := C_47) (xs := x_a) (o := Int.toNat s2.2 * 8 + 1) (i := (Int.toNat s2.2)) (off := 1) (v := ii (z1.At)) len_C_47 kr ltn ltn dd kr ?_))
 refine yt (sp 99 [z2, z11, z12, (27, bb (!decide ((z1.At) = (w64 (s2.1 + (1 : Int))))))]) [] 0 ?_
 rcases cond_some hh with ⟨hb, hh⟩ | ⟨hb, hh⟩
 · refine cT hb (sy [4] [] (sp 99 [z3]) [] 0 (Aw.ret (then_r (blk_r (then_r ?_)))))
   refine hR2 _ _ _ _ (some_some hh) ?_
   intro hout
   rw [hout] at hk2
   refine blk_r ?_
   obtain rfl := some_some hk2
   refine hR1 _ _ _ ?_
   rw [some_some hk1]
   exact gvi
 refine cF hb (Aw.xskip (fun _ _ _ hq => then_m hq) (sy [0, 1, 5] [] (sp 99 [z2, z10, z12]) [] 0 (Aw.seq (Aw.sreg [0, 1, 5, 39] [] (yj 2  (sp 99 [z2, z10, z12, (30, bo C_47 x_a), (31, ii s2.2)]) [] 0 ?_)))))
 obtain ⟨hg364, hh⟩ := grd_some hh
 refine ys (.iadr 8 (.t 30) (.t 31)) (some 32) (op_iadr (kd := .i64) (c := C_47) (xs := x_a) len_C_47 dd kr kr hg364 ?_)
 refine yu 2 [(32, .bptr (fl C_47 x_a) (Int.toNat s2.2 * 8)), (33, .bptr (fl C_47 x_a) (Int.toNat s2.2 * 8 + 2)), (34, .bptr (fl C_47 x_a) (Int.toNat s2.2 * 8 + 2 + 0))] [] 0 (ys (.load false 1 (.t 34)) (some 35) (op_loadb (c := C_47) (xs := x_a) (o := Int.toNat s2.2 * 8 + 2 + 0) (i := (Int.toNat s2.2)) (off := 2) (v := bb ((z1.What).There)) len_C_47 kr ltn ltn dd kr ?_))
 refine ytc [(3 : Int) ≠ 0] (sp 99 [z2, z10, z12, (39, bb (!(((z1.What).There) == (decide ((Int.tmod (w64 ((w64 (s2.1 + (1 : Int))) + (1 : Int))) (3 : Int)) = (0 : Int))))))]) [] 0 (.cons dd .nil) ?_
 rcases cond_some hh with ⟨hb, hh⟩ | ⟨hb, hh⟩
 · refine cT hb (sy [4] [] (sp 99 [z3]) [] 0 (Aw.ret (then_r (blk_r (then_r ?_)))))
   refine hR2 _ _ _ _ (some_some hh) ?_
   intro hout
   rw [hout] at hk2
   refine blk_r ?_
   obtain rfl := some_some hk2
   refine hR1 _ _ _ ?_
   rw [some_some hk1]
   exact gvi
 refine cF hb (Aw.xskip (fun _ _ _ hq => then_m hq) (sy [0, 1, 5] [] (sp 99 [z2, z9, z12]) [] 0 (Aw.seq (Aw.sreg [0, 1, 5, 51] [] (yj 2  (sp 99 [z2, z9, z12, (42, bo C_47 x_a), (43, ii s2.2)]) [] 0 ?_)))))
 obtain ⟨hg368, hh⟩ := grd_some hh
 refine ys (.iadr 8 (.t 42) (.t 43)) (some 44) (op_iadr (kd := .i64) (c := C_47) (xs := x_a) len_C_47 dd kr kr hg368 ?_)
 refine yu 2 [(44, .bptr (fl C_47 x_a) (Int.toNat s2.2 * 8)), (45, .bptr (fl C_47 x_a) (Int.toNat s2.2 * 8 + 2)), (46, .bptr (fl C_47 x_a) (Int.toNat s2.2 * 8 + 2 + 1))] [] 0 (ys (.load false 1 (.t 46)) (some 47) (op_loadb (c := C_47) (xs := x_a) (o := Int.toNat s2.2 * 8 + 2 + 1) (i := (Int.toNat s2.2)) (off := 3) (v := bb ((z1.What).Write)) len_C_47 kr ltn ltn dd kr ?_))
 refine ytc [(3 : Int) ≠ 0] (sp 99 [z2, z9, z12, (51, bb (!(((z1.What).Write) == (decide ((Int.tmod (w64 ((w64 ((w64 (s2.1 + (1 : Int))) + (1 : Int))) + (1 : Int))) (3 : Int)) = (0 : Int))))))]) [] 0 (.cons dd .nil) ?_
 rcases cond_some hh with ⟨hb, hh⟩ | ⟨hb, hh⟩
 · refine cT hb (sy [4] [] (sp 99 [z3]) [] 0 (Aw.ret (then_r (blk_r (then_r ?_)))))
   refine hR2 _ _ _ _ (some_some hh) ?_
   intro hout
   rw [hout] at hk2
   refine blk_r ?_
   obtain rfl := some_some hk2
   refine hR1 _ _ _ ?_
   rw [some_some hk1]
   exact gvi
 refine cF hb (Aw.xskip (fun _ _ _ hq => then_m hq) (sy [0, 1, 5] [] (sp 99 [z2, z8, z12]) [] 0 (Aw.seq (Aw.sreg [0, 1, 5, 63] [] (yj 2  (sp 99 [z2, z8, z12, (54, bo C_47 x_a), (55, ii s2.2)]) [] 0 ?_)))))
 obtain ⟨hg372, hh⟩ := grd_some hh
 refine ys (.iadr 8 (.t 54) (.t 55)) (some 56) (op_iadr (kd := .i64) (c := C_47) (xs := x_a) len_C_47 dd kr kr hg372 ?_)
 refine yu 2 [(56, .bptr (fl C_47 x_a) (Int.toNat s2.2 * 8)), (57, .bptr (fl C_47 x_a) (Int.toNat s2.2 * 8 + 2)), (58, .bptr (fl C_47 x_a) (Int.toNat s2.2 * 8 + 2 + 2))] [] 0 (ys (.load false 1 (.t 58)) (some 59) (op_loadb (c := C_47) (xs := x_a) (o := Int.toNat s2.2 * 8 + 2 + 2) (i := (Int.toNat s2.2)) (off := 4) (v := bb ((z1.What).User)) len_C_47 kr ltn ltn dd kr ?_))
 refine ytc [(3 : Int) ≠ 0] (sp 99 [z2, z8, z12, (63, bb (!(((z1.What).User) == (decide ((Int.tmod (w64 ((w64 ((w64 ((w64 (s2.1 + (1 : Int))) + (1 : Int))) + (1 : Int))) + (1 : Int))) (3 : Int)) = (0 : Int))))))]) [] 0 (.cons dd .nil) ?_
 rcases cond_some hh with ⟨hb, hh⟩ | ⟨hb, hh⟩
 · refine cT hb (sy [4] [] (sp 99 [z3]) [] 0 (Aw.ret (then_r (blk_r (then_r ?_)))))
   refine hR2 _ _ _ _ (some_some hh) ?_
   intro hout
   rw [hout] at hk2
   refine blk_r ?_
   obtain rfl := some_some hk2
   refine hR1 _ _ _ ?_
   rw [some_some hk1]
   exact gvi
 refine cF hb (Aw.xskip (fun _ _ _ hq => then_m hq) (sy [0, 1, 5] [] (sp 99 [z2, z7, z12]) [] 0 (Aw.seq (Aw.sreg [0, 1, 5, 73] [] (yj 2  (sp 99 [z2, z7, z12, (66, bo C_47 x_a), (67, ii s2.2)]) [] 0 ?_)))))
 obtain ⟨hg376, hh⟩ := grd_some hh
 refine ys (.iadr 8 (.t 66) (.t 67)) (some 68) (op_iadr (kd := .i64) (c := C_47) (xs := x_a) len_C_47 dd kr kr hg376 ?_)
 refine yu 2 [(68, .bptr (fl C_47 x_a) (Int.toNat s2.2 * 8)), (69, .bptr (fl C_47 x_a) (Int.toNat s2.2 * 8 + 2)), (70, .bptr (fl C_47 x_a) (Int.toNat s2.2 * 8 + 2 + 3))] [] 0 (ys (.load false 1 (.t 70)) (some 71) (op_loadb (c := C_47) (xs := x_a) (o := Int.toNat s2.2 * 8 + 2 + 3) (i := (Int.toNat s2.2)) (off := 5) (v := ii ((z1.What).Page)) len_C_47 kr ltn ltn dd kr ?_))
 refine yt (sp 99 [z2, z7, z12, (73, bb (!decide (((z1.What).Page) = (w64 ((w64 ((w64 ((w64 ((w64 (s2.1 + (1 : Int))) + (1 : Int))) + (1 : Int))) + (1 : Int))) + (1 : Int))))))]) [] 0 ?_
 rcases cond_some hh with ⟨hb, hh⟩ | ⟨hb, hh⟩
 · refine cT hb (sy [4] [] (sp 99 [z3]) [] 0 (Aw.ret (then_r (blk_r (then_r ?_)))))
   refine hR2 _ _ _ _ (some_some hh) ?_
   intro hout
   rw [hout] at hk2
   refine blk_r ?_
   obtain rfl := some_some hk2
   refine hR1 _ _ _ ?_
   rw [some_some hk1]
   exact gvi
 refine cF hb (Aw.xskip (fun _ _ _ hq => then_m hq) (sy [0, 1, 5] [] (sp 99 [z2, z6, z12]) [] 0 (Aw.seq (Aw.sreg [0, 1, 5, 83] [] (yj 2  (sp 99 [z2, z6, z12, (76, bo C_47 x_a), (77, ii s2.2)]) [] 0 ?_)))))
 obtain ⟨hg380, hh⟩ := grd_some hh
 refine ys (.iadr 8 (.t 76) (.t 77)) (some 78) (op_iadr (kd := .i64) (c := C_47) (xs := x_a) len_C_47 dd kr kr hg380 ?_)
 refine yu 2 [(78, .bptr (fl C_47 x_a) (Int.toNat s2.2 * 8)), (79, .bptr (fl C_47 x_a) (Int.toNat s2.2 * 8 + 2)), (80, .bptr (fl C_47 x_a) (Int.toNat s2.2 * 8 + 2 + 4))] [] 0 (ys (.load false 1 (.t 80)) (some 81) (op_loadb (c := C_47) (xs := x_a) (o := Int.toNat s2.2 * 8 + 2 + 4) (i := (Int.toNat s2.2)) (off := 6) (v := ii ((z1.What).Frame)) len_C_47 kr ltn ltn dd kr ?_))
 refine yt (sp 99 [z2, z6, z12, (83, bb (!decide (((z1.What).Frame) = (w64 ((w64 ((w64 ((w64 ((w64 ((w64 (s2.1 + (1 : Int))) + (1 : Int))) + (1 : Int))) + (1 : Int))) + (1 : Int))) + (1 : Int))))))]) [] 0 ?_
 rcases cond_some hh with ⟨hb, hh⟩ | ⟨hb, hh⟩
 · refine cT hb (sy [4] [] (sp 99 [z3]) [] 0 (Aw.ret (then_r (blk_r (then_r ?_)))))
   refine hR2 _ _ _ _ (some_some hh) ?_
   intro hout
   rw [hout] at hk2
   refine blk_r ?_
   obtain rfl := some_some hk2
   refine hR1 _ _ _ ?_
   rw [some_some hk1]
   exact gvi
 refine cF hb (Aw.xskip (fun _ _ _ hq => then_m hq) (sy [0, 1, 5] [] (sp 99 [z2, z5, z12]) [] 0 (Aw.seq (Aw.sreg [0, 1, 5, 95] [] (yj 2  (sp 99 [z2, z5, z12, (86, bo C_47 x_a), (87, ii s2.2)]) [] 0 ?_)))))
 obtain ⟨hg384, hh⟩ := grd_some hh
 refine ys (.iadr 8 (.t 86) (.t 87)) (some 88) (op_iadr (kd := .i64) (c := C_47) (xs := x_a) len_C_47 dd kr kr hg384 ?_)
 refine yu 2 [(88, .bptr (fl C_47 x_a) (Int.toNat s2.2 * 8)), (89, .bptr (fl C_47 x_a) (Int.toNat s2.2 * 8 + 2)), (90, .bptr (fl C_47 x_a) (Int.toNat s2.2 * 8 + 2 + 5))] [] 0 (ys (.load false 1 (.t 90)) (some 91) (op_loadb (c := C_47) (xs := x_a) (o := Int.toNat s2.2 * 8 + 2 + 5) (i := (Int.toNat s2.2)) (off := 7) (v := bb ((z1.What).Ready)) len_C_47 kr ltn ltn dd kr ?_))
 refine ytc [(3 : Int) ≠ 0] (sp 99 [z2, z5, z12, (95, bb (!(((z1.What).Ready) == (decide ((Int.tmod (w64 ((w64 ((w64 ((w64 ((w64 ((w64 ((w64 (s2.1 + (1 : Int))) + (1 : Int))) + (1 : Int))) + (1 : Int))) + (1 : Int))) + (1 : Int))) + (1 : Int))) (3 : Int)) = (0 : Int))))))]) [] 0 (.cons dd .nil) ?_
 rcases cond_some hh with ⟨hb, hh⟩ | ⟨hb, hh⟩
 · refine cT hb (sy [4] [] (sp 99 [z3]) [] 0 (Aw.ret (then_r (blk_r (then_r ?_)))))
   refine hR2 _ _ _ _ (some_some hh) ?_
   intro hout
   rw [hout] at hk2
   refine blk_r ?_
   obtain rfl := some_some hk2
   refine hR1 _ _ _ ?_
   rw [some_some hk1]
   exact gvi
 exact cF hb (Aw.xskip (fun _ _ _ hq => then_m hq) (Aw.xreg [0, 1, 5] [] (fun _ _ _ hq => blk_m (then_m hq)) (yt (sp 99 [z2, z4, z12]) [] 0 (Aw.oreg (ye (sp 99 [z2, z4, (5, ii (w64 (s2.2 + (1 : Int)))), (10, ii s2.2), (11, ii (w64 (s2.2 + (1 : Int))))]) [] 0 (hN2 ((w64 ((w64 ((w64 ((w64 ((w64 ((w64 ((w64 ((w64 (s2.1 + (1 : Int))) + (1 : Int))) + (1 : Int))) + (1 : Int))) + (1 : Int))) + (1 : Int))) + (1 : Int))) + (1 : Int))), (w64 (s2.2 + (1 : Int)))) _ _ _ (some_some hh) (el [] (rens_sp kr (ro nr_C_47 (ri (ri rl_n)))) hs_nil)))))))
end Go.Proofs.Ytbnjdmclnojlmaa
