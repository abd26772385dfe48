/- Plain functions of the program, and that it hands back what they say. Made by program. -/
import Derived.Test.YtlikfpmbcdlnjaaWT
import Derived.Test.YtlikfpmbcdlnjaaProg
namespace Go.Proofs.Ytlikfpmbcdlnjaa
open Go.RowKit
set_option maxRecDepth 100000
set_option linter.all false
set_option maxHeartbeats 0
def Lf49_r0 : List LOper := [oN 4 0]
def Lf49_r1 : List LOper := [oN 5 0]
def Lf49_r2 : List LOper := [om 6 5, om 7 0, oH 8 7, oB 9 .lss 6 8]
def Lf49_r3 : List LOper := [om 12 0, om 13 5, om 14 1, ob 15 .rem 14 3, ob 16 .eql 15 0, oi 17 6 12 13, oA 18 0 17, oS 1 18 16]
def Lf49_r4 : List LOper := [om 19 1, ob 20 .add 19 1, om 1 20]
def Lf49_r5 : List LOper := [om 21 0, om 22 5, om 23 1, ob 24 .rem 23 3, ob 25 .eql 24 0, oi 26 6 21 22, oA 27 1 26, oS 1 27 25]
def Lf49_r6 : List LOper := [om 28 1, ob 29 .add 28 1, om 1 29]
def Lf49_r7 : List LOper := [om 30 0, om 31 5, om 32 1, ob 33 .rem 32 3, ob 34 .eql 33 0, oi 35 6 30 31, oA 36 2 35, oS 1 36 34]
def Lf49_r8 : List LOper := [om 37 1, ob 38 .add 37 1, om 1 38]
def Lf49_r9 : List LOper := [om 39 0, om 40 5, om 41 1, oi 42 6 39 40, oA 43 3 42, oS 1 43 41]
def Lf49_r10 : List LOper := [om 44 1, ob 45 .add 44 1, om 1 45]
def Lf49_r11 : List LOper := [om 46 0, om 47 5, om 48 1, oi 49 6 46 47, oA 50 4 49, oS 1 50 48]
def Lf49_r12 : List LOper := [om 51 1, ob 52 .add 51 1, om 1 52]
def Lf49_r13 : List LOper := [om 53 0, om 54 5, om 55 1, ob 56 .rem 55 3, ob 57 .eql 56 0, oi 58 6 53 54, oA 59 5 58, oS 1 59 57]
def Lf49_r14 : List LOper := [om 60 1, ob 61 .add 60 1, om 1 61]
def Lf49_r15 : List LOper := [om 10 5, ob 11 .add 10 1, om 5 11]
def Lf49_l16 : LCode := (.seq (.seq (.reg false Lf49_r2) (.cond (.t 9) .skip (.exit 0))) (.seq (.block 1 (.seq (.reg false Lf49_r3) (.seq (.reg false Lf49_r4) (.seq (.reg false Lf49_r5) (.seq (.reg false Lf49_r6) (.seq (.reg false Lf49_r7) (.seq (.reg false Lf49_r8) (.seq (.reg false Lf49_r9) (.seq (.reg false Lf49_r10) (.seq (.reg false Lf49_r11) (.seq (.reg false Lf49_r12) (.seq (.reg false Lf49_r13) (.reg false Lf49_r14))))))))))))) (.reg false Lf49_r15)))
def Lf49_r17 : List LOper := [om 62 1, om 4 62]
def Lf49 : LFun := ⟨63, [(.tmp 4)], (.seq (.reg false Lf49_r0) (.seq (.seq (.reg false Lf49_r1) (.block 0 (.loop Lf49_l16))) (.seq (.reg false Lf49_r17) .ret)))⟩
theorem low_laws_markShadeS : lowFun Go.Proofs.Try.prog 49 = some Lf49 := by kernel_rfl
noncomputable def F_laws_markShadeS_j1  (s1 : Int × (List DShade)) : Option ((List DShade) × Int) :=
 some (s1.2, s1.1)
noncomputable def F_laws_markShadeS_l2  (s2 : (List DShade) × Int × Int) : Option (LO ((List DShade) × Int × Int) (JO (Int × (List DShade)) ((List DShade) × Int))) :=
 cond (decide (s2.2.2 < (((List.length s2.1) : Nat) : Int)))
  (grd ((0 : Int) ≤ s2.2.2 ∧ s2.2.2 < (((List.length s2.1) : Nat) : Int)) (grd ((0 : Int) ≤ s2.2.2 ∧ s2.2.2 < (((List.length s2.1) : Nat) : Int)) (grd ((0 : Int) ≤ s2.2.2 ∧ s2.2.2 < (((List.length s2.1) : Nat) : Int)) (grd ((0 : Int) ≤ s2.2.2 ∧ s2.2.2 < (((List.length s2.1) : Nat) : Int)) (grd ((0 : Int) ≤ s2.2.2 ∧ s2.2.2 < (((List.length s2.1) : Nat) : Int)) (grd ((0 : Int) ≤ s2.2.2 ∧ s2.2.2 < (((List.length s2.1) : Nat) : Int)) (some (.next ((List.set s2.1 (Int.toNat s2.2.2) (DShade.mk (decide ((Int.tmod s2.2.1 (3 : Int)) = (0 : Int))) (decide ((Int.tmod (w64 (s2.2.1 + (1 : Int))) (3 : Int)) = (0 : Int))) (decide ((Int.tmod (w64 ((w64 (s2.2.1 + (1 : Int))) + (1 : Int))) (3 : Int)) = (0 : Int))) (w64 ((w64 ((w64 (s2.2.1 + (1 : Int))) + (1 : Int))) + (1 : Int))) (w64 ((w64 ((w64 ((w64 (s2.2.1 + (1 : Int))) + (1 : Int))) + (1 : Int))) + (1 : Int))) (decide ((Int.tmod (w64 ((w64 ((w64 ((w64 ((w64 (s2.2.1 + (1 : Int))) + (1 : Int))) + (1 : Int))) + (1 : Int))) + (1 : Int))) (3 : Int)) = (0 : Int))))), (w64 ((w64 ((w64 ((w64 ((w64 ((w64 (s2.2.1 + (1 : Int))) + (1 : Int))) + (1 : Int))) + (1 : Int))) + (1 : Int))) + (1 : Int))), (w64 (s2.2.2 + (1 : Int))))))))))))
  (some (.ret (.go (s2.2.1, s2.1))))
noncomputable def F_laws_markShadeS (x_a : List DShade) (x_k : Int) : Option ((List DShade) × Int) :=
 Option.bind (Option.bind (iter (F_laws_markShadeS_l2) (x_a, x_k, (0 : Int))) LO.val) fun j1 =>
  JO.run j1 (F_laws_markShadeS_j1)
theorem laws_markShadeS_fn {x_a : List DShade} {x_k : Int} {R_ : (List DShade) × Int} (hh : F_laws_markShadeS x_a x_k = some R_) : Inl Try.prog 49 [.sref 0 [] 0 (List.length x_a) 6, .int .i64 x_k] [(0, some ⟨48, (fl C_48 x_a)⟩)] 1 (.int .i64 R_.2) [(0, some ⟨48, (fl C_48 R_.1)⟩)] 1 := by
 let z14 : EV := (0, .sref 0 [] 0 (List.length x_a) 6); let z15 : EH := (0, some ⟨48, (fl C_48 x_a)⟩)
 unfold F_laws_markShadeS at hh
 refine Inl.start low_laws_markShadeS [0, 1] [0] (E := sp 63 [z14, (1, ii x_k)]) (H1 := [z15]) kr kr (sy [0, 1] [0] (sp 63 [z14, (1, ii x_k)]) [z15] 1 ?_)
 obtain ⟨j1, hh, hk1⟩ := bind_some hh
 refine Aw.join (S := Int × (List DShade)) (fun s1 => sp 63 [(1, ii s1.1)]) (fun s1 => [(0, some ⟨48, (fl C_48 s1.2)⟩)]) 1 (fun s1 => F_laws_markShadeS_j1 s1 = some R_) ?_ ?_
 · intro s1 hh
   unfold F_laws_markShadeS_j1 at hh
   refine sy [4] [0] (sp 63 [(4, ii s1.1)]) [(0, some ⟨48, (fl C_48 s1.2)⟩)] 1 (Aw.ret ?_)
   rw [some_some hh]
   exact gives (r' := ii s1.1) kr (el [some 0] (rens_1 ren_i) (hn nr_C_48 hs_nil))
 intro Q1 hN1 hR1 hE1
 refine sy [0, 1, 5] [0] (sp 63 [z14, (1, ii x_k), (5, ii 0)]) [z15] 1 (Aw.block ?_)
 obtain ⟨o2, hi2, hk2⟩ := bind_some hh
 refine Aw.iter (fun (s2 : (List DShade) × Int × Int) => sp 63 [(0, .sref 0 [] 0 (List.length s2.1) 6), (1, ii s2.2.1), (5, ii s2.2.2)]) (fun (s2 : (List DShade) × Int × Int) => [(0, some ⟨48, (fl C_48 s2.1)⟩)]) 1 hi2 (el [some 0] (rens_sp kr (rs (.sref 0 [] 0 (List.length x_a) 6) (ri (ri rl_n)))) (hn nr_C_48 hs_nil)) ?_
 intro s2 u2 Q2 hh hN2 hX2 hR2
 let z16 : EV := (0, .sref 0 [] 0 (List.length s2.1) 6); let z17 : EH := (0, some ⟨48, (fl C_48 s2.1)⟩); let z18 := (1, ii (w64 ((w64 ((w64 ((w64 ((w64 ((w64 (s2.2.1 + (1 : Int))) + (1 : Int))) + (1 : Int))) + (1 : Int))) + (1 : Int))) + (1 : Int)))); let z19 := (1, ii (w64 ((w64 ((w64 ((w64 ((w64 (s2.2.1 + (1 : Int))) + (1 : Int))) + (1 : Int))) + (1 : Int))) + (1 : Int)))); let z20 := (1, ii (w64 ((w64 ((w64 ((w64 (s2.2.1 + (1 : Int))) + (1 : Int))) + (1 : Int))) + (1 : Int)))); let z21 := (1, ii (w64 ((w64 ((w64 (s2.2.1 + (1 : Int))) + (1 : Int))) + (1 : Int)))); let z22 := (1, ii (w64 ((w64 (s2.2.1 + (1 : Int))) + (1 : Int)))); let z23 := (1, ii (w64 (s2.2.1 + (1 : Int)))); let z24 := (5, ii s2.2.2); let z25 := (9, bb (decide (s2.2.2 < (((List.length s2.1) : Nat) : Int)))); let z1 := DShade.mk (decide ((Int.tmod s2.2.1 (3 : Int)) = (0 : Int))) (decide ((Int.tmod (w64 (s2.2.1 + (1 : Int))) (3 : Int)) = (0 : Int))) (decide ((Int.tmod (w64 ((w64 (s2.2.1 + (1 : Int))) + (1 : Int))) (3 : Int)) = (0 : Int))) (w64 ((w64 ((w64 (s2.2.1 + (1 : Int))) + (1 : Int))) + (1 : Int))) (w64 ((w64 ((w64 ((w64 (s2.2.1 + (1 : Int))) + (1 : Int))) + (1 : Int))) + (1 : Int))) (decide ((Int.tmod (w64 ((w64 ((w64 ((w64 ((w64 (s2.2.1 + (1 : Int))) + (1 : Int))) + (1 : Int))) + (1 : Int))) + (1 : Int))) (3 : Int)) = (0 : Int))); let z3 := List.set s2.1 (Int.toNat s2.2.2) z1; let z2 := List.getD s2.1 (Int.toNat s2.2.2) default; let z4 := DShade.mk (decide ((Int.tmod s2.2.1 (3 : Int)) = (0 : Int))) (decide ((Int.tmod (w64 (s2.2.1 + (1 : Int))) (3 : Int)) = (0 : Int))) (decide ((Int.tmod (w64 ((w64 (s2.2.1 + (1 : Int))) + (1 : Int))) (3 : Int)) = (0 : Int))) (w64 ((w64 ((w64 (s2.2.1 + (1 : Int))) + (1 : Int))) + (1 : Int))) (w64 ((w64 ((w64 ((w64 (s2.2.1 + (1 : Int))) + (1 : Int))) + (1 : Int))) + (1 : Int))) (z2.Ready); let z9 := List.set s2.1 (Int.toNat s2.2.2) z4; let z5 := DShade.mk (decide ((Int.tmod s2.2.1 (3 : Int)) = (0 : Int))) (decide ((Int.tmod (w64 (s2.2.1 + (1 : Int))) (3 : Int)) = (0 : Int))) (decide ((Int.tmod (w64 ((w64 (s2.2.1 + (1 : Int))) + (1 : Int))) (3 : Int)) = (0 : Int))) (w64 ((w64 ((w64 (s2.2.1 + (1 : Int))) + (1 : Int))) + (1 : Int))) (z2.Frame) (z2.Ready)
 let z10 := List.set s2.1 (Int.toNat s2.2.2) z5; let z6 := DShade.mk (decide ((Int.tmod s2.2.1 (3 : Int)) = (0 : Int))) (decide ((Int.tmod (w64 (s2.2.1 + (1 : Int))) (3 : Int)) = (0 : Int))) (decide ((Int.tmod (w64 ((w64 (s2.2.1 + (1 : Int))) + (1 : Int))) (3 : Int)) = (0 : Int))) (z2.Page) (z2.Frame) (z2.Ready); let z11 := List.set s2.1 (Int.toNat s2.2.2) z6; let z7 := DShade.mk (decide ((Int.tmod s2.2.1 (3 : Int)) = (0 : Int))) (decide ((Int.tmod (w64 (s2.2.1 + (1 : Int))) (3 : Int)) = (0 : Int))) (z2.User) (z2.Page) (z2.Frame) (z2.Ready); let z12 := List.set s2.1 (Int.toNat s2.2.2) z7; let z8 := DShade.mk (decide ((Int.tmod s2.2.1 (3 : Int)) = (0 : Int))) (z2.Write) (z2.User) (z2.Page) (z2.Frame) (z2.Ready); let z13 := List.set s2.1 (Int.toNat s2.2.2) z8
 unfold F_laws_markShadeS_l2 at hh
 refine Aw.seq (sy [0, 1, 5, 9] [0] (sp 63 [z16, (1, ii s2.2.1), z24, z25]) [z17] 1 ?_)
 rcases cond_sf hh with ⟨hb, hh⟩ | ⟨hb, hh⟩
 · refine cF hb (Aw.exit (then_x (hX2 _ _ _ _ _ (some_some hh) ?_)))
   intro hout
   rw [hout] at hk2
   refine blk_x ?_
   obtain rfl := some_some hk2
   exact hN1 (s2.2.1, s2.1) _ _ _ hk1 (el [some 0] (rens_sp kr (ri rl_n)) (hn nr_C_48 hs_nil))
 refine cT hb (Aw.xskip (fun _ _ _ hq => then_m hq) (Aw.seq (Aw.block (Aw.sreg [0, 1, 5] [0] ?_))))
 obtain ⟨hg144, hh⟩ := grd_some hh
 refine yjc 7 [(3 : Int) ≠ 0, (0 : Int) ≤ s2.2.2 ∧ s2.2.2 < (((List.length s2.1) : Nat) : Int)] (sp 63 [z16, (1, ii s2.2.1), z24, z25, (12, .sref 0 [] 0 (List.length s2.1) 6), (13, ii s2.2.2), (14, ii s2.2.1), (15, ii (Int.tmod s2.2.1 (3 : Int))), (16, bb (decide ((Int.tmod s2.2.1 (3 : Int)) = (0 : Int)))), (17, .ptr 0 [] (0 + (Int.toNat s2.2.2) * 6)), (18, .ptr 0 [] (0 + (Int.toNat s2.2.2) * 6 + 0))]) [z17] 1 (.cons dd (.cons hg144 .nil)) ?_
 let q1 : Root := ⟨48, (fl C_48 z13)⟩; let z26 := (0, some q1)
 refine ys (.store 1 (.t 18) (.t 16)) none (op_store (c := C_48) (xs := s2.1) (e := 48) (r := 0) (π := []) (o := 0 + (Int.toNat s2.2.2) * 6 + 0) (i := (Int.toNat s2.2.2)) (off := 0) (vs := [bb (decide ((Int.tmod s2.2.1 (3 : Int)) = (0 : Int)))]) (y := z8) (H' := [z26, z17]) len_C_48 kr kr kr kr ltn ltn dd kr kr ?_)
 refine yt (sp 63 [z16, (1, ii s2.2.1), z24]) [z26] 1 (sy [0, 1, 5] [0] (sp 63 [z16, z23, z24]) [z26] 1 (Aw.sreg [0, 1, 5] [0] ?_))
 obtain ⟨hg143, hh⟩ := grd_some hh
 refine yjc 7 [(3 : Int) ≠ 0, (0 : Int) ≤ s2.2.2 ∧ s2.2.2 < (((List.length s2.1) : Nat) : Int)] (sp 63 [z16, z23, z24, (21, .sref 0 [] 0 (List.length s2.1) 6), (22, ii s2.2.2), (23, ii (w64 (s2.2.1 + (1 : Int)))), (24, ii (Int.tmod (w64 (s2.2.1 + (1 : Int))) (3 : Int))), (25, bb (decide ((Int.tmod (w64 (s2.2.1 + (1 : Int))) (3 : Int)) = (0 : Int)))), (26, .ptr 0 [] (0 + (Int.toNat s2.2.2) * 6)), (27, .ptr 0 [] (0 + (Int.toNat s2.2.2) * 6 + 1))]) [z26] 1 (.cons dd (.cons hg143 .nil)) ?_
 let q2 : Root := ⟨48, (fl C_48 z12)⟩; let z27 := (0, some q2)
 refine ys (.store 1 (.t 27) (.t 25)) none (op_storeE (getD_set_self ltn) (List.set_set ..) (c := C_48) (xs := z13) (e := 48) (r := 0) (π := []) (o := 0 + (Int.toNat s2.2.2) * 6 + 1) (i := (Int.toNat s2.2.2)) (off := 1) (vs := [bb (decide ((Int.tmod (w64 (s2.2.1 + (1 : Int))) (3 : Int)) = (0 : Int)))]) (y := z7) (H' := [z27, z26]) len_C_48 kr kr kr kr ltn ltn dd kr kr ?_)
 refine yt (sp 63 [z16, z23, z24]) [z27] 1 (sy [0, 1, 5] [0] (sp 63 [z16, z22, z24]) [z27] 1 (Aw.sreg [0, 1, 5] [0] ?_))
 obtain ⟨hg142, hh⟩ := grd_some hh
 refine yjc 7 [(3 : Int) ≠ 0, (0 : Int) ≤ s2.2.2 ∧ s2.2.2 < (((List.length s2.1) : Nat) : Int)] (sp 63 [z16, z22, z24, (30, .sref 0 [] 0 (List.length s2.1) 6), (31, ii s2.2.2), (32, ii (w64 ((w64 (s2.2.1 + (1 : Int))) + (1 : Int)))), (33, ii (Int.tmod (w64 ((w64 (s2.2.1 + (1 : Int))) + (1 : Int))) (3 : Int))), (34, bb (decide ((Int.tmod (w64 ((w64 (s2.2.1 + (1 : Int))) + (1 : Int))) (3 : Int)) = (0 : Int)))), (35, .ptr 0 [] (0 + (Int.toNat s2.2.2) * 6)), (36, .ptr 0 [] (0 + (Int.toNat s2.2.2) * 6 + 2))]) [z27] 1 (.cons dd (.cons hg142 .nil)) ?_
 let q3 : Root := ⟨48, (fl C_48 z11)⟩; let z28 := (0, some q3)
 refine ys (.store 1 (.t 36) (.t 34)) none (op_storeE (getD_set_self ltn) (List.set_set ..) (c := C_48) (xs := z12) (e := 48) (r := 0) (π := []) (o := 0 + (Int.toNat s2.2.2) * 6 + 2) (i := (Int.toNat s2.2.2)) (off := 2) (vs := [bb (decide ((Int.tmod (w64 ((w64 (s2.2.1 + (1 : Int))) + (1 : Int))) (3 : Int)) = (0 : Int)))]) (y := z6) (H' := [z28, z27]) len_C_48 kr kr kr kr ltn ltn dd kr kr ?_)
 refine yt (sp 63 [z16, z22, z24]) [z28] 1 (sy [0, 1, 5] [0] (sp 63 [z16, z21, z24]) [z28] 1 (Aw.sreg [0, 1, 5] [0] ?_))
 obtain ⟨hg141, hh⟩ := grd_some hh
 refine yjc 5 [(0 : Int) ≤ s2.2.2 ∧ s2.2.2 < (((List.length s2.1) : Nat) : Int)] (sp 63 [z16, z21, z24, (39, .sref 0 [] 0 (List.length s2.1) 6), (40, ii s2.2.2), (41, ii (w64 ((w64 ((w64 (s2.2.1 + (1 : Int))) + (1 : Int))) + (1 : Int)))), (42, .ptr 0 [] (0 + (Int.toNat s2.2.2) * 6)), (43, .ptr 0 [] (0 + (Int.toNat s2.2.2) * 6 + 3))]) [z28] 1 (.cons hg141 .nil) ?_
 let q4 : Root := ⟨48, (fl C_48 z10)⟩; let z29 := (0, some q4)
 refine ys (.store 1 (.t 43) (.t 41)) none (op_storeE (getD_set_self ltn) (List.set_set ..) (c := C_48) (xs := z11) (e := 48) (r := 0) (π := []) (o := 0 + (Int.toNat s2.2.2) * 6 + 3) (i := (Int.toNat s2.2.2)) (off := 3) (vs := [ii (w64 ((w64 ((w64 (s2.2.1 + (1 : Int))) + (1 : Int))) + (1 : Int)))]) (y := z5) (H' := [z29, z28]) len_C_48 kr kr kr kr ltn ltn dd kr kr ?_)
 refine yt (sp 63 [z16, z21, z24]) [z29] 1 (sy [0, 1, 5] [0] (sp 63 [z16, z20, z24]) [z29] 1 (Aw.sreg [0, 1, 5] [0] ?_))
 obtain ⟨hg140, hh⟩ := grd_some hh
 refine yjc 5 [(0 : Int) ≤ s2.2.2 ∧ s2.2.2 < (((List.length s2.1) : Nat) : Int)] (sp 63 [z16, z20, z24, (46, .sref 0 [] 0 (List.length s2.1) 6), (47, ii s2.2.2), (48, ii (w64 ((w64 ((w64 ((w64 (s2.2.1 + (1 : Int))) + (1 : Int))) + (1 : Int))) + (1 : Int)))), (49, .ptr 0 [] (0 + (Int.toNat s2.2.2) * 6)), (50, .ptr 0 [] (0 + (Int.toNat s2.2.2) * 6 + 4))]) [z29] 1 (.cons hg140 .nil) ?_
 let q5 : Root := ⟨48, (fl C_48 z9)⟩; let z30 := (0, some q5)
 refine ys (.store 1 (.t 50) (.t 48)) none (op_storeE (getD_set_self ltn) (List.set_set ..) (c := C_48) (xs := z10) (e := 48) (r := 0) (π := []) (o := 0 + (Int.toNat s2.2.2) * 6 + 4) (i := (Int.toNat s2.2.2)) (off := 4) (vs := [ii (w64 ((w64 ((w64 ((w64 (s2.2.1 + (1 : Int))) + (1 : Int))) + (1 : Int))) + (1 : Int)))]) (y := z4) (H' := [z30, z29]) len_C_48 kr kr kr kr ltn ltn dd kr kr ?_)
 refine yt (sp 63 [z16, z20, z24]) [z30] 1 (sy [0, 1, 5] [0] (sp 63 [z16, z19, z24]) [z30] 1 (Aw.sreg [0, 1, 5] [0] ?_))
 obtain ⟨hg139, hh⟩ := grd_some hh
 refine yjc 7 [(3 : Int) ≠ 0, (0 : Int) ≤ s2.2.2 ∧ s2.2.2 < (((List.length s2.1) : Nat) : Int)] (sp 63 [z16, z19, z24, (53, .sref 0 [] 0 (List.length s2.1) 6), (54, ii s2.2.2), (55, ii (w64 ((w64 ((w64 ((w64 ((w64 (s2.2.1 + (1 : Int))) + (1 : Int))) + (1 : Int))) + (1 : Int))) + (1 : Int)))), (56, ii (Int.tmod (w64 ((w64 ((w64 ((w64 ((w64 (s2.2.1 + (1 : Int))) + (1 : Int))) + (1 : Int))) + (1 : Int))) + (1 : Int))) (3 : Int))), (57, bb (decide ((Int.tmod (w64 ((w64 ((w64 ((w64 ((w64 (s2.2.1 + (1 : Int))) + (1 : Int))) + (1 : Int))) + (1 : Int))) + (1 : Int))) (3 : Int)) = (0 : Int)))), (58, .ptr 0 [] (0 + (Int.toNat s2.2.2) * 6)), (59, .ptr 0 [] (0 + (Int.toNat s2.2.2) * 6 + 5))]) [z30] 1 (.cons dd (.cons hg139 .nil)) ?_
 let q6 : Root := ⟨48, (fl C_48 z3)⟩
 refine ys (.store 1 (.t 59) (.t 57)) none (op_storeE (getD_set_self ltn) (List.set_set ..) (c := C_48) (xs := z9) (e := 48) (r := 0) (π := []) (o := 0 + (Int.toNat s2.2.2) * 6 + 5) (i := (Int.toNat s2.2.2)) (off := 5) (vs := [bb (decide ((Int.tmod (w64 ((w64 ((w64 ((w64 ((w64 (s2.2.1 + (1 : Int))) + (1 : Int))) + (1 : Int))) + (1 : Int))) + (1 : Int))) (3 : Int)) = (0 : Int)))]) (y := z1) (H' := [(0, some q6), z30]) len_C_48 kr kr kr kr ltn ltn dd kr kr ?_)
 exact yt (sp 63 [z16, z19, z24]) [(0, some q6)] 1 (Aw.xreg [0, 1, 5] [0] (fun _ _ _ hq => blk_m (then_m hq)) (yt (sp 63 [z16, z18, z24]) [(0, some q6)] 1 (Aw.oreg (ye (sp 63 [z16, z18, (5, ii (w64 (s2.2.2 + (1 : Int)))), (10, ii s2.2.2), (11, ii (w64 (s2.2.2 + (1 : Int))))]) [(0, some q6)] 1 (hN2 (z3, (w64 ((w64 ((w64 ((w64 ((w64 ((w64 (s2.2.1 + (1 : Int))) + (1 : Int))) + (1 : Int))) + (1 : Int))) + (1 : Int))) + (1 : Int))), (w64 (s2.2.2 + (1 : Int)))) _ _ _ (some_some hh) (el [some 0] (rens_sp kr (rs (.sref 0 [] 0 (List.length s2.1) 6) (ri (ri rl_n)))) (hn nr_C_48 hs_nil)))))))
def Lf50_r0 : List LOper := [oN 4 0]
def Lf50_r1 : List LOper := [oN 5 0]
def Lf50_r2 : List LOper := [om 6 5, om 7 0, oH 8 7, oB 9 .lss 6 8]
def Lf50_r3 : List LOper := [om 12 0, om 13 5, oi 14 6 12 13, oA 15 0 14, ol 16 15, om 17 1, ob 18 .rem 17 3, ob 19 .eql 18 0, oo 20 (.binb true (.t 16) (.t 19))]
def Lf50_r4 : List LOper := [oN 4 (-1)]
def Lf50_r5 : List LOper := [om 21 1, ob 22 .add 21 1, om 1 22]
def Lf50_r6 : List LOper := [om 23 0, om 24 5, oi 25 6 23 24, oA 26 1 25, ol 27 26, om 28 1, ob 29 .rem 28 3, ob 30 .eql 29 0, oo 31 (.binb true (.t 27) (.t 30))]
def Lf50_r7 : List LOper := [oN 4 (-1)]
def Lf50_r8 : List LOper := [om 32 1, ob 33 .add 32 1, om 1 33]
def Lf50_r9 : List LOper := [om 34 0, om 35 5, oi 36 6 34 35, oA 37 2 36, ol 38 37, om 39 1, ob 40 .rem 39 3, ob 41 .eql 40 0, oo 42 (.binb true (.t 38) (.t 41))]
def Lf50_r10 : List LOper := [oN 4 (-1)]
def Lf50_r11 : List LOper := [om 43 1, ob 44 .add 43 1, om 1 44]
def Lf50_r12 : List LOper := [om 45 0, om 46 5, oi 47 6 45 46, oA 48 3 47, ol 49 48, om 50 1, oB 51 .neq 49 50]
def Lf50_r13 : List LOper := [oN 4 (-1)]
def Lf50_r14 : List LOper := [om 52 1, ob 53 .add 52 1, om 1 53]
def Lf50_r15 : List LOper := [om 54 0, om 55 5, oi 56 6 54 55, oA 57 4 56, ol 58 57, om 59 1, oB 60 .neq 58 59]
def Lf50_r16 : List LOper := [oN 4 (-1)]
def Lf50_r17 : List LOper := [om 61 1, ob 62 .add 61 1, om 1 62]
def Lf50_r18 : List LOper := [om 63 0, om 64 5, oi 65 6 63 64, oA 66 5 65, ol 67 66, om 68 1, ob 69 .rem 68 3, ob 70 .eql 69 0, oo 71 (.binb true (.t 67) (.t 70))]
def Lf50_r19 : List LOper := [oN 4 (-1)]
def Lf50_r20 : List LOper := [om 72 1, ob 73 .add 72 1, om 1 73]
def Lf50_r21 : List LOper := [om 10 5, ob 11 .add 10 1, om 5 11]
def Lf50_l22 : LCode := (.seq (.seq (.reg false Lf50_r2) (.cond (.t 9) .skip (.exit 0))) (.seq (.block 1 (.seq (.seq (.reg false Lf50_r3) (.cond (.t 20) (.seq (.reg false Lf50_r4) .ret) .skip)) (.seq (.reg false Lf50_r5) (.seq (.seq (.reg false Lf50_r6) (.cond (.t 31) (.seq (.reg false Lf50_r7) .ret) .skip)) (.seq (.reg false Lf50_r8) (.seq (.seq (.reg false Lf50_r9) (.cond (.t 42) (.seq (.reg false Lf50_r10) .ret) .skip)) (.seq (.reg false Lf50_r11) (.seq (.seq (.reg false Lf50_r12) (.cond (.t 51) (.seq (.reg false Lf50_r13) .ret) .skip)) (.seq (.reg false Lf50_r14) (.seq (.seq (.reg false Lf50_r15) (.cond (.t 60) (.seq (.reg false Lf50_r16) .ret) .skip)) (.seq (.reg false Lf50_r17) (.seq (.seq (.reg false Lf50_r18) (.cond (.t 71) (.seq (.reg false Lf50_r19) .ret) .skip)) (.reg false Lf50_r20))))))))))))) (.reg false Lf50_r21)))
def Lf50_r23 : List LOper := [om 74 1, om 4 74]
def Lf50 : LFun := ⟨75, [(.tmp 4)], (.seq (.reg false Lf50_r0) (.seq (.seq (.reg false Lf50_r1) (.block 0 (.loop Lf50_l22))) (.seq (.reg false Lf50_r23) .ret)))⟩
theorem low_laws_heldShadeS : lowFun Go.Proofs.Try.prog 50 = some Lf50 := by kernel_rfl
noncomputable def F_laws_heldShadeS_j1  (s1 : Int) : Option Int :=
 some s1
noncomputable def F_laws_heldShadeS_l2 (x_a : List DShade) (s2 : Int × Int) : Option (LO (Int × Int) (JO Int Int)) :=
 cond (decide (s2.2 < (((List.length x_a) : Nat) : Int)))
  (grd ((0 : Int) ≤ s2.2 ∧ s2.2 < ((List.length x_a : Nat) : Int)) (cond (!(((List.getD x_a (Int.toNat s2.2) default).There) == (decide ((Int.tmod s2.1 (3 : Int)) = (0 : Int)))))
   (some (.ret (.out (-1 : Int))))
   (grd ((0 : Int) ≤ s2.2 ∧ s2.2 < ((List.length x_a : Nat) : Int)) (cond (!(((List.getD x_a (Int.toNat s2.2) default).Write) == (decide ((Int.tmod (w64 (s2.1 + (1 : Int))) (3 : Int)) = (0 : Int)))))
    (some (.ret (.out (-1 : Int))))
    (grd ((0 : Int) ≤ s2.2 ∧ s2.2 < ((List.length x_a : Nat) : Int)) (cond (!(((List.getD x_a (Int.toNat s2.2) default).User) == (decide ((Int.tmod (w64 ((w64 (s2.1 + (1 : Int))) + (1 : Int))) (3 : Int)) = (0 : Int)))))
     (some (.ret (.out (-1 : Int))))
     (grd ((0 : Int) ≤ s2.2 ∧ s2.2 < ((List.length x_a : Nat) : Int)) (cond (!decide (((List.getD x_a (Int.toNat s2.2) default).Page) = (w64 ((w64 ((w64 (s2.1 + (1 : Int))) + (1 : Int))) + (1 : Int)))))
      (some (.ret (.out (-1 : Int))))
      (grd ((0 : Int) ≤ s2.2 ∧ s2.2 < ((List.length x_a : Nat) : Int)) (cond (!decide (((List.getD x_a (Int.toNat s2.2) default).Frame) = (w64 ((w64 ((w64 ((w64 (s2.1 + (1 : Int))) + (1 : Int))) + (1 : Int))) + (1 : Int)))))
       (some (.ret (.out (-1 : Int))))
       (grd ((0 : Int) ≤ s2.2 ∧ s2.2 < ((List.length x_a : Nat) : Int)) (cond (!(((List.getD x_a (Int.toNat s2.2) default).Ready) == (decide ((Int.tmod (w64 ((w64 ((w64 ((w64 ((w64 (s2.1 + (1 : Int))) + (1 : Int))) + (1 : Int))) + (1 : Int))) + (1 : Int))) (3 : Int)) = (0 : Int)))))
        (some (.ret (.out (-1 : Int))))
        (some (.next ((w64 ((w64 ((w64 ((w64 ((w64 ((w64 (s2.1 + (1 : Int))) + (1 : Int))) + (1 : Int))) + (1 : Int))) + (1 : Int))) + (1 : Int))), (w64 (s2.2 + (1 : Int))))))))))))))))))
  (some (.ret (.go s2.1)))
noncomputable def F_laws_heldShadeS (x_a : List DShade) (x_k : Int) : Option Int :=
 Option.bind (Option.bind (iter (F_laws_heldShadeS_l2 x_a) (x_k, (0 : Int))) LO.val) fun j1 =>
  JO.run j1 (F_laws_heldShadeS_j1)
theorem laws_heldShadeS_fn {x_a : List DShade} {x_k : Int} {R_ : Int} (hh : F_laws_heldShadeS x_a x_k = some R_) : Fn Try.prog 50 [bo C_48 x_a, .int .i64 x_k] (.int .i64 R_) := by
 let z2 := (0, bo C_48 x_a); let z3 := (4, ii (-1))
 unfold F_laws_heldShadeS at hh
 refine Fn.start low_laws_heldShadeS [0, 1] (E := sp 75 [z2, (1, ii x_k)]) kr (v := ii R_) (Hr := []) (k := 0) kr (sy [0, 1] [] (sp 75 [z2, (1, ii x_k)]) [] 0 ?_)
 obtain ⟨j1, hh, hk1⟩ := bind_some hh
 refine Aw.join (S := Int) (fun s1 => sp 75 [(1, ii s1)]) (fun s1 => []) 0 (fun s1 => F_laws_heldShadeS_j1 s1 = some R_) ?_ ?_
 · intro s1 hh
   unfold F_laws_heldShadeS_j1 at hh
   exact sy [4] [] (sp 75 [(4, ii s1)]) [] 0 (Aw.ret (gvis hh))
 intro Q1 hN1 hR1 hE1
 refine sy [0, 1, 5] [] (sp 75 [z2, (1, ii x_k), (5, ii 0)]) [] 0 (Aw.block ?_)
 obtain ⟨o2, hi2, hk2⟩ := bind_some hh
 refine Aw.iter (fun (s2 : Int × Int) => sp 75 [(0, bo C_48 x_a), (1, ii s2.1), (5, ii s2.2)]) (fun (s2 : Int × Int) => []) 0 hi2 (el [] (rens_sp kr (ro nr_C_48 (ri (ri rl_n)))) hs_nil) ?_
 intro s2 u2 Q2 hh hN2 hX2 hR2
 let z4 := (1, ii (w64 ((w64 ((w64 ((w64 ((w64 ((w64 (s2.1 + (1 : Int))) + (1 : Int))) + (1 : Int))) + (1 : Int))) + (1 : Int))) + (1 : Int)))); let z5 := (1, ii (w64 ((w64 ((w64 ((w64 ((w64 (s2.1 + (1 : Int))) + (1 : Int))) + (1 : Int))) + (1 : Int))) + (1 : Int)))); let z6 := (1, ii (w64 ((w64 ((w64 ((w64 (s2.1 + (1 : Int))) + (1 : Int))) + (1 : Int))) + (1 : Int)))); let z7 := (1, ii (w64 ((w64 ((w64 (s2.1 + (1 : Int))) + (1 : Int))) + (1 : Int)))); let z8 := (1, ii (w64 ((w64 (s2.1 + (1 : Int))) + (1 : Int)))); let z9 := (1, ii (w64 (s2.1 + (1 : Int)))); let z10 := (5, ii s2.2); let z11 := (9, bb (decide (s2.2 < (((List.length x_a) : Nat) : Int)))); let z1 := List.getD x_a (Int.toNat s2.2) default
 unfold F_laws_heldShadeS_l2 at hh
 refine Aw.seq (sy [0, 1, 5, 9] [] (sp 75 [z2, (1, ii s2.1), z10, z11]) [] 0 ?_)
 rcases cond_sf hh with ⟨hb, hh⟩ | ⟨hb, hh⟩
 · refine cF hb (Aw.exit (then_x (hX2 _ _ _ _ _ (some_some hh) ?_)))
   intro hout
   rw [hout] at hk2
   refine blk_x ?_
   obtain rfl := some_some hk2
   exact hN1 s2.1 _ _ _ hk1 (el [] (rens_sp kr (ri rl_n)) hs_nil)
 refine cT hb (Aw.xskip (fun _ _ _ hq => then_m hq) (Aw.seq (Aw.block (Aw.seq (Aw.sreg [0, 1, 5, 20] [] (yj 2  (sp 75 [z2, (1, ii s2.1), z10, z11, (12, bo C_48 x_a), (13, ii s2.2)]) [] 0 ?_))))))
 obtain ⟨hg268, hh⟩ := grd_some hh
 refine ys (.iadr 6 (.t 12) (.t 13)) (some 14) (op_iadr (kd := .i64) (c := C_48) (xs := x_a) len_C_48 dd kr kr hg268 ?_)
 refine yu 1 [(14, .bptr (fl C_48 x_a) (Int.toNat s2.2 * 6)), (15, .bptr (fl C_48 x_a) (Int.toNat s2.2 * 6 + 0))] [] 0 (ys (.load false 1 (.t 15)) (some 16) (op_loadb (c := C_48) (xs := x_a) (o := Int.toNat s2.2 * 6 + 0) (i := (Int.toNat s2.2)) (off := 0) (v := bb (z1.There)) len_C_48 kr ltn ltn dd kr ?_))
 refine ytc [(3 : Int) ≠ 0] (sp 75 [z2, (1, ii s2.1), z10, (20, bb (!((z1.There) == (decide ((Int.tmod s2.1 (3 : Int)) = (0 : Int))))))]) [] 0 (.cons dd .nil) ?_
 rcases cond_some hh with ⟨hb, hh⟩ | ⟨hb, hh⟩
 · refine cT hb (sy [4] [] (sp 75 [z3]) [] 0 (Aw.ret (then_r (blk_r (then_r ?_)))))
   refine hR2 _ _ _ _ (some_some hh) ?_
   intro hout
   rw [hout] at hk2
   refine blk_r ?_
   obtain rfl := some_some hk2
   refine hR1 _ _ _ ?_
   rw [some_some hk1]
   exact gvi
 refine cF hb (Aw.xskip (fun _ _ _ hq => then_m hq) (sy [0, 1, 5] [] (sp 75 [z2, z9, z10]) [] 0 (Aw.seq (Aw.sreg [0, 1, 5, 31] [] (yj 2  (sp 75 [z2, z9, z10, (23, bo C_48 x_a), (24, ii s2.2)]) [] 0 ?_)))))
 obtain ⟨hg272, hh⟩ := grd_some hh
 refine ys (.iadr 6 (.t 23) (.t 24)) (some 25) (op_iadr (kd := .i64) (c := C_48) (xs := x_a) len_C_48 dd kr kr hg272 ?_)
 refine yu 1 [(25, .bptr (fl C_48 x_a) (Int.toNat s2.2 * 6)), (26, .bptr (fl C_48 x_a) (Int.toNat s2.2 * 6 + 1))] [] 0 (ys (.load false 1 (.t 26)) (some 27) (op_loadb (c := C_48) (xs := x_a) (o := Int.toNat s2.2 * 6 + 1) (i := (Int.toNat s2.2)) (off := 1) (v := bb (z1.Write)) len_C_48 kr ltn ltn dd kr ?_))
 refine ytc [(3 : Int) ≠ 0] (sp 75 [z2, z9, z10, (31, bb (!((z1.Write) == (decide ((Int.tmod (w64 (s2.1 + (1 : Int))) (3 : Int)) = (0 : Int))))))]) [] 0 (.cons dd .nil) ?_
 rcases cond_some hh with ⟨hb, hh⟩ | ⟨hb, hh⟩
 · refine cT hb (sy [4] [] (sp 75 [z3]) [] 0 (Aw.ret (then_r (blk_r (then_r ?_)))))
   refine hR2 _ _ _ _ (some_some hh) ?_
   intro hout
   rw [hout] at hk2
   refine blk_r ?_
   obtain rfl := some_some hk2
   refine hR1 _ _ _ ?_
   rw [some_some hk1]
   exact gvi
 refine cF hb (Aw.xskip (fun _ _ _ hq => then_m hq) (sy [0, 1, 5] [] (sp 75 [z2, z8, z10]) [] 0 (Aw.seq (Aw.sreg [0, 1, 5, 42] [] (yj 2  (sp 75 [z2, z8, z10, (34, bo C_48 x_a), (35, ii s2.2)]) [] 0 ?_)))))
 obtain ⟨hg276, hh⟩ := grd_some hh
 refine ys (.iadr 6 (.t 34) (.t 35)) (some 36) (op_iadr (kd := .i64) (c := C_48) (xs := x_a) len_C_48 dd kr kr hg276 ?_)
 refine yu 1 [(36, .bptr (fl C_48 x_a) (Int.toNat s2.2 * 6)), (37, .bptr (fl C_48 x_a) (Int.toNat s2.2 * 6 + 2))] [] 0 (ys (.load false 1 (.t 37)) (some 38) (op_loadb (c := C_48) (xs := x_a) (o := Int.toNat s2.2 * 6 + 2) (i := (Int.toNat s2.2)) (off := 2) (v := bb (z1.User)) len_C_48 kr ltn ltn dd kr ?_))
 refine ytc [(3 : Int) ≠ 0] (sp 75 [z2, z8, z10, (42, bb (!((z1.User) == (decide ((Int.tmod (w64 ((w64 (s2.1 + (1 : Int))) + (1 : Int))) (3 : Int)) = (0 : Int))))))]) [] 0 (.cons dd .nil) ?_
 rcases cond_some hh with ⟨hb, hh⟩ | ⟨hb, hh⟩
 · refine cT hb (sy [4] [] (sp 75 [z3]) [] 0 (Aw.ret (then_r (blk_r (then_r ?_)))))
   refine hR2 _ _ _ _ (some_some hh) ?_
   intro hout
   rw [hout] at hk2
   refine blk_r ?_
   obtain rfl := some_some hk2
   refine hR1 _ _ _ ?_
   rw [some_some hk1]
   exact gvi
 refine cF hb (Aw.xskip (fun _ _ _ hq => then_m hq) (sy [0, 1, 5] [] (sp 75 [z2, z7, z10]) [] 0 (Aw.seq (Aw.sreg [0, 1, 5, 51] [] (yj 2  (sp 75 [z2, z7, z10, (45, bo C_48 x_a), (46, ii s2.2)]) [] 0 ?_)))))
 obtain ⟨hg280, hh⟩ := grd_some hh
 refine ys (.iadr 6 (.t 45) (.t 46)) (some 47) (op_iadr (kd := .i64) (c := C_48) (xs := x_a) len_C_48 dd kr kr hg280 ?_)
 refine yu 1 [(47, .bptr (fl C_48 x_a) (Int.toNat s2.2 * 6)), (48, .bptr (fl C_48 x_a) (Int.toNat s2.2 * 6 + 3))] [] 0 (ys (.load false 1 (.t 48)) (some 49) (op_loadb (c := C_48) (xs := x_a) (o := Int.toNat s2.2 * 6 + 3) (i := (Int.toNat s2.2)) (off := 3) (v := ii (z1.Page)) len_C_48 kr ltn ltn dd kr ?_))
 refine yt (sp 75 [z2, z7, z10, (51, bb (!decide ((z1.Page) = (w64 ((w64 ((w64 (s2.1 + (1 : Int))) + (1 : Int))) + (1 : Int))))))]) [] 0 ?_
 rcases cond_some hh with ⟨hb, hh⟩ | ⟨hb, hh⟩
 · refine cT hb (sy [4] [] (sp 75 [z3]) [] 0 (Aw.ret (then_r (blk_r (then_r ?_)))))
   refine hR2 _ _ _ _ (some_some hh) ?_
   intro hout
   rw [hout] at hk2
   refine blk_r ?_
   obtain rfl := some_some hk2
   refine hR1 _ _ _ ?_
   rw [some_some hk1]
   exact gvi
 refine cF hb (Aw.xskip (fun _ _ _ hq => then_m hq) (sy [0, 1, 5] [] (sp 75 [z2, z6, z10]) [] 0 (Aw.seq (Aw.sreg [0, 1, 5, 60] [] (yj 2  (sp 75 [z2, z6, z10, (54, bo C_48 x_a), (55, ii s2.2)]) [] 0 ?_)))))
 obtain ⟨hg284, hh⟩ := grd_some hh
 refine ys (.iadr 6 (.t 54) (.t 55)) (some 56) (op_iadr (kd := .i64) (c := C_48) (xs := x_a) len_C_48 dd kr kr hg284 ?_)
 refine yu 1 [(56, .bptr (fl C_48 x_a) (Int.toNat s2.2 * 6)), (57, .bptr (fl C_48 x_a) (Int.toNat s2.2 * 6 + 4))] [] 0 (ys (.load false 1 (.t 57)) (some 58) (op_loadb (c := C_48) (xs := x_a) (o := Int.toNat s2.2 * 6 + 4) (i := (Int.toNat s2.2)) (off := 4) (v := ii (z1.Frame)) len_C_48 kr ltn ltn dd kr ?_))
 refine yt (sp 75 [z2, z6, z10, (60, bb (!decide ((z1.Frame) = (w64 ((w64 ((w64 ((w64 (s2.1 + (1 : Int))) + (1 : Int))) + (1 : Int))) + (1 : Int))))))]) [] 0 ?_
 rcases cond_some hh with ⟨hb, hh⟩ | ⟨hb, hh⟩
 · refine cT hb (sy [4] [] (sp 75 [z3]) [] 0 (Aw.ret (then_r (blk_r (then_r ?_)))))
   refine hR2 _ _ _ _ (some_some hh) ?_
   intro hout
   rw [hout] at hk2
   refine blk_r ?_
   obtain rfl := some_some hk2
   refine hR1 _ _ _ ?_
   rw [some_some hk1]
   exact gvi
 refine cF hb (Aw.xskip (fun _ _ _ hq => then_m hq) (sy [0, 1, 5] [] (sp 75 [z2, z5, z10]) [] 0 (Aw.seq (Aw.sreg [0, 1, 5, 71] [] (yj 2  (sp 75 [z2, z5, z10, (63, bo C_48 x_a), (64, ii s2.2)]) [] 0 ?_)))))
 obtain ⟨hg288, hh⟩ := grd_some hh
 refine ys (.iadr 6 (.t 63) (.t 64)) (some 65) (op_iadr (kd := .i64) (c := C_48) (xs := x_a) len_C_48 dd kr kr hg288 ?_)
 refine yu 1 [(65, .bptr (fl C_48 x_a) (Int.toNat s2.2 * 6)), (66, .bptr (fl C_48 x_a) (Int.toNat s2.2 * 6 + 5))] [] 0 (ys (.load false 1 (.t 66)) (some 67) (op_loadb (c := C_48) (xs := x_a) (o := Int.toNat s2.2 * 6 + 5) (i := (Int.toNat s2.2)) (off := 5) (v := bb (z1.Ready)) len_C_48 kr ltn ltn dd kr ?_))
 refine ytc [(3 : Int) ≠ 0] (sp 75 [z2, z5, z10, (71, bb (!((z1.Ready) == (decide ((Int.tmod (w64 ((w64 ((w64 ((w64 ((w64 (s2.1 + (1 : Int))) + (1 : Int))) + (1 : Int))) + (1 : Int))) + (1 : Int))) (3 : Int)) = (0 : Int))))))]) [] 0 (.cons dd .nil) ?_
 rcases cond_some hh with ⟨hb, hh⟩ | ⟨hb, hh⟩
 · refine cT hb (sy [4] [] (sp 75 [z3]) [] 0 (Aw.ret (then_r (blk_r (then_r ?_)))))
   refine hR2 _ _ _ _ (some_some hh) ?_
   intro hout
   rw [hout] at hk2
   refine blk_r ?_
   obtain rfl := some_some hk2
   refine hR1 _ _ _ ?_
   rw [some_some hk1]
   exact gvi
 exact cF hb (Aw.xskip (fun _ _ _ hq => then_m hq) (Aw.xreg [0, 1, 5] [] (fun _ _ _ hq => blk_m (then_m hq)) (yt (sp 75 [z2, z4, z10]) [] 0 (Aw.oreg (ye (sp 75 [z2, z4, (5, ii (w64 (s2.2 + (1 : Int)))), (10, ii s2.2), (11, ii (w64 (s2.2 + (1 : Int))))]) [] 0 (hN2 ((w64 ((w64 ((w64 ((w64 ((w64 ((w64 (s2.1 + (1 : Int))) + (1 : Int))) + (1 : Int))) + (1 : Int))) + (1 : Int))) + (1 : Int))), (w64 (s2.2 + (1 : Int)))) _ _ _ (some_some hh) (el [] (rens_sp kr (ro nr_C_48 (ri (ri rl_n)))) hs_nil)))))))
def Lf120_r0 : List LOper := [oX 2 48 0, oX 3 48 1, oF 4]
def Lf120_r1 : List LOper := [oA 5 0 2, ol 6 5, oA 7 0 3, ol 8 7, oo 9 (.binb true (.t 6) (.t 8))]
def Lf120_r2 : List LOper := [oF 4]
def Lf120_r3 : List LOper := [oA 10 1 2, ol 11 10, oA 12 1 3, ol 13 12, oo 14 (.binb true (.t 11) (.t 13))]
def Lf120_r4 : List LOper := [oF 4]
def Lf120_r5 : List LOper := [oA 15 2 2, ol 16 15, oA 17 2 3, ol 18 17, oo 19 (.binb true (.t 16) (.t 18))]
def Lf120_r6 : List LOper := [oF 4]
def Lf120_r7 : List LOper := [oA 20 3 2, ol 21 20, oA 22 3 3, ol 23 22, oB 24 .neq 21 23]
def Lf120_r8 : List LOper := [oF 4]
def Lf120_r9 : List LOper := [oA 25 4 2, ol 26 25, oA 27 4 3, ol 28 27, oB 29 .neq 26 28]
def Lf120_r10 : List LOper := [oF 4]
def Lf120_r11 : List LOper := [oA 30 5 2, ol 31 30, oA 32 5 3, ol 33 32, oo 34 (.binb true (.t 31) (.t 33))]
def Lf120_r12 : List LOper := [oF 4]
def Lf120_r13 : List LOper := [oT 4]
def Lf120 : LFun := ⟨35, [(.tmp 4)], (.seq (.reg false Lf120_r0) (.seq (.seq (.reg false Lf120_r1) (.cond (.t 9) (.seq (.reg false Lf120_r2) .ret) .skip)) (.seq (.seq (.reg false Lf120_r3) (.cond (.t 14) (.seq (.reg false Lf120_r4) .ret) .skip)) (.seq (.seq (.reg false Lf120_r5) (.cond (.t 19) (.seq (.reg false Lf120_r6) .ret) .skip)) (.seq (.seq (.reg false Lf120_r7) (.cond (.t 24) (.seq (.reg false Lf120_r8) .ret) .skip)) (.seq (.seq (.reg false Lf120_r9) (.cond (.t 29) (.seq (.reg false Lf120_r10) .ret) .skip)) (.seq (.seq (.reg false Lf120_r11) (.cond (.t 34) (.seq (.reg false Lf120_r12) .ret) .skip)) (.seq (.reg false Lf120_r13) .ret))))))))⟩
theorem low_laws_eqShade : lowFun Go.Proofs.Try.prog 120 = some Lf120 := by kernel_rfl
noncomputable def F_laws_eqShade (x_a : DShade) (x_b : DShade) : Option Bool :=
 cond (!(x_a.There == x_b.There))
  (some false)
  (cond (!(x_a.Write == x_b.Write))
   (some false)
   (cond (!(x_a.User == x_b.User))
    (some false)
    (cond (!decide (x_a.Page = x_b.Page))
     (some false)
     (cond (!decide (x_a.Frame = x_b.Frame))
      (some false)
      (cond (!(x_a.Ready == x_b.Ready))
       (some false)
       (some true))))))
theorem laws_eqShade_fn {x_a : DShade} {x_b : DShade} {R_ : Bool} (hh : F_laws_eqShade x_a x_b = some R_) : Fn Try.prog 120 [.agg (C_48 x_a), .agg (C_48 x_b)] (.bool R_) := by
 let z1 : EH := (0, some ⟨48, (C_48 x_a)⟩); let z2 : EH := (1, some ⟨48, (C_48 x_b)⟩); let z3 := (2, pp 0); let z4 := (3, pp 1); let z5 := (4, bb false)
 unfold F_laws_eqShade at hh
 refine Fn.start low_laws_eqShade [0, 1] (E := sp 35 [(0, .agg (C_48 x_a)), (1, .agg (C_48 x_b))]) kr (v := bb R_) (Hr := []) (k := 0) kr (sy [2, 3] [0, 1] (sp 35 [z3, z4]) [z1, z2] 2 (Aw.seq (sy [2, 3, 9] [0, 1] (sp 35 [z3, z4, (9, bb (!(x_a.There == x_b.There)))]) [z1, z2] 2 ?_)))
 rcases cond_some hh with ⟨hb, hh⟩ | ⟨hb, hh⟩
 · exact cT hb (sy [4] [] (sp 35 [z5]) [] 2 (Aw.ret (then_r (gvbs hh))))
 refine cF hb (Aw.xskip (fun _ _ _ hq => then_m hq) (Aw.seq (sy [2, 3, 14] [0, 1] (sp 35 [z3, z4, (14, bb (!(x_a.Write == x_b.Write)))]) [z1, z2] 2 ?_)))
 rcases cond_some hh with ⟨hb, hh⟩ | ⟨hb, hh⟩
 · exact cT hb (sy [4] [] (sp 35 [z5]) [] 2 (Aw.ret (then_r (gvbs hh))))
 refine cF hb (Aw.xskip (fun _ _ _ hq => then_m hq) (Aw.seq (sy [2, 3, 19] [0, 1] (sp 35 [z3, z4, (19, bb (!(x_a.User == x_b.User)))]) [z1, z2] 2 ?_)))
 rcases cond_some hh with ⟨hb, hh⟩ | ⟨hb, hh⟩
 · exact cT hb (sy [4] [] (sp 35 [z5]) [] 2 (Aw.ret (then_r (gvbs hh))))
 refine cF hb (Aw.xskip (fun _ _ _ hq => then_m hq) (Aw.seq (sy [2, 3, 24] [0, 1] (sp 35 [z3, z4, (24, bb (!decide (x_a.Page = x_b.Page)))]) [z1, z2] 2 ?_)))
 rcases cond_some hh with ⟨hb, hh⟩ | ⟨hb, hh⟩
 · exact cT hb (sy [4] [] (sp 35 [z5]) [] 2 (Aw.ret (then_r (gvbs hh))))
 refine cF hb (Aw.xskip (fun _ _ _ hq => then_m hq) (Aw.seq (sy [2, 3, 29] [0, 1] (sp 35 [z3, z4, (29, bb (!decide (x_a.Frame = x_b.Frame)))]) [z1, z2] 2 ?_)))
 rcases cond_some hh with ⟨hb, hh⟩ | ⟨hb, hh⟩
 · exact cT hb (sy [4] [] (sp 35 [z5]) [] 2 (Aw.ret (then_r (gvbs hh))))
 refine cF hb (Aw.xskip (fun _ _ _ hq => then_m hq) (Aw.seq (sy [34] [] (sp 35 [(34, bb (!(x_a.Ready == x_b.Ready)))]) [] 2 ?_)))
 rcases cond_some hh with ⟨hb, hh⟩ | ⟨hb, hh⟩
 · exact cT hb (sy [4] [] (sp 35 [z5]) [] 2 (Aw.ret (then_r (gvbs hh))))
 exact cF hb (Aw.xskip (fun _ _ _ hq => then_m hq) (sy [4] [] (sp 35 [(4, bb true)]) [] 2 (Aw.ret (gvbs hh))))
def Lf48_r0 : List LOper := [oF 4]
def Lf48_r1 : List LOper := [om 6 0, oH 7 6, om 8 1, oH 9 8, oB 10 .neq 7 9]
def Lf48_r2 : List LOper := [oF 4]
def Lf48_r3 : List LOper := [oN 5 0]
def Lf48_r4 : List LOper := [om 11 5, om 12 0, oH 13 12, oB 14 .lss 11 13]
def Lf48_r5 : List LOper := [om 17 0, om 18 5, oi 19 6 17 18, oL 20 6 19, om 21 1, om 22 5, oi 23 6 21 22, oL 24 6 23]
def Lf48_r5t : List LOper := [oK 25 120 [20, 24], oU 26 25]
def Lf48_r7 : List LOper := [oF 4]
def Lf48_r8 : List LOper := [om 15 5, ob 16 .add 15 1, om 5 16]
def Lf48_l9 : LCode := (.seq (.seq (.reg false Lf48_r4) (.cond (.t 14) .skip (.exit 0))) (.seq (.block 1 (.seq (.regd Lf48_r5 Lf48_r5t) (.cond (.t 26) (.seq (.reg false Lf48_r7) .ret) .skip))) (.reg false Lf48_r8)))
def Lf48_r10 : List LOper := [oT 4]
def Lf48 : LFun := ⟨27, [(.tmp 4)], (.seq (.reg false Lf48_r0) (.seq (.seq (.reg false Lf48_r1) (.cond (.t 10) (.seq (.reg false Lf48_r2) .ret) .skip)) (.seq (.seq (.reg false Lf48_r3) (.block 0 (.loop Lf48_l9))) (.seq (.reg false Lf48_r10) .ret))))⟩
theorem low_laws_eqShadeS : lowFun Go.Proofs.Try.prog 48 = some Lf48 := by kernel_rfl
noncomputable def F_laws_eqShadeS_j1  (s1 : Unit) : Option Bool :=
 some true
noncomputable def F_laws_eqShadeS_l2 (x_a : List DShade) (x_b : List DShade) (s2 : Int) : Option (LO Int (JO Unit Bool)) :=
 cond (decide (s2 < (((List.length x_a) : Nat) : Int)))
  (grd ((0 : Int) ≤ s2 ∧ s2 < ((List.length x_a : Nat) : Int)) (grd ((0 : Int) ≤ s2 ∧ s2 < ((List.length x_b : Nat) : Int)) (Option.bind (F_laws_eqShade (DShade.mk ((List.getD x_a (Int.toNat s2) default).There) ((List.getD x_a (Int.toNat s2) default).Write) ((List.getD x_a (Int.toNat s2) default).User) ((List.getD x_a (Int.toNat s2) default).Page) ((List.getD x_a (Int.toNat s2) default).Frame) ((List.getD x_a (Int.toNat s2) default).Ready)) (DShade.mk ((List.getD x_b (Int.toNat s2) default).There) ((List.getD x_b (Int.toNat s2) default).Write) ((List.getD x_b (Int.toNat s2) default).User) ((List.getD x_b (Int.toNat s2) default).Page) ((List.getD x_b (Int.toNat s2) default).Frame) ((List.getD x_b (Int.toNat s2) default).Ready))) fun v3 =>
   cond (!v3)
    (some (.ret (.out false)))
    (some (.next (w64 (s2 + (1 : Int))))))))
  (some (.ret (.go ())))
noncomputable def F_laws_eqShadeS (x_a : List DShade) (x_b : List DShade) : Option Bool :=
 cond (!decide ((((List.length x_a) : Nat) : Int) = (((List.length x_b) : Nat) : Int)))
  (some false)
  (Option.bind (Option.bind (iter (F_laws_eqShadeS_l2 x_a x_b) (0 : Int)) LO.val) fun j1 =>
   JO.run j1 (F_laws_eqShadeS_j1))
theorem laws_eqShadeS_fn {x_a : List DShade} {x_b : List DShade} {R_ : Bool} (hh : F_laws_eqShadeS x_a x_b = some R_) : Fn Try.prog 48 [bo C_48 x_a, bo C_48 x_b] (.bool R_) := by
 let z3 := (0, bo C_48 x_a); let z4 := (1, bo C_48 x_b); let z5 := (17, bo C_48 x_a)
 unfold F_laws_eqShadeS at hh
 refine Fn.start low_laws_eqShadeS [0, 1] (E := sp 27 [z3, z4]) kr (v := bb R_) (Hr := []) (k := 0) kr (sy [0, 1] [] (sp 27 [z3, z4]) [] 0 (Aw.seq (sy [0, 1, 10] [] (sp 27 [z3, z4, (10, bb (!decide ((((List.length x_a) : Nat) : Int) = (((List.length x_b) : Nat) : Int))))]) [] 0 ?_)))
 rcases cond_some hh with ⟨hb, hh⟩ | ⟨hb, hh⟩
 · exact cT hb (sy [4] [] (sp 27 [(4, bb false)]) [] 0 (Aw.ret (then_r (gvbs hh))))
 refine cF hb (Aw.xskip (fun _ _ _ hq => then_m hq) ?_)
 obtain ⟨j1, hh, hk1⟩ := bind_some hh
 refine Aw.join (S := Unit) (fun s1 => sp 27 []) (fun s1 => []) 0 (fun s1 => F_laws_eqShadeS_j1 s1 = some R_) ?_ ?_
 · intro s1 hh
   unfold F_laws_eqShadeS_j1 at hh
   exact sy [4] [] (sp 27 [(4, bb true)]) [] 0 (Aw.ret (gvbs hh))
 intro Q1 hN1 hR1 hE1
 refine sy [0, 1, 5] [] (sp 27 [z3, z4, (5, ii 0)]) [] 0 (Aw.block ?_)
 obtain ⟨o2, hi2, hk2⟩ := bind_some hh
 refine Aw.iter (fun (s2 : Int) => sp 27 [(0, bo C_48 x_a), (1, bo C_48 x_b), (5, ii s2)]) (fun (s2 : Int) => []) 0 hi2 (el [] (rens_sp kr (ro nr_C_48 (ro nr_C_48 (ri rl_n)))) hs_nil) ?_
 intro s2 u2 Q2 hh hN2 hX2 hR2
 let z6 := (14, bb (decide (s2 < (((List.length x_a) : Nat) : Int)))); let z7 : EV := (19, .bptr (fl C_48 x_a) (Int.toNat s2 * 6)); let z1 := List.getD x_a (Int.toNat s2) default; let z8 : EV := (20, .agg [bb (z1.There), bb (z1.Write), bb (z1.User), ii (z1.Page), ii (z1.Frame), bb (z1.Ready)]); let z2 := List.getD x_b (Int.toNat s2) default
 unfold F_laws_eqShadeS_l2 at hh
 refine Aw.seq (sy [0, 1, 5, 14] [] (sp 27 [z3, z4, (5, ii s2), z6]) [] 0 ?_)
 rcases cond_sf hh with ⟨hb, hh⟩ | ⟨hb, hh⟩
 · refine cF hb (Aw.exit (then_x (hX2 _ _ _ _ _ (some_some hh) ?_)))
   intro hout
   rw [hout] at hk2
   refine blk_x ?_
   obtain rfl := some_some hk2
   exact hN1 () _ _ _ hk1 (el [] (rens_sp kr rl_n) hs_nil)
 refine cT hb (Aw.xskip (fun _ _ _ hq => then_m hq) (Aw.seq (Aw.block (Aw.sregd [0, 1, 5, 26] [] [] kr (dc (cs := []) (E' := (sp 27 [z3, z4, (5, ii s2), z6, z5, (18, ii s2)])) (H' := []) (n' := 0) (fs' := none) (pre := (List.take 2 Lf48_r5)) (L' := (List.drop 2 Lf48_r5)) kr (fun K => by kernel_rfl) .nil ?_)))))
 obtain ⟨hg47, hh⟩ := grd_some hh
 refine ds (.iadr 6 (.t 17) (.t 18)) (some 19) (ydo_q rfl kr (op_iadr (kd := .i64) (c := C_48) (xs := x_a) len_C_48 dd kr kr hg47 ?_))
 refine ds (.load true 6 (.t 19)) (some 20) (ydo_q rfl kr (op_loadbA (c := C_48) (xs := x_a) (o := Int.toNat s2 * 6) (i := (Int.toNat s2)) (off := 0) (v := .agg [bb (z1.There), bb (z1.Write), bb (z1.User), ii (z1.Page), ii (z1.Frame), bb (z1.Ready)]) len_C_48 kr ltn ltn dd kr ?_))
 refine dc (cs := []) (E' := (sp 27 [z3, z4, (5, ii s2), z6, z5, (18, ii s2), z7, z8, (21, bo C_48 x_b), (22, ii s2)])) (H' := []) (n' := 0) (fs' := none) (pre := (List.take 2 (List.drop 4 Lf48_r5))) (L' := (List.drop 6 Lf48_r5)) kr (fun K => by kernel_rfl) .nil ?_
 obtain ⟨hg48, hh⟩ := grd_some hh
 refine ds (.iadr 6 (.t 21) (.t 22)) (some 23) (ydo_q rfl kr (op_iadr (kd := .i64) (c := C_48) (xs := x_b) len_C_48 dd kr kr hg48 ?_))
 refine ds (.load true 6 (.t 23)) (some 24) (ydo_q rfl kr (op_loadbA (c := C_48) (xs := x_b) (o := Int.toNat s2 * 6) (i := (Int.toNat s2)) (off := 0) (v := .agg [bb (z2.There), bb (z2.Write), bb (z2.User), ii (z2.Page), ii (z2.Frame), bb (z2.Ready)]) len_C_48 kr ltn ltn dd kr ?_))
 refine dct (cs := []) (E' := (sp 27 [z3, z4, (5, ii s2), z6, z5, (18, ii s2), z7, z8, (21, bo C_48 x_b), (22, ii s2), (23, .bptr (fl C_48 x_b) (Int.toNat s2 * 6)), (24, .agg [bb (z2.There), bb (z2.Write), bb (z2.User), ii (z2.Page), ii (z2.Frame), bb (z2.Ready)])])) (H' := []) (n' := 0) (fun K => by kernel_rfl) .nil ?_
 obtain ⟨v3, hv3, hh⟩ := bind_some hh
 refine ys (.call 120 [(.t 20), (.t 24)]) (some 25) (oc (laws_eqShade_fn hv3) ?_)
 refine yt (sp 27 [z3, z4, (5, ii s2), (26, bb (!v3))]) [] 0 ?_
 rcases cond_some hh with ⟨hb, hh⟩ | ⟨hb, hh⟩
 · refine cT hb (sy [4] [] (sp 27 [(4, bb false)]) [] 0 (Aw.ret (blk_r (then_r ?_))))
   refine hR2 _ _ _ _ (some_some hh) ?_
   intro hout
   rw [hout] at hk2
   refine blk_r ?_
   obtain rfl := some_some hk2
   refine hR1 _ _ _ ?_
   rw [some_some hk1]
   exact gvb
 exact cF hb (Aw.xskip (fun _ _ _ hq => blk_m (then_m hq)) (Aw.oreg (ye (sp 27 [z3, z4, (5, ii (w64 (s2 + (1 : Int)))), (15, ii s2), (16, ii (w64 (s2 + (1 : Int)))), (26, bb (!v3))]) [] 0 (hN2 (w64 (s2 + (1 : Int))) _ _ _ (some_some hh) (el [] (rens_sp kr (ro nr_C_48 (ro nr_C_48 (ri rl_n)))) hs_nil)))))
end Go.Proofs.Ytlikfpmbcdlnjaa
