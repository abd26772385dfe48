/- Plain functions of the program, and that it hands back what they say. Made by program. -/
import Derived.Test.YtbogmfjpabfhpaaWT
import Derived.Test.YtbogmfjpabfhpaaProg
import Derived.Test.YtbogmfjpabfhpaaWH1
namespace Go.Proofs.Ytbogmfjpabfhpaa
open Go.RowKit
set_option maxRecDepth 100000
set_option linter.all false
set_option maxHeartbeats 0
def Lf115_r0 : List LOper := [oo 4 (.mv (.c (ii 0)))]
def Lf115_r1 : List LOper := [oo 5 (.mv (.c (ii 0)))]
def Lf115_r2 : List LOper := [om 6 5, om 7 0, oo 8 (.len (.t 7)), oo 9 (.bin .lss (.t 6) (.t 8))]
def Lf115_r3 : List LOper := [om 12 0, om 13 5, om 14 1, oo 15 (.iadr 3 (.t 12) (.t 13)), oo 16 (.fadr 0 (.t 15)), ⟨none, (.store 1 (.t 16) (.t 14)), none⟩]
def Lf115_r4 : List LOper := [om 17 1, oo 18 (.bin .add (.t 17) (.c (ii 1))), om 1 18]
def Lf115_r5 : List LOper := [om 19 0, om 20 5, om 21 1, oo 22 (.bin .rem (.t 21) (.c (ii 3))), oo 23 (.bin .eql (.t 22) (.c (ii 0))), oo 24 (.iadr 3 (.t 19) (.t 20)), oo 25 (.fadr 1 (.t 24)), ⟨none, (.store 1 (.t 25) (.t 23)), none⟩]
def Lf115_r6 : List LOper := [om 26 1, oo 27 (.bin .add (.t 26) (.c (ii 1))), om 1 27]
def Lf115_r7 : List LOper := [om 28 0, om 29 5, om 30 1, oo 31 (.bin .rem (.t 30) (.c (ii 3))), oo 32 (.bin .eql (.t 31) (.c (ii 0))), oo 33 (.iadr 3 (.t 28) (.t 29)), oo 34 (.fadr 2 (.t 33)), ⟨none, (.store 1 (.t 34) (.t 32)), none⟩]
def Lf115_r8 : List LOper := [om 35 1, oo 36 (.bin .add (.t 35) (.c (ii 1))), om 1 36]
def Lf115_r9 : List LOper := [om 10 5, oo 11 (.bin .add (.t 10) (.c (ii 1))), om 5 11]
def Lf115_l10 : LCode := (.seq (.seq (.reg false Lf115_r2) (.cond (.t 9) .skip (.exit 0))) (.seq (.block 1 (.seq (.reg false Lf115_r3) (.seq (.reg false Lf115_r4) (.seq (.reg false Lf115_r5) (.seq (.reg false Lf115_r6) (.seq (.reg false Lf115_r7) (.reg false Lf115_r8))))))) (.reg false Lf115_r9)))
def Lf115_r11 : List LOper := [om 37 1, om 4 37]
def Lf115 : LFun := ⟨38, [(.tmp 4)], (.seq (.reg false Lf115_r0) (.seq (.seq (.reg false Lf115_r1) (.block 0 (.loop Lf115_l10))) (.seq (.reg false Lf115_r11) .ret)))⟩
theorem low_laws_markSlotS : lowFun Go.Proofs.Try.prog 115 = some Lf115 := by kernel_rfl
noncomputable def F_laws_markSlotS_j1  (s1 : Int × (List DSlot)) : Option ((List DSlot) × Int) :=
 some (s1.2, s1.1)
noncomputable def F_laws_markSlotS_l2  (s2 : (List DSlot) × Int × Int) : Option (LO ((List DSlot) × Int × Int) (JO (Int × (List DSlot)) ((List DSlot) × Int))) :=
 cond (decide (s2.2.2 < (((List.length s2.1) : Nat) : Int)))
  (grd ((0 : Int) ≤ s2.2.2 ∧ s2.2.2 < (((List.length s2.1) : Nat) : Int)) (grd ((0 : Int) ≤ s2.2.2 ∧ s2.2.2 < (((List.length s2.1) : Nat) : Int)) (grd ((0 : Int) ≤ s2.2.2 ∧ s2.2.2 < (((List.length s2.1) : Nat) : Int)) (some (.next ((List.set s2.1 (Int.toNat s2.2.2) (DSlot.mk s2.2.1 (decide ((Int.tmod (w64 (s2.2.1 + (1 : Int))) (3 : Int)) = (0 : Int))) (decide ((Int.tmod (w64 ((w64 (s2.2.1 + (1 : Int))) + (1 : Int))) (3 : Int)) = (0 : Int))))), (w64 ((w64 ((w64 (s2.2.1 + (1 : Int))) + (1 : Int))) + (1 : Int))), (w64 (s2.2.2 + (1 : Int)))))))))
  (some (.ret (.go (s2.2.1, s2.1))))
noncomputable def F_laws_markSlotS (x_a : List DSlot) (x_k : Int) : Option ((List DSlot) × Int) :=
 Option.bind (Option.bind (iter (F_laws_markSlotS_l2) (x_a, x_k, (0 : Int))) LO.val) fun j1 =>
  JO.run j1 (F_laws_markSlotS_j1)
theorem laws_markSlotS_fn {x_a : List DSlot} {x_k : Int} {R_ : (List DSlot) × Int} (hh : F_laws_markSlotS x_a x_k = some R_) : Inl Try.prog 115 [.sref 0 [] 0 (List.length x_a) 3, .int .i64 x_k] [(0, some ⟨47, (fl C_47 x_a)⟩)] 1 (.int .i64 R_.2) [(0, some ⟨47, (fl C_47 R_.1)⟩)] 1 := by
 unfold F_laws_markSlotS at hh
 refine Inl.start low_laws_markSlotS [0, 1] [0] (E := sp 38 [(0, .sref 0 [] 0 (List.length x_a) 3), (1, ii x_k)]) (H1 := [(0, some ⟨47, (fl C_47 x_a)⟩)]) (by kernel_rfl) (by kernel_rfl) ?_
 refine sy [0, 1] [0] (sp 38 [(0, .sref 0 [] 0 (List.length x_a) 3), (1, ii x_k)]) [(0, some ⟨47, (fl C_47 x_a)⟩)] 1 ?_
 obtain ⟨j1, hh, hk1⟩ := bind_some hh
 refine Aw.join (S := Int × (List DSlot)) (fun s1 => sp 38 [(1, ii s1.1)]) (fun s1 => [(0, some ⟨47, (fl C_47 s1.2)⟩)]) 1 (fun s1 => F_laws_markSlotS_j1 s1 = some R_) ?_ ?_
 · intro s1 hh
   unfold F_laws_markSlotS_j1 at hh
   refine sy [4] [0] (sp 38 [(4, ii s1.1)]) [(0, some ⟨47, (fl C_47 s1.2)⟩)] 1 ?_
   refine Aw.ret ?_
   rw [some_some hh]
   exact gives (r' := ii s1.1) (by kernel_rfl) (Ent.list2 [some 0] rfl rfl (by decide) (rens_1 ren_i) (hq ⟨47, (fl C_47 s1.2)⟩ (rens_same (noRefs_fl nr_C_47)) hs_nil))
 intro Q1 hN1 hR1 hE1
 refine sy [0, 1, 5] [0] (sp 38 [(0, .sref 0 [] 0 (List.length x_a) 3), (1, ii x_k), (5, ii 0)]) [(0, some ⟨47, (fl C_47 x_a)⟩)] 1 ?_
 refine Aw.block ?_
 obtain ⟨o2, hi2, hk2⟩ := bind_some hh
 refine Aw.iter (fun (s2 : (List DSlot) × Int × Int) => sp 38 [(0, .sref 0 [] 0 (List.length s2.1) 3), (1, ii s2.2.1), (5, ii s2.2.2)]) (fun (s2 : (List DSlot) × Int × Int) => [(0, some ⟨47, (fl C_47 s2.1)⟩)]) 1 hi2 (Ent.list2 [some 0] rfl rfl (by decide) (rens_sp (by kernel_rfl) (rl_c (u := .sref 0 [] 0 (List.length x_a) 3) (by kernel_rfl) ren_sx (rl_c (u := ii x_k) (by kernel_rfl) ren_i (rl_c (u := ii 0) (by kernel_rfl) ren_i rl_n)))) (hq ⟨47, (fl C_47 x_a)⟩ (rens_same (noRefs_fl nr_C_47)) hs_nil)) ?_
 intro s2 u2 Q2 hh hN2 hX2 hR2
 unfold F_laws_markSlotS_l2 at hh
 refine Aw.seq ?_
 refine sy [0, 1, 5, 9] [0] (sp 38 [(0, .sref 0 [] 0 (List.length s2.1) 3), (1, ii s2.2.1), (5, ii s2.2.2), (9, bb (decide (s2.2.2 < (((List.length s2.1) : Nat) : Int))))]) [(0, some ⟨47, (fl C_47 s2.1)⟩)] 1 ?_
 rcases cond_some hh with ⟨hb, hh⟩ | ⟨hb, hh⟩
 · refine cT hb ?_
   refine Aw.xskip (fun _ _ _ hq => then_m hq) ?_
   refine Aw.seq ?_
   refine Aw.block ?_
   refine Aw.sreg [0, 1, 5] [0] ?_
   obtain ⟨hg72, hh⟩ := grd_some hh
   refine yjc 5 [(0 : Int) ≤ s2.2.2 ∧ s2.2.2 < (((List.length s2.1) : Nat) : Int)] (sp 38 [(0, .sref 0 [] 0 (List.length s2.1) 3), (1, ii s2.2.1), (5, ii s2.2.2), (9, bb (decide (s2.2.2 < (((List.length s2.1) : Nat) : Int)))), (12, .sref 0 [] 0 (List.length s2.1) 3), (13, ii s2.2.2), (14, ii s2.2.1), (15, .ptr 0 [] (0 + (Int.toNat s2.2.2) * 3)), (16, .ptr 0 [] (0 + (Int.toNat s2.2.2) * 3 + 0))]) [(0, some ⟨47, (fl C_47 s2.1)⟩)] 1 (.cons hg72 .nil) ?_
   let q1 : Root := ⟨47, (fl C_47 (List.set s2.1 (Int.toNat s2.2.2) (DSlot.mk s2.2.1 ((List.getD s2.1 (Int.toNat s2.2.2) default).Write) ((List.getD s2.1 (Int.toNat s2.2.2) default).Dirty))))⟩
   refine ys (.store 1 (.t 16) (.t 14)) none (op_store (c := C_47) (xs := s2.1) (e := 47) (r := 0) (π := []) (o := 0 + (Int.toNat s2.2.2) * 3 + 0) (i := (Int.toNat s2.2.2)) (off := 0) (vs := [ii s2.2.1]) (y := (DSlot.mk s2.2.1 ((List.getD s2.1 (Int.toNat s2.2.2) default).Write) ((List.getD s2.1 (Int.toNat s2.2.2) default).Dirty))) (H' := [(0, some q1), (0, some ⟨47, (fl C_47 s2.1)⟩)]) len_C_47 (by kernel_rfl) (by kernel_rfl) (by kernel_rfl) (by kernel_rfl) (by omega) (by omega) (by decide) (by kernel_rfl) (by kernel_rfl) ?_)
   refine yt (sp 38 [(0, .sref 0 [] 0 (List.length s2.1) 3), (1, ii s2.2.1), (5, ii s2.2.2)]) [(0, some q1)] 1 ?_
   refine sy [0, 1, 5] [0] (sp 38 [(0, .sref 0 [] 0 (List.length s2.1) 3), (1, ii (w64 (s2.2.1 + (1 : Int)))), (5, ii s2.2.2)]) [(0, some q1)] 1 ?_
   refine Aw.sreg [0, 1, 5] [0] ?_
   obtain ⟨hg71, hh⟩ := grd_some hh
   refine yjc 7 [(3 : Int) ≠ 0, (0 : Int) ≤ s2.2.2 ∧ s2.2.2 < (((List.length s2.1) : Nat) : Int)] (sp 38 [(0, .sref 0 [] 0 (List.length s2.1) 3), (1, ii (w64 (s2.2.1 + (1 : Int)))), (5, ii s2.2.2), (19, .sref 0 [] 0 (List.length s2.1) 3), (20, ii s2.2.2), (21, ii (w64 (s2.2.1 + (1 : Int)))), (22, ii (Int.tmod (w64 (s2.2.1 + (1 : Int))) (3 : Int))), (23, bb (decide ((Int.tmod (w64 (s2.2.1 + (1 : Int))) (3 : Int)) = (0 : Int)))), (24, .ptr 0 [] (0 + (Int.toNat s2.2.2) * 3)), (25, .ptr 0 [] (0 + (Int.toNat s2.2.2) * 3 + 1))]) [(0, some q1)] 1 (.cons (by decide) (.cons hg71 .nil)) ?_
   let q2 : Root := ⟨47, (fl C_47 (List.set s2.1 (Int.toNat s2.2.2) (DSlot.mk s2.2.1 (decide ((Int.tmod (w64 (s2.2.1 + (1 : Int))) (3 : Int)) = (0 : Int))) ((List.getD s2.1 (Int.toNat s2.2.2) default).Dirty))))⟩
   refine ys (.store 1 (.t 25) (.t 23)) none (op_storeE (getD_set_self (by omega)) (List.set_set ..) (c := C_47) (xs := (List.set s2.1 (Int.toNat s2.2.2) (DSlot.mk s2.2.1 ((List.getD s2.1 (Int.toNat s2.2.2) default).Write) ((List.getD s2.1 (Int.toNat s2.2.2) default).Dirty)))) (e := 47) (r := 0) (π := []) (o := 0 + (Int.toNat s2.2.2) * 3 + 1) (i := (Int.toNat s2.2.2)) (off := 1) (vs := [bb (decide ((Int.tmod (w64 (s2.2.1 + (1 : Int))) (3 : Int)) = (0 : Int)))]) (y := (DSlot.mk s2.2.1 (decide ((Int.tmod (w64 (s2.2.1 + (1 : Int))) (3 : Int)) = (0 : Int))) ((List.getD s2.1 (Int.toNat s2.2.2) default).Dirty))) (H' := [(0, some q2), (0, some q1)]) len_C_47 (by kernel_rfl) (by kernel_rfl) (by kernel_rfl) (by kernel_rfl) (by omega) (by first | omega | (simp only [List.length_set, List.length_append, List.length_replicate, List.length_cons, List.length_nil, List.length_take, List.length_drop, over_len] at *; omega)) (by decide) (by kernel_rfl) (by kernel_rfl) ?_)
   refine yt (sp 38 [(0, .sref 0 [] 0 (List.length s2.1) 3), (1, ii (w64 (s2.2.1 + (1 : Int)))), (5, ii s2.2.2)]) [(0, some q2)] 1 ?_
   refine sy [0, 1, 5] [0] (sp 38 [(0, .sref 0 [] 0 (List.length s2.1) 3), (1, ii (w64 ((w64 (s2.2.1 + (1 : Int))) + (1 : Int)))), (5, ii s2.2.2)]) [(0, some q2)] 1 ?_
   refine Aw.sreg [0, 1, 5] [0] ?_
   obtain ⟨hg70, hh⟩ := grd_some hh
   refine yjc 7 [(3 : Int) ≠ 0, (0 : Int) ≤ s2.2.2 ∧ s2.2.2 < (((List.length s2.1) : Nat) : Int)] (sp 38 [(0, .sref 0 [] 0 (List.length s2.1) 3), (1, ii (w64 ((w64 (s2.2.1 + (1 : Int))) + (1 : Int)))), (5, ii s2.2.2), (28, .sref 0 [] 0 (List.length s2.1) 3), (29, ii s2.2.2), (30, ii (w64 ((w64 (s2.2.1 + (1 : Int))) + (1 : Int)))), (31, ii (Int.tmod (w64 ((w64 (s2.2.1 + (1 : Int))) + (1 : Int))) (3 : Int))), (32, bb (decide ((Int.tmod (w64 ((w64 (s2.2.1 + (1 : Int))) + (1 : Int))) (3 : Int)) = (0 : Int)))), (33, .ptr 0 [] (0 + (Int.toNat s2.2.2) * 3)), (34, .ptr 0 [] (0 + (Int.toNat s2.2.2) * 3 + 2))]) [(0, some q2)] 1 (.cons (by decide) (.cons hg70 .nil)) ?_
   let q3 : Root := ⟨47, (fl C_47 (List.set s2.1 (Int.toNat s2.2.2) (DSlot.mk s2.2.1 (decide ((Int.tmod (w64 (s2.2.1 + (1 : Int))) (3 : Int)) = (0 : Int))) (decide ((Int.tmod (w64 ((w64 (s2.2.1 + (1 : Int))) + (1 : Int))) (3 : Int)) = (0 : Int))))))⟩
   refine ys (.store 1 (.t 34) (.t 32)) none (op_storeE (getD_set_self (by omega)) (List.set_set ..) (c := C_47) (xs := (List.set s2.1 (Int.toNat s2.2.2) (DSlot.mk s2.2.1 (decide ((Int.tmod (w64 (s2.2.1 + (1 : Int))) (3 : Int)) = (0 : Int))) ((List.getD s2.1 (Int.toNat s2.2.2) default).Dirty)))) (e := 47) (r := 0) (π := []) (o := 0 + (Int.toNat s2.2.2) * 3 + 2) (i := (Int.toNat s2.2.2)) (off := 2) (vs := [bb (decide ((Int.tmod (w64 ((w64 (s2.2.1 + (1 : Int))) + (1 : Int))) (3 : Int)) = (0 : Int)))]) (y := (DSlot.mk s2.2.1 (decide ((Int.tmod (w64 (s2.2.1 + (1 : Int))) (3 : Int)) = (0 : Int))) (decide ((Int.tmod (w64 ((w64 (s2.2.1 + (1 : Int))) + (1 : Int))) (3 : Int)) = (0 : Int))))) (H' := [(0, some q3), (0, some q2)]) len_C_47 (by kernel_rfl) (by kernel_rfl) (by kernel_rfl) (by kernel_rfl) (by omega) (by first | omega | (simp only [List.length_set, List.length_append, List.length_replicate, List.length_cons, List.length_nil, List.length_take, List.length_drop, over_len] at *; omega)) (by decide) (by kernel_rfl) (by kernel_rfl) ?_)
   refine yt (sp 38 [(0, .sref 0 [] 0 (List.length s2.1) 3), (1, ii (w64 ((w64 (s2.2.1 + (1 : Int))) + (1 : Int)))), (5, ii s2.2.2)]) [(0, some q3)] 1 ?_
   refine Aw.xreg [0, 1, 5] [0] (fun _ _ _ hq => blk_m (then_m hq)) ?_
   refine yt (sp 38 [(0, .sref 0 [] 0 (List.length s2.1) 3), (1, ii (w64 ((w64 ((w64 (s2.2.1 + (1 : Int))) + (1 : Int))) + (1 : Int)))), (5, ii s2.2.2)]) [(0, some q3)] 1 ?_
   refine Aw.oreg ?_
   refine ye (sp 38 [(0, .sref 0 [] 0 (List.length s2.1) 3), (1, ii (w64 ((w64 ((w64 (s2.2.1 + (1 : Int))) + (1 : Int))) + (1 : Int)))), (5, ii (w64 (s2.2.2 + (1 : Int)))), (10, ii s2.2.2), (11, ii (w64 (s2.2.2 + (1 : Int))))]) [(0, some q3)] 1 ?_
   exact hN2 ((List.set s2.1 (Int.toNat s2.2.2) (DSlot.mk s2.2.1 (decide ((Int.tmod (w64 (s2.2.1 + (1 : Int))) (3 : Int)) = (0 : Int))) (decide ((Int.tmod (w64 ((w64 (s2.2.1 + (1 : Int))) + (1 : Int))) (3 : Int)) = (0 : Int))))), (w64 ((w64 ((w64 (s2.2.1 + (1 : Int))) + (1 : Int))) + (1 : Int))), (w64 (s2.2.2 + (1 : Int)))) _ _ _ (some_some hh) (Ent.list2 [some 0] rfl rfl (by decide) (rens_sp (by kernel_rfl) (rl_c (u := .sref 0 [] 0 (List.length s2.1) 3) (by kernel_rfl) ren_sx (rl_c (u := ii (w64 ((w64 ((w64 (s2.2.1 + (1 : Int))) + (1 : Int))) + (1 : Int)))) (by kernel_rfl) ren_i (rl_c (u := ii (w64 (s2.2.2 + (1 : Int)))) (by kernel_rfl) ren_i rl_n)))) (hq q3 (rens_same (noRefs_fl nr_C_47)) hs_nil))
 refine cF hb ?_
 refine Aw.exit ?_
 refine then_x ?_
 refine hX2 _ _ _ _ _ (some_some hh) ?_
 intro hout
 rw [hout] at hk2
 refine blk_x ?_
 obtain rfl := some_some hk2
 exact hN1 (s2.2.1, s2.1) _ _ _ hk1 (Ent.list2 [some 0] rfl rfl (by decide) (rens_sp (by kernel_rfl) (rl_c (u := ii s2.2.1) (by kernel_rfl) ren_i rl_n)) (hq ⟨47, (fl C_47 s2.1)⟩ (rens_same (noRefs_fl nr_C_47)) hs_nil))
def Lf89_r0 : List LOper := [oo 4 (.mv (.c (ii 0)))]
def Lf89_r1 : List LOper := [oo 5 (.mv (.c (ii 0)))]
def Lf89_r2 : List LOper := [om 6 5, om 7 0, oo 8 (.len (.t 7)), oo 9 (.bin .lss (.t 6) (.t 8))]
def Lf89_r3 : List LOper := [om 12 0, om 13 5, om 14 1, oo 15 (.bin .rem (.t 14) (.c (ii 3))), oo 16 (.bin .eql (.t 15) (.c (ii 0))), oo 17 (.iadr 17 (.t 12) (.t 13)), oo 18 (.fadr 0 (.t 17)), ⟨none, (.store 1 (.t 18) (.t 16)), none⟩]
def Lf89_r4 : List LOper := [om 19 1, oo 20 (.bin .add (.t 19) (.c (ii 1))), om 1 20]
def Lf89_r5 : List LOper := [om 21 0, om 22 5, oo 23 (.iadr 17 (.t 21) (.t 22)), oo 24 (.fadr 1 (.t 23)), oo 25 (.fadr 0 (.t 24)), oo 26 (.load false 1 (.t 25)), om 27 1, oo 28 (.call 50 [(.t 26), (.t 27)]), om 1 28]
def Lf89_r6 : List LOper := [om 29 0, om 30 5, om 31 1, oo 32 (.iadr 17 (.t 29) (.t 30)), oo 33 (.fadr 1 (.t 32)), oo 34 (.fadr 1 (.t 33)), ⟨none, (.store 1 (.t 34) (.t 31)), none⟩]
def Lf89_r7 : List LOper := [om 35 1, oo 36 (.bin .add (.t 35) (.c (ii 1))), om 1 36]
def Lf89_r8 : List LOper := [om 37 0, om 38 5, om 39 1, oo 40 (.iadr 17 (.t 37) (.t 38)), oo 41 (.fadr 1 (.t 40)), oo 42 (.fadr 2 (.t 41)), ⟨none, (.store 1 (.t 42) (.t 39)), none⟩]
def Lf89_r9 : List LOper := [om 43 1, oo 44 (.bin .add (.t 43) (.c (ii 1))), om 1 44]
def Lf89_r10 : List LOper := [om 45 0, om 46 5, om 47 1, oo 48 (.iadr 17 (.t 45) (.t 46)), oo 49 (.fadr 1 (.t 48)), oo 50 (.fadr 3 (.t 49)), ⟨none, (.store 1 (.t 50) (.t 47)), none⟩]
def Lf89_r11 : List LOper := [om 51 1, oo 52 (.bin .add (.t 51) (.c (ii 1))), om 1 52]
def Lf89_r12 : List LOper := [om 53 0, om 54 5, om 55 1, oo 56 (.iadr 17 (.t 53) (.t 54)), oo 57 (.fadr 1 (.t 56)), oo 58 (.fadr 4 (.t 57)), ⟨none, (.store 1 (.t 58) (.t 55)), none⟩]
def Lf89_r13 : List LOper := [om 59 1, oo 60 (.bin .add (.t 59) (.c (ii 1))), om 1 60]
def Lf89_r14 : List LOper := [om 61 0, om 62 5, om 63 1, oo 64 (.bin .rem (.t 63) (.c (ii 3))), oo 65 (.bin .eql (.t 64) (.c (ii 0))), oo 66 (.iadr 17 (.t 61) (.t 62)), oo 67 (.fadr 1 (.t 66)), oo 68 (.fadr 5 (.t 67)), ⟨none, (.store 1 (.t 68) (.t 65)), none⟩]
def Lf89_r15 : List LOper := [om 69 1, oo 70 (.bin .add (.t 69) (.c (ii 1))), om 1 70]
def Lf89_r16 : List LOper := [om 71 0, om 72 5, om 73 1, oo 74 (.iadr 17 (.t 71) (.t 72)), oo 75 (.fadr 1 (.t 74)), oo 76 (.fadr 6 (.t 75)), ⟨none, (.store 1 (.t 76) (.t 73)), none⟩]
def Lf89_r17 : List LOper := [om 77 1, oo 78 (.bin .add (.t 77) (.c (ii 1))), om 1 78]
def Lf89_r18 : List LOper := [om 79 0, om 80 5, om 81 1, oo 82 (.iadr 17 (.t 79) (.t 80)), oo 83 (.fadr 1 (.t 82)), oo 84 (.fadr 7 (.t 83)), ⟨none, (.store 1 (.t 84) (.t 81)), none⟩]
def Lf89_r19 : List LOper := [om 85 1, oo 86 (.bin .add (.t 85) (.c (ii 1))), om 1 86]
def Lf89_r20 : List LOper := [om 87 0, om 88 5, om 89 1, oo 90 (.iadr 17 (.t 87) (.t 88)), oo 91 (.fadr 1 (.t 90)), oo 92 (.fadr 8 (.t 91)), ⟨none, (.store 1 (.t 92) (.t 89)), none⟩]
def Lf89_r21 : List LOper := [om 93 1, oo 94 (.bin .add (.t 93) (.c (ii 1))), om 1 94]
def Lf89_r22 : List LOper := [om 95 0, om 96 5, om 97 1, oo 98 (.bin .rem (.t 97) (.c (ii 3))), oo 99 (.bin .eql (.t 98) (.c (ii 0))), oo 100 (.iadr 17 (.t 95) (.t 96)), oo 101 (.fadr 1 (.t 100)), oo 102 (.fadr 9 (.t 101)), ⟨none, (.store 1 (.t 102) (.t 99)), none⟩]
def Lf89_r23 : List LOper := [om 103 1, oo 104 (.bin .add (.t 103) (.c (ii 1))), om 1 104]
def Lf89_r24 : List LOper := [om 105 0, om 106 5, om 107 1, oo 108 (.bin .rem (.t 107) (.c (ii 3))), oo 109 (.bin .eql (.t 108) (.c (ii 0))), oo 110 (.iadr 17 (.t 105) (.t 106)), oo 111 (.fadr 1 (.t 110)), oo 112 (.fadr 10 (.t 111)), ⟨none, (.store 1 (.t 112) (.t 109)), none⟩]
def Lf89_r25 : List LOper := [om 113 1, oo 114 (.bin .add (.t 113) (.c (ii 1))), om 1 114]
def Lf89_r26 : List LOper := [om 115 0, om 116 5, om 117 1, oo 118 (.bin .rem (.t 117) (.c (ii 3))), oo 119 (.bin .eql (.t 118) (.c (ii 0))), oo 120 (.iadr 17 (.t 115) (.t 116)), oo 121 (.fadr 1 (.t 120)), oo 122 (.fadr 11 (.t 121)), ⟨none, (.store 1 (.t 122) (.t 119)), none⟩]
def Lf89_r27 : List LOper := [om 123 1, oo 124 (.bin .add (.t 123) (.c (ii 1))), om 1 124]
def Lf89_r28 : List LOper := [om 125 0, om 126 5, om 127 1, oo 128 (.bin .rem (.t 127) (.c (ii 3))), oo 129 (.bin .eql (.t 128) (.c (ii 0))), oo 130 (.iadr 17 (.t 125) (.t 126)), oo 131 (.fadr 1 (.t 130)), oo 132 (.fadr 12 (.t 131)), ⟨none, (.store 1 (.t 132) (.t 129)), none⟩]
def Lf89_r29 : List LOper := [om 133 1, oo 134 (.bin .add (.t 133) (.c (ii 1))), om 1 134]
def Lf89_r30 : List LOper := [om 135 0, om 136 5, oo 137 (.iadr 17 (.t 135) (.t 136)), oo 138 (.fadr 14 (.t 137)), oo 139 (.load false 1 (.t 138)), om 140 1, oo 141 (.call 115 [(.t 139), (.t 140)]), om 1 141]
def Lf89_r31 : List LOper := [om 142 0, om 143 5, oo 144 (.iadr 17 (.t 142) (.t 143)), oo 145 (.fadr 15 (.t 144)), oo 146 (.load false 1 (.t 145)), om 147 1, oo 148 (.call 50 [(.t 146), (.t 147)]), om 1 148]
def Lf89_r32 : List LOper := [om 149 0, om 150 5, oo 151 (.iadr 17 (.t 149) (.t 150)), oo 152 (.fadr 16 (.t 151)), oo 153 (.load false 1 (.t 152)), om 154 1, oo 155 (.call 50 [(.t 153), (.t 154)]), om 1 155]
def Lf89_r33 : List LOper := [om 10 5, oo 11 (.bin .add (.t 10) (.c (ii 1))), om 5 11]
def Lf89_l34 : LCode := (.seq (.seq (.reg false Lf89_r2) (.cond (.t 9) .skip (.exit 0))) (.seq (.block 1 (.seq (.reg false Lf89_r3) (.seq (.reg false Lf89_r4) (.seq (.reg false Lf89_r5) (.seq (.reg false Lf89_r6) (.seq (.reg false Lf89_r7) (.seq (.reg false Lf89_r8) (.seq (.reg false Lf89_r9) (.seq (.reg false Lf89_r10) (.seq (.reg false Lf89_r11) (.seq (.reg false Lf89_r12) (.seq (.reg false Lf89_r13) (.seq (.reg false Lf89_r14) (.seq (.reg false Lf89_r15) (.seq (.reg false Lf89_r16) (.seq (.reg false Lf89_r17) (.seq (.reg false Lf89_r18) (.seq (.reg false Lf89_r19) (.seq (.reg false Lf89_r20) (.seq (.reg false Lf89_r21) (.seq (.reg false Lf89_r22) (.seq (.reg false Lf89_r23) (.seq (.reg false Lf89_r24) (.seq (.reg false Lf89_r25) (.seq (.reg false Lf89_r26) (.seq (.reg false Lf89_r27) (.seq (.reg false Lf89_r28) (.seq (.reg false Lf89_r29) (.seq (.reg false Lf89_r30) (.seq (.reg false Lf89_r31) (.reg false Lf89_r32))))))))))))))))))))))))))))))) (.reg false Lf89_r33)))
def Lf89_r35 : List LOper := [om 156 1, om 4 156]
def Lf89 : LFun := ⟨157, [(.tmp 4)], (.seq (.reg false Lf89_r0) (.seq (.seq (.reg false Lf89_r1) (.block 0 (.loop Lf89_l34))) (.seq (.reg false Lf89_r35) .ret)))⟩
theorem low_laws_markGuestS : lowFun Go.Proofs.Try.prog 89 = some Lf89 := by kernel_rfl
noncomputable def F_laws_markGuestS_j1  (s1 : Int × (List DGuest)) : Option ((List DGuest) × Int) :=
 some (s1.2, s1.1)
noncomputable def F_laws_markGuestS_l2  (s2 : (List DGuest) × Int × Int) : Option (LO ((List DGuest) × Int × Int) (JO (Int × (List DGuest)) ((List DGuest) × Int))) :=
 cond (decide (s2.2.2 < (((List.length s2.1) : Nat) : Int)))
  (grd ((0 : Int) ≤ s2.2.2 ∧ s2.2.2 < (((List.length s2.1) : Nat) : Int)) (grd ((0 : Int) ≤ s2.2.2 ∧ s2.2.2 < (((List.length s2.1) : Nat) : Int)) (Option.bind (F_laws_markIntS (((List.getD s2.1 (Int.toNat s2.2.2) default).C).Regs) (w64 (s2.2.1 + (1 : Int)))) fun v3 =>
   grd (List.length v3.1 = (List.length (((List.getD s2.1 (Int.toNat s2.2.2) default).C).Regs))) (grd ((0 : Int) ≤ s2.2.2 ∧ s2.2.2 < (((List.length s2.1) : Nat) : Int)) (grd ((0 : Int) ≤ s2.2.2 ∧ s2.2.2 < (((List.length s2.1) : Nat) : Int)) (grd ((0 : Int) ≤ s2.2.2 ∧ s2.2.2 < (((List.length s2.1) : Nat) : Int)) (grd ((0 : Int) ≤ s2.2.2 ∧ s2.2.2 < (((List.length s2.1) : Nat) : Int)) (grd ((0 : Int) ≤ s2.2.2 ∧ s2.2.2 < (((List.length s2.1) : Nat) : Int)) (grd ((0 : Int) ≤ s2.2.2 ∧ s2.2.2 < (((List.length s2.1) : Nat) : Int)) (grd ((0 : Int) ≤ s2.2.2 ∧ s2.2.2 < (((List.length s2.1) : Nat) : Int)) (grd ((0 : Int) ≤ s2.2.2 ∧ s2.2.2 < (((List.length s2.1) : Nat) : Int)) (grd ((0 : Int) ≤ s2.2.2 ∧ s2.2.2 < (((List.length s2.1) : Nat) : Int)) (grd ((0 : Int) ≤ s2.2.2 ∧ s2.2.2 < (((List.length s2.1) : Nat) : Int)) (grd ((0 : Int) ≤ s2.2.2 ∧ s2.2.2 < (((List.length s2.1) : Nat) : Int)) (grd ((0 : Int) ≤ s2.2.2 ∧ s2.2.2 < (((List.length s2.1) : Nat) : Int)) (grd ((0 : Int) ≤ s2.2.2 ∧ s2.2.2 < (((List.length s2.1) : Nat) : Int)) (Option.bind (F_laws_markSlotS ((List.getD s2.1 (Int.toNat s2.2.2) default).Pages) (w64 ((w64 ((w64 ((w64 ((w64 ((w64 ((w64 ((w64 ((w64 ((w64 ((w64 ((w64 (v3.2 + (1 : Int))) + (1 : Int))) + (1 : Int))) + (1 : Int))) + (1 : Int))) + (1 : Int))) + (1 : Int))) + (1 : Int))) + (1 : Int))) + (1 : Int))) + (1 : Int))) + (1 : Int)))) fun v4 =>
    grd (List.length v4.1 = (List.length ((List.getD s2.1 (Int.toNat s2.2.2) default).Pages))) (grd ((0 : Int) ≤ s2.2.2 ∧ s2.2.2 < (((List.length s2.1) : Nat) : Int)) (Option.bind (F_laws_markIntS ((List.getD s2.1 (Int.toNat s2.2.2) default).In) v4.2) fun v5 =>
     grd (List.length v5.1 = (List.length ((List.getD s2.1 (Int.toNat s2.2.2) default).In))) (grd ((0 : Int) ≤ s2.2.2 ∧ s2.2.2 < (((List.length s2.1) : Nat) : Int)) (Option.bind (F_laws_markIntS ((List.getD s2.1 (Int.toNat s2.2.2) default).Out) v5.2) fun v6 =>
      grd (List.length v6.1 = (List.length ((List.getD s2.1 (Int.toNat s2.2.2) default).Out))) (some (.next ((List.set s2.1 (Int.toNat s2.2.2) (DGuest.mk (decide ((Int.tmod s2.2.1 (3 : Int)) = (0 : Int))) (DCore.mk v3.1 v3.2 (w64 (v3.2 + (1 : Int))) (w64 ((w64 (v3.2 + (1 : Int))) + (1 : Int))) (w64 ((w64 ((w64 (v3.2 + (1 : Int))) + (1 : Int))) + (1 : Int))) (decide ((Int.tmod (w64 ((w64 ((w64 ((w64 (v3.2 + (1 : Int))) + (1 : Int))) + (1 : Int))) + (1 : Int))) (3 : Int)) = (0 : Int))) (w64 ((w64 ((w64 ((w64 ((w64 (v3.2 + (1 : Int))) + (1 : Int))) + (1 : Int))) + (1 : Int))) + (1 : Int))) (w64 ((w64 ((w64 ((w64 ((w64 ((w64 (v3.2 + (1 : Int))) + (1 : Int))) + (1 : Int))) + (1 : Int))) + (1 : Int))) + (1 : Int))) (w64 ((w64 ((w64 ((w64 ((w64 ((w64 ((w64 (v3.2 + (1 : Int))) + (1 : Int))) + (1 : Int))) + (1 : Int))) + (1 : Int))) + (1 : Int))) + (1 : Int))) (decide ((Int.tmod (w64 ((w64 ((w64 ((w64 ((w64 ((w64 ((w64 ((w64 (v3.2 + (1 : Int))) + (1 : Int))) + (1 : Int))) + (1 : Int))) + (1 : Int))) + (1 : Int))) + (1 : Int))) + (1 : Int))) (3 : Int)) = (0 : Int))) (decide ((Int.tmod (w64 ((w64 ((w64 ((w64 ((w64 ((w64 ((w64 ((w64 ((w64 (v3.2 + (1 : Int))) + (1 : Int))) + (1 : Int))) + (1 : Int))) + (1 : Int))) + (1 : Int))) + (1 : Int))) + (1 : Int))) + (1 : Int))) (3 : Int)) = (0 : Int))) (decide ((Int.tmod (w64 ((w64 ((w64 ((w64 ((w64 ((w64 ((w64 ((w64 ((w64 ((w64 (v3.2 + (1 : Int))) + (1 : Int))) + (1 : Int))) + (1 : Int))) + (1 : Int))) + (1 : Int))) + (1 : Int))) + (1 : Int))) + (1 : Int))) + (1 : Int))) (3 : Int)) = (0 : Int))) (decide ((Int.tmod (w64 ((w64 ((w64 ((w64 ((w64 ((w64 ((w64 ((w64 ((w64 ((w64 ((w64 (v3.2 + (1 : Int))) + (1 : Int))) + (1 : Int))) + (1 : Int))) + (1 : Int))) + (1 : Int))) + (1 : Int))) + (1 : Int))) + (1 : Int))) + (1 : Int))) + (1 : Int))) (3 : Int)) = (0 : Int)))) v4.1 v5.1 v6.1)), v6.2, (w64 (s2.2.2 + (1 : Int)))))))))))))))))))))))))))
  (some (.ret (.go (s2.2.1, s2.1))))
noncomputable def F_laws_markGuestS (x_a : List DGuest) (x_k : Int) : Option ((List DGuest) × Int) :=
 Option.bind (Option.bind (iter (F_laws_markGuestS_l2) (x_a, x_k, (0 : Int))) LO.val) fun j1 =>
  JO.run j1 (F_laws_markGuestS_j1)
theorem laws_markGuestS_fn {x_a : List DGuest} {x_k : Int} {R_ : (List DGuest) × Int} (hh : F_laws_markGuestS x_a x_k = some R_) : Inl Try.prog 89 [.sref 0 [] 0 (List.length x_a) 17, .int .i64 x_k] [(0, some ⟨50, (fl O_50 x_a)⟩)] 1 (.int .i64 R_.2) [(0, some ⟨50, (fl O_50 R_.1)⟩)] 1 := by
 unfold F_laws_markGuestS at hh
 refine Inl.start low_laws_markGuestS [0, 1] [0] (E := sp 157 [(0, .sref 0 [] 0 (List.length x_a) 17), (1, ii x_k)]) (H1 := [(0, some ⟨50, (fl O_50 x_a)⟩)]) (by kernel_rfl) (by kernel_rfl) ?_
 refine sy [0, 1] [0] (sp 157 [(0, .sref 0 [] 0 (List.length x_a) 17), (1, ii x_k)]) [(0, some ⟨50, (fl O_50 x_a)⟩)] 1 ?_
 obtain ⟨j1, hh, hk1⟩ := bind_some hh
 refine Aw.join (S := Int × (List DGuest)) (fun s1 => sp 157 [(1, ii s1.1)]) (fun s1 => [(0, some ⟨50, (fl O_50 s1.2)⟩)]) 1 (fun s1 => F_laws_markGuestS_j1 s1 = some R_) ?_ ?_
 · intro s1 hh
   unfold F_laws_markGuestS_j1 at hh
   refine sy [4] [0] (sp 157 [(4, ii s1.1)]) [(0, some ⟨50, (fl O_50 s1.2)⟩)] 1 ?_
   refine Aw.ret ?_
   rw [some_some hh]
   exact gives (r' := ii s1.1) (by kernel_rfl) (Ent.list2 [some 0] rfl rfl (by decide) (rens_1 ren_i) (hq ⟨50, (fl O_50 s1.2)⟩ (rens_same (noRefs_fl nr_O_50)) hs_nil))
 intro Q1 hN1 hR1 hE1
 refine sy [0, 1, 5] [0] (sp 157 [(0, .sref 0 [] 0 (List.length x_a) 17), (1, ii x_k), (5, ii 0)]) [(0, some ⟨50, (fl O_50 x_a)⟩)] 1 ?_
 refine Aw.block ?_
 obtain ⟨o2, hi2, hk2⟩ := bind_some hh
 refine Aw.iter (fun (s2 : (List DGuest) × Int × Int) => sp 157 [(0, .sref 0 [] 0 (List.length s2.1) 17), (1, ii s2.2.1), (5, ii s2.2.2)]) (fun (s2 : (List DGuest) × Int × Int) => [(0, some ⟨50, (fl O_50 s2.1)⟩)]) 1 hi2 (Ent.list2 [some 0] rfl rfl (by decide) (rens_sp (by kernel_rfl) (rl_c (u := .sref 0 [] 0 (List.length x_a) 17) (by kernel_rfl) ren_sx (rl_c (u := ii x_k) (by kernel_rfl) ren_i (rl_c (u := ii 0) (by kernel_rfl) ren_i rl_n)))) (hq ⟨50, (fl O_50 x_a)⟩ (rens_same (noRefs_fl nr_O_50)) hs_nil)) ?_
 intro s2 u2 Q2 hh hN2 hX2 hR2
 unfold F_laws_markGuestS_l2 at hh
 refine Aw.seq ?_
 refine sy [0, 1, 5, 9] [0] (sp 157 [(0, .sref 0 [] 0 (List.length s2.1) 17), (1, ii s2.2.1), (5, ii s2.2.2), (9, bb (decide (s2.2.2 < (((List.length s2.1) : Nat) : Int))))]) [(0, some ⟨50, (fl O_50 s2.1)⟩)] 1 ?_
 rcases cond_some hh with ⟨hb, hh⟩ | ⟨hb, hh⟩
 · refine cT hb ?_
   refine Aw.xskip (fun _ _ _ hq => then_m hq) ?_
   refine Aw.seq ?_
   refine Aw.block ?_
   refine Aw.sreg [0, 1, 5] [0] ?_
   obtain ⟨hg504, hh⟩ := grd_some hh
   refine yjc 7 [(3 : Int) ≠ 0, (0 : Int) ≤ s2.2.2 ∧ s2.2.2 < (((List.length s2.1) : Nat) : Int)] (sp 157 [(0, .sref 0 [] 0 (List.length s2.1) 17), (1, ii s2.2.1), (5, ii s2.2.2), (9, bb (decide (s2.2.2 < (((List.length s2.1) : Nat) : Int)))), (12, .sref 0 [] 0 (List.length s2.1) 17), (13, ii s2.2.2), (14, ii s2.2.1), (15, ii (Int.tmod s2.2.1 (3 : Int))), (16, bb (decide ((Int.tmod s2.2.1 (3 : Int)) = (0 : Int)))), (17, .ptr 0 [] (0 + (Int.toNat s2.2.2) * 17)), (18, .ptr 0 [] (0 + (Int.toNat s2.2.2) * 17 + 0))]) [(0, some ⟨50, (fl O_50 s2.1)⟩)] 1 (.cons (by decide) (.cons hg504 .nil)) ?_
   let q1 : Root := ⟨50, (fl O_50 (List.set s2.1 (Int.toNat s2.2.2) (DGuest.mk (decide ((Int.tmod s2.2.1 (3 : Int)) = (0 : Int))) (DCore.mk (((List.getD s2.1 (Int.toNat s2.2.2) default).C).Regs) (((List.getD s2.1 (Int.toNat s2.2.2) default).C).Pc) (((List.getD s2.1 (Int.toNat s2.2.2) default).C).Root) (((List.getD s2.1 (Int.toNat s2.2.2) default).C).Vector) (((List.getD s2.1 (Int.toNat s2.2.2) default).C).Saved) (((List.getD s2.1 (Int.toNat s2.2.2) default).C).SavedUser) (((List.getD s2.1 (Int.toNat s2.2.2) default).C).Cause) (((List.getD s2.1 (Int.toNat s2.2.2) default).C).Bad) (((List.getD s2.1 (Int.toNat s2.2.2) default).C).Timer) (((List.getD s2.1 (Int.toNat s2.2.2) default).C).Waits) (((List.getD s2.1 (Int.toNat s2.2.2) default).C).User) (((List.getD s2.1 (Int.toNat s2.2.2) default).C).On) (((List.getD s2.1 (Int.toNat s2.2.2) default).C).Stopped)) ((List.getD s2.1 (Int.toNat s2.2.2) default).Pages) ((List.getD s2.1 (Int.toNat s2.2.2) default).In) ((List.getD s2.1 (Int.toNat s2.2.2) default).Out))))⟩
   refine ys (.store 1 (.t 18) (.t 16)) none (op_store (c := O_50) (xs := s2.1) (e := 50) (r := 0) (π := []) (o := 0 + (Int.toNat s2.2.2) * 17 + 0) (i := (Int.toNat s2.2.2)) (off := 0) (vs := [bb (decide ((Int.tmod s2.2.1 (3 : Int)) = (0 : Int)))]) (y := (DGuest.mk (decide ((Int.tmod s2.2.1 (3 : Int)) = (0 : Int))) (DCore.mk (((List.getD s2.1 (Int.toNat s2.2.2) default).C).Regs) (((List.getD s2.1 (Int.toNat s2.2.2) default).C).Pc) (((List.getD s2.1 (Int.toNat s2.2.2) default).C).Root) (((List.getD s2.1 (Int.toNat s2.2.2) default).C).Vector) (((List.getD s2.1 (Int.toNat s2.2.2) default).C).Saved) (((List.getD s2.1 (Int.toNat s2.2.2) default).C).SavedUser) (((List.getD s2.1 (Int.toNat s2.2.2) default).C).Cause) (((List.getD s2.1 (Int.toNat s2.2.2) default).C).Bad) (((List.getD s2.1 (Int.toNat s2.2.2) default).C).Timer) (((List.getD s2.1 (Int.toNat s2.2.2) default).C).Waits) (((List.getD s2.1 (Int.toNat s2.2.2) default).C).User) (((List.getD s2.1 (Int.toNat s2.2.2) default).C).On) (((List.getD s2.1 (Int.toNat s2.2.2) default).C).Stopped)) ((List.getD s2.1 (Int.toNat s2.2.2) default).Pages) ((List.getD s2.1 (Int.toNat s2.2.2) default).In) ((List.getD s2.1 (Int.toNat s2.2.2) default).Out))) (H' := [(0, some q1), (0, some ⟨50, (fl O_50 s2.1)⟩)]) len_O_50 (by kernel_rfl) (by kernel_rfl) (by kernel_rfl) (by kernel_rfl) (by omega) (by omega) (by decide) (by kernel_rfl) (by kernel_rfl) ?_)
   refine yt (sp 157 [(0, .sref 0 [] 0 (List.length s2.1) 17), (1, ii s2.2.1), (5, ii s2.2.2)]) [(0, some q1)] 1 ?_
   refine sy [0, 1, 5] [0] (sp 157 [(0, .sref 0 [] 0 (List.length s2.1) 17), (1, ii (w64 (s2.2.1 + (1 : Int)))), (5, ii s2.2.2)]) [(0, some q1)] 1 ?_
   refine Aw.sreg [0, 1, 5] [0] ?_
   obtain ⟨hg503, hh⟩ := grd_some hh
   refine yjc 5 [(0 : Int) ≤ s2.2.2 ∧ s2.2.2 < (((List.length s2.1) : Nat) : Int)] (sp 157 [(0, .sref 0 [] 0 (List.length s2.1) 17), (1, ii (w64 (s2.2.1 + (1 : Int)))), (5, ii s2.2.2), (21, .sref 0 [] 0 (List.length s2.1) 17), (22, ii s2.2.2), (23, .ptr 0 [] (0 + (Int.toNat s2.2.2) * 17)), (24, .ptr 0 [] (0 + (Int.toNat s2.2.2) * 17 + 1)), (25, .ptr 0 [] (0 + (Int.toNat s2.2.2) * 17 + 1 + 0))]) [(0, some q1)] 1 (.cons hg503 .nil) ?_
   refine ys (.load false 1 (.t 25)) (some 26) (op_loadE (getD_set_self (by omega)) (c := O_50) (xs := (List.set s2.1 (Int.toNat s2.2.2) (DGuest.mk (decide ((Int.tmod s2.2.1 (3 : Int)) = (0 : Int))) (DCore.mk (((List.getD s2.1 (Int.toNat s2.2.2) default).C).Regs) (((List.getD s2.1 (Int.toNat s2.2.2) default).C).Pc) (((List.getD s2.1 (Int.toNat s2.2.2) default).C).Root) (((List.getD s2.1 (Int.toNat s2.2.2) default).C).Vector) (((List.getD s2.1 (Int.toNat s2.2.2) default).C).Saved) (((List.getD s2.1 (Int.toNat s2.2.2) default).C).SavedUser) (((List.getD s2.1 (Int.toNat s2.2.2) default).C).Cause) (((List.getD s2.1 (Int.toNat s2.2.2) default).C).Bad) (((List.getD s2.1 (Int.toNat s2.2.2) default).C).Timer) (((List.getD s2.1 (Int.toNat s2.2.2) default).C).Waits) (((List.getD s2.1 (Int.toNat s2.2.2) default).C).User) (((List.getD s2.1 (Int.toNat s2.2.2) default).C).On) (((List.getD s2.1 (Int.toNat s2.2.2) default).C).Stopped)) ((List.getD s2.1 (Int.toNat s2.2.2) default).Pages) ((List.getD s2.1 (Int.toNat s2.2.2) default).In) ((List.getD s2.1 (Int.toNat s2.2.2) default).Out)))) (e := 50) (r := 0) (π := []) (o := 0 + (Int.toNat s2.2.2) * 17 + 1 + 0) (i := (Int.toNat s2.2.2)) (off := 1) (v := .sref 0 [0 + (Int.toNat s2.2.2) * 17 + 1 + 0 + 0] 0 (List.length (((List.getD s2.1 (Int.toNat s2.2.2) default).C).Regs)) 1) len_O_50 (by kernel_rfl) (by kernel_rfl) (by omega) (by first | omega | (simp only [List.length_set, List.length_append, List.length_replicate, List.length_cons, List.length_nil, List.length_take, List.length_drop, over_len] at *; omega)) (by decide) (by kernel_rfl) ?_)
   refine yu 1 [(26, .sref 0 [0 + (Int.toNat s2.2.2) * 17 + 1 + 0 + 0] 0 (List.length (((List.getD s2.1 (Int.toNat s2.2.2) default).C).Regs)) 1), (27, ii (w64 (s2.2.1 + (1 : Int))))] [(0, some q1)] 1 ?_
   obtain ⟨v3, hv3, hh⟩ := bind_some hh
   obtain ⟨hg466, hh⟩ := grd_some hh
   have hgqv3 := Eq.symm hg466
   refine ys (.call 50 [(.t 26), (.t 27)]) (some 28) (op_callg (e' := 3) (sz' := 1) (m' := (List.length (((List.getD s2.1 (Int.toNat s2.2.2) default).C).Regs))) (cs' := (fl (eI .i64) (((List.getD s2.1 (Int.toNat s2.2.2) default).C).Regs))) (ds := (fl (eI .i64) v3.1)) (c := O_50) (xs := (List.set s2.1 (Int.toNat s2.2.2) (DGuest.mk (decide ((Int.tmod s2.2.1 (3 : Int)) = (0 : Int))) (DCore.mk (((List.getD s2.1 (Int.toNat s2.2.2) default).C).Regs) (((List.getD s2.1 (Int.toNat s2.2.2) default).C).Pc) (((List.getD s2.1 (Int.toNat s2.2.2) default).C).Root) (((List.getD s2.1 (Int.toNat s2.2.2) default).C).Vector) (((List.getD s2.1 (Int.toNat s2.2.2) default).C).Saved) (((List.getD s2.1 (Int.toNat s2.2.2) default).C).SavedUser) (((List.getD s2.1 (Int.toNat s2.2.2) default).C).Cause) (((List.getD s2.1 (Int.toNat s2.2.2) default).C).Bad) (((List.getD s2.1 (Int.toNat s2.2.2) default).C).Timer) (((List.getD s2.1 (Int.toNat s2.2.2) default).C).Waits) (((List.getD s2.1 (Int.toNat s2.2.2) default).C).User) (((List.getD s2.1 (Int.toNat s2.2.2) default).C).On) (((List.getD s2.1 (Int.toNat s2.2.2) default).C).Stopped)) ((List.getD s2.1 (Int.toNat s2.2.2) default).Pages) ((List.getD s2.1 (Int.toNat s2.2.2) default).In) ((List.getD s2.1 (Int.toNat s2.2.2) default).Out)))) (R := 0) (e := 50) (o := 0 + (Int.toNat s2.2.2) * 17 + 1 + 0 + 0) (i := (Int.toNat s2.2.2)) (off := 1) (y := (DGuest.mk (decide ((Int.tmod s2.2.1 (3 : Int)) = (0 : Int))) (DCore.mk v3.1 (((List.getD s2.1 (Int.toNat s2.2.2) default).C).Pc) (((List.getD s2.1 (Int.toNat s2.2.2) default).C).Root) (((List.getD s2.1 (Int.toNat s2.2.2) default).C).Vector) (((List.getD s2.1 (Int.toNat s2.2.2) default).C).Saved) (((List.getD s2.1 (Int.toNat s2.2.2) default).C).SavedUser) (((List.getD s2.1 (Int.toNat s2.2.2) default).C).Cause) (((List.getD s2.1 (Int.toNat s2.2.2) default).C).Bad) (((List.getD s2.1 (Int.toNat s2.2.2) default).C).Timer) (((List.getD s2.1 (Int.toNat s2.2.2) default).C).Waits) (((List.getD s2.1 (Int.toNat s2.2.2) default).C).User) (((List.getD s2.1 (Int.toNat s2.2.2) default).C).On) (((List.getD s2.1 (Int.toNat s2.2.2) default).C).Stopped)) ((List.getD s2.1 (Int.toNat s2.2.2) default).Pages) ((List.getD s2.1 (Int.toNat s2.2.2) default).In) ((List.getD s2.1 (Int.toNat s2.2.2) default).Out))) (m2 := (List.length v3.1)) (args := [.sref 0 [0 + (Int.toNat s2.2.2) * 17 + 1 + 0 + 0] 0 (List.length (((List.getD s2.1 (Int.toNat s2.2.2) default).C).Regs)) 1, ii (w64 (s2.2.1 + (1 : Int)))]) (args2 := [.sref 1 [] 0 (List.length (((List.getD s2.1 (Int.toNat s2.2.2) default).C).Regs)) 1, ii (w64 (s2.2.1 + (1 : Int)))]) (by kernel_rfl) len_O_50 (by kernel_rfl) (by omega) (by first | omega | (simp only [List.length_set, List.length_append, List.length_replicate, List.length_cons, List.length_nil, List.length_take, List.length_drop, over_len] at *; omega)) (by decide) (getD_set_self (by omega)) (by kernel_rfl) (dts_c (.sref _ _ _) (dts_c (.same _) dts_n)) (Inl.frameB (v' := ii v3.2) (Hp' := [(1, some ⟨3, (fl (eI .i64) v3.1)⟩)]) (n' := 2) [1] (laws_markIntS_fn hv3) rfl rfl rfl (rens_c ren_sx (rens_i rens_n)) rfl (hq ⟨3, (fl (eI .i64) (((List.getD s2.1 (Int.toNat s2.2.2) default).C).Regs))⟩ (rens_same (noRefs_fl nr_eI)) hs_nil) ren_i rfl (hq ⟨3, (fl (eI .i64) v3.1)⟩ (rens_same (noRefs_fl nr_eI)) hs_nil) rfl) (by kernel_rfl) (by kernel_rfl) hgqv3 (by kernel_rfl) (List.set_set ..) ?_)
   let q2 : Root := ⟨50, (fl O_50 (List.set s2.1 (Int.toNat s2.2.2) (DGuest.mk (decide ((Int.tmod s2.2.1 (3 : Int)) = (0 : Int))) (DCore.mk v3.1 (((List.getD s2.1 (Int.toNat s2.2.2) default).C).Pc) (((List.getD s2.1 (Int.toNat s2.2.2) default).C).Root) (((List.getD s2.1 (Int.toNat s2.2.2) default).C).Vector) (((List.getD s2.1 (Int.toNat s2.2.2) default).C).Saved) (((List.getD s2.1 (Int.toNat s2.2.2) default).C).SavedUser) (((List.getD s2.1 (Int.toNat s2.2.2) default).C).Cause) (((List.getD s2.1 (Int.toNat s2.2.2) default).C).Bad) (((List.getD s2.1 (Int.toNat s2.2.2) default).C).Timer) (((List.getD s2.1 (Int.toNat s2.2.2) default).C).Waits) (((List.getD s2.1 (Int.toNat s2.2.2) default).C).User) (((List.getD s2.1 (Int.toNat s2.2.2) default).C).On) (((List.getD s2.1 (Int.toNat s2.2.2) default).C).Stopped)) ((List.getD s2.1 (Int.toNat s2.2.2) default).Pages) ((List.getD s2.1 (Int.toNat s2.2.2) default).In) ((List.getD s2.1 (Int.toNat s2.2.2) default).Out))))⟩
   refine yt (sp 157 [(0, .sref 0 [] 0 (List.length s2.1) 17), (1, ii v3.2), (5, ii s2.2.2)]) [(0, some q2)] 2 ?_
   refine Aw.sreg [0, 1, 5] [0] ?_
   obtain ⟨hg502, hh⟩ := grd_some hh
   refine yjc 6 [(0 : Int) ≤ s2.2.2 ∧ s2.2.2 < (((List.length s2.1) : Nat) : Int)] (sp 157 [(0, .sref 0 [] 0 (List.length s2.1) 17), (1, ii v3.2), (5, ii s2.2.2), (29, .sref 0 [] 0 (List.length s2.1) 17), (30, ii s2.2.2), (31, ii v3.2), (32, .ptr 0 [] (0 + (Int.toNat s2.2.2) * 17)), (33, .ptr 0 [] (0 + (Int.toNat s2.2.2) * 17 + 1)), (34, .ptr 0 [] (0 + (Int.toNat s2.2.2) * 17 + 1 + 1))]) [(0, some q2)] 2 (.cons hg502 .nil) ?_
   let q3 : Root := ⟨50, (fl O_50 (List.set s2.1 (Int.toNat s2.2.2) (DGuest.mk (decide ((Int.tmod s2.2.1 (3 : Int)) = (0 : Int))) (DCore.mk v3.1 v3.2 (((List.getD s2.1 (Int.toNat s2.2.2) default).C).Root) (((List.getD s2.1 (Int.toNat s2.2.2) default).C).Vector) (((List.getD s2.1 (Int.toNat s2.2.2) default).C).Saved) (((List.getD s2.1 (Int.toNat s2.2.2) default).C).SavedUser) (((List.getD s2.1 (Int.toNat s2.2.2) default).C).Cause) (((List.getD s2.1 (Int.toNat s2.2.2) default).C).Bad) (((List.getD s2.1 (Int.toNat s2.2.2) default).C).Timer) (((List.getD s2.1 (Int.toNat s2.2.2) default).C).Waits) (((List.getD s2.1 (Int.toNat s2.2.2) default).C).User) (((List.getD s2.1 (Int.toNat s2.2.2) default).C).On) (((List.getD s2.1 (Int.toNat s2.2.2) default).C).Stopped)) ((List.getD s2.1 (Int.toNat s2.2.2) default).Pages) ((List.getD s2.1 (Int.toNat s2.2.2) default).In) ((List.getD s2.1 (Int.toNat s2.2.2) default).Out))))⟩
   refine ys (.store 1 (.t 34) (.t 31)) none (op_storeE (getD_set_self (by omega)) (List.set_set ..) (c := O_50) (xs := (List.set s2.1 (Int.toNat s2.2.2) (DGuest.mk (decide ((Int.tmod s2.2.1 (3 : Int)) = (0 : Int))) (DCore.mk v3.1 (((List.getD s2.1 (Int.toNat s2.2.2) default).C).Pc) (((List.getD s2.1 (Int.toNat s2.2.2) default).C).Root) (((List.getD s2.1 (Int.toNat s2.2.2) default).C).Vector) (((List.getD s2.1 (Int.toNat s2.2.2) default).C).Saved) (((List.getD s2.1 (Int.toNat s2.2.2) default).C).SavedUser) (((List.getD s2.1 (Int.toNat s2.2.2) default).C).Cause) (((List.getD s2.1 (Int.toNat s2.2.2) default).C).Bad) (((List.getD s2.1 (Int.toNat s2.2.2) default).C).Timer) (((List.getD s2.1 (Int.toNat s2.2.2) default).C).Waits) (((List.getD s2.1 (Int.toNat s2.2.2) default).C).User) (((List.getD s2.1 (Int.toNat s2.2.2) default).C).On) (((List.getD s2.1 (Int.toNat s2.2.2) default).C).Stopped)) ((List.getD s2.1 (Int.toNat s2.2.2) default).Pages) ((List.getD s2.1 (Int.toNat s2.2.2) default).In) ((List.getD s2.1 (Int.toNat s2.2.2) default).Out)))) (e := 50) (r := 0) (π := []) (o := 0 + (Int.toNat s2.2.2) * 17 + 1 + 1) (i := (Int.toNat s2.2.2)) (off := 2) (vs := [ii v3.2]) (y := (DGuest.mk (decide ((Int.tmod s2.2.1 (3 : Int)) = (0 : Int))) (DCore.mk v3.1 v3.2 (((List.getD s2.1 (Int.toNat s2.2.2) default).C).Root) (((List.getD s2.1 (Int.toNat s2.2.2) default).C).Vector) (((List.getD s2.1 (Int.toNat s2.2.2) default).C).Saved) (((List.getD s2.1 (Int.toNat s2.2.2) default).C).SavedUser) (((List.getD s2.1 (Int.toNat s2.2.2) default).C).Cause) (((List.getD s2.1 (Int.toNat s2.2.2) default).C).Bad) (((List.getD s2.1 (Int.toNat s2.2.2) default).C).Timer) (((List.getD s2.1 (Int.toNat s2.2.2) default).C).Waits) (((List.getD s2.1 (Int.toNat s2.2.2) default).C).User) (((List.getD s2.1 (Int.toNat s2.2.2) default).C).On) (((List.getD s2.1 (Int.toNat s2.2.2) default).C).Stopped)) ((List.getD s2.1 (Int.toNat s2.2.2) default).Pages) ((List.getD s2.1 (Int.toNat s2.2.2) default).In) ((List.getD s2.1 (Int.toNat s2.2.2) default).Out))) (H' := [(0, some q3), (0, some q2)]) len_O_50 (by kernel_rfl) (by kernel_rfl) (by kernel_rfl) (by kernel_rfl) (by omega) (by first | omega | (simp only [List.length_set, List.length_append, List.length_replicate, List.length_cons, List.length_nil, List.length_take, List.length_drop, over_len] at *; omega)) (by decide) (by kernel_rfl) (by kernel_rfl) ?_)
   refine yt (sp 157 [(0, .sref 0 [] 0 (List.length s2.1) 17), (1, ii v3.2), (5, ii s2.2.2)]) [(0, some q3)] 2 ?_
   refine sy [0, 1, 5] [0] (sp 157 [(0, .sref 0 [] 0 (List.length s2.1) 17), (1, ii (w64 (v3.2 + (1 : Int)))), (5, ii s2.2.2)]) [(0, some q3)] 2 ?_
   refine Aw.sreg [0, 1, 5] [0] ?_
   obtain ⟨hg501, hh⟩ := grd_some hh
   refine yjc 6 [(0 : Int) ≤ s2.2.2 ∧ s2.2.2 < (((List.length s2.1) : Nat) : Int)] (sp 157 [(0, .sref 0 [] 0 (List.length s2.1) 17), (1, ii (w64 (v3.2 + (1 : Int)))), (5, ii s2.2.2), (37, .sref 0 [] 0 (List.length s2.1) 17), (38, ii s2.2.2), (39, ii (w64 (v3.2 + (1 : Int)))), (40, .ptr 0 [] (0 + (Int.toNat s2.2.2) * 17)), (41, .ptr 0 [] (0 + (Int.toNat s2.2.2) * 17 + 1)), (42, .ptr 0 [] (0 + (Int.toNat s2.2.2) * 17 + 1 + 2))]) [(0, some q3)] 2 (.cons hg501 .nil) ?_
   let q4 : Root := ⟨50, (fl O_50 (List.set s2.1 (Int.toNat s2.2.2) (DGuest.mk (decide ((Int.tmod s2.2.1 (3 : Int)) = (0 : Int))) (DCore.mk v3.1 v3.2 (w64 (v3.2 + (1 : Int))) (((List.getD s2.1 (Int.toNat s2.2.2) default).C).Vector) (((List.getD s2.1 (Int.toNat s2.2.2) default).C).Saved) (((List.getD s2.1 (Int.toNat s2.2.2) default).C).SavedUser) (((List.getD s2.1 (Int.toNat s2.2.2) default).C).Cause) (((List.getD s2.1 (Int.toNat s2.2.2) default).C).Bad) (((List.getD s2.1 (Int.toNat s2.2.2) default).C).Timer) (((List.getD s2.1 (Int.toNat s2.2.2) default).C).Waits) (((List.getD s2.1 (Int.toNat s2.2.2) default).C).User) (((List.getD s2.1 (Int.toNat s2.2.2) default).C).On) (((List.getD s2.1 (Int.toNat s2.2.2) default).C).Stopped)) ((List.getD s2.1 (Int.toNat s2.2.2) default).Pages) ((List.getD s2.1 (Int.toNat s2.2.2) default).In) ((List.getD s2.1 (Int.toNat s2.2.2) default).Out))))⟩
   refine ys (.store 1 (.t 42) (.t 39)) none (op_storeE (getD_set_self (by omega)) (List.set_set ..) (c := O_50) (xs := (List.set s2.1 (Int.toNat s2.2.2) (DGuest.mk (decide ((Int.tmod s2.2.1 (3 : Int)) = (0 : Int))) (DCore.mk v3.1 v3.2 (((List.getD s2.1 (Int.toNat s2.2.2) default).C).Root) (((List.getD s2.1 (Int.toNat s2.2.2) default).C).Vector) (((List.getD s2.1 (Int.toNat s2.2.2) default).C).Saved) (((List.getD s2.1 (Int.toNat s2.2.2) default).C).SavedUser) (((List.getD s2.1 (Int.toNat s2.2.2) default).C).Cause) (((List.getD s2.1 (Int.toNat s2.2.2) default).C).Bad) (((List.getD s2.1 (Int.toNat s2.2.2) default).C).Timer) (((List.getD s2.1 (Int.toNat s2.2.2) default).C).Waits) (((List.getD s2.1 (Int.toNat s2.2.2) default).C).User) (((List.getD s2.1 (Int.toNat s2.2.2) default).C).On) (((List.getD s2.1 (Int.toNat s2.2.2) default).C).Stopped)) ((List.getD s2.1 (Int.toNat s2.2.2) default).Pages) ((List.getD s2.1 (Int.toNat s2.2.2) default).In) ((List.getD s2.1 (Int.toNat s2.2.2) default).Out)))) (e := 50) (r := 0) (π := []) (o := 0 + (Int.toNat s2.2.2) * 17 + 1 + 2) (i := (Int.toNat s2.2.2)) (off := 3) (vs := [ii (w64 (v3.2 + (1 : Int)))]) (y := (DGuest.mk (decide ((Int.tmod s2.2.1 (3 : Int)) = (0 : Int))) (DCore.mk v3.1 v3.2 (w64 (v3.2 + (1 : Int))) (((List.getD s2.1 (Int.toNat s2.2.2) default).C).Vector) (((List.getD s2.1 (Int.toNat s2.2.2) default).C).Saved) (((List.getD s2.1 (Int.toNat s2.2.2) default).C).SavedUser) (((List.getD s2.1 (Int.toNat s2.2.2) default).C).Cause) (((List.getD s2.1 (Int.toNat s2.2.2) default).C).Bad) (((List.getD s2.1 (Int.toNat s2.2.2) default).C).Timer) (((List.getD s2.1 (Int.toNat s2.2.2) default).C).Waits) (((List.getD s2.1 (Int.toNat s2.2.2) default).C).User) (((List.getD s2.1 (Int.toNat s2.2.2) default).C).On) (((List.getD s2.1 (Int.toNat s2.2.2) default).C).Stopped)) ((List.getD s2.1 (Int.toNat s2.2.2) default).Pages) ((List.getD s2.1 (Int.toNat s2.2.2) default).In) ((List.getD s2.1 (Int.toNat s2.2.2) default).Out))) (H' := [(0, some q4), (0, some q3)]) len_O_50 (by kernel_rfl) (by kernel_rfl) (by kernel_rfl) (by kernel_rfl) (by omega) (by first | omega | (simp only [List.length_set, List.length_append, List.length_replicate, List.length_cons, List.length_nil, List.length_take, List.length_drop, over_len] at *; omega)) (by decide) (by kernel_rfl) (by kernel_rfl) ?_)
   refine yt (sp 157 [(0, .sref 0 [] 0 (List.length s2.1) 17), (1, ii (w64 (v3.2 + (1 : Int)))), (5, ii s2.2.2)]) [(0, some q4)] 2 ?_
   refine sy [0, 1, 5] [0] (sp 157 [(0, .sref 0 [] 0 (List.length s2.1) 17), (1, ii (w64 ((w64 (v3.2 + (1 : Int))) + (1 : Int)))), (5, ii s2.2.2)]) [(0, some q4)] 2 ?_
   refine Aw.sreg [0, 1, 5] [0] ?_
   obtain ⟨hg500, hh⟩ := grd_some hh
   refine yjc 6 [(0 : Int) ≤ s2.2.2 ∧ s2.2.2 < (((List.length s2.1) : Nat) : Int)] (sp 157 [(0, .sref 0 [] 0 (List.length s2.1) 17), (1, ii (w64 ((w64 (v3.2 + (1 : Int))) + (1 : Int)))), (5, ii s2.2.2), (45, .sref 0 [] 0 (List.length s2.1) 17), (46, ii s2.2.2), (47, ii (w64 ((w64 (v3.2 + (1 : Int))) + (1 : Int)))), (48, .ptr 0 [] (0 + (Int.toNat s2.2.2) * 17)), (49, .ptr 0 [] (0 + (Int.toNat s2.2.2) * 17 + 1)), (50, .ptr 0 [] (0 + (Int.toNat s2.2.2) * 17 + 1 + 3))]) [(0, some q4)] 2 (.cons hg500 .nil) ?_
   let q5 : Root := ⟨50, (fl O_50 (List.set s2.1 (Int.toNat s2.2.2) (DGuest.mk (decide ((Int.tmod s2.2.1 (3 : Int)) = (0 : Int))) (DCore.mk v3.1 v3.2 (w64 (v3.2 + (1 : Int))) (w64 ((w64 (v3.2 + (1 : Int))) + (1 : Int))) (((List.getD s2.1 (Int.toNat s2.2.2) default).C).Saved) (((List.getD s2.1 (Int.toNat s2.2.2) default).C).SavedUser) (((List.getD s2.1 (Int.toNat s2.2.2) default).C).Cause) (((List.getD s2.1 (Int.toNat s2.2.2) default).C).Bad) (((List.getD s2.1 (Int.toNat s2.2.2) default).C).Timer) (((List.getD s2.1 (Int.toNat s2.2.2) default).C).Waits) (((List.getD s2.1 (Int.toNat s2.2.2) default).C).User) (((List.getD s2.1 (Int.toNat s2.2.2) default).C).On) (((List.getD s2.1 (Int.toNat s2.2.2) default).C).Stopped)) ((List.getD s2.1 (Int.toNat s2.2.2) default).Pages) ((List.getD s2.1 (Int.toNat s2.2.2) default).In) ((List.getD s2.1 (Int.toNat s2.2.2) default).Out))))⟩
   refine ys (.store 1 (.t 50) (.t 47)) none (op_storeE (getD_set_self (by omega)) (List.set_set ..) (c := O_50) (xs := (List.set s2.1 (Int.toNat s2.2.2) (DGuest.mk (decide ((Int.tmod s2.2.1 (3 : Int)) = (0 : Int))) (DCore.mk v3.1 v3.2 (w64 (v3.2 + (1 : Int))) (((List.getD s2.1 (Int.toNat s2.2.2) default).C).Vector) (((List.getD s2.1 (Int.toNat s2.2.2) default).C).Saved) (((List.getD s2.1 (Int.toNat s2.2.2) default).C).SavedUser) (((List.getD s2.1 (Int.toNat s2.2.2) default).C).Cause) (((List.getD s2.1 (Int.toNat s2.2.2) default).C).Bad) (((List.getD s2.1 (Int.toNat s2.2.2) default).C).Timer) (((List.getD s2.1 (Int.toNat s2.2.2) default).C).Waits) (((List.getD s2.1 (Int.toNat s2.2.2) default).C).User) (((List.getD s2.1 (Int.toNat s2.2.2) default).C).On) (((List.getD s2.1 (Int.toNat s2.2.2) default).C).Stopped)) ((List.getD s2.1 (Int.toNat s2.2.2) default).Pages) ((List.getD s2.1 (Int.toNat s2.2.2) default).In) ((List.getD s2.1 (Int.toNat s2.2.2) default).Out)))) (e := 50) (r := 0) (π := []) (o := 0 + (Int.toNat s2.2.2) * 17 + 1 + 3) (i := (Int.toNat s2.2.2)) (off := 4) (vs := [ii (w64 ((w64 (v3.2 + (1 : Int))) + (1 : Int)))]) (y := (DGuest.mk (decide ((Int.tmod s2.2.1 (3 : Int)) = (0 : Int))) (DCore.mk v3.1 v3.2 (w64 (v3.2 + (1 : Int))) (w64 ((w64 (v3.2 + (1 : Int))) + (1 : Int))) (((List.getD s2.1 (Int.toNat s2.2.2) default).C).Saved) (((List.getD s2.1 (Int.toNat s2.2.2) default).C).SavedUser) (((List.getD s2.1 (Int.toNat s2.2.2) default).C).Cause) (((List.getD s2.1 (Int.toNat s2.2.2) default).C).Bad) (((List.getD s2.1 (Int.toNat s2.2.2) default).C).Timer) (((List.getD s2.1 (Int.toNat s2.2.2) default).C).Waits) (((List.getD s2.1 (Int.toNat s2.2.2) default).C).User) (((List.getD s2.1 (Int.toNat s2.2.2) default).C).On) (((List.getD s2.1 (Int.toNat s2.2.2) default).C).Stopped)) ((List.getD s2.1 (Int.toNat s2.2.2) default).Pages) ((List.getD s2.1 (Int.toNat s2.2.2) default).In) ((List.getD s2.1 (Int.toNat s2.2.2) default).Out))) (H' := [(0, some q5), (0, some q4)]) len_O_50 (by kernel_rfl) (by kernel_rfl) (by kernel_rfl) (by kernel_rfl) (by omega) (by first | omega | (simp only [List.length_set, List.length_append, List.length_replicate, List.length_cons, List.length_nil, List.length_take, List.length_drop, over_len] at *; omega)) (by decide) (by kernel_rfl) (by kernel_rfl) ?_)
   refine yt (sp 157 [(0, .sref 0 [] 0 (List.length s2.1) 17), (1, ii (w64 ((w64 (v3.2 + (1 : Int))) + (1 : Int)))), (5, ii s2.2.2)]) [(0, some q5)] 2 ?_
   refine sy [0, 1, 5] [0] (sp 157 [(0, .sref 0 [] 0 (List.length s2.1) 17), (1, ii (w64 ((w64 ((w64 (v3.2 + (1 : Int))) + (1 : Int))) + (1 : Int)))), (5, ii s2.2.2)]) [(0, some q5)] 2 ?_
   refine Aw.sreg [0, 1, 5] [0] ?_
   obtain ⟨hg499, hh⟩ := grd_some hh
   refine yjc 6 [(0 : Int) ≤ s2.2.2 ∧ s2.2.2 < (((List.length s2.1) : Nat) : Int)] (sp 157 [(0, .sref 0 [] 0 (List.length s2.1) 17), (1, ii (w64 ((w64 ((w64 (v3.2 + (1 : Int))) + (1 : Int))) + (1 : Int)))), (5, ii s2.2.2), (53, .sref 0 [] 0 (List.length s2.1) 17), (54, ii s2.2.2), (55, ii (w64 ((w64 ((w64 (v3.2 + (1 : Int))) + (1 : Int))) + (1 : Int)))), (56, .ptr 0 [] (0 + (Int.toNat s2.2.2) * 17)), (57, .ptr 0 [] (0 + (Int.toNat s2.2.2) * 17 + 1)), (58, .ptr 0 [] (0 + (Int.toNat s2.2.2) * 17 + 1 + 4))]) [(0, some q5)] 2 (.cons hg499 .nil) ?_
   let q6 : Root := ⟨50, (fl O_50 (List.set s2.1 (Int.toNat s2.2.2) (DGuest.mk (decide ((Int.tmod s2.2.1 (3 : Int)) = (0 : Int))) (DCore.mk v3.1 v3.2 (w64 (v3.2 + (1 : Int))) (w64 ((w64 (v3.2 + (1 : Int))) + (1 : Int))) (w64 ((w64 ((w64 (v3.2 + (1 : Int))) + (1 : Int))) + (1 : Int))) (((List.getD s2.1 (Int.toNat s2.2.2) default).C).SavedUser) (((List.getD s2.1 (Int.toNat s2.2.2) default).C).Cause) (((List.getD s2.1 (Int.toNat s2.2.2) default).C).Bad) (((List.getD s2.1 (Int.toNat s2.2.2) default).C).Timer) (((List.getD s2.1 (Int.toNat s2.2.2) default).C).Waits) (((List.getD s2.1 (Int.toNat s2.2.2) default).C).User) (((List.getD s2.1 (Int.toNat s2.2.2) default).C).On) (((List.getD s2.1 (Int.toNat s2.2.2) default).C).Stopped)) ((List.getD s2.1 (Int.toNat s2.2.2) default).Pages) ((List.getD s2.1 (Int.toNat s2.2.2) default).In) ((List.getD s2.1 (Int.toNat s2.2.2) default).Out))))⟩
   refine ys (.store 1 (.t 58) (.t 55)) none (op_storeE (getD_set_self (by omega)) (List.set_set ..) (c := O_50) (xs := (List.set s2.1 (Int.toNat s2.2.2) (DGuest.mk (decide ((Int.tmod s2.2.1 (3 : Int)) = (0 : Int))) (DCore.mk v3.1 v3.2 (w64 (v3.2 + (1 : Int))) (w64 ((w64 (v3.2 + (1 : Int))) + (1 : Int))) (((List.getD s2.1 (Int.toNat s2.2.2) default).C).Saved) (((List.getD s2.1 (Int.toNat s2.2.2) default).C).SavedUser) (((List.getD s2.1 (Int.toNat s2.2.2) default).C).Cause) (((List.getD s2.1 (Int.toNat s2.2.2) default).C).Bad) (((List.getD s2.1 (Int.toNat s2.2.2) default).C).Timer) (((List.getD s2.1 (Int.toNat s2.2.2) default).C).Waits) (((List.getD s2.1 (Int.toNat s2.2.2) default).C).User) (((List.getD s2.1 (Int.toNat s2.2.2) default).C).On) (((List.getD s2.1 (Int.toNat s2.2.2) default).C).Stopped)) ((List.getD s2.1 (Int.toNat s2.2.2) default).Pages) ((List.getD s2.1 (Int.toNat s2.2.2) default).In) ((List.getD s2.1 (Int.toNat s2.2.2) default).Out)))) (e := 50) (r := 0) (π := []) (o := 0 + (Int.toNat s2.2.2) * 17 + 1 + 4) (i := (Int.toNat s2.2.2)) (off := 5) (vs := [ii (w64 ((w64 ((w64 (v3.2 + (1 : Int))) + (1 : Int))) + (1 : Int)))]) (y := (DGuest.mk (decide ((Int.tmod s2.2.1 (3 : Int)) = (0 : Int))) (DCore.mk v3.1 v3.2 (w64 (v3.2 + (1 : Int))) (w64 ((w64 (v3.2 + (1 : Int))) + (1 : Int))) (w64 ((w64 ((w64 (v3.2 + (1 : Int))) + (1 : Int))) + (1 : Int))) (((List.getD s2.1 (Int.toNat s2.2.2) default).C).SavedUser) (((List.getD s2.1 (Int.toNat s2.2.2) default).C).Cause) (((List.getD s2.1 (Int.toNat s2.2.2) default).C).Bad) (((List.getD s2.1 (Int.toNat s2.2.2) default).C).Timer) (((List.getD s2.1 (Int.toNat s2.2.2) default).C).Waits) (((List.getD s2.1 (Int.toNat s2.2.2) default).C).User) (((List.getD s2.1 (Int.toNat s2.2.2) default).C).On) (((List.getD s2.1 (Int.toNat s2.2.2) default).C).Stopped)) ((List.getD s2.1 (Int.toNat s2.2.2) default).Pages) ((List.getD s2.1 (Int.toNat s2.2.2) default).In) ((List.getD s2.1 (Int.toNat s2.2.2) default).Out))) (H' := [(0, some q6), (0, some q5)]) len_O_50 (by kernel_rfl) (by kernel_rfl) (by kernel_rfl) (by kernel_rfl) (by omega) (by first | omega | (simp only [List.length_set, List.length_append, List.length_replicate, List.length_cons, List.length_nil, List.length_take, List.length_drop, over_len] at *; omega)) (by decide) (by kernel_rfl) (by kernel_rfl) ?_)
   refine yt (sp 157 [(0, .sref 0 [] 0 (List.length s2.1) 17), (1, ii (w64 ((w64 ((w64 (v3.2 + (1 : Int))) + (1 : Int))) + (1 : Int)))), (5, ii s2.2.2)]) [(0, some q6)] 2 ?_
   refine sy [0, 1, 5] [0] (sp 157 [(0, .sref 0 [] 0 (List.length s2.1) 17), (1, ii (w64 ((w64 ((w64 ((w64 (v3.2 + (1 : Int))) + (1 : Int))) + (1 : Int))) + (1 : Int)))), (5, ii s2.2.2)]) [(0, some q6)] 2 ?_
   refine Aw.sreg [0, 1, 5] [0] ?_
   obtain ⟨hg498, hh⟩ := grd_some hh
   refine yjc 8 [(3 : Int) ≠ 0, (0 : Int) ≤ s2.2.2 ∧ s2.2.2 < (((List.length s2.1) : Nat) : Int)] (sp 157 [(0, .sref 0 [] 0 (List.length s2.1) 17), (1, ii (w64 ((w64 ((w64 ((w64 (v3.2 + (1 : Int))) + (1 : Int))) + (1 : Int))) + (1 : Int)))), (5, ii s2.2.2), (61, .sref 0 [] 0 (List.length s2.1) 17), (62, ii s2.2.2), (63, ii (w64 ((w64 ((w64 ((w64 (v3.2 + (1 : Int))) + (1 : Int))) + (1 : Int))) + (1 : Int)))), (64, ii (Int.tmod (w64 ((w64 ((w64 ((w64 (v3.2 + (1 : Int))) + (1 : Int))) + (1 : Int))) + (1 : Int))) (3 : Int))), (65, bb (decide ((Int.tmod (w64 ((w64 ((w64 ((w64 (v3.2 + (1 : Int))) + (1 : Int))) + (1 : Int))) + (1 : Int))) (3 : Int)) = (0 : Int)))), (66, .ptr 0 [] (0 + (Int.toNat s2.2.2) * 17)), (67, .ptr 0 [] (0 + (Int.toNat s2.2.2) * 17 + 1)), (68, .ptr 0 [] (0 + (Int.toNat s2.2.2) * 17 + 1 + 5))]) [(0, some q6)] 2 (.cons (by decide) (.cons hg498 .nil)) ?_
   let q7 : Root := ⟨50, (fl O_50 (List.set s2.1 (Int.toNat s2.2.2) (DGuest.mk (decide ((Int.tmod s2.2.1 (3 : Int)) = (0 : Int))) (DCore.mk v3.1 v3.2 (w64 (v3.2 + (1 : Int))) (w64 ((w64 (v3.2 + (1 : Int))) + (1 : Int))) (w64 ((w64 ((w64 (v3.2 + (1 : Int))) + (1 : Int))) + (1 : Int))) (decide ((Int.tmod (w64 ((w64 ((w64 ((w64 (v3.2 + (1 : Int))) + (1 : Int))) + (1 : Int))) + (1 : Int))) (3 : Int)) = (0 : Int))) (((List.getD s2.1 (Int.toNat s2.2.2) default).C).Cause) (((List.getD s2.1 (Int.toNat s2.2.2) default).C).Bad) (((List.getD s2.1 (Int.toNat s2.2.2) default).C).Timer) (((List.getD s2.1 (Int.toNat s2.2.2) default).C).Waits) (((List.getD s2.1 (Int.toNat s2.2.2) default).C).User) (((List.getD s2.1 (Int.toNat s2.2.2) default).C).On) (((List.getD s2.1 (Int.toNat s2.2.2) default).C).Stopped)) ((List.getD s2.1 (Int.toNat s2.2.2) default).Pages) ((List.getD s2.1 (Int.toNat s2.2.2) default).In) ((List.getD s2.1 (Int.toNat s2.2.2) default).Out))))⟩
   refine ys (.store 1 (.t 68) (.t 65)) none (op_storeE (getD_set_self (by omega)) (List.set_set ..) (c := O_50) (xs := (List.set s2.1 (Int.toNat s2.2.2) (DGuest.mk (decide ((Int.tmod s2.2.1 (3 : Int)) = (0 : Int))) (DCore.mk v3.1 v3.2 (w64 (v3.2 + (1 : Int))) (w64 ((w64 (v3.2 + (1 : Int))) + (1 : Int))) (w64 ((w64 ((w64 (v3.2 + (1 : Int))) + (1 : Int))) + (1 : Int))) (((List.getD s2.1 (Int.toNat s2.2.2) default).C).SavedUser) (((List.getD s2.1 (Int.toNat s2.2.2) default).C).Cause) (((List.getD s2.1 (Int.toNat s2.2.2) default).C).Bad) (((List.getD s2.1 (Int.toNat s2.2.2) default).C).Timer) (((List.getD s2.1 (Int.toNat s2.2.2) default).C).Waits) (((List.getD s2.1 (Int.toNat s2.2.2) default).C).User) (((List.getD s2.1 (Int.toNat s2.2.2) default).C).On) (((List.getD s2.1 (Int.toNat s2.2.2) default).C).Stopped)) ((List.getD s2.1 (Int.toNat s2.2.2) default).Pages) ((List.getD s2.1 (Int.toNat s2.2.2) default).In) ((List.getD s2.1 (Int.toNat s2.2.2) default).Out)))) (e := 50) (r := 0) (π := []) (o := 0 + (Int.toNat s2.2.2) * 17 + 1 + 5) (i := (Int.toNat s2.2.2)) (off := 6) (vs := [bb (decide ((Int.tmod (w64 ((w64 ((w64 ((w64 (v3.2 + (1 : Int))) + (1 : Int))) + (1 : Int))) + (1 : Int))) (3 : Int)) = (0 : Int)))]) (y := (DGuest.mk (decide ((Int.tmod s2.2.1 (3 : Int)) = (0 : Int))) (DCore.mk v3.1 v3.2 (w64 (v3.2 + (1 : Int))) (w64 ((w64 (v3.2 + (1 : Int))) + (1 : Int))) (w64 ((w64 ((w64 (v3.2 + (1 : Int))) + (1 : Int))) + (1 : Int))) (decide ((Int.tmod (w64 ((w64 ((w64 ((w64 (v3.2 + (1 : Int))) + (1 : Int))) + (1 : Int))) + (1 : Int))) (3 : Int)) = (0 : Int))) (((List.getD s2.1 (Int.toNat s2.2.2) default).C).Cause) (((List.getD s2.1 (Int.toNat s2.2.2) default).C).Bad) (((List.getD s2.1 (Int.toNat s2.2.2) default).C).Timer) (((List.getD s2.1 (Int.toNat s2.2.2) default).C).Waits) (((List.getD s2.1 (Int.toNat s2.2.2) default).C).User) (((List.getD s2.1 (Int.toNat s2.2.2) default).C).On) (((List.getD s2.1 (Int.toNat s2.2.2) default).C).Stopped)) ((List.getD s2.1 (Int.toNat s2.2.2) default).Pages) ((List.getD s2.1 (Int.toNat s2.2.2) default).In) ((List.getD s2.1 (Int.toNat s2.2.2) default).Out))) (H' := [(0, some q7), (0, some q6)]) len_O_50 (by kernel_rfl) (by kernel_rfl) (by kernel_rfl) (by kernel_rfl) (by omega) (by first | omega | (simp only [List.length_set, List.length_append, List.length_replicate, List.length_cons, List.length_nil, List.length_take, List.length_drop, over_len] at *; omega)) (by decide) (by kernel_rfl) (by kernel_rfl) ?_)
   refine yt (sp 157 [(0, .sref 0 [] 0 (List.length s2.1) 17), (1, ii (w64 ((w64 ((w64 ((w64 (v3.2 + (1 : Int))) + (1 : Int))) + (1 : Int))) + (1 : Int)))), (5, ii s2.2.2)]) [(0, some q7)] 2 ?_
   refine sy [0, 1, 5] [0] (sp 157 [(0, .sref 0 [] 0 (List.length s2.1) 17), (1, ii (w64 ((w64 ((w64 ((w64 ((w64 (v3.2 + (1 : Int))) + (1 : Int))) + (1 : Int))) + (1 : Int))) + (1 : Int)))), (5, ii s2.2.2)]) [(0, some q7)] 2 ?_
   refine Aw.sreg [0, 1, 5] [0] ?_
   obtain ⟨hg497, hh⟩ := grd_some hh
   refine yjc 6 [(0 : Int) ≤ s2.2.2 ∧ s2.2.2 < (((List.length s2.1) : Nat) : Int)] (sp 157 [(0, .sref 0 [] 0 (List.length s2.1) 17), (1, ii (w64 ((w64 ((w64 ((w64 ((w64 (v3.2 + (1 : Int))) + (1 : Int))) + (1 : Int))) + (1 : Int))) + (1 : Int)))), (5, ii s2.2.2), (71, .sref 0 [] 0 (List.length s2.1) 17), (72, ii s2.2.2), (73, ii (w64 ((w64 ((w64 ((w64 ((w64 (v3.2 + (1 : Int))) + (1 : Int))) + (1 : Int))) + (1 : Int))) + (1 : Int)))), (74, .ptr 0 [] (0 + (Int.toNat s2.2.2) * 17)), (75, .ptr 0 [] (0 + (Int.toNat s2.2.2) * 17 + 1)), (76, .ptr 0 [] (0 + (Int.toNat s2.2.2) * 17 + 1 + 6))]) [(0, some q7)] 2 (.cons hg497 .nil) ?_
   let q8 : Root := ⟨50, (fl O_50 (List.set s2.1 (Int.toNat s2.2.2) (DGuest.mk (decide ((Int.tmod s2.2.1 (3 : Int)) = (0 : Int))) (DCore.mk v3.1 v3.2 (w64 (v3.2 + (1 : Int))) (w64 ((w64 (v3.2 + (1 : Int))) + (1 : Int))) (w64 ((w64 ((w64 (v3.2 + (1 : Int))) + (1 : Int))) + (1 : Int))) (decide ((Int.tmod (w64 ((w64 ((w64 ((w64 (v3.2 + (1 : Int))) + (1 : Int))) + (1 : Int))) + (1 : Int))) (3 : Int)) = (0 : Int))) (w64 ((w64 ((w64 ((w64 ((w64 (v3.2 + (1 : Int))) + (1 : Int))) + (1 : Int))) + (1 : Int))) + (1 : Int))) (((List.getD s2.1 (Int.toNat s2.2.2) default).C).Bad) (((List.getD s2.1 (Int.toNat s2.2.2) default).C).Timer) (((List.getD s2.1 (Int.toNat s2.2.2) default).C).Waits) (((List.getD s2.1 (Int.toNat s2.2.2) default).C).User) (((List.getD s2.1 (Int.toNat s2.2.2) default).C).On) (((List.getD s2.1 (Int.toNat s2.2.2) default).C).Stopped)) ((List.getD s2.1 (Int.toNat s2.2.2) default).Pages) ((List.getD s2.1 (Int.toNat s2.2.2) default).In) ((List.getD s2.1 (Int.toNat s2.2.2) default).Out))))⟩
   refine ys (.store 1 (.t 76) (.t 73)) none (op_storeE (getD_set_self (by omega)) (List.set_set ..) (c := O_50) (xs := (List.set s2.1 (Int.toNat s2.2.2) (DGuest.mk (decide ((Int.tmod s2.2.1 (3 : Int)) = (0 : Int))) (DCore.mk v3.1 v3.2 (w64 (v3.2 + (1 : Int))) (w64 ((w64 (v3.2 + (1 : Int))) + (1 : Int))) (w64 ((w64 ((w64 (v3.2 + (1 : Int))) + (1 : Int))) + (1 : Int))) (decide ((Int.tmod (w64 ((w64 ((w64 ((w64 (v3.2 + (1 : Int))) + (1 : Int))) + (1 : Int))) + (1 : Int))) (3 : Int)) = (0 : Int))) (((List.getD s2.1 (Int.toNat s2.2.2) default).C).Cause) (((List.getD s2.1 (Int.toNat s2.2.2) default).C).Bad) (((List.getD s2.1 (Int.toNat s2.2.2) default).C).Timer) (((List.getD s2.1 (Int.toNat s2.2.2) default).C).Waits) (((List.getD s2.1 (Int.toNat s2.2.2) default).C).User) (((List.getD s2.1 (Int.toNat s2.2.2) default).C).On) (((List.getD s2.1 (Int.toNat s2.2.2) default).C).Stopped)) ((List.getD s2.1 (Int.toNat s2.2.2) default).Pages) ((List.getD s2.1 (Int.toNat s2.2.2) default).In) ((List.getD s2.1 (Int.toNat s2.2.2) default).Out)))) (e := 50) (r := 0) (π := []) (o := 0 + (Int.toNat s2.2.2) * 17 + 1 + 6) (i := (Int.toNat s2.2.2)) (off := 7) (vs := [ii (w64 ((w64 ((w64 ((w64 ((w64 (v3.2 + (1 : Int))) + (1 : Int))) + (1 : Int))) + (1 : Int))) + (1 : Int)))]) (y := (DGuest.mk (decide ((Int.tmod s2.2.1 (3 : Int)) = (0 : Int))) (DCore.mk v3.1 v3.2 (w64 (v3.2 + (1 : Int))) (w64 ((w64 (v3.2 + (1 : Int))) + (1 : Int))) (w64 ((w64 ((w64 (v3.2 + (1 : Int))) + (1 : Int))) + (1 : Int))) (decide ((Int.tmod (w64 ((w64 ((w64 ((w64 (v3.2 + (1 : Int))) + (1 : Int))) + (1 : Int))) + (1 : Int))) (3 : Int)) = (0 : Int))) (w64 ((w64 ((w64 ((w64 ((w64 (v3.2 + (1 : Int))) + (1 : Int))) + (1 : Int))) + (1 : Int))) + (1 : Int))) (((List.getD s2.1 (Int.toNat s2.2.2) default).C).Bad) (((List.getD s2.1 (Int.toNat s2.2.2) default).C).Timer) (((List.getD s2.1 (Int.toNat s2.2.2) default).C).Waits) (((List.getD s2.1 (Int.toNat s2.2.2) default).C).User) (((List.getD s2.1 (Int.toNat s2.2.2) default).C).On) (((List.getD s2.1 (Int.toNat s2.2.2) default).C).Stopped)) ((List.getD s2.1 (Int.toNat s2.2.2) default).Pages) ((List.getD s2.1 (Int.toNat s2.2.2) default).In) ((List.getD s2.1 (Int.toNat s2.2.2) default).Out))) (H' := [(0, some q8), (0, some q7)]) len_O_50 (by kernel_rfl) (by kernel_rfl) (by kernel_rfl) (by kernel_rfl) (by omega) (by first | omega | (simp only [List.length_set, List.length_append, List.length_replicate, List.length_cons, List.length_nil, List.length_take, List.length_drop, over_len] at *; omega)) (by decide) (by kernel_rfl) (by kernel_rfl) ?_)
   refine yt (sp 157 [(0, .sref 0 [] 0 (List.length s2.1) 17), (1, ii (w64 ((w64 ((w64 ((w64 ((w64 (v3.2 + (1 : Int))) + (1 : Int))) + (1 : Int))) + (1 : Int))) + (1 : Int)))), (5, ii s2.2.2)]) [(0, some q8)] 2 ?_
   refine sy [0, 1, 5] [0] (sp 157 [(0, .sref 0 [] 0 (List.length s2.1) 17), (1, ii (w64 ((w64 ((w64 ((w64 ((w64 ((w64 (v3.2 + (1 : Int))) + (1 : Int))) + (1 : Int))) + (1 : Int))) + (1 : Int))) + (1 : Int)))), (5, ii s2.2.2)]) [(0, some q8)] 2 ?_
   refine Aw.sreg [0, 1, 5] [0] ?_
   obtain ⟨hg496, hh⟩ := grd_some hh
   refine yjc 6 [(0 : Int) ≤ s2.2.2 ∧ s2.2.2 < (((List.length s2.1) : Nat) : Int)] (sp 157 [(0, .sref 0 [] 0 (List.length s2.1) 17), (1, ii (w64 ((w64 ((w64 ((w64 ((w64 ((w64 (v3.2 + (1 : Int))) + (1 : Int))) + (1 : Int))) + (1 : Int))) + (1 : Int))) + (1 : Int)))), (5, ii s2.2.2), (79, .sref 0 [] 0 (List.length s2.1) 17), (80, ii s2.2.2), (81, ii (w64 ((w64 ((w64 ((w64 ((w64 ((w64 (v3.2 + (1 : Int))) + (1 : Int))) + (1 : Int))) + (1 : Int))) + (1 : Int))) + (1 : Int)))), (82, .ptr 0 [] (0 + (Int.toNat s2.2.2) * 17)), (83, .ptr 0 [] (0 + (Int.toNat s2.2.2) * 17 + 1)), (84, .ptr 0 [] (0 + (Int.toNat s2.2.2) * 17 + 1 + 7))]) [(0, some q8)] 2 (.cons hg496 .nil) ?_
   let q9 : Root := ⟨50, (fl O_50 (List.set s2.1 (Int.toNat s2.2.2) (DGuest.mk (decide ((Int.tmod s2.2.1 (3 : Int)) = (0 : Int))) (DCore.mk v3.1 v3.2 (w64 (v3.2 + (1 : Int))) (w64 ((w64 (v3.2 + (1 : Int))) + (1 : Int))) (w64 ((w64 ((w64 (v3.2 + (1 : Int))) + (1 : Int))) + (1 : Int))) (decide ((Int.tmod (w64 ((w64 ((w64 ((w64 (v3.2 + (1 : Int))) + (1 : Int))) + (1 : Int))) + (1 : Int))) (3 : Int)) = (0 : Int))) (w64 ((w64 ((w64 ((w64 ((w64 (v3.2 + (1 : Int))) + (1 : Int))) + (1 : Int))) + (1 : Int))) + (1 : Int))) (w64 ((w64 ((w64 ((w64 ((w64 ((w64 (v3.2 + (1 : Int))) + (1 : Int))) + (1 : Int))) + (1 : Int))) + (1 : Int))) + (1 : Int))) (((List.getD s2.1 (Int.toNat s2.2.2) default).C).Timer) (((List.getD s2.1 (Int.toNat s2.2.2) default).C).Waits) (((List.getD s2.1 (Int.toNat s2.2.2) default).C).User) (((List.getD s2.1 (Int.toNat s2.2.2) default).C).On) (((List.getD s2.1 (Int.toNat s2.2.2) default).C).Stopped)) ((List.getD s2.1 (Int.toNat s2.2.2) default).Pages) ((List.getD s2.1 (Int.toNat s2.2.2) default).In) ((List.getD s2.1 (Int.toNat s2.2.2) default).Out))))⟩
   refine ys (.store 1 (.t 84) (.t 81)) none (op_storeE (getD_set_self (by omega)) (List.set_set ..) (c := O_50) (xs := (List.set s2.1 (Int.toNat s2.2.2) (DGuest.mk (decide ((Int.tmod s2.2.1 (3 : Int)) = (0 : Int))) (DCore.mk v3.1 v3.2 (w64 (v3.2 + (1 : Int))) (w64 ((w64 (v3.2 + (1 : Int))) + (1 : Int))) (w64 ((w64 ((w64 (v3.2 + (1 : Int))) + (1 : Int))) + (1 : Int))) (decide ((Int.tmod (w64 ((w64 ((w64 ((w64 (v3.2 + (1 : Int))) + (1 : Int))) + (1 : Int))) + (1 : Int))) (3 : Int)) = (0 : Int))) (w64 ((w64 ((w64 ((w64 ((w64 (v3.2 + (1 : Int))) + (1 : Int))) + (1 : Int))) + (1 : Int))) + (1 : Int))) (((List.getD s2.1 (Int.toNat s2.2.2) default).C).Bad) (((List.getD s2.1 (Int.toNat s2.2.2) default).C).Timer) (((List.getD s2.1 (Int.toNat s2.2.2) default).C).Waits) (((List.getD s2.1 (Int.toNat s2.2.2) default).C).User) (((List.getD s2.1 (Int.toNat s2.2.2) default).C).On) (((List.getD s2.1 (Int.toNat s2.2.2) default).C).Stopped)) ((List.getD s2.1 (Int.toNat s2.2.2) default).Pages) ((List.getD s2.1 (Int.toNat s2.2.2) default).In) ((List.getD s2.1 (Int.toNat s2.2.2) default).Out)))) (e := 50) (r := 0) (π := []) (o := 0 + (Int.toNat s2.2.2) * 17 + 1 + 7) (i := (Int.toNat s2.2.2)) (off := 8) (vs := [ii (w64 ((w64 ((w64 ((w64 ((w64 ((w64 (v3.2 + (1 : Int))) + (1 : Int))) + (1 : Int))) + (1 : Int))) + (1 : Int))) + (1 : Int)))]) (y := (DGuest.mk (decide ((Int.tmod s2.2.1 (3 : Int)) = (0 : Int))) (DCore.mk v3.1 v3.2 (w64 (v3.2 + (1 : Int))) (w64 ((w64 (v3.2 + (1 : Int))) + (1 : Int))) (w64 ((w64 ((w64 (v3.2 + (1 : Int))) + (1 : Int))) + (1 : Int))) (decide ((Int.tmod (w64 ((w64 ((w64 ((w64 (v3.2 + (1 : Int))) + (1 : Int))) + (1 : Int))) + (1 : Int))) (3 : Int)) = (0 : Int))) (w64 ((w64 ((w64 ((w64 ((w64 (v3.2 + (1 : Int))) + (1 : Int))) + (1 : Int))) + (1 : Int))) + (1 : Int))) (w64 ((w64 ((w64 ((w64 ((w64 ((w64 (v3.2 + (1 : Int))) + (1 : Int))) + (1 : Int))) + (1 : Int))) + (1 : Int))) + (1 : Int))) (((List.getD s2.1 (Int.toNat s2.2.2) default).C).Timer) (((List.getD s2.1 (Int.toNat s2.2.2) default).C).Waits) (((List.getD s2.1 (Int.toNat s2.2.2) default).C).User) (((List.getD s2.1 (Int.toNat s2.2.2) default).C).On) (((List.getD s2.1 (Int.toNat s2.2.2) default).C).Stopped)) ((List.getD s2.1 (Int.toNat s2.2.2) default).Pages) ((List.getD s2.1 (Int.toNat s2.2.2) default).In) ((List.getD s2.1 (Int.toNat s2.2.2) default).Out))) (H' := [(0, some q9), (0, some q8)]) len_O_50 (by kernel_rfl) (by kernel_rfl) (by kernel_rfl) (by kernel_rfl) (by omega) (by first | omega | (simp only [List.length_set, List.length_append, List.length_replicate, List.length_cons, List.length_nil, List.length_take, List.length_drop, over_len] at *; omega)) (by decide) (by kernel_rfl) (by kernel_rfl) ?_)
   refine yt (sp 157 [(0, .sref 0 [] 0 (List.length s2.1) 17), (1, ii (w64 ((w64 ((w64 ((w64 ((w64 ((w64 (v3.2 + (1 : Int))) + (1 : Int))) + (1 : Int))) + (1 : Int))) + (1 : Int))) + (1 : Int)))), (5, ii s2.2.2)]) [(0, some q9)] 2 ?_
   refine sy [0, 1, 5] [0] (sp 157 [(0, .sref 0 [] 0 (List.length s2.1) 17), (1, ii (w64 ((w64 ((w64 ((w64 ((w64 ((w64 ((w64 (v3.2 + (1 : Int))) + (1 : Int))) + (1 : Int))) + (1 : Int))) + (1 : Int))) + (1 : Int))) + (1 : Int)))), (5, ii s2.2.2)]) [(0, some q9)] 2 ?_
   refine Aw.sreg [0, 1, 5] [0] ?_
   obtain ⟨hg495, hh⟩ := grd_some hh
   refine yjc 6 [(0 : Int) ≤ s2.2.2 ∧ s2.2.2 < (((List.length s2.1) : Nat) : Int)] (sp 157 [(0, .sref 0 [] 0 (List.length s2.1) 17), (1, ii (w64 ((w64 ((w64 ((w64 ((w64 ((w64 ((w64 (v3.2 + (1 : Int))) + (1 : Int))) + (1 : Int))) + (1 : Int))) + (1 : Int))) + (1 : Int))) + (1 : Int)))), (5, ii s2.2.2), (87, .sref 0 [] 0 (List.length s2.1) 17), (88, ii s2.2.2), (89, ii (w64 ((w64 ((w64 ((w64 ((w64 ((w64 ((w64 (v3.2 + (1 : Int))) + (1 : Int))) + (1 : Int))) + (1 : Int))) + (1 : Int))) + (1 : Int))) + (1 : Int)))), (90, .ptr 0 [] (0 + (Int.toNat s2.2.2) * 17)), (91, .ptr 0 [] (0 + (Int.toNat s2.2.2) * 17 + 1)), (92, .ptr 0 [] (0 + (Int.toNat s2.2.2) * 17 + 1 + 8))]) [(0, some q9)] 2 (.cons hg495 .nil) ?_
   let q10 : Root := ⟨50, (fl O_50 (List.set s2.1 (Int.toNat s2.2.2) (DGuest.mk (decide ((Int.tmod s2.2.1 (3 : Int)) = (0 : Int))) (DCore.mk v3.1 v3.2 (w64 (v3.2 + (1 : Int))) (w64 ((w64 (v3.2 + (1 : Int))) + (1 : Int))) (w64 ((w64 ((w64 (v3.2 + (1 : Int))) + (1 : Int))) + (1 : Int))) (decide ((Int.tmod (w64 ((w64 ((w64 ((w64 (v3.2 + (1 : Int))) + (1 : Int))) + (1 : Int))) + (1 : Int))) (3 : Int)) = (0 : Int))) (w64 ((w64 ((w64 ((w64 ((w64 (v3.2 + (1 : Int))) + (1 : Int))) + (1 : Int))) + (1 : Int))) + (1 : Int))) (w64 ((w64 ((w64 ((w64 ((w64 ((w64 (v3.2 + (1 : Int))) + (1 : Int))) + (1 : Int))) + (1 : Int))) + (1 : Int))) + (1 : Int))) (w64 ((w64 ((w64 ((w64 ((w64 ((w64 ((w64 (v3.2 + (1 : Int))) + (1 : Int))) + (1 : Int))) + (1 : Int))) + (1 : Int))) + (1 : Int))) + (1 : Int))) (((List.getD s2.1 (Int.toNat s2.2.2) default).C).Waits) (((List.getD s2.1 (Int.toNat s2.2.2) default).C).User) (((List.getD s2.1 (Int.toNat s2.2.2) default).C).On) (((List.getD s2.1 (Int.toNat s2.2.2) default).C).Stopped)) ((List.getD s2.1 (Int.toNat s2.2.2) default).Pages) ((List.getD s2.1 (Int.toNat s2.2.2) default).In) ((List.getD s2.1 (Int.toNat s2.2.2) default).Out))))⟩
   refine ys (.store 1 (.t 92) (.t 89)) none (op_storeE (getD_set_self (by omega)) (List.set_set ..) (c := O_50) (xs := (List.set s2.1 (Int.toNat s2.2.2) (DGuest.mk (decide ((Int.tmod s2.2.1 (3 : Int)) = (0 : Int))) (DCore.mk v3.1 v3.2 (w64 (v3.2 + (1 : Int))) (w64 ((w64 (v3.2 + (1 : Int))) + (1 : Int))) (w64 ((w64 ((w64 (v3.2 + (1 : Int))) + (1 : Int))) + (1 : Int))) (decide ((Int.tmod (w64 ((w64 ((w64 ((w64 (v3.2 + (1 : Int))) + (1 : Int))) + (1 : Int))) + (1 : Int))) (3 : Int)) = (0 : Int))) (w64 ((w64 ((w64 ((w64 ((w64 (v3.2 + (1 : Int))) + (1 : Int))) + (1 : Int))) + (1 : Int))) + (1 : Int))) (w64 ((w64 ((w64 ((w64 ((w64 ((w64 (v3.2 + (1 : Int))) + (1 : Int))) + (1 : Int))) + (1 : Int))) + (1 : Int))) + (1 : Int))) (((List.getD s2.1 (Int.toNat s2.2.2) default).C).Timer) (((List.getD s2.1 (Int.toNat s2.2.2) default).C).Waits) (((List.getD s2.1 (Int.toNat s2.2.2) default).C).User) (((List.getD s2.1 (Int.toNat s2.2.2) default).C).On) (((List.getD s2.1 (Int.toNat s2.2.2) default).C).Stopped)) ((List.getD s2.1 (Int.toNat s2.2.2) default).Pages) ((List.getD s2.1 (Int.toNat s2.2.2) default).In) ((List.getD s2.1 (Int.toNat s2.2.2) default).Out)))) (e := 50) (r := 0) (π := []) (o := 0 + (Int.toNat s2.2.2) * 17 + 1 + 8) (i := (Int.toNat s2.2.2)) (off := 9) (vs := [ii (w64 ((w64 ((w64 ((w64 ((w64 ((w64 ((w64 (v3.2 + (1 : Int))) + (1 : Int))) + (1 : Int))) + (1 : Int))) + (1 : Int))) + (1 : Int))) + (1 : Int)))]) (y := (DGuest.mk (decide ((Int.tmod s2.2.1 (3 : Int)) = (0 : Int))) (DCore.mk v3.1 v3.2 (w64 (v3.2 + (1 : Int))) (w64 ((w64 (v3.2 + (1 : Int))) + (1 : Int))) (w64 ((w64 ((w64 (v3.2 + (1 : Int))) + (1 : Int))) + (1 : Int))) (decide ((Int.tmod (w64 ((w64 ((w64 ((w64 (v3.2 + (1 : Int))) + (1 : Int))) + (1 : Int))) + (1 : Int))) (3 : Int)) = (0 : Int))) (w64 ((w64 ((w64 ((w64 ((w64 (v3.2 + (1 : Int))) + (1 : Int))) + (1 : Int))) + (1 : Int))) + (1 : Int))) (w64 ((w64 ((w64 ((w64 ((w64 ((w64 (v3.2 + (1 : Int))) + (1 : Int))) + (1 : Int))) + (1 : Int))) + (1 : Int))) + (1 : Int))) (w64 ((w64 ((w64 ((w64 ((w64 ((w64 ((w64 (v3.2 + (1 : Int))) + (1 : Int))) + (1 : Int))) + (1 : Int))) + (1 : Int))) + (1 : Int))) + (1 : Int))) (((List.getD s2.1 (Int.toNat s2.2.2) default).C).Waits) (((List.getD s2.1 (Int.toNat s2.2.2) default).C).User) (((List.getD s2.1 (Int.toNat s2.2.2) default).C).On) (((List.getD s2.1 (Int.toNat s2.2.2) default).C).Stopped)) ((List.getD s2.1 (Int.toNat s2.2.2) default).Pages) ((List.getD s2.1 (Int.toNat s2.2.2) default).In) ((List.getD s2.1 (Int.toNat s2.2.2) default).Out))) (H' := [(0, some q10), (0, some q9)]) len_O_50 (by kernel_rfl) (by kernel_rfl) (by kernel_rfl) (by kernel_rfl) (by omega) (by first | omega | (simp only [List.length_set, List.length_append, List.length_replicate, List.length_cons, List.length_nil, List.length_take, List.length_drop, over_len] at *; omega)) (by decide) (by kernel_rfl) (by kernel_rfl) ?_)
   refine yt (sp 157 [(0, .sref 0 [] 0 (List.length s2.1) 17), (1, ii (w64 ((w64 ((w64 ((w64 ((w64 ((w64 ((w64 (v3.2 + (1 : Int))) + (1 : Int))) + (1 : Int))) + (1 : Int))) + (1 : Int))) + (1 : Int))) + (1 : Int)))), (5, ii s2.2.2)]) [(0, some q10)] 2 ?_
   refine sy [0, 1, 5] [0] (sp 157 [(0, .sref 0 [] 0 (List.length s2.1) 17), (1, ii (w64 ((w64 ((w64 ((w64 ((w64 ((w64 ((w64 ((w64 (v3.2 + (1 : Int))) + (1 : Int))) + (1 : Int))) + (1 : Int))) + (1 : Int))) + (1 : Int))) + (1 : Int))) + (1 : Int)))), (5, ii s2.2.2)]) [(0, some q10)] 2 ?_
   refine Aw.sreg [0, 1, 5] [0] ?_
   obtain ⟨hg494, hh⟩ := grd_some hh
   refine yjc 8 [(3 : Int) ≠ 0, (0 : Int) ≤ s2.2.2 ∧ s2.2.2 < (((List.length s2.1) : Nat) : Int)] (sp 157 [(0, .sref 0 [] 0 (List.length s2.1) 17), (1, ii (w64 ((w64 ((w64 ((w64 ((w64 ((w64 ((w64 ((w64 (v3.2 + (1 : Int))) + (1 : Int))) + (1 : Int))) + (1 : Int))) + (1 : Int))) + (1 : Int))) + (1 : Int))) + (1 : Int)))), (5, ii s2.2.2), (95, .sref 0 [] 0 (List.length s2.1) 17), (96, ii s2.2.2), (97, ii (w64 ((w64 ((w64 ((w64 ((w64 ((w64 ((w64 ((w64 (v3.2 + (1 : Int))) + (1 : Int))) + (1 : Int))) + (1 : Int))) + (1 : Int))) + (1 : Int))) + (1 : Int))) + (1 : Int)))), (98, ii (Int.tmod (w64 ((w64 ((w64 ((w64 ((w64 ((w64 ((w64 ((w64 (v3.2 + (1 : Int))) + (1 : Int))) + (1 : Int))) + (1 : Int))) + (1 : Int))) + (1 : Int))) + (1 : Int))) + (1 : Int))) (3 : Int))), (99, bb (decide ((Int.tmod (w64 ((w64 ((w64 ((w64 ((w64 ((w64 ((w64 ((w64 (v3.2 + (1 : Int))) + (1 : Int))) + (1 : Int))) + (1 : Int))) + (1 : Int))) + (1 : Int))) + (1 : Int))) + (1 : Int))) (3 : Int)) = (0 : Int)))), (100, .ptr 0 [] (0 + (Int.toNat s2.2.2) * 17)), (101, .ptr 0 [] (0 + (Int.toNat s2.2.2) * 17 + 1)), (102, .ptr 0 [] (0 + (Int.toNat s2.2.2) * 17 + 1 + 9))]) [(0, some q10)] 2 (.cons (by decide) (.cons hg494 .nil)) ?_
   let q11 : Root := ⟨50, (fl O_50 (List.set s2.1 (Int.toNat s2.2.2) (DGuest.mk (decide ((Int.tmod s2.2.1 (3 : Int)) = (0 : Int))) (DCore.mk v3.1 v3.2 (w64 (v3.2 + (1 : Int))) (w64 ((w64 (v3.2 + (1 : Int))) + (1 : Int))) (w64 ((w64 ((w64 (v3.2 + (1 : Int))) + (1 : Int))) + (1 : Int))) (decide ((Int.tmod (w64 ((w64 ((w64 ((w64 (v3.2 + (1 : Int))) + (1 : Int))) + (1 : Int))) + (1 : Int))) (3 : Int)) = (0 : Int))) (w64 ((w64 ((w64 ((w64 ((w64 (v3.2 + (1 : Int))) + (1 : Int))) + (1 : Int))) + (1 : Int))) + (1 : Int))) (w64 ((w64 ((w64 ((w64 ((w64 ((w64 (v3.2 + (1 : Int))) + (1 : Int))) + (1 : Int))) + (1 : Int))) + (1 : Int))) + (1 : Int))) (w64 ((w64 ((w64 ((w64 ((w64 ((w64 ((w64 (v3.2 + (1 : Int))) + (1 : Int))) + (1 : Int))) + (1 : Int))) + (1 : Int))) + (1 : Int))) + (1 : Int))) (decide ((Int.tmod (w64 ((w64 ((w64 ((w64 ((w64 ((w64 ((w64 ((w64 (v3.2 + (1 : Int))) + (1 : Int))) + (1 : Int))) + (1 : Int))) + (1 : Int))) + (1 : Int))) + (1 : Int))) + (1 : Int))) (3 : Int)) = (0 : Int))) (((List.getD s2.1 (Int.toNat s2.2.2) default).C).User) (((List.getD s2.1 (Int.toNat s2.2.2) default).C).On) (((List.getD s2.1 (Int.toNat s2.2.2) default).C).Stopped)) ((List.getD s2.1 (Int.toNat s2.2.2) default).Pages) ((List.getD s2.1 (Int.toNat s2.2.2) default).In) ((List.getD s2.1 (Int.toNat s2.2.2) default).Out))))⟩
   refine ys (.store 1 (.t 102) (.t 99)) none (op_storeE (getD_set_self (by omega)) (List.set_set ..) (c := O_50) (xs := (List.set s2.1 (Int.toNat s2.2.2) (DGuest.mk (decide ((Int.tmod s2.2.1 (3 : Int)) = (0 : Int))) (DCore.mk v3.1 v3.2 (w64 (v3.2 + (1 : Int))) (w64 ((w64 (v3.2 + (1 : Int))) + (1 : Int))) (w64 ((w64 ((w64 (v3.2 + (1 : Int))) + (1 : Int))) + (1 : Int))) (decide ((Int.tmod (w64 ((w64 ((w64 ((w64 (v3.2 + (1 : Int))) + (1 : Int))) + (1 : Int))) + (1 : Int))) (3 : Int)) = (0 : Int))) (w64 ((w64 ((w64 ((w64 ((w64 (v3.2 + (1 : Int))) + (1 : Int))) + (1 : Int))) + (1 : Int))) + (1 : Int))) (w64 ((w64 ((w64 ((w64 ((w64 ((w64 (v3.2 + (1 : Int))) + (1 : Int))) + (1 : Int))) + (1 : Int))) + (1 : Int))) + (1 : Int))) (w64 ((w64 ((w64 ((w64 ((w64 ((w64 ((w64 (v3.2 + (1 : Int))) + (1 : Int))) + (1 : Int))) + (1 : Int))) + (1 : Int))) + (1 : Int))) + (1 : Int))) (((List.getD s2.1 (Int.toNat s2.2.2) default).C).Waits) (((List.getD s2.1 (Int.toNat s2.2.2) default).C).User) (((List.getD s2.1 (Int.toNat s2.2.2) default).C).On) (((List.getD s2.1 (Int.toNat s2.2.2) default).C).Stopped)) ((List.getD s2.1 (Int.toNat s2.2.2) default).Pages) ((List.getD s2.1 (Int.toNat s2.2.2) default).In) ((List.getD s2.1 (Int.toNat s2.2.2) default).Out)))) (e := 50) (r := 0) (π := []) (o := 0 + (Int.toNat s2.2.2) * 17 + 1 + 9) (i := (Int.toNat s2.2.2)) (off := 10) (vs := [bb (decide ((Int.tmod (w64 ((w64 ((w64 ((w64 ((w64 ((w64 ((w64 ((w64 (v3.2 + (1 : Int))) + (1 : Int))) + (1 : Int))) + (1 : Int))) + (1 : Int))) + (1 : Int))) + (1 : Int))) + (1 : Int))) (3 : Int)) = (0 : Int)))]) (y := (DGuest.mk (decide ((Int.tmod s2.2.1 (3 : Int)) = (0 : Int))) (DCore.mk v3.1 v3.2 (w64 (v3.2 + (1 : Int))) (w64 ((w64 (v3.2 + (1 : Int))) + (1 : Int))) (w64 ((w64 ((w64 (v3.2 + (1 : Int))) + (1 : Int))) + (1 : Int))) (decide ((Int.tmod (w64 ((w64 ((w64 ((w64 (v3.2 + (1 : Int))) + (1 : Int))) + (1 : Int))) + (1 : Int))) (3 : Int)) = (0 : Int))) (w64 ((w64 ((w64 ((w64 ((w64 (v3.2 + (1 : Int))) + (1 : Int))) + (1 : Int))) + (1 : Int))) + (1 : Int))) (w64 ((w64 ((w64 ((w64 ((w64 ((w64 (v3.2 + (1 : Int))) + (1 : Int))) + (1 : Int))) + (1 : Int))) + (1 : Int))) + (1 : Int))) (w64 ((w64 ((w64 ((w64 ((w64 ((w64 ((w64 (v3.2 + (1 : Int))) + (1 : Int))) + (1 : Int))) + (1 : Int))) + (1 : Int))) + (1 : Int))) + (1 : Int))) (decide ((Int.tmod (w64 ((w64 ((w64 ((w64 ((w64 ((w64 ((w64 ((w64 (v3.2 + (1 : Int))) + (1 : Int))) + (1 : Int))) + (1 : Int))) + (1 : Int))) + (1 : Int))) + (1 : Int))) + (1 : Int))) (3 : Int)) = (0 : Int))) (((List.getD s2.1 (Int.toNat s2.2.2) default).C).User) (((List.getD s2.1 (Int.toNat s2.2.2) default).C).On) (((List.getD s2.1 (Int.toNat s2.2.2) default).C).Stopped)) ((List.getD s2.1 (Int.toNat s2.2.2) default).Pages) ((List.getD s2.1 (Int.toNat s2.2.2) default).In) ((List.getD s2.1 (Int.toNat s2.2.2) default).Out))) (H' := [(0, some q11), (0, some q10)]) len_O_50 (by kernel_rfl) (by kernel_rfl) (by kernel_rfl) (by kernel_rfl) (by omega) (by first | omega | (simp only [List.length_set, List.length_append, List.length_replicate, List.length_cons, List.length_nil, List.length_take, List.length_drop, over_len] at *; omega)) (by decide) (by kernel_rfl) (by kernel_rfl) ?_)
   refine yt (sp 157 [(0, .sref 0 [] 0 (List.length s2.1) 17), (1, ii (w64 ((w64 ((w64 ((w64 ((w64 ((w64 ((w64 ((w64 (v3.2 + (1 : Int))) + (1 : Int))) + (1 : Int))) + (1 : Int))) + (1 : Int))) + (1 : Int))) + (1 : Int))) + (1 : Int)))), (5, ii s2.2.2)]) [(0, some q11)] 2 ?_
   refine sy [0, 1, 5] [0] (sp 157 [(0, .sref 0 [] 0 (List.length s2.1) 17), (1, ii (w64 ((w64 ((w64 ((w64 ((w64 ((w64 ((w64 ((w64 ((w64 (v3.2 + (1 : Int))) + (1 : Int))) + (1 : Int))) + (1 : Int))) + (1 : Int))) + (1 : Int))) + (1 : Int))) + (1 : Int))) + (1 : Int)))), (5, ii s2.2.2)]) [(0, some q11)] 2 ?_
   refine Aw.sreg [0, 1, 5] [0] ?_
   obtain ⟨hg493, hh⟩ := grd_some hh
   refine yjc 8 [(3 : Int) ≠ 0, (0 : Int) ≤ s2.2.2 ∧ s2.2.2 < (((List.length s2.1) : Nat) : Int)] (sp 157 [(0, .sref 0 [] 0 (List.length s2.1) 17), (1, ii (w64 ((w64 ((w64 ((w64 ((w64 ((w64 ((w64 ((w64 ((w64 (v3.2 + (1 : Int))) + (1 : Int))) + (1 : Int))) + (1 : Int))) + (1 : Int))) + (1 : Int))) + (1 : Int))) + (1 : Int))) + (1 : Int)))), (5, ii s2.2.2), (105, .sref 0 [] 0 (List.length s2.1) 17), (106, ii s2.2.2), (107, ii (w64 ((w64 ((w64 ((w64 ((w64 ((w64 ((w64 ((w64 ((w64 (v3.2 + (1 : Int))) + (1 : Int))) + (1 : Int))) + (1 : Int))) + (1 : Int))) + (1 : Int))) + (1 : Int))) + (1 : Int))) + (1 : Int)))), (108, ii (Int.tmod (w64 ((w64 ((w64 ((w64 ((w64 ((w64 ((w64 ((w64 ((w64 (v3.2 + (1 : Int))) + (1 : Int))) + (1 : Int))) + (1 : Int))) + (1 : Int))) + (1 : Int))) + (1 : Int))) + (1 : Int))) + (1 : Int))) (3 : Int))), (109, bb (decide ((Int.tmod (w64 ((w64 ((w64 ((w64 ((w64 ((w64 ((w64 ((w64 ((w64 (v3.2 + (1 : Int))) + (1 : Int))) + (1 : Int))) + (1 : Int))) + (1 : Int))) + (1 : Int))) + (1 : Int))) + (1 : Int))) + (1 : Int))) (3 : Int)) = (0 : Int)))), (110, .ptr 0 [] (0 + (Int.toNat s2.2.2) * 17)), (111, .ptr 0 [] (0 + (Int.toNat s2.2.2) * 17 + 1)), (112, .ptr 0 [] (0 + (Int.toNat s2.2.2) * 17 + 1 + 10))]) [(0, some q11)] 2 (.cons (by decide) (.cons hg493 .nil)) ?_
   let q12 : Root := ⟨50, (fl O_50 (List.set s2.1 (Int.toNat s2.2.2) (DGuest.mk (decide ((Int.tmod s2.2.1 (3 : Int)) = (0 : Int))) (DCore.mk v3.1 v3.2 (w64 (v3.2 + (1 : Int))) (w64 ((w64 (v3.2 + (1 : Int))) + (1 : Int))) (w64 ((w64 ((w64 (v3.2 + (1 : Int))) + (1 : Int))) + (1 : Int))) (decide ((Int.tmod (w64 ((w64 ((w64 ((w64 (v3.2 + (1 : Int))) + (1 : Int))) + (1 : Int))) + (1 : Int))) (3 : Int)) = (0 : Int))) (w64 ((w64 ((w64 ((w64 ((w64 (v3.2 + (1 : Int))) + (1 : Int))) + (1 : Int))) + (1 : Int))) + (1 : Int))) (w64 ((w64 ((w64 ((w64 ((w64 ((w64 (v3.2 + (1 : Int))) + (1 : Int))) + (1 : Int))) + (1 : Int))) + (1 : Int))) + (1 : Int))) (w64 ((w64 ((w64 ((w64 ((w64 ((w64 ((w64 (v3.2 + (1 : Int))) + (1 : Int))) + (1 : Int))) + (1 : Int))) + (1 : Int))) + (1 : Int))) + (1 : Int))) (decide ((Int.tmod (w64 ((w64 ((w64 ((w64 ((w64 ((w64 ((w64 ((w64 (v3.2 + (1 : Int))) + (1 : Int))) + (1 : Int))) + (1 : Int))) + (1 : Int))) + (1 : Int))) + (1 : Int))) + (1 : Int))) (3 : Int)) = (0 : Int))) (decide ((Int.tmod (w64 ((w64 ((w64 ((w64 ((w64 ((w64 ((w64 ((w64 ((w64 (v3.2 + (1 : Int))) + (1 : Int))) + (1 : Int))) + (1 : Int))) + (1 : Int))) + (1 : Int))) + (1 : Int))) + (1 : Int))) + (1 : Int))) (3 : Int)) = (0 : Int))) (((List.getD s2.1 (Int.toNat s2.2.2) default).C).On) (((List.getD s2.1 (Int.toNat s2.2.2) default).C).Stopped)) ((List.getD s2.1 (Int.toNat s2.2.2) default).Pages) ((List.getD s2.1 (Int.toNat s2.2.2) default).In) ((List.getD s2.1 (Int.toNat s2.2.2) default).Out))))⟩
   refine ys (.store 1 (.t 112) (.t 109)) none (op_storeE (getD_set_self (by omega)) (List.set_set ..) (c := O_50) (xs := (List.set s2.1 (Int.toNat s2.2.2) (DGuest.mk (decide ((Int.tmod s2.2.1 (3 : Int)) = (0 : Int))) (DCore.mk v3.1 v3.2 (w64 (v3.2 + (1 : Int))) (w64 ((w64 (v3.2 + (1 : Int))) + (1 : Int))) (w64 ((w64 ((w64 (v3.2 + (1 : Int))) + (1 : Int))) + (1 : Int))) (decide ((Int.tmod (w64 ((w64 ((w64 ((w64 (v3.2 + (1 : Int))) + (1 : Int))) + (1 : Int))) + (1 : Int))) (3 : Int)) = (0 : Int))) (w64 ((w64 ((w64 ((w64 ((w64 (v3.2 + (1 : Int))) + (1 : Int))) + (1 : Int))) + (1 : Int))) + (1 : Int))) (w64 ((w64 ((w64 ((w64 ((w64 ((w64 (v3.2 + (1 : Int))) + (1 : Int))) + (1 : Int))) + (1 : Int))) + (1 : Int))) + (1 : Int))) (w64 ((w64 ((w64 ((w64 ((w64 ((w64 ((w64 (v3.2 + (1 : Int))) + (1 : Int))) + (1 : Int))) + (1 : Int))) + (1 : Int))) + (1 : Int))) + (1 : Int))) (decide ((Int.tmod (w64 ((w64 ((w64 ((w64 ((w64 ((w64 ((w64 ((w64 (v3.2 + (1 : Int))) + (1 : Int))) + (1 : Int))) + (1 : Int))) + (1 : Int))) + (1 : Int))) + (1 : Int))) + (1 : Int))) (3 : Int)) = (0 : Int))) (((List.getD s2.1 (Int.toNat s2.2.2) default).C).User) (((List.getD s2.1 (Int.toNat s2.2.2) default).C).On) (((List.getD s2.1 (Int.toNat s2.2.2) default).C).Stopped)) ((List.getD s2.1 (Int.toNat s2.2.2) default).Pages) ((List.getD s2.1 (Int.toNat s2.2.2) default).In) ((List.getD s2.1 (Int.toNat s2.2.2) default).Out)))) (e := 50) (r := 0) (π := []) (o := 0 + (Int.toNat s2.2.2) * 17 + 1 + 10) (i := (Int.toNat s2.2.2)) (off := 11) (vs := [bb (decide ((Int.tmod (w64 ((w64 ((w64 ((w64 ((w64 ((w64 ((w64 ((w64 ((w64 (v3.2 + (1 : Int))) + (1 : Int))) + (1 : Int))) + (1 : Int))) + (1 : Int))) + (1 : Int))) + (1 : Int))) + (1 : Int))) + (1 : Int))) (3 : Int)) = (0 : Int)))]) (y := (DGuest.mk (decide ((Int.tmod s2.2.1 (3 : Int)) = (0 : Int))) (DCore.mk v3.1 v3.2 (w64 (v3.2 + (1 : Int))) (w64 ((w64 (v3.2 + (1 : Int))) + (1 : Int))) (w64 ((w64 ((w64 (v3.2 + (1 : Int))) + (1 : Int))) + (1 : Int))) (decide ((Int.tmod (w64 ((w64 ((w64 ((w64 (v3.2 + (1 : Int))) + (1 : Int))) + (1 : Int))) + (1 : Int))) (3 : Int)) = (0 : Int))) (w64 ((w64 ((w64 ((w64 ((w64 (v3.2 + (1 : Int))) + (1 : Int))) + (1 : Int))) + (1 : Int))) + (1 : Int))) (w64 ((w64 ((w64 ((w64 ((w64 ((w64 (v3.2 + (1 : Int))) + (1 : Int))) + (1 : Int))) + (1 : Int))) + (1 : Int))) + (1 : Int))) (w64 ((w64 ((w64 ((w64 ((w64 ((w64 ((w64 (v3.2 + (1 : Int))) + (1 : Int))) + (1 : Int))) + (1 : Int))) + (1 : Int))) + (1 : Int))) + (1 : Int))) (decide ((Int.tmod (w64 ((w64 ((w64 ((w64 ((w64 ((w64 ((w64 ((w64 (v3.2 + (1 : Int))) + (1 : Int))) + (1 : Int))) + (1 : Int))) + (1 : Int))) + (1 : Int))) + (1 : Int))) + (1 : Int))) (3 : Int)) = (0 : Int))) (decide ((Int.tmod (w64 ((w64 ((w64 ((w64 ((w64 ((w64 ((w64 ((w64 ((w64 (v3.2 + (1 : Int))) + (1 : Int))) + (1 : Int))) + (1 : Int))) + (1 : Int))) + (1 : Int))) + (1 : Int))) + (1 : Int))) + (1 : Int))) (3 : Int)) = (0 : Int))) (((List.getD s2.1 (Int.toNat s2.2.2) default).C).On) (((List.getD s2.1 (Int.toNat s2.2.2) default).C).Stopped)) ((List.getD s2.1 (Int.toNat s2.2.2) default).Pages) ((List.getD s2.1 (Int.toNat s2.2.2) default).In) ((List.getD s2.1 (Int.toNat s2.2.2) default).Out))) (H' := [(0, some q12), (0, some q11)]) len_O_50 (by kernel_rfl) (by kernel_rfl) (by kernel_rfl) (by kernel_rfl) (by omega) (by first | omega | (simp only [List.length_set, List.length_append, List.length_replicate, List.length_cons, List.length_nil, List.length_take, List.length_drop, over_len] at *; omega)) (by decide) (by kernel_rfl) (by kernel_rfl) ?_)
   refine yt (sp 157 [(0, .sref 0 [] 0 (List.length s2.1) 17), (1, ii (w64 ((w64 ((w64 ((w64 ((w64 ((w64 ((w64 ((w64 ((w64 (v3.2 + (1 : Int))) + (1 : Int))) + (1 : Int))) + (1 : Int))) + (1 : Int))) + (1 : Int))) + (1 : Int))) + (1 : Int))) + (1 : Int)))), (5, ii s2.2.2)]) [(0, some q12)] 2 ?_
   refine sy [0, 1, 5] [0] (sp 157 [(0, .sref 0 [] 0 (List.length s2.1) 17), (1, ii (w64 ((w64 ((w64 ((w64 ((w64 ((w64 ((w64 ((w64 ((w64 ((w64 (v3.2 + (1 : Int))) + (1 : Int))) + (1 : Int))) + (1 : Int))) + (1 : Int))) + (1 : Int))) + (1 : Int))) + (1 : Int))) + (1 : Int))) + (1 : Int)))), (5, ii s2.2.2)]) [(0, some q12)] 2 ?_
   refine Aw.sreg [0, 1, 5] [0] ?_
   obtain ⟨hg492, hh⟩ := grd_some hh
   refine yjc 8 [(3 : Int) ≠ 0, (0 : Int) ≤ s2.2.2 ∧ s2.2.2 < (((List.length s2.1) : Nat) : Int)] (sp 157 [(0, .sref 0 [] 0 (List.length s2.1) 17), (1, ii (w64 ((w64 ((w64 ((w64 ((w64 ((w64 ((w64 ((w64 ((w64 ((w64 (v3.2 + (1 : Int))) + (1 : Int))) + (1 : Int))) + (1 : Int))) + (1 : Int))) + (1 : Int))) + (1 : Int))) + (1 : Int))) + (1 : Int))) + (1 : Int)))), (5, ii s2.2.2), (115, .sref 0 [] 0 (List.length s2.1) 17), (116, ii s2.2.2), (117, ii (w64 ((w64 ((w64 ((w64 ((w64 ((w64 ((w64 ((w64 ((w64 ((w64 (v3.2 + (1 : Int))) + (1 : Int))) + (1 : Int))) + (1 : Int))) + (1 : Int))) + (1 : Int))) + (1 : Int))) + (1 : Int))) + (1 : Int))) + (1 : Int)))), (118, ii (Int.tmod (w64 ((w64 ((w64 ((w64 ((w64 ((w64 ((w64 ((w64 ((w64 ((w64 (v3.2 + (1 : Int))) + (1 : Int))) + (1 : Int))) + (1 : Int))) + (1 : Int))) + (1 : Int))) + (1 : Int))) + (1 : Int))) + (1 : Int))) + (1 : Int))) (3 : Int))), (119, bb (decide ((Int.tmod (w64 ((w64 ((w64 ((w64 ((w64 ((w64 ((w64 ((w64 ((w64 ((w64 (v3.2 + (1 : Int))) + (1 : Int))) + (1 : Int))) + (1 : Int))) + (1 : Int))) + (1 : Int))) + (1 : Int))) + (1 : Int))) + (1 : Int))) + (1 : Int))) (3 : Int)) = (0 : Int)))), (120, .ptr 0 [] (0 + (Int.toNat s2.2.2) * 17)), (121, .ptr 0 [] (0 + (Int.toNat s2.2.2) * 17 + 1)), (122, .ptr 0 [] (0 + (Int.toNat s2.2.2) * 17 + 1 + 11))]) [(0, some q12)] 2 (.cons (by decide) (.cons hg492 .nil)) ?_
   let q13 : Root := ⟨50, (fl O_50 (List.set s2.1 (Int.toNat s2.2.2) (DGuest.mk (decide ((Int.tmod s2.2.1 (3 : Int)) = (0 : Int))) (DCore.mk v3.1 v3.2 (w64 (v3.2 + (1 : Int))) (w64 ((w64 (v3.2 + (1 : Int))) + (1 : Int))) (w64 ((w64 ((w64 (v3.2 + (1 : Int))) + (1 : Int))) + (1 : Int))) (decide ((Int.tmod (w64 ((w64 ((w64 ((w64 (v3.2 + (1 : Int))) + (1 : Int))) + (1 : Int))) + (1 : Int))) (3 : Int)) = (0 : Int))) (w64 ((w64 ((w64 ((w64 ((w64 (v3.2 + (1 : Int))) + (1 : Int))) + (1 : Int))) + (1 : Int))) + (1 : Int))) (w64 ((w64 ((w64 ((w64 ((w64 ((w64 (v3.2 + (1 : Int))) + (1 : Int))) + (1 : Int))) + (1 : Int))) + (1 : Int))) + (1 : Int))) (w64 ((w64 ((w64 ((w64 ((w64 ((w64 ((w64 (v3.2 + (1 : Int))) + (1 : Int))) + (1 : Int))) + (1 : Int))) + (1 : Int))) + (1 : Int))) + (1 : Int))) (decide ((Int.tmod (w64 ((w64 ((w64 ((w64 ((w64 ((w64 ((w64 ((w64 (v3.2 + (1 : Int))) + (1 : Int))) + (1 : Int))) + (1 : Int))) + (1 : Int))) + (1 : Int))) + (1 : Int))) + (1 : Int))) (3 : Int)) = (0 : Int))) (decide ((Int.tmod (w64 ((w64 ((w64 ((w64 ((w64 ((w64 ((w64 ((w64 ((w64 (v3.2 + (1 : Int))) + (1 : Int))) + (1 : Int))) + (1 : Int))) + (1 : Int))) + (1 : Int))) + (1 : Int))) + (1 : Int))) + (1 : Int))) (3 : Int)) = (0 : Int))) (decide ((Int.tmod (w64 ((w64 ((w64 ((w64 ((w64 ((w64 ((w64 ((w64 ((w64 ((w64 (v3.2 + (1 : Int))) + (1 : Int))) + (1 : Int))) + (1 : Int))) + (1 : Int))) + (1 : Int))) + (1 : Int))) + (1 : Int))) + (1 : Int))) + (1 : Int))) (3 : Int)) = (0 : Int))) (((List.getD s2.1 (Int.toNat s2.2.2) default).C).Stopped)) ((List.getD s2.1 (Int.toNat s2.2.2) default).Pages) ((List.getD s2.1 (Int.toNat s2.2.2) default).In) ((List.getD s2.1 (Int.toNat s2.2.2) default).Out))))⟩
   refine ys (.store 1 (.t 122) (.t 119)) none (op_storeE (getD_set_self (by omega)) (List.set_set ..) (c := O_50) (xs := (List.set s2.1 (Int.toNat s2.2.2) (DGuest.mk (decide ((Int.tmod s2.2.1 (3 : Int)) = (0 : Int))) (DCore.mk v3.1 v3.2 (w64 (v3.2 + (1 : Int))) (w64 ((w64 (v3.2 + (1 : Int))) + (1 : Int))) (w64 ((w64 ((w64 (v3.2 + (1 : Int))) + (1 : Int))) + (1 : Int))) (decide ((Int.tmod (w64 ((w64 ((w64 ((w64 (v3.2 + (1 : Int))) + (1 : Int))) + (1 : Int))) + (1 : Int))) (3 : Int)) = (0 : Int))) (w64 ((w64 ((w64 ((w64 ((w64 (v3.2 + (1 : Int))) + (1 : Int))) + (1 : Int))) + (1 : Int))) + (1 : Int))) (w64 ((w64 ((w64 ((w64 ((w64 ((w64 (v3.2 + (1 : Int))) + (1 : Int))) + (1 : Int))) + (1 : Int))) + (1 : Int))) + (1 : Int))) (w64 ((w64 ((w64 ((w64 ((w64 ((w64 ((w64 (v3.2 + (1 : Int))) + (1 : Int))) + (1 : Int))) + (1 : Int))) + (1 : Int))) + (1 : Int))) + (1 : Int))) (decide ((Int.tmod (w64 ((w64 ((w64 ((w64 ((w64 ((w64 ((w64 ((w64 (v3.2 + (1 : Int))) + (1 : Int))) + (1 : Int))) + (1 : Int))) + (1 : Int))) + (1 : Int))) + (1 : Int))) + (1 : Int))) (3 : Int)) = (0 : Int))) (decide ((Int.tmod (w64 ((w64 ((w64 ((w64 ((w64 ((w64 ((w64 ((w64 ((w64 (v3.2 + (1 : Int))) + (1 : Int))) + (1 : Int))) + (1 : Int))) + (1 : Int))) + (1 : Int))) + (1 : Int))) + (1 : Int))) + (1 : Int))) (3 : Int)) = (0 : Int))) (((List.getD s2.1 (Int.toNat s2.2.2) default).C).On) (((List.getD s2.1 (Int.toNat s2.2.2) default).C).Stopped)) ((List.getD s2.1 (Int.toNat s2.2.2) default).Pages) ((List.getD s2.1 (Int.toNat s2.2.2) default).In) ((List.getD s2.1 (Int.toNat s2.2.2) default).Out)))) (e := 50) (r := 0) (π := []) (o := 0 + (Int.toNat s2.2.2) * 17 + 1 + 11) (i := (Int.toNat s2.2.2)) (off := 12) (vs := [bb (decide ((Int.tmod (w64 ((w64 ((w64 ((w64 ((w64 ((w64 ((w64 ((w64 ((w64 ((w64 (v3.2 + (1 : Int))) + (1 : Int))) + (1 : Int))) + (1 : Int))) + (1 : Int))) + (1 : Int))) + (1 : Int))) + (1 : Int))) + (1 : Int))) + (1 : Int))) (3 : Int)) = (0 : Int)))]) (y := (DGuest.mk (decide ((Int.tmod s2.2.1 (3 : Int)) = (0 : Int))) (DCore.mk v3.1 v3.2 (w64 (v3.2 + (1 : Int))) (w64 ((w64 (v3.2 + (1 : Int))) + (1 : Int))) (w64 ((w64 ((w64 (v3.2 + (1 : Int))) + (1 : Int))) + (1 : Int))) (decide ((Int.tmod (w64 ((w64 ((w64 ((w64 (v3.2 + (1 : Int))) + (1 : Int))) + (1 : Int))) + (1 : Int))) (3 : Int)) = (0 : Int))) (w64 ((w64 ((w64 ((w64 ((w64 (v3.2 + (1 : Int))) + (1 : Int))) + (1 : Int))) + (1 : Int))) + (1 : Int))) (w64 ((w64 ((w64 ((w64 ((w64 ((w64 (v3.2 + (1 : Int))) + (1 : Int))) + (1 : Int))) + (1 : Int))) + (1 : Int))) + (1 : Int))) (w64 ((w64 ((w64 ((w64 ((w64 ((w64 ((w64 (v3.2 + (1 : Int))) + (1 : Int))) + (1 : Int))) + (1 : Int))) + (1 : Int))) + (1 : Int))) + (1 : Int))) (decide ((Int.tmod (w64 ((w64 ((w64 ((w64 ((w64 ((w64 ((w64 ((w64 (v3.2 + (1 : Int))) + (1 : Int))) + (1 : Int))) + (1 : Int))) + (1 : Int))) + (1 : Int))) + (1 : Int))) + (1 : Int))) (3 : Int)) = (0 : Int))) (decide ((Int.tmod (w64 ((w64 ((w64 ((w64 ((w64 ((w64 ((w64 ((w64 ((w64 (v3.2 + (1 : Int))) + (1 : Int))) + (1 : Int))) + (1 : Int))) + (1 : Int))) + (1 : Int))) + (1 : Int))) + (1 : Int))) + (1 : Int))) (3 : Int)) = (0 : Int))) (decide ((Int.tmod (w64 ((w64 ((w64 ((w64 ((w64 ((w64 ((w64 ((w64 ((w64 ((w64 (v3.2 + (1 : Int))) + (1 : Int))) + (1 : Int))) + (1 : Int))) + (1 : Int))) + (1 : Int))) + (1 : Int))) + (1 : Int))) + (1 : Int))) + (1 : Int))) (3 : Int)) = (0 : Int))) (((List.getD s2.1 (Int.toNat s2.2.2) default).C).Stopped)) ((List.getD s2.1 (Int.toNat s2.2.2) default).Pages) ((List.getD s2.1 (Int.toNat s2.2.2) default).In) ((List.getD s2.1 (Int.toNat s2.2.2) default).Out))) (H' := [(0, some q13), (0, some q12)]) len_O_50 (by kernel_rfl) (by kernel_rfl) (by kernel_rfl) (by kernel_rfl) (by omega) (by first | omega | (simp only [List.length_set, List.length_append, List.length_replicate, List.length_cons, List.length_nil, List.length_take, List.length_drop, over_len] at *; omega)) (by decide) (by kernel_rfl) (by kernel_rfl) ?_)
   refine yt (sp 157 [(0, .sref 0 [] 0 (List.length s2.1) 17), (1, ii (w64 ((w64 ((w64 ((w64 ((w64 ((w64 ((w64 ((w64 ((w64 ((w64 (v3.2 + (1 : Int))) + (1 : Int))) + (1 : Int))) + (1 : Int))) + (1 : Int))) + (1 : Int))) + (1 : Int))) + (1 : Int))) + (1 : Int))) + (1 : Int)))), (5, ii s2.2.2)]) [(0, some q13)] 2 ?_
   refine sy [0, 1, 5] [0] (sp 157 [(0, .sref 0 [] 0 (List.length s2.1) 17), (1, ii (w64 ((w64 ((w64 ((w64 ((w64 ((w64 ((w64 ((w64 ((w64 ((w64 ((w64 (v3.2 + (1 : Int))) + (1 : Int))) + (1 : Int))) + (1 : Int))) + (1 : Int))) + (1 : Int))) + (1 : Int))) + (1 : Int))) + (1 : Int))) + (1 : Int))) + (1 : Int)))), (5, ii s2.2.2)]) [(0, some q13)] 2 ?_
   refine Aw.sreg [0, 1, 5] [0] ?_
   obtain ⟨hg491, hh⟩ := grd_some hh
   refine yjc 8 [(3 : Int) ≠ 0, (0 : Int) ≤ s2.2.2 ∧ s2.2.2 < (((List.length s2.1) : Nat) : Int)] (sp 157 [(0, .sref 0 [] 0 (List.length s2.1) 17), (1, ii (w64 ((w64 ((w64 ((w64 ((w64 ((w64 ((w64 ((w64 ((w64 ((w64 ((w64 (v3.2 + (1 : Int))) + (1 : Int))) + (1 : Int))) + (1 : Int))) + (1 : Int))) + (1 : Int))) + (1 : Int))) + (1 : Int))) + (1 : Int))) + (1 : Int))) + (1 : Int)))), (5, ii s2.2.2), (125, .sref 0 [] 0 (List.length s2.1) 17), (126, ii s2.2.2), (127, ii (w64 ((w64 ((w64 ((w64 ((w64 ((w64 ((w64 ((w64 ((w64 ((w64 ((w64 (v3.2 + (1 : Int))) + (1 : Int))) + (1 : Int))) + (1 : Int))) + (1 : Int))) + (1 : Int))) + (1 : Int))) + (1 : Int))) + (1 : Int))) + (1 : Int))) + (1 : Int)))), (128, ii (Int.tmod (w64 ((w64 ((w64 ((w64 ((w64 ((w64 ((w64 ((w64 ((w64 ((w64 ((w64 (v3.2 + (1 : Int))) + (1 : Int))) + (1 : Int))) + (1 : Int))) + (1 : Int))) + (1 : Int))) + (1 : Int))) + (1 : Int))) + (1 : Int))) + (1 : Int))) + (1 : Int))) (3 : Int))), (129, bb (decide ((Int.tmod (w64 ((w64 ((w64 ((w64 ((w64 ((w64 ((w64 ((w64 ((w64 ((w64 ((w64 (v3.2 + (1 : Int))) + (1 : Int))) + (1 : Int))) + (1 : Int))) + (1 : Int))) + (1 : Int))) + (1 : Int))) + (1 : Int))) + (1 : Int))) + (1 : Int))) + (1 : Int))) (3 : Int)) = (0 : Int)))), (130, .ptr 0 [] (0 + (Int.toNat s2.2.2) * 17)), (131, .ptr 0 [] (0 + (Int.toNat s2.2.2) * 17 + 1)), (132, .ptr 0 [] (0 + (Int.toNat s2.2.2) * 17 + 1 + 12))]) [(0, some q13)] 2 (.cons (by decide) (.cons hg491 .nil)) ?_
   let q14 : Root := ⟨50, (fl O_50 (List.set s2.1 (Int.toNat s2.2.2) (DGuest.mk (decide ((Int.tmod s2.2.1 (3 : Int)) = (0 : Int))) (DCore.mk v3.1 v3.2 (w64 (v3.2 + (1 : Int))) (w64 ((w64 (v3.2 + (1 : Int))) + (1 : Int))) (w64 ((w64 ((w64 (v3.2 + (1 : Int))) + (1 : Int))) + (1 : Int))) (decide ((Int.tmod (w64 ((w64 ((w64 ((w64 (v3.2 + (1 : Int))) + (1 : Int))) + (1 : Int))) + (1 : Int))) (3 : Int)) = (0 : Int))) (w64 ((w64 ((w64 ((w64 ((w64 (v3.2 + (1 : Int))) + (1 : Int))) + (1 : Int))) + (1 : Int))) + (1 : Int))) (w64 ((w64 ((w64 ((w64 ((w64 ((w64 (v3.2 + (1 : Int))) + (1 : Int))) + (1 : Int))) + (1 : Int))) + (1 : Int))) + (1 : Int))) (w64 ((w64 ((w64 ((w64 ((w64 ((w64 ((w64 (v3.2 + (1 : Int))) + (1 : Int))) + (1 : Int))) + (1 : Int))) + (1 : Int))) + (1 : Int))) + (1 : Int))) (decide ((Int.tmod (w64 ((w64 ((w64 ((w64 ((w64 ((w64 ((w64 ((w64 (v3.2 + (1 : Int))) + (1 : Int))) + (1 : Int))) + (1 : Int))) + (1 : Int))) + (1 : Int))) + (1 : Int))) + (1 : Int))) (3 : Int)) = (0 : Int))) (decide ((Int.tmod (w64 ((w64 ((w64 ((w64 ((w64 ((w64 ((w64 ((w64 ((w64 (v3.2 + (1 : Int))) + (1 : Int))) + (1 : Int))) + (1 : Int))) + (1 : Int))) + (1 : Int))) + (1 : Int))) + (1 : Int))) + (1 : Int))) (3 : Int)) = (0 : Int))) (decide ((Int.tmod (w64 ((w64 ((w64 ((w64 ((w64 ((w64 ((w64 ((w64 ((w64 ((w64 (v3.2 + (1 : Int))) + (1 : Int))) + (1 : Int))) + (1 : Int))) + (1 : Int))) + (1 : Int))) + (1 : Int))) + (1 : Int))) + (1 : Int))) + (1 : Int))) (3 : Int)) = (0 : Int))) (decide ((Int.tmod (w64 ((w64 ((w64 ((w64 ((w64 ((w64 ((w64 ((w64 ((w64 ((w64 ((w64 (v3.2 + (1 : Int))) + (1 : Int))) + (1 : Int))) + (1 : Int))) + (1 : Int))) + (1 : Int))) + (1 : Int))) + (1 : Int))) + (1 : Int))) + (1 : Int))) + (1 : Int))) (3 : Int)) = (0 : Int)))) ((List.getD s2.1 (Int.toNat s2.2.2) default).Pages) ((List.getD s2.1 (Int.toNat s2.2.2) default).In) ((List.getD s2.1 (Int.toNat s2.2.2) default).Out))))⟩
   refine ys (.store 1 (.t 132) (.t 129)) none (op_storeE (getD_set_self (by omega)) (List.set_set ..) (c := O_50) (xs := (List.set s2.1 (Int.toNat s2.2.2) (DGuest.mk (decide ((Int.tmod s2.2.1 (3 : Int)) = (0 : Int))) (DCore.mk v3.1 v3.2 (w64 (v3.2 + (1 : Int))) (w64 ((w64 (v3.2 + (1 : Int))) + (1 : Int))) (w64 ((w64 ((w64 (v3.2 + (1 : Int))) + (1 : Int))) + (1 : Int))) (decide ((Int.tmod (w64 ((w64 ((w64 ((w64 (v3.2 + (1 : Int))) + (1 : Int))) + (1 : Int))) + (1 : Int))) (3 : Int)) = (0 : Int))) (w64 ((w64 ((w64 ((w64 ((w64 (v3.2 + (1 : Int))) + (1 : Int))) + (1 : Int))) + (1 : Int))) + (1 : Int))) (w64 ((w64 ((w64 ((w64 ((w64 ((w64 (v3.2 + (1 : Int))) + (1 : Int))) + (1 : Int))) + (1 : Int))) + (1 : Int))) + (1 : Int))) (w64 ((w64 ((w64 ((w64 ((w64 ((w64 ((w64 (v3.2 + (1 : Int))) + (1 : Int))) + (1 : Int))) + (1 : Int))) + (1 : Int))) + (1 : Int))) + (1 : Int))) (decide ((Int.tmod (w64 ((w64 ((w64 ((w64 ((w64 ((w64 ((w64 ((w64 (v3.2 + (1 : Int))) + (1 : Int))) + (1 : Int))) + (1 : Int))) + (1 : Int))) + (1 : Int))) + (1 : Int))) + (1 : Int))) (3 : Int)) = (0 : Int))) (decide ((Int.tmod (w64 ((w64 ((w64 ((w64 ((w64 ((w64 ((w64 ((w64 ((w64 (v3.2 + (1 : Int))) + (1 : Int))) + (1 : Int))) + (1 : Int))) + (1 : Int))) + (1 : Int))) + (1 : Int))) + (1 : Int))) + (1 : Int))) (3 : Int)) = (0 : Int))) (decide ((Int.tmod (w64 ((w64 ((w64 ((w64 ((w64 ((w64 ((w64 ((w64 ((w64 ((w64 (v3.2 + (1 : Int))) + (1 : Int))) + (1 : Int))) + (1 : Int))) + (1 : Int))) + (1 : Int))) + (1 : Int))) + (1 : Int))) + (1 : Int))) + (1 : Int))) (3 : Int)) = (0 : Int))) (((List.getD s2.1 (Int.toNat s2.2.2) default).C).Stopped)) ((List.getD s2.1 (Int.toNat s2.2.2) default).Pages) ((List.getD s2.1 (Int.toNat s2.2.2) default).In) ((List.getD s2.1 (Int.toNat s2.2.2) default).Out)))) (e := 50) (r := 0) (π := []) (o := 0 + (Int.toNat s2.2.2) * 17 + 1 + 12) (i := (Int.toNat s2.2.2)) (off := 13) (vs := [bb (decide ((Int.tmod (w64 ((w64 ((w64 ((w64 ((w64 ((w64 ((w64 ((w64 ((w64 ((w64 ((w64 (v3.2 + (1 : Int))) + (1 : Int))) + (1 : Int))) + (1 : Int))) + (1 : Int))) + (1 : Int))) + (1 : Int))) + (1 : Int))) + (1 : Int))) + (1 : Int))) + (1 : Int))) (3 : Int)) = (0 : Int)))]) (y := (DGuest.mk (decide ((Int.tmod s2.2.1 (3 : Int)) = (0 : Int))) (DCore.mk v3.1 v3.2 (w64 (v3.2 + (1 : Int))) (w64 ((w64 (v3.2 + (1 : Int))) + (1 : Int))) (w64 ((w64 ((w64 (v3.2 + (1 : Int))) + (1 : Int))) + (1 : Int))) (decide ((Int.tmod (w64 ((w64 ((w64 ((w64 (v3.2 + (1 : Int))) + (1 : Int))) + (1 : Int))) + (1 : Int))) (3 : Int)) = (0 : Int))) (w64 ((w64 ((w64 ((w64 ((w64 (v3.2 + (1 : Int))) + (1 : Int))) + (1 : Int))) + (1 : Int))) + (1 : Int))) (w64 ((w64 ((w64 ((w64 ((w64 ((w64 (v3.2 + (1 : Int))) + (1 : Int))) + (1 : Int))) + (1 : Int))) + (1 : Int))) + (1 : Int))) (w64 ((w64 ((w64 ((w64 ((w64 ((w64 ((w64 (v3.2 + (1 : Int))) + (1 : Int))) + (1 : Int))) + (1 : Int))) + (1 : Int))) + (1 : Int))) + (1 : Int))) (decide ((Int.tmod (w64 ((w64 ((w64 ((w64 ((w64 ((w64 ((w64 ((w64 (v3.2 + (1 : Int))) + (1 : Int))) + (1 : Int))) + (1 : Int))) + (1 : Int))) + (1 : Int))) + (1 : Int))) + (1 : Int))) (3 : Int)) = (0 : Int))) (decide ((Int.tmod (w64 ((w64 ((w64 ((w64 ((w64 ((w64 ((w64 ((w64 ((w64 (v3.2 + (1 : Int))) + (1 : Int))) + (1 : Int))) + (1 : Int))) + (1 : Int))) + (1 : Int))) + (1 : Int))) + (1 : Int))) + (1 : Int))) (3 : Int)) = (0 : Int))) (decide ((Int.tmod (w64 ((w64 ((w64 ((w64 ((w64 ((w64 ((w64 ((w64 ((w64 ((w64 (v3.2 + (1 : Int))) + (1 : Int))) + (1 : Int))) + (1 : Int))) + (1 : Int))) + (1 : Int))) + (1 : Int))) + (1 : Int))) + (1 : Int))) + (1 : Int))) (3 : Int)) = (0 : Int))) (decide ((Int.tmod (w64 ((w64 ((w64 ((w64 ((w64 ((w64 ((w64 ((w64 ((w64 ((w64 ((w64 (v3.2 + (1 : Int))) + (1 : Int))) + (1 : Int))) + (1 : Int))) + (1 : Int))) + (1 : Int))) + (1 : Int))) + (1 : Int))) + (1 : Int))) + (1 : Int))) + (1 : Int))) (3 : Int)) = (0 : Int)))) ((List.getD s2.1 (Int.toNat s2.2.2) default).Pages) ((List.getD s2.1 (Int.toNat s2.2.2) default).In) ((List.getD s2.1 (Int.toNat s2.2.2) default).Out))) (H' := [(0, some q14), (0, some q13)]) len_O_50 (by kernel_rfl) (by kernel_rfl) (by kernel_rfl) (by kernel_rfl) (by omega) (by first | omega | (simp only [List.length_set, List.length_append, List.length_replicate, List.length_cons, List.length_nil, List.length_take, List.length_drop, over_len] at *; omega)) (by decide) (by kernel_rfl) (by kernel_rfl) ?_)
   refine yt (sp 157 [(0, .sref 0 [] 0 (List.length s2.1) 17), (1, ii (w64 ((w64 ((w64 ((w64 ((w64 ((w64 ((w64 ((w64 ((w64 ((w64 ((w64 (v3.2 + (1 : Int))) + (1 : Int))) + (1 : Int))) + (1 : Int))) + (1 : Int))) + (1 : Int))) + (1 : Int))) + (1 : Int))) + (1 : Int))) + (1 : Int))) + (1 : Int)))), (5, ii s2.2.2)]) [(0, some q14)] 2 ?_
   refine sy [0, 1, 5] [0] (sp 157 [(0, .sref 0 [] 0 (List.length s2.1) 17), (1, ii (w64 ((w64 ((w64 ((w64 ((w64 ((w64 ((w64 ((w64 ((w64 ((w64 ((w64 ((w64 (v3.2 + (1 : Int))) + (1 : Int))) + (1 : Int))) + (1 : Int))) + (1 : Int))) + (1 : Int))) + (1 : Int))) + (1 : Int))) + (1 : Int))) + (1 : Int))) + (1 : Int))) + (1 : Int)))), (5, ii s2.2.2)]) [(0, some q14)] 2 ?_
   refine Aw.sreg [0, 1, 5] [0] ?_
   obtain ⟨hg490, hh⟩ := grd_some hh
   refine yjc 4 [(0 : Int) ≤ s2.2.2 ∧ s2.2.2 < (((List.length s2.1) : Nat) : Int)] (sp 157 [(0, .sref 0 [] 0 (List.length s2.1) 17), (1, ii (w64 ((w64 ((w64 ((w64 ((w64 ((w64 ((w64 ((w64 ((w64 ((w64 ((w64 ((w64 (v3.2 + (1 : Int))) + (1 : Int))) + (1 : Int))) + (1 : Int))) + (1 : Int))) + (1 : Int))) + (1 : Int))) + (1 : Int))) + (1 : Int))) + (1 : Int))) + (1 : Int))) + (1 : Int)))), (5, ii s2.2.2), (135, .sref 0 [] 0 (List.length s2.1) 17), (136, ii s2.2.2), (137, .ptr 0 [] (0 + (Int.toNat s2.2.2) * 17)), (138, .ptr 0 [] (0 + (Int.toNat s2.2.2) * 17 + 14))]) [(0, some q14)] 2 (.cons hg490 .nil) ?_
   refine ys (.load false 1 (.t 138)) (some 139) (op_loadE (getD_set_self (by omega)) (c := O_50) (xs := (List.set s2.1 (Int.toNat s2.2.2) (DGuest.mk (decide ((Int.tmod s2.2.1 (3 : Int)) = (0 : Int))) (DCore.mk v3.1 v3.2 (w64 (v3.2 + (1 : Int))) (w64 ((w64 (v3.2 + (1 : Int))) + (1 : Int))) (w64 ((w64 ((w64 (v3.2 + (1 : Int))) + (1 : Int))) + (1 : Int))) (decide ((Int.tmod (w64 ((w64 ((w64 ((w64 (v3.2 + (1 : Int))) + (1 : Int))) + (1 : Int))) + (1 : Int))) (3 : Int)) = (0 : Int))) (w64 ((w64 ((w64 ((w64 ((w64 (v3.2 + (1 : Int))) + (1 : Int))) + (1 : Int))) + (1 : Int))) + (1 : Int))) (w64 ((w64 ((w64 ((w64 ((w64 ((w64 (v3.2 + (1 : Int))) + (1 : Int))) + (1 : Int))) + (1 : Int))) + (1 : Int))) + (1 : Int))) (w64 ((w64 ((w64 ((w64 ((w64 ((w64 ((w64 (v3.2 + (1 : Int))) + (1 : Int))) + (1 : Int))) + (1 : Int))) + (1 : Int))) + (1 : Int))) + (1 : Int))) (decide ((Int.tmod (w64 ((w64 ((w64 ((w64 ((w64 ((w64 ((w64 ((w64 (v3.2 + (1 : Int))) + (1 : Int))) + (1 : Int))) + (1 : Int))) + (1 : Int))) + (1 : Int))) + (1 : Int))) + (1 : Int))) (3 : Int)) = (0 : Int))) (decide ((Int.tmod (w64 ((w64 ((w64 ((w64 ((w64 ((w64 ((w64 ((w64 ((w64 (v3.2 + (1 : Int))) + (1 : Int))) + (1 : Int))) + (1 : Int))) + (1 : Int))) + (1 : Int))) + (1 : Int))) + (1 : Int))) + (1 : Int))) (3 : Int)) = (0 : Int))) (decide ((Int.tmod (w64 ((w64 ((w64 ((w64 ((w64 ((w64 ((w64 ((w64 ((w64 ((w64 (v3.2 + (1 : Int))) + (1 : Int))) + (1 : Int))) + (1 : Int))) + (1 : Int))) + (1 : Int))) + (1 : Int))) + (1 : Int))) + (1 : Int))) + (1 : Int))) (3 : Int)) = (0 : Int))) (decide ((Int.tmod (w64 ((w64 ((w64 ((w64 ((w64 ((w64 ((w64 ((w64 ((w64 ((w64 ((w64 (v3.2 + (1 : Int))) + (1 : Int))) + (1 : Int))) + (1 : Int))) + (1 : Int))) + (1 : Int))) + (1 : Int))) + (1 : Int))) + (1 : Int))) + (1 : Int))) + (1 : Int))) (3 : Int)) = (0 : Int)))) ((List.getD s2.1 (Int.toNat s2.2.2) default).Pages) ((List.getD s2.1 (Int.toNat s2.2.2) default).In) ((List.getD s2.1 (Int.toNat s2.2.2) default).Out)))) (e := 50) (r := 0) (π := []) (o := 0 + (Int.toNat s2.2.2) * 17 + 14) (i := (Int.toNat s2.2.2)) (off := 14) (v := .sref 0 [0 + (Int.toNat s2.2.2) * 17 + 14 + 0] 0 (List.length ((List.getD s2.1 (Int.toNat s2.2.2) default).Pages)) 3) len_O_50 (by kernel_rfl) (by kernel_rfl) (by omega) (by first | omega | (simp only [List.length_set, List.length_append, List.length_replicate, List.length_cons, List.length_nil, List.length_take, List.length_drop, over_len] at *; omega)) (by decide) (by kernel_rfl) ?_)
   refine yu 1 [(139, .sref 0 [0 + (Int.toNat s2.2.2) * 17 + 14 + 0] 0 (List.length ((List.getD s2.1 (Int.toNat s2.2.2) default).Pages)) 3), (140, ii (w64 ((w64 ((w64 ((w64 ((w64 ((w64 ((w64 ((w64 ((w64 ((w64 ((w64 ((w64 (v3.2 + (1 : Int))) + (1 : Int))) + (1 : Int))) + (1 : Int))) + (1 : Int))) + (1 : Int))) + (1 : Int))) + (1 : Int))) + (1 : Int))) + (1 : Int))) + (1 : Int))) + (1 : Int))))] [(0, some q14)] 2 ?_
   obtain ⟨v4, hv4, hh⟩ := bind_some hh
   obtain ⟨hg481, hh⟩ := grd_some hh
   have hgqv4 := Eq.symm hg481
   refine ys (.call 115 [(.t 139), (.t 140)]) (some 141) (op_callg (e' := 47) (sz' := 3) (m' := (List.length ((List.getD s2.1 (Int.toNat s2.2.2) default).Pages))) (cs' := (fl C_47 ((List.getD s2.1 (Int.toNat s2.2.2) default).Pages))) (ds := (fl C_47 v4.1)) (c := O_50) (xs := (List.set s2.1 (Int.toNat s2.2.2) (DGuest.mk (decide ((Int.tmod s2.2.1 (3 : Int)) = (0 : Int))) (DCore.mk v3.1 v3.2 (w64 (v3.2 + (1 : Int))) (w64 ((w64 (v3.2 + (1 : Int))) + (1 : Int))) (w64 ((w64 ((w64 (v3.2 + (1 : Int))) + (1 : Int))) + (1 : Int))) (decide ((Int.tmod (w64 ((w64 ((w64 ((w64 (v3.2 + (1 : Int))) + (1 : Int))) + (1 : Int))) + (1 : Int))) (3 : Int)) = (0 : Int))) (w64 ((w64 ((w64 ((w64 ((w64 (v3.2 + (1 : Int))) + (1 : Int))) + (1 : Int))) + (1 : Int))) + (1 : Int))) (w64 ((w64 ((w64 ((w64 ((w64 ((w64 (v3.2 + (1 : Int))) + (1 : Int))) + (1 : Int))) + (1 : Int))) + (1 : Int))) + (1 : Int))) (w64 ((w64 ((w64 ((w64 ((w64 ((w64 ((w64 (v3.2 + (1 : Int))) + (1 : Int))) + (1 : Int))) + (1 : Int))) + (1 : Int))) + (1 : Int))) + (1 : Int))) (decide ((Int.tmod (w64 ((w64 ((w64 ((w64 ((w64 ((w64 ((w64 ((w64 (v3.2 + (1 : Int))) + (1 : Int))) + (1 : Int))) + (1 : Int))) + (1 : Int))) + (1 : Int))) + (1 : Int))) + (1 : Int))) (3 : Int)) = (0 : Int))) (decide ((Int.tmod (w64 ((w64 ((w64 ((w64 ((w64 ((w64 ((w64 ((w64 ((w64 (v3.2 + (1 : Int))) + (1 : Int))) + (1 : Int))) + (1 : Int))) + (1 : Int))) + (1 : Int))) + (1 : Int))) + (1 : Int))) + (1 : Int))) (3 : Int)) = (0 : Int))) (decide ((Int.tmod (w64 ((w64 ((w64 ((w64 ((w64 ((w64 ((w64 ((w64 ((w64 ((w64 (v3.2 + (1 : Int))) + (1 : Int))) + (1 : Int))) + (1 : Int))) + (1 : Int))) + (1 : Int))) + (1 : Int))) + (1 : Int))) + (1 : Int))) + (1 : Int))) (3 : Int)) = (0 : Int))) (decide ((Int.tmod (w64 ((w64 ((w64 ((w64 ((w64 ((w64 ((w64 ((w64 ((w64 ((w64 ((w64 (v3.2 + (1 : Int))) + (1 : Int))) + (1 : Int))) + (1 : Int))) + (1 : Int))) + (1 : Int))) + (1 : Int))) + (1 : Int))) + (1 : Int))) + (1 : Int))) + (1 : Int))) (3 : Int)) = (0 : Int)))) ((List.getD s2.1 (Int.toNat s2.2.2) default).Pages) ((List.getD s2.1 (Int.toNat s2.2.2) default).In) ((List.getD s2.1 (Int.toNat s2.2.2) default).Out)))) (R := 0) (e := 50) (o := 0 + (Int.toNat s2.2.2) * 17 + 14 + 0) (i := (Int.toNat s2.2.2)) (off := 14) (y := (DGuest.mk (decide ((Int.tmod s2.2.1 (3 : Int)) = (0 : Int))) (DCore.mk v3.1 v3.2 (w64 (v3.2 + (1 : Int))) (w64 ((w64 (v3.2 + (1 : Int))) + (1 : Int))) (w64 ((w64 ((w64 (v3.2 + (1 : Int))) + (1 : Int))) + (1 : Int))) (decide ((Int.tmod (w64 ((w64 ((w64 ((w64 (v3.2 + (1 : Int))) + (1 : Int))) + (1 : Int))) + (1 : Int))) (3 : Int)) = (0 : Int))) (w64 ((w64 ((w64 ((w64 ((w64 (v3.2 + (1 : Int))) + (1 : Int))) + (1 : Int))) + (1 : Int))) + (1 : Int))) (w64 ((w64 ((w64 ((w64 ((w64 ((w64 (v3.2 + (1 : Int))) + (1 : Int))) + (1 : Int))) + (1 : Int))) + (1 : Int))) + (1 : Int))) (w64 ((w64 ((w64 ((w64 ((w64 ((w64 ((w64 (v3.2 + (1 : Int))) + (1 : Int))) + (1 : Int))) + (1 : Int))) + (1 : Int))) + (1 : Int))) + (1 : Int))) (decide ((Int.tmod (w64 ((w64 ((w64 ((w64 ((w64 ((w64 ((w64 ((w64 (v3.2 + (1 : Int))) + (1 : Int))) + (1 : Int))) + (1 : Int))) + (1 : Int))) + (1 : Int))) + (1 : Int))) + (1 : Int))) (3 : Int)) = (0 : Int))) (decide ((Int.tmod (w64 ((w64 ((w64 ((w64 ((w64 ((w64 ((w64 ((w64 ((w64 (v3.2 + (1 : Int))) + (1 : Int))) + (1 : Int))) + (1 : Int))) + (1 : Int))) + (1 : Int))) + (1 : Int))) + (1 : Int))) + (1 : Int))) (3 : Int)) = (0 : Int))) (decide ((Int.tmod (w64 ((w64 ((w64 ((w64 ((w64 ((w64 ((w64 ((w64 ((w64 ((w64 (v3.2 + (1 : Int))) + (1 : Int))) + (1 : Int))) + (1 : Int))) + (1 : Int))) + (1 : Int))) + (1 : Int))) + (1 : Int))) + (1 : Int))) + (1 : Int))) (3 : Int)) = (0 : Int))) (decide ((Int.tmod (w64 ((w64 ((w64 ((w64 ((w64 ((w64 ((w64 ((w64 ((w64 ((w64 ((w64 (v3.2 + (1 : Int))) + (1 : Int))) + (1 : Int))) + (1 : Int))) + (1 : Int))) + (1 : Int))) + (1 : Int))) + (1 : Int))) + (1 : Int))) + (1 : Int))) + (1 : Int))) (3 : Int)) = (0 : Int)))) v4.1 ((List.getD s2.1 (Int.toNat s2.2.2) default).In) ((List.getD s2.1 (Int.toNat s2.2.2) default).Out))) (m2 := (List.length v4.1)) (args := [.sref 0 [0 + (Int.toNat s2.2.2) * 17 + 14 + 0] 0 (List.length ((List.getD s2.1 (Int.toNat s2.2.2) default).Pages)) 3, ii (w64 ((w64 ((w64 ((w64 ((w64 ((w64 ((w64 ((w64 ((w64 ((w64 ((w64 ((w64 (v3.2 + (1 : Int))) + (1 : Int))) + (1 : Int))) + (1 : Int))) + (1 : Int))) + (1 : Int))) + (1 : Int))) + (1 : Int))) + (1 : Int))) + (1 : Int))) + (1 : Int))) + (1 : Int)))]) (args2 := [.sref 2 [] 0 (List.length ((List.getD s2.1 (Int.toNat s2.2.2) default).Pages)) 3, ii (w64 ((w64 ((w64 ((w64 ((w64 ((w64 ((w64 ((w64 ((w64 ((w64 ((w64 ((w64 (v3.2 + (1 : Int))) + (1 : Int))) + (1 : Int))) + (1 : Int))) + (1 : Int))) + (1 : Int))) + (1 : Int))) + (1 : Int))) + (1 : Int))) + (1 : Int))) + (1 : Int))) + (1 : Int)))]) (by kernel_rfl) len_O_50 (by kernel_rfl) (by omega) (by first | omega | (simp only [List.length_set, List.length_append, List.length_replicate, List.length_cons, List.length_nil, List.length_take, List.length_drop, over_len] at *; omega)) (by decide) (getD_set_self (by omega)) (by kernel_rfl) (dts_c (.sref _ _ _) (dts_c (.same _) dts_n)) (Inl.frameB (v' := ii v4.2) (Hp' := [(2, some ⟨47, (fl C_47 v4.1)⟩)]) (n' := 3) [2] (laws_markSlotS_fn hv4) rfl rfl rfl (rens_c ren_sx (rens_i rens_n)) rfl (hq ⟨47, (fl C_47 ((List.getD s2.1 (Int.toNat s2.2.2) default).Pages))⟩ (rens_same (noRefs_fl nr_C_47)) hs_nil) ren_i rfl (hq ⟨47, (fl C_47 v4.1)⟩ (rens_same (noRefs_fl nr_C_47)) hs_nil) rfl) (by kernel_rfl) (by kernel_rfl) hgqv4 (by kernel_rfl) (List.set_set ..) ?_)
   let q15 : Root := ⟨50, (fl O_50 (List.set s2.1 (Int.toNat s2.2.2) (DGuest.mk (decide ((Int.tmod s2.2.1 (3 : Int)) = (0 : Int))) (DCore.mk v3.1 v3.2 (w64 (v3.2 + (1 : Int))) (w64 ((w64 (v3.2 + (1 : Int))) + (1 : Int))) (w64 ((w64 ((w64 (v3.2 + (1 : Int))) + (1 : Int))) + (1 : Int))) (decide ((Int.tmod (w64 ((w64 ((w64 ((w64 (v3.2 + (1 : Int))) + (1 : Int))) + (1 : Int))) + (1 : Int))) (3 : Int)) = (0 : Int))) (w64 ((w64 ((w64 ((w64 ((w64 (v3.2 + (1 : Int))) + (1 : Int))) + (1 : Int))) + (1 : Int))) + (1 : Int))) (w64 ((w64 ((w64 ((w64 ((w64 ((w64 (v3.2 + (1 : Int))) + (1 : Int))) + (1 : Int))) + (1 : Int))) + (1 : Int))) + (1 : Int))) (w64 ((w64 ((w64 ((w64 ((w64 ((w64 ((w64 (v3.2 + (1 : Int))) + (1 : Int))) + (1 : Int))) + (1 : Int))) + (1 : Int))) + (1 : Int))) + (1 : Int))) (decide ((Int.tmod (w64 ((w64 ((w64 ((w64 ((w64 ((w64 ((w64 ((w64 (v3.2 + (1 : Int))) + (1 : Int))) + (1 : Int))) + (1 : Int))) + (1 : Int))) + (1 : Int))) + (1 : Int))) + (1 : Int))) (3 : Int)) = (0 : Int))) (decide ((Int.tmod (w64 ((w64 ((w64 ((w64 ((w64 ((w64 ((w64 ((w64 ((w64 (v3.2 + (1 : Int))) + (1 : Int))) + (1 : Int))) + (1 : Int))) + (1 : Int))) + (1 : Int))) + (1 : Int))) + (1 : Int))) + (1 : Int))) (3 : Int)) = (0 : Int))) (decide ((Int.tmod (w64 ((w64 ((w64 ((w64 ((w64 ((w64 ((w64 ((w64 ((w64 ((w64 (v3.2 + (1 : Int))) + (1 : Int))) + (1 : Int))) + (1 : Int))) + (1 : Int))) + (1 : Int))) + (1 : Int))) + (1 : Int))) + (1 : Int))) + (1 : Int))) (3 : Int)) = (0 : Int))) (decide ((Int.tmod (w64 ((w64 ((w64 ((w64 ((w64 ((w64 ((w64 ((w64 ((w64 ((w64 ((w64 (v3.2 + (1 : Int))) + (1 : Int))) + (1 : Int))) + (1 : Int))) + (1 : Int))) + (1 : Int))) + (1 : Int))) + (1 : Int))) + (1 : Int))) + (1 : Int))) + (1 : Int))) (3 : Int)) = (0 : Int)))) v4.1 ((List.getD s2.1 (Int.toNat s2.2.2) default).In) ((List.getD s2.1 (Int.toNat s2.2.2) default).Out))))⟩
   refine yt (sp 157 [(0, .sref 0 [] 0 (List.length s2.1) 17), (1, ii v4.2), (5, ii s2.2.2)]) [(0, some q15)] 3 ?_
   refine Aw.sreg [0, 1, 5] [0] ?_
   obtain ⟨hg489, hh⟩ := grd_some hh
   refine yjc 4 [(0 : Int) ≤ s2.2.2 ∧ s2.2.2 < (((List.length s2.1) : Nat) : Int)] (sp 157 [(0, .sref 0 [] 0 (List.length s2.1) 17), (1, ii v4.2), (5, ii s2.2.2), (142, .sref 0 [] 0 (List.length s2.1) 17), (143, ii s2.2.2), (144, .ptr 0 [] (0 + (Int.toNat s2.2.2) * 17)), (145, .ptr 0 [] (0 + (Int.toNat s2.2.2) * 17 + 15))]) [(0, some q15)] 3 (.cons hg489 .nil) ?_
   refine ys (.load false 1 (.t 145)) (some 146) (op_loadE (getD_set_self (by omega)) (c := O_50) (xs := (List.set s2.1 (Int.toNat s2.2.2) (DGuest.mk (decide ((Int.tmod s2.2.1 (3 : Int)) = (0 : Int))) (DCore.mk v3.1 v3.2 (w64 (v3.2 + (1 : Int))) (w64 ((w64 (v3.2 + (1 : Int))) + (1 : Int))) (w64 ((w64 ((w64 (v3.2 + (1 : Int))) + (1 : Int))) + (1 : Int))) (decide ((Int.tmod (w64 ((w64 ((w64 ((w64 (v3.2 + (1 : Int))) + (1 : Int))) + (1 : Int))) + (1 : Int))) (3 : Int)) = (0 : Int))) (w64 ((w64 ((w64 ((w64 ((w64 (v3.2 + (1 : Int))) + (1 : Int))) + (1 : Int))) + (1 : Int))) + (1 : Int))) (w64 ((w64 ((w64 ((w64 ((w64 ((w64 (v3.2 + (1 : Int))) + (1 : Int))) + (1 : Int))) + (1 : Int))) + (1 : Int))) + (1 : Int))) (w64 ((w64 ((w64 ((w64 ((w64 ((w64 ((w64 (v3.2 + (1 : Int))) + (1 : Int))) + (1 : Int))) + (1 : Int))) + (1 : Int))) + (1 : Int))) + (1 : Int))) (decide ((Int.tmod (w64 ((w64 ((w64 ((w64 ((w64 ((w64 ((w64 ((w64 (v3.2 + (1 : Int))) + (1 : Int))) + (1 : Int))) + (1 : Int))) + (1 : Int))) + (1 : Int))) + (1 : Int))) + (1 : Int))) (3 : Int)) = (0 : Int))) (decide ((Int.tmod (w64 ((w64 ((w64 ((w64 ((w64 ((w64 ((w64 ((w64 ((w64 (v3.2 + (1 : Int))) + (1 : Int))) + (1 : Int))) + (1 : Int))) + (1 : Int))) + (1 : Int))) + (1 : Int))) + (1 : Int))) + (1 : Int))) (3 : Int)) = (0 : Int))) (decide ((Int.tmod (w64 ((w64 ((w64 ((w64 ((w64 ((w64 ((w64 ((w64 ((w64 ((w64 (v3.2 + (1 : Int))) + (1 : Int))) + (1 : Int))) + (1 : Int))) + (1 : Int))) + (1 : Int))) + (1 : Int))) + (1 : Int))) + (1 : Int))) + (1 : Int))) (3 : Int)) = (0 : Int))) (decide ((Int.tmod (w64 ((w64 ((w64 ((w64 ((w64 ((w64 ((w64 ((w64 ((w64 ((w64 ((w64 (v3.2 + (1 : Int))) + (1 : Int))) + (1 : Int))) + (1 : Int))) + (1 : Int))) + (1 : Int))) + (1 : Int))) + (1 : Int))) + (1 : Int))) + (1 : Int))) + (1 : Int))) (3 : Int)) = (0 : Int)))) v4.1 ((List.getD s2.1 (Int.toNat s2.2.2) default).In) ((List.getD s2.1 (Int.toNat s2.2.2) default).Out)))) (e := 50) (r := 0) (π := []) (o := 0 + (Int.toNat s2.2.2) * 17 + 15) (i := (Int.toNat s2.2.2)) (off := 15) (v := .sref 0 [0 + (Int.toNat s2.2.2) * 17 + 15 + 0] 0 (List.length ((List.getD s2.1 (Int.toNat s2.2.2) default).In)) 1) len_O_50 (by kernel_rfl) (by kernel_rfl) (by omega) (by first | omega | (simp only [List.length_set, List.length_append, List.length_replicate, List.length_cons, List.length_nil, List.length_take, List.length_drop, over_len] at *; omega)) (by decide) (by kernel_rfl) ?_)
   refine yu 1 [(146, .sref 0 [0 + (Int.toNat s2.2.2) * 17 + 15 + 0] 0 (List.length ((List.getD s2.1 (Int.toNat s2.2.2) default).In)) 1), (147, ii v4.2)] [(0, some q15)] 3 ?_
   obtain ⟨v5, hv5, hh⟩ := bind_some hh
   obtain ⟨hg484, hh⟩ := grd_some hh
   have hgqv5 := Eq.symm hg484
   refine ys (.call 50 [(.t 146), (.t 147)]) (some 148) (op_callg (e' := 3) (sz' := 1) (m' := (List.length ((List.getD s2.1 (Int.toNat s2.2.2) default).In))) (cs' := (fl (eI .i64) ((List.getD s2.1 (Int.toNat s2.2.2) default).In))) (ds := (fl (eI .i64) v5.1)) (c := O_50) (xs := (List.set s2.1 (Int.toNat s2.2.2) (DGuest.mk (decide ((Int.tmod s2.2.1 (3 : Int)) = (0 : Int))) (DCore.mk v3.1 v3.2 (w64 (v3.2 + (1 : Int))) (w64 ((w64 (v3.2 + (1 : Int))) + (1 : Int))) (w64 ((w64 ((w64 (v3.2 + (1 : Int))) + (1 : Int))) + (1 : Int))) (decide ((Int.tmod (w64 ((w64 ((w64 ((w64 (v3.2 + (1 : Int))) + (1 : Int))) + (1 : Int))) + (1 : Int))) (3 : Int)) = (0 : Int))) (w64 ((w64 ((w64 ((w64 ((w64 (v3.2 + (1 : Int))) + (1 : Int))) + (1 : Int))) + (1 : Int))) + (1 : Int))) (w64 ((w64 ((w64 ((w64 ((w64 ((w64 (v3.2 + (1 : Int))) + (1 : Int))) + (1 : Int))) + (1 : Int))) + (1 : Int))) + (1 : Int))) (w64 ((w64 ((w64 ((w64 ((w64 ((w64 ((w64 (v3.2 + (1 : Int))) + (1 : Int))) + (1 : Int))) + (1 : Int))) + (1 : Int))) + (1 : Int))) + (1 : Int))) (decide ((Int.tmod (w64 ((w64 ((w64 ((w64 ((w64 ((w64 ((w64 ((w64 (v3.2 + (1 : Int))) + (1 : Int))) + (1 : Int))) + (1 : Int))) + (1 : Int))) + (1 : Int))) + (1 : Int))) + (1 : Int))) (3 : Int)) = (0 : Int))) (decide ((Int.tmod (w64 ((w64 ((w64 ((w64 ((w64 ((w64 ((w64 ((w64 ((w64 (v3.2 + (1 : Int))) + (1 : Int))) + (1 : Int))) + (1 : Int))) + (1 : Int))) + (1 : Int))) + (1 : Int))) + (1 : Int))) + (1 : Int))) (3 : Int)) = (0 : Int))) (decide ((Int.tmod (w64 ((w64 ((w64 ((w64 ((w64 ((w64 ((w64 ((w64 ((w64 ((w64 (v3.2 + (1 : Int))) + (1 : Int))) + (1 : Int))) + (1 : Int))) + (1 : Int))) + (1 : Int))) + (1 : Int))) + (1 : Int))) + (1 : Int))) + (1 : Int))) (3 : Int)) = (0 : Int))) (decide ((Int.tmod (w64 ((w64 ((w64 ((w64 ((w64 ((w64 ((w64 ((w64 ((w64 ((w64 ((w64 (v3.2 + (1 : Int))) + (1 : Int))) + (1 : Int))) + (1 : Int))) + (1 : Int))) + (1 : Int))) + (1 : Int))) + (1 : Int))) + (1 : Int))) + (1 : Int))) + (1 : Int))) (3 : Int)) = (0 : Int)))) v4.1 ((List.getD s2.1 (Int.toNat s2.2.2) default).In) ((List.getD s2.1 (Int.toNat s2.2.2) default).Out)))) (R := 0) (e := 50) (o := 0 + (Int.toNat s2.2.2) * 17 + 15 + 0) (i := (Int.toNat s2.2.2)) (off := 15) (y := (DGuest.mk (decide ((Int.tmod s2.2.1 (3 : Int)) = (0 : Int))) (DCore.mk v3.1 v3.2 (w64 (v3.2 + (1 : Int))) (w64 ((w64 (v3.2 + (1 : Int))) + (1 : Int))) (w64 ((w64 ((w64 (v3.2 + (1 : Int))) + (1 : Int))) + (1 : Int))) (decide ((Int.tmod (w64 ((w64 ((w64 ((w64 (v3.2 + (1 : Int))) + (1 : Int))) + (1 : Int))) + (1 : Int))) (3 : Int)) = (0 : Int))) (w64 ((w64 ((w64 ((w64 ((w64 (v3.2 + (1 : Int))) + (1 : Int))) + (1 : Int))) + (1 : Int))) + (1 : Int))) (w64 ((w64 ((w64 ((w64 ((w64 ((w64 (v3.2 + (1 : Int))) + (1 : Int))) + (1 : Int))) + (1 : Int))) + (1 : Int))) + (1 : Int))) (w64 ((w64 ((w64 ((w64 ((w64 ((w64 ((w64 (v3.2 + (1 : Int))) + (1 : Int))) + (1 : Int))) + (1 : Int))) + (1 : Int))) + (1 : Int))) + (1 : Int))) (decide ((Int.tmod (w64 ((w64 ((w64 ((w64 ((w64 ((w64 ((w64 ((w64 (v3.2 + (1 : Int))) + (1 : Int))) + (1 : Int))) + (1 : Int))) + (1 : Int))) + (1 : Int))) + (1 : Int))) + (1 : Int))) (3 : Int)) = (0 : Int))) (decide ((Int.tmod (w64 ((w64 ((w64 ((w64 ((w64 ((w64 ((w64 ((w64 ((w64 (v3.2 + (1 : Int))) + (1 : Int))) + (1 : Int))) + (1 : Int))) + (1 : Int))) + (1 : Int))) + (1 : Int))) + (1 : Int))) + (1 : Int))) (3 : Int)) = (0 : Int))) (decide ((Int.tmod (w64 ((w64 ((w64 ((w64 ((w64 ((w64 ((w64 ((w64 ((w64 ((w64 (v3.2 + (1 : Int))) + (1 : Int))) + (1 : Int))) + (1 : Int))) + (1 : Int))) + (1 : Int))) + (1 : Int))) + (1 : Int))) + (1 : Int))) + (1 : Int))) (3 : Int)) = (0 : Int))) (decide ((Int.tmod (w64 ((w64 ((w64 ((w64 ((w64 ((w64 ((w64 ((w64 ((w64 ((w64 ((w64 (v3.2 + (1 : Int))) + (1 : Int))) + (1 : Int))) + (1 : Int))) + (1 : Int))) + (1 : Int))) + (1 : Int))) + (1 : Int))) + (1 : Int))) + (1 : Int))) + (1 : Int))) (3 : Int)) = (0 : Int)))) v4.1 v5.1 ((List.getD s2.1 (Int.toNat s2.2.2) default).Out))) (m2 := (List.length v5.1)) (args := [.sref 0 [0 + (Int.toNat s2.2.2) * 17 + 15 + 0] 0 (List.length ((List.getD s2.1 (Int.toNat s2.2.2) default).In)) 1, ii v4.2]) (args2 := [.sref 3 [] 0 (List.length ((List.getD s2.1 (Int.toNat s2.2.2) default).In)) 1, ii v4.2]) (by kernel_rfl) len_O_50 (by kernel_rfl) (by omega) (by first | omega | (simp only [List.length_set, List.length_append, List.length_replicate, List.length_cons, List.length_nil, List.length_take, List.length_drop, over_len] at *; omega)) (by decide) (getD_set_self (by omega)) (by kernel_rfl) (dts_c (.sref _ _ _) (dts_c (.same _) dts_n)) (Inl.frameB (v' := ii v5.2) (Hp' := [(3, some ⟨3, (fl (eI .i64) v5.1)⟩)]) (n' := 4) [3] (laws_markIntS_fn hv5) rfl rfl rfl (rens_c ren_sx (rens_i rens_n)) rfl (hq ⟨3, (fl (eI .i64) ((List.getD s2.1 (Int.toNat s2.2.2) default).In))⟩ (rens_same (noRefs_fl nr_eI)) hs_nil) ren_i rfl (hq ⟨3, (fl (eI .i64) v5.1)⟩ (rens_same (noRefs_fl nr_eI)) hs_nil) rfl) (by kernel_rfl) (by kernel_rfl) hgqv5 (by kernel_rfl) (List.set_set ..) ?_)
   let q16 : Root := ⟨50, (fl O_50 (List.set s2.1 (Int.toNat s2.2.2) (DGuest.mk (decide ((Int.tmod s2.2.1 (3 : Int)) = (0 : Int))) (DCore.mk v3.1 v3.2 (w64 (v3.2 + (1 : Int))) (w64 ((w64 (v3.2 + (1 : Int))) + (1 : Int))) (w64 ((w64 ((w64 (v3.2 + (1 : Int))) + (1 : Int))) + (1 : Int))) (decide ((Int.tmod (w64 ((w64 ((w64 ((w64 (v3.2 + (1 : Int))) + (1 : Int))) + (1 : Int))) + (1 : Int))) (3 : Int)) = (0 : Int))) (w64 ((w64 ((w64 ((w64 ((w64 (v3.2 + (1 : Int))) + (1 : Int))) + (1 : Int))) + (1 : Int))) + (1 : Int))) (w64 ((w64 ((w64 ((w64 ((w64 ((w64 (v3.2 + (1 : Int))) + (1 : Int))) + (1 : Int))) + (1 : Int))) + (1 : Int))) + (1 : Int))) (w64 ((w64 ((w64 ((w64 ((w64 ((w64 ((w64 (v3.2 + (1 : Int))) + (1 : Int))) + (1 : Int))) + (1 : Int))) + (1 : Int))) + (1 : Int))) + (1 : Int))) (decide ((Int.tmod (w64 ((w64 ((w64 ((w64 ((w64 ((w64 ((w64 ((w64 (v3.2 + (1 : Int))) + (1 : Int))) + (1 : Int))) + (1 : Int))) + (1 : Int))) + (1 : Int))) + (1 : Int))) + (1 : Int))) (3 : Int)) = (0 : Int))) (decide ((Int.tmod (w64 ((w64 ((w64 ((w64 ((w64 ((w64 ((w64 ((w64 ((w64 (v3.2 + (1 : Int))) + (1 : Int))) + (1 : Int))) + (1 : Int))) + (1 : Int))) + (1 : Int))) + (1 : Int))) + (1 : Int))) + (1 : Int))) (3 : Int)) = (0 : Int))) (decide ((Int.tmod (w64 ((w64 ((w64 ((w64 ((w64 ((w64 ((w64 ((w64 ((w64 ((w64 (v3.2 + (1 : Int))) + (1 : Int))) + (1 : Int))) + (1 : Int))) + (1 : Int))) + (1 : Int))) + (1 : Int))) + (1 : Int))) + (1 : Int))) + (1 : Int))) (3 : Int)) = (0 : Int))) (decide ((Int.tmod (w64 ((w64 ((w64 ((w64 ((w64 ((w64 ((w64 ((w64 ((w64 ((w64 ((w64 (v3.2 + (1 : Int))) + (1 : Int))) + (1 : Int))) + (1 : Int))) + (1 : Int))) + (1 : Int))) + (1 : Int))) + (1 : Int))) + (1 : Int))) + (1 : Int))) + (1 : Int))) (3 : Int)) = (0 : Int)))) v4.1 v5.1 ((List.getD s2.1 (Int.toNat s2.2.2) default).Out))))⟩
   refine yt (sp 157 [(0, .sref 0 [] 0 (List.length s2.1) 17), (1, ii v5.2), (5, ii s2.2.2)]) [(0, some q16)] 4 ?_
   refine Aw.xreg [0, 1, 5] [0] (fun _ _ _ hq => blk_m (then_m hq)) ?_
   obtain ⟨hg488, hh⟩ := grd_some hh
   refine yjc 4 [(0 : Int) ≤ s2.2.2 ∧ s2.2.2 < (((List.length s2.1) : Nat) : Int)] (sp 157 [(0, .sref 0 [] 0 (List.length s2.1) 17), (1, ii v5.2), (5, ii s2.2.2), (149, .sref 0 [] 0 (List.length s2.1) 17), (150, ii s2.2.2), (151, .ptr 0 [] (0 + (Int.toNat s2.2.2) * 17)), (152, .ptr 0 [] (0 + (Int.toNat s2.2.2) * 17 + 16))]) [(0, some q16)] 4 (.cons hg488 .nil) ?_
   refine ys (.load false 1 (.t 152)) (some 153) (op_loadE (getD_set_self (by omega)) (c := O_50) (xs := (List.set s2.1 (Int.toNat s2.2.2) (DGuest.mk (decide ((Int.tmod s2.2.1 (3 : Int)) = (0 : Int))) (DCore.mk v3.1 v3.2 (w64 (v3.2 + (1 : Int))) (w64 ((w64 (v3.2 + (1 : Int))) + (1 : Int))) (w64 ((w64 ((w64 (v3.2 + (1 : Int))) + (1 : Int))) + (1 : Int))) (decide ((Int.tmod (w64 ((w64 ((w64 ((w64 (v3.2 + (1 : Int))) + (1 : Int))) + (1 : Int))) + (1 : Int))) (3 : Int)) = (0 : Int))) (w64 ((w64 ((w64 ((w64 ((w64 (v3.2 + (1 : Int))) + (1 : Int))) + (1 : Int))) + (1 : Int))) + (1 : Int))) (w64 ((w64 ((w64 ((w64 ((w64 ((w64 (v3.2 + (1 : Int))) + (1 : Int))) + (1 : Int))) + (1 : Int))) + (1 : Int))) + (1 : Int))) (w64 ((w64 ((w64 ((w64 ((w64 ((w64 ((w64 (v3.2 + (1 : Int))) + (1 : Int))) + (1 : Int))) + (1 : Int))) + (1 : Int))) + (1 : Int))) + (1 : Int))) (decide ((Int.tmod (w64 ((w64 ((w64 ((w64 ((w64 ((w64 ((w64 ((w64 (v3.2 + (1 : Int))) + (1 : Int))) + (1 : Int))) + (1 : Int))) + (1 : Int))) + (1 : Int))) + (1 : Int))) + (1 : Int))) (3 : Int)) = (0 : Int))) (decide ((Int.tmod (w64 ((w64 ((w64 ((w64 ((w64 ((w64 ((w64 ((w64 ((w64 (v3.2 + (1 : Int))) + (1 : Int))) + (1 : Int))) + (1 : Int))) + (1 : Int))) + (1 : Int))) + (1 : Int))) + (1 : Int))) + (1 : Int))) (3 : Int)) = (0 : Int))) (decide ((Int.tmod (w64 ((w64 ((w64 ((w64 ((w64 ((w64 ((w64 ((w64 ((w64 ((w64 (v3.2 + (1 : Int))) + (1 : Int))) + (1 : Int))) + (1 : Int))) + (1 : Int))) + (1 : Int))) + (1 : Int))) + (1 : Int))) + (1 : Int))) + (1 : Int))) (3 : Int)) = (0 : Int))) (decide ((Int.tmod (w64 ((w64 ((w64 ((w64 ((w64 ((w64 ((w64 ((w64 ((w64 ((w64 ((w64 (v3.2 + (1 : Int))) + (1 : Int))) + (1 : Int))) + (1 : Int))) + (1 : Int))) + (1 : Int))) + (1 : Int))) + (1 : Int))) + (1 : Int))) + (1 : Int))) + (1 : Int))) (3 : Int)) = (0 : Int)))) v4.1 v5.1 ((List.getD s2.1 (Int.toNat s2.2.2) default).Out)))) (e := 50) (r := 0) (π := []) (o := 0 + (Int.toNat s2.2.2) * 17 + 16) (i := (Int.toNat s2.2.2)) (off := 16) (v := .sref 0 [0 + (Int.toNat s2.2.2) * 17 + 16 + 0] 0 (List.length ((List.getD s2.1 (Int.toNat s2.2.2) default).Out)) 1) len_O_50 (by kernel_rfl) (by kernel_rfl) (by omega) (by first | omega | (simp only [List.length_set, List.length_append, List.length_replicate, List.length_cons, List.length_nil, List.length_take, List.length_drop, over_len] at *; omega)) (by decide) (by kernel_rfl) ?_)
   refine yu 1 [(153, .sref 0 [0 + (Int.toNat s2.2.2) * 17 + 16 + 0] 0 (List.length ((List.getD s2.1 (Int.toNat s2.2.2) default).Out)) 1), (154, ii v5.2)] [(0, some q16)] 4 ?_
   obtain ⟨v6, hv6, hh⟩ := bind_some hh
   obtain ⟨hg487, hh⟩ := grd_some hh
   have hgqv6 := Eq.symm hg487
   refine ys (.call 50 [(.t 153), (.t 154)]) (some 155) (op_callg (e' := 3) (sz' := 1) (m' := (List.length ((List.getD s2.1 (Int.toNat s2.2.2) default).Out))) (cs' := (fl (eI .i64) ((List.getD s2.1 (Int.toNat s2.2.2) default).Out))) (ds := (fl (eI .i64) v6.1)) (c := O_50) (xs := (List.set s2.1 (Int.toNat s2.2.2) (DGuest.mk (decide ((Int.tmod s2.2.1 (3 : Int)) = (0 : Int))) (DCore.mk v3.1 v3.2 (w64 (v3.2 + (1 : Int))) (w64 ((w64 (v3.2 + (1 : Int))) + (1 : Int))) (w64 ((w64 ((w64 (v3.2 + (1 : Int))) + (1 : Int))) + (1 : Int))) (decide ((Int.tmod (w64 ((w64 ((w64 ((w64 (v3.2 + (1 : Int))) + (1 : Int))) + (1 : Int))) + (1 : Int))) (3 : Int)) = (0 : Int))) (w64 ((w64 ((w64 ((w64 ((w64 (v3.2 + (1 : Int))) + (1 : Int))) + (1 : Int))) + (1 : Int))) + (1 : Int))) (w64 ((w64 ((w64 ((w64 ((w64 ((w64 (v3.2 + (1 : Int))) + (1 : Int))) + (1 : Int))) + (1 : Int))) + (1 : Int))) + (1 : Int))) (w64 ((w64 ((w64 ((w64 ((w64 ((w64 ((w64 (v3.2 + (1 : Int))) + (1 : Int))) + (1 : Int))) + (1 : Int))) + (1 : Int))) + (1 : Int))) + (1 : Int))) (decide ((Int.tmod (w64 ((w64 ((w64 ((w64 ((w64 ((w64 ((w64 ((w64 (v3.2 + (1 : Int))) + (1 : Int))) + (1 : Int))) + (1 : Int))) + (1 : Int))) + (1 : Int))) + (1 : Int))) + (1 : Int))) (3 : Int)) = (0 : Int))) (decide ((Int.tmod (w64 ((w64 ((w64 ((w64 ((w64 ((w64 ((w64 ((w64 ((w64 (v3.2 + (1 : Int))) + (1 : Int))) + (1 : Int))) + (1 : Int))) + (1 : Int))) + (1 : Int))) + (1 : Int))) + (1 : Int))) + (1 : Int))) (3 : Int)) = (0 : Int))) (decide ((Int.tmod (w64 ((w64 ((w64 ((w64 ((w64 ((w64 ((w64 ((w64 ((w64 ((w64 (v3.2 + (1 : Int))) + (1 : Int))) + (1 : Int))) + (1 : Int))) + (1 : Int))) + (1 : Int))) + (1 : Int))) + (1 : Int))) + (1 : Int))) + (1 : Int))) (3 : Int)) = (0 : Int))) (decide ((Int.tmod (w64 ((w64 ((w64 ((w64 ((w64 ((w64 ((w64 ((w64 ((w64 ((w64 ((w64 (v3.2 + (1 : Int))) + (1 : Int))) + (1 : Int))) + (1 : Int))) + (1 : Int))) + (1 : Int))) + (1 : Int))) + (1 : Int))) + (1 : Int))) + (1 : Int))) + (1 : Int))) (3 : Int)) = (0 : Int)))) v4.1 v5.1 ((List.getD s2.1 (Int.toNat s2.2.2) default).Out)))) (R := 0) (e := 50) (o := 0 + (Int.toNat s2.2.2) * 17 + 16 + 0) (i := (Int.toNat s2.2.2)) (off := 16) (y := (DGuest.mk (decide ((Int.tmod s2.2.1 (3 : Int)) = (0 : Int))) (DCore.mk v3.1 v3.2 (w64 (v3.2 + (1 : Int))) (w64 ((w64 (v3.2 + (1 : Int))) + (1 : Int))) (w64 ((w64 ((w64 (v3.2 + (1 : Int))) + (1 : Int))) + (1 : Int))) (decide ((Int.tmod (w64 ((w64 ((w64 ((w64 (v3.2 + (1 : Int))) + (1 : Int))) + (1 : Int))) + (1 : Int))) (3 : Int)) = (0 : Int))) (w64 ((w64 ((w64 ((w64 ((w64 (v3.2 + (1 : Int))) + (1 : Int))) + (1 : Int))) + (1 : Int))) + (1 : Int))) (w64 ((w64 ((w64 ((w64 ((w64 ((w64 (v3.2 + (1 : Int))) + (1 : Int))) + (1 : Int))) + (1 : Int))) + (1 : Int))) + (1 : Int))) (w64 ((w64 ((w64 ((w64 ((w64 ((w64 ((w64 (v3.2 + (1 : Int))) + (1 : Int))) + (1 : Int))) + (1 : Int))) + (1 : Int))) + (1 : Int))) + (1 : Int))) (decide ((Int.tmod (w64 ((w64 ((w64 ((w64 ((w64 ((w64 ((w64 ((w64 (v3.2 + (1 : Int))) + (1 : Int))) + (1 : Int))) + (1 : Int))) + (1 : Int))) + (1 : Int))) + (1 : Int))) + (1 : Int))) (3 : Int)) = (0 : Int))) (decide ((Int.tmod (w64 ((w64 ((w64 ((w64 ((w64 ((w64 ((w64 ((w64 ((w64 (v3.2 + (1 : Int))) + (1 : Int))) + (1 : Int))) + (1 : Int))) + (1 : Int))) + (1 : Int))) + (1 : Int))) + (1 : Int))) + (1 : Int))) (3 : Int)) = (0 : Int))) (decide ((Int.tmod (w64 ((w64 ((w64 ((w64 ((w64 ((w64 ((w64 ((w64 ((w64 ((w64 (v3.2 + (1 : Int))) + (1 : Int))) + (1 : Int))) + (1 : Int))) + (1 : Int))) + (1 : Int))) + (1 : Int))) + (1 : Int))) + (1 : Int))) + (1 : Int))) (3 : Int)) = (0 : Int))) (decide ((Int.tmod (w64 ((w64 ((w64 ((w64 ((w64 ((w64 ((w64 ((w64 ((w64 ((w64 ((w64 (v3.2 + (1 : Int))) + (1 : Int))) + (1 : Int))) + (1 : Int))) + (1 : Int))) + (1 : Int))) + (1 : Int))) + (1 : Int))) + (1 : Int))) + (1 : Int))) + (1 : Int))) (3 : Int)) = (0 : Int)))) v4.1 v5.1 v6.1)) (m2 := (List.length v6.1)) (args := [.sref 0 [0 + (Int.toNat s2.2.2) * 17 + 16 + 0] 0 (List.length ((List.getD s2.1 (Int.toNat s2.2.2) default).Out)) 1, ii v5.2]) (args2 := [.sref 4 [] 0 (List.length ((List.getD s2.1 (Int.toNat s2.2.2) default).Out)) 1, ii v5.2]) (by kernel_rfl) len_O_50 (by kernel_rfl) (by omega) (by first | omega | (simp only [List.length_set, List.length_append, List.length_replicate, List.length_cons, List.length_nil, List.length_take, List.length_drop, over_len] at *; omega)) (by decide) (getD_set_self (by omega)) (by kernel_rfl) (dts_c (.sref _ _ _) (dts_c (.same _) dts_n)) (Inl.frameB (v' := ii v6.2) (Hp' := [(4, some ⟨3, (fl (eI .i64) v6.1)⟩)]) (n' := 5) [4] (laws_markIntS_fn hv6) rfl rfl rfl (rens_c ren_sx (rens_i rens_n)) rfl (hq ⟨3, (fl (eI .i64) ((List.getD s2.1 (Int.toNat s2.2.2) default).Out))⟩ (rens_same (noRefs_fl nr_eI)) hs_nil) ren_i rfl (hq ⟨3, (fl (eI .i64) v6.1)⟩ (rens_same (noRefs_fl nr_eI)) hs_nil) rfl) (by kernel_rfl) (by kernel_rfl) hgqv6 (by kernel_rfl) (List.set_set ..) ?_)
   let q17 : Root := ⟨50, (fl O_50 (List.set s2.1 (Int.toNat s2.2.2) (DGuest.mk (decide ((Int.tmod s2.2.1 (3 : Int)) = (0 : Int))) (DCore.mk v3.1 v3.2 (w64 (v3.2 + (1 : Int))) (w64 ((w64 (v3.2 + (1 : Int))) + (1 : Int))) (w64 ((w64 ((w64 (v3.2 + (1 : Int))) + (1 : Int))) + (1 : Int))) (decide ((Int.tmod (w64 ((w64 ((w64 ((w64 (v3.2 + (1 : Int))) + (1 : Int))) + (1 : Int))) + (1 : Int))) (3 : Int)) = (0 : Int))) (w64 ((w64 ((w64 ((w64 ((w64 (v3.2 + (1 : Int))) + (1 : Int))) + (1 : Int))) + (1 : Int))) + (1 : Int))) (w64 ((w64 ((w64 ((w64 ((w64 ((w64 (v3.2 + (1 : Int))) + (1 : Int))) + (1 : Int))) + (1 : Int))) + (1 : Int))) + (1 : Int))) (w64 ((w64 ((w64 ((w64 ((w64 ((w64 ((w64 (v3.2 + (1 : Int))) + (1 : Int))) + (1 : Int))) + (1 : Int))) + (1 : Int))) + (1 : Int))) + (1 : Int))) (decide ((Int.tmod (w64 ((w64 ((w64 ((w64 ((w64 ((w64 ((w64 ((w64 (v3.2 + (1 : Int))) + (1 : Int))) + (1 : Int))) + (1 : Int))) + (1 : Int))) + (1 : Int))) + (1 : Int))) + (1 : Int))) (3 : Int)) = (0 : Int))) (decide ((Int.tmod (w64 ((w64 ((w64 ((w64 ((w64 ((w64 ((w64 ((w64 ((w64 (v3.2 + (1 : Int))) + (1 : Int))) + (1 : Int))) + (1 : Int))) + (1 : Int))) + (1 : Int))) + (1 : Int))) + (1 : Int))) + (1 : Int))) (3 : Int)) = (0 : Int))) (decide ((Int.tmod (w64 ((w64 ((w64 ((w64 ((w64 ((w64 ((w64 ((w64 ((w64 ((w64 (v3.2 + (1 : Int))) + (1 : Int))) + (1 : Int))) + (1 : Int))) + (1 : Int))) + (1 : Int))) + (1 : Int))) + (1 : Int))) + (1 : Int))) + (1 : Int))) (3 : Int)) = (0 : Int))) (decide ((Int.tmod (w64 ((w64 ((w64 ((w64 ((w64 ((w64 ((w64 ((w64 ((w64 ((w64 ((w64 (v3.2 + (1 : Int))) + (1 : Int))) + (1 : Int))) + (1 : Int))) + (1 : Int))) + (1 : Int))) + (1 : Int))) + (1 : Int))) + (1 : Int))) + (1 : Int))) + (1 : Int))) (3 : Int)) = (0 : Int)))) v4.1 v5.1 v6.1)))⟩
   refine yt (sp 157 [(0, .sref 0 [] 0 (List.length s2.1) 17), (1, ii v6.2), (5, ii s2.2.2)]) [(0, some q17)] 5 ?_
   refine Aw.oreg ?_
   refine ye (sp 157 [(0, .sref 0 [] 0 (List.length s2.1) 17), (1, ii v6.2), (5, ii (w64 (s2.2.2 + (1 : Int)))), (10, ii s2.2.2), (11, ii (w64 (s2.2.2 + (1 : Int))))]) [(0, some q17)] 5 ?_
   exact hN2 ((List.set s2.1 (Int.toNat s2.2.2) (DGuest.mk (decide ((Int.tmod s2.2.1 (3 : Int)) = (0 : Int))) (DCore.mk v3.1 v3.2 (w64 (v3.2 + (1 : Int))) (w64 ((w64 (v3.2 + (1 : Int))) + (1 : Int))) (w64 ((w64 ((w64 (v3.2 + (1 : Int))) + (1 : Int))) + (1 : Int))) (decide ((Int.tmod (w64 ((w64 ((w64 ((w64 (v3.2 + (1 : Int))) + (1 : Int))) + (1 : Int))) + (1 : Int))) (3 : Int)) = (0 : Int))) (w64 ((w64 ((w64 ((w64 ((w64 (v3.2 + (1 : Int))) + (1 : Int))) + (1 : Int))) + (1 : Int))) + (1 : Int))) (w64 ((w64 ((w64 ((w64 ((w64 ((w64 (v3.2 + (1 : Int))) + (1 : Int))) + (1 : Int))) + (1 : Int))) + (1 : Int))) + (1 : Int))) (w64 ((w64 ((w64 ((w64 ((w64 ((w64 ((w64 (v3.2 + (1 : Int))) + (1 : Int))) + (1 : Int))) + (1 : Int))) + (1 : Int))) + (1 : Int))) + (1 : Int))) (decide ((Int.tmod (w64 ((w64 ((w64 ((w64 ((w64 ((w64 ((w64 ((w64 (v3.2 + (1 : Int))) + (1 : Int))) + (1 : Int))) + (1 : Int))) + (1 : Int))) + (1 : Int))) + (1 : Int))) + (1 : Int))) (3 : Int)) = (0 : Int))) (decide ((Int.tmod (w64 ((w64 ((w64 ((w64 ((w64 ((w64 ((w64 ((w64 ((w64 (v3.2 + (1 : Int))) + (1 : Int))) + (1 : Int))) + (1 : Int))) + (1 : Int))) + (1 : Int))) + (1 : Int))) + (1 : Int))) + (1 : Int))) (3 : Int)) = (0 : Int))) (decide ((Int.tmod (w64 ((w64 ((w64 ((w64 ((w64 ((w64 ((w64 ((w64 ((w64 ((w64 (v3.2 + (1 : Int))) + (1 : Int))) + (1 : Int))) + (1 : Int))) + (1 : Int))) + (1 : Int))) + (1 : Int))) + (1 : Int))) + (1 : Int))) + (1 : Int))) (3 : Int)) = (0 : Int))) (decide ((Int.tmod (w64 ((w64 ((w64 ((w64 ((w64 ((w64 ((w64 ((w64 ((w64 ((w64 ((w64 (v3.2 + (1 : Int))) + (1 : Int))) + (1 : Int))) + (1 : Int))) + (1 : Int))) + (1 : Int))) + (1 : Int))) + (1 : Int))) + (1 : Int))) + (1 : Int))) + (1 : Int))) (3 : Int)) = (0 : Int)))) v4.1 v5.1 v6.1)), v6.2, (w64 (s2.2.2 + (1 : Int)))) _ _ _ (some_some hh) (Ent.list2 [some 0] rfl rfl (by decide) (rens_sp (by kernel_rfl) (rl_c (u := .sref 0 [] 0 (List.length s2.1) 17) (by kernel_rfl) ren_sx (rl_c (u := ii v6.2) (by kernel_rfl) ren_i (rl_c (u := ii (w64 (s2.2.2 + (1 : Int)))) (by kernel_rfl) ren_i rl_n)))) (hq q17 (rens_same (noRefs_fl nr_O_50)) hs_nil))
 refine cF hb ?_
 refine Aw.exit ?_
 refine then_x ?_
 refine hX2 _ _ _ _ _ (some_some hh) ?_
 intro hout
 rw [hout] at hk2
 refine blk_x ?_
 obtain rfl := some_some hk2
 exact hN1 (s2.2.1, s2.1) _ _ _ hk1 (Ent.list2 [some 0] rfl rfl (by decide) (rens_sp (by kernel_rfl) (rl_c (u := ii s2.2.1) (by kernel_rfl) ren_i rl_n)) (hq ⟨50, (fl O_50 s2.1)⟩ (rens_same (noRefs_fl nr_O_50)) hs_nil))
def Lf44_r0 : List LOper := [oo 2 (.box 26 (.t 0)), oo 4 (.mv (.c (ii 0)))]
def Lf44_r1 : List LOper := [oo 5 (.fadr 0 (.t 2)), oo 6 (.load false 1 (.t 5)), om 7 1, oo 8 (.call 50 [(.t 6), (.t 7)]), om 1 8]
def Lf44_r2 : List LOper := [oo 9 (.fadr 1 (.t 2)), oo 10 (.load false 1 (.t 9)), om 11 1, oo 12 (.call 89 [(.t 10), (.t 11)]), om 1 12]
def Lf44_r3 : List LOper := [om 13 1, om 4 13]
def Lf44 : LFun := ⟨14, [(.tmp 4)], (.seq (.reg false Lf44_r0) (.seq (.reg false Lf44_r1) (.seq (.reg false Lf44_r2) (.seq (.reg false Lf44_r3) .ret))))⟩
theorem low_laws_markHost : lowFun Go.Proofs.Try.prog 44 = some Lf44 := by kernel_rfl
noncomputable def F_laws_markHost (x_a : DHost) (x_k : Int) : Option ((List Int) × (List DGuest) × Int) :=
 Option.bind (F_laws_markIntS x_a.Words x_k) fun v1 =>
 grd (List.length v1.1 = (List.length x_a.Words)) (Option.bind (F_laws_markGuestS x_a.Guests v1.2) fun v2 =>
  grd (List.length v2.1 = (List.length x_a.Guests)) (some (v1.1, v2.1, v2.2)))
theorem laws_markHost_fn {x_a : DHost} {x_k : Int} {R_ : (List Int) × (List DGuest) × Int} (hh : F_laws_markHost x_a x_k = some R_) : Inl Try.prog 44 [.agg [.sref 0 [] 0 (List.length x_a.Words) 1, .sref 1 [] 0 (List.length x_a.Guests) 17], .int .i64 x_k] [(1, some ⟨50, (fl O_50 x_a.Guests)⟩), (0, some ⟨3, (fl (eI .i64) x_a.Words)⟩)] 2 (.int .i64 R_.2.2) [(0, some ⟨3, (fl (eI .i64) R_.1)⟩), (1, some ⟨50, (fl O_50 R_.2.1)⟩)] 2 := by
 unfold F_laws_markHost at hh
 let q1 : Root := ⟨3, (fl (eI .i64) x_a.Words)⟩
 let q2 : Root := ⟨50, (fl O_50 x_a.Guests)⟩
 refine Inl.start low_laws_markHost [0, 1] [0, 1] (E := sp 14 [(0, .agg [sw 0 x_a.Words, .sref 1 [] 0 (List.length x_a.Guests) 17]), (1, ii x_k)]) (H1 := [(0, some q1), (1, some q2)]) (by kernel_rfl) (by kernel_rfl) ?_
 refine Aw.sreg [1, 2] [0, 1, 2] ?_
 let q3 : Root := ⟨26, [sw 0 x_a.Words, .sref 1 [] 0 (List.length x_a.Guests) 17]⟩
 refine yt (sp 14 [(1, ii x_k), (2, pp 2)]) [(0, some q1), (1, some q2), (2, some q3)] 3 ?_
 refine Aw.sreg [1, 2] [0, 1, 2] (yu 3 [(5, pp 2), (6, sw 0 x_a.Words), (7, ii x_k)] [(0, some q1), (1, some q2), (2, some q3)] 3 ?_)
 obtain ⟨v1, hv1, hh⟩ := bind_some hh
 obtain ⟨hg2, hh⟩ := grd_some hh
 refine ys (.call 50 [(.t 6), (.t 7)]) (some 8) (op_callf (v' := ii v1.2) (Hp' := [(0, some ⟨3, (fl (eI .i64) v1.1)⟩)]) (n' := 3) [0] (laws_markIntS_fn hv1) (args' := [sw 0 x_a.Words, ii x_k]) (by kernel_rfl) rfl rfl rfl (rens_c ren_sx (rens_i rens_n)) rfl (hq q1 (rens_same (noRefs_fl nr_eI)) hs_nil) ren_i rfl (hq ⟨3, (fl (eI .i64) v1.1)⟩ (rens_same (noRefs_fl nr_eI)) hs_nil) rfl ?_)
 refine yt (sp 14 [(1, ii v1.2), (2, pp 2)]) [(0, some ⟨3, (fl (eI .i64) v1.1)⟩), (1, some q2), (2, some q3)] 3 ?_
 refine Aw.sreg [1] [0, 1] (yu 3 [(9, .ptr 2 [] 1), (10, .sref 1 [] 0 (List.length x_a.Guests) 17), (11, ii v1.2)] [(0, some ⟨3, (fl (eI .i64) v1.1)⟩), (1, some q2), (2, some q3)] 3 ?_)
 obtain ⟨v2, hv2, hh⟩ := bind_some hh
 obtain ⟨hg4, hh⟩ := grd_some hh
 refine ys (.call 89 [(.t 10), (.t 11)]) (some 12) (op_callf (v' := ii v2.2) (Hp' := [(1, some ⟨50, (fl O_50 v2.1)⟩)]) (n' := 3) [1] (laws_markGuestS_fn hv2) (args' := [.sref 1 [] 0 (List.length x_a.Guests) 17, ii v1.2]) (by kernel_rfl) rfl rfl rfl (rens_c ren_sx (rens_i rens_n)) rfl (hq q2 (rens_same (noRefs_fl nr_O_50)) hs_nil) ren_i rfl (hq ⟨50, (fl O_50 v2.1)⟩ (rens_same (noRefs_fl nr_O_50)) hs_nil) rfl ?_)
 refine yt (sp 14 [(1, ii v2.2)]) [(0, some ⟨3, (fl (eI .i64) v1.1)⟩), (1, some ⟨50, (fl O_50 v2.1)⟩)] 3 ?_
 refine sy [4] [0, 1] (sp 14 [(4, ii v2.2)]) [(0, some ⟨3, (fl (eI .i64) v1.1)⟩), (1, some ⟨50, (fl O_50 v2.1)⟩)] 3 ?_
 refine Aw.ret ?_
 rw [some_some hh]
 exact gives (r' := ii v2.2) (by kernel_rfl) (Ent.list2 [some 0, some 1] rfl rfl (by decide) (rens_1 ren_i) (hq ⟨3, (fl (eI .i64) v1.1)⟩ (rens_same (noRefs_fl nr_eI)) (hq ⟨50, (fl O_50 v2.1)⟩ (rens_same (noRefs_fl nr_O_50)) hs_nil)))
def Lf116_r0 : List LOper := [oo 4 (.mv (.c (ii 0)))]
def Lf116_r1 : List LOper := [oo 5 (.mv (.c (ii 0)))]
def Lf116_r2 : List LOper := [om 6 5, om 7 0, oo 8 (.len (.t 7)), oo 9 (.bin .lss (.t 6) (.t 8))]
def Lf116_r3 : List LOper := [om 12 0, om 13 5, oo 14 (.iadr 3 (.t 12) (.t 13)), oo 15 (.fadr 0 (.t 14)), oo 16 (.load false 1 (.t 15)), om 17 1, oo 18 (.bin .neq (.t 16) (.t 17))]
def Lf116_r4 : List LOper := [oo 4 (.mv (.c (ii (-1))))]
def Lf116_r5 : List LOper := [om 19 1, oo 20 (.bin .add (.t 19) (.c (ii 1))), om 1 20]
def Lf116_r6 : List LOper := [om 21 0, om 22 5, oo 23 (.iadr 3 (.t 21) (.t 22)), oo 24 (.fadr 1 (.t 23)), oo 25 (.load false 1 (.t 24)), om 26 1, oo 27 (.bin .rem (.t 26) (.c (ii 3))), oo 28 (.bin .eql (.t 27) (.c (ii 0))), oo 29 (.binb true (.t 25) (.t 28))]
def Lf116_r7 : List LOper := [oo 4 (.mv (.c (ii (-1))))]
def Lf116_r8 : List LOper := [om 30 1, oo 31 (.bin .add (.t 30) (.c (ii 1))), om 1 31]
def Lf116_r9 : List LOper := [om 32 0, om 33 5, oo 34 (.iadr 3 (.t 32) (.t 33)), oo 35 (.fadr 2 (.t 34)), oo 36 (.load false 1 (.t 35)), om 37 1, oo 38 (.bin .rem (.t 37) (.c (ii 3))), oo 39 (.bin .eql (.t 38) (.c (ii 0))), oo 40 (.binb true (.t 36) (.t 39))]
def Lf116_r10 : List LOper := [oo 4 (.mv (.c (ii (-1))))]
def Lf116_r11 : List LOper := [om 41 1, oo 42 (.bin .add (.t 41) (.c (ii 1))), om 1 42]
def Lf116_r12 : List LOper := [om 10 5, oo 11 (.bin .add (.t 10) (.c (ii 1))), om 5 11]
def Lf116_l13 : LCode := (.seq (.seq (.reg false Lf116_r2) (.cond (.t 9) .skip (.exit 0))) (.seq (.block 1 (.seq (.seq (.reg false Lf116_r3) (.cond (.t 18) (.seq (.reg false Lf116_r4) .ret) .skip)) (.seq (.reg false Lf116_r5) (.seq (.seq (.reg false Lf116_r6) (.cond (.t 29) (.seq (.reg false Lf116_r7) .ret) .skip)) (.seq (.reg false Lf116_r8) (.seq (.seq (.reg false Lf116_r9) (.cond (.t 40) (.seq (.reg false Lf116_r10) .ret) .skip)) (.reg false Lf116_r11))))))) (.reg false Lf116_r12)))
def Lf116_r14 : List LOper := [om 43 1, om 4 43]
def Lf116 : LFun := ⟨44, [(.tmp 4)], (.seq (.reg false Lf116_r0) (.seq (.seq (.reg false Lf116_r1) (.block 0 (.loop Lf116_l13))) (.seq (.reg false Lf116_r14) .ret)))⟩
theorem low_laws_heldSlotS : lowFun Go.Proofs.Try.prog 116 = some Lf116 := by kernel_rfl
noncomputable def F_laws_heldSlotS_j1  (s1 : Int) : Option Int :=
 some s1
noncomputable def F_laws_heldSlotS_l2 (x_a : List DSlot) (s2 : Int × Int) : Option (LO (Int × Int) (JO Int Int)) :=
 cond (decide (s2.2 < (((List.length x_a) : Nat) : Int)))
  (grd ((0 : Int) ≤ s2.2 ∧ s2.2 < ((List.length x_a : Nat) : Int)) (cond (!decide (((List.getD x_a (Int.toNat s2.2) default).Frame) = s2.1))
   (some (.ret (.out (-1 : Int))))
   (grd ((0 : Int) ≤ s2.2 ∧ s2.2 < ((List.length x_a : Nat) : Int)) (cond (!(((List.getD x_a (Int.toNat s2.2) default).Write) == (decide ((Int.tmod (w64 (s2.1 + (1 : Int))) (3 : Int)) = (0 : Int)))))
    (some (.ret (.out (-1 : Int))))
    (grd ((0 : Int) ≤ s2.2 ∧ s2.2 < ((List.length x_a : Nat) : Int)) (cond (!(((List.getD x_a (Int.toNat s2.2) default).Dirty) == (decide ((Int.tmod (w64 ((w64 (s2.1 + (1 : Int))) + (1 : Int))) (3 : Int)) = (0 : Int)))))
     (some (.ret (.out (-1 : Int))))
     (some (.next ((w64 ((w64 ((w64 (s2.1 + (1 : Int))) + (1 : Int))) + (1 : Int))), (w64 (s2.2 + (1 : Int))))))))))))
  (some (.ret (.go s2.1)))
noncomputable def F_laws_heldSlotS (x_a : List DSlot) (x_k : Int) : Option Int :=
 Option.bind (Option.bind (iter (F_laws_heldSlotS_l2 x_a) (x_k, (0 : Int))) LO.val) fun j1 =>
  JO.run j1 (F_laws_heldSlotS_j1)
theorem laws_heldSlotS_fn {x_a : List DSlot} {x_k : Int} {R_ : Int} (hh : F_laws_heldSlotS x_a x_k = some R_) : Fn Try.prog 116 [bo C_47 x_a, .int .i64 x_k] (.int .i64 R_) := by
 unfold F_laws_heldSlotS at hh
 refine Fn.start low_laws_heldSlotS [0, 1] (E := sp 44 [(0, bo C_47 x_a), (1, ii x_k)]) (by kernel_rfl) (v := ii R_) (Hr := []) (k := 0) (by kernel_rfl) ?_
 refine sy [0, 1] [] (sp 44 [(0, bo C_47 x_a), (1, ii x_k)]) [] 0 ?_
 obtain ⟨j1, hh, hk1⟩ := bind_some hh
 refine Aw.join (S := Int) (fun s1 => sp 44 [(1, ii s1)]) (fun s1 => []) 0 (fun s1 => F_laws_heldSlotS_j1 s1 = some R_) ?_ ?_
 · intro s1 hh
   unfold F_laws_heldSlotS_j1 at hh
   refine sy [4] [] (sp 44 [(4, ii s1)]) [] 0 ?_
   refine Aw.ret ?_
   rw [some_some hh]
   exact gvi
 intro Q1 hN1 hR1 hE1
 refine sy [0, 1, 5] [] (sp 44 [(0, bo C_47 x_a), (1, ii x_k), (5, ii 0)]) [] 0 ?_
 refine Aw.block ?_
 obtain ⟨o2, hi2, hk2⟩ := bind_some hh
 refine Aw.iter (fun (s2 : Int × Int) => sp 44 [(0, bo C_47 x_a), (1, ii s2.1), (5, ii s2.2)]) (fun (s2 : Int × Int) => []) 0 hi2 (Ent.list2 [] rfl rfl (by decide) (rens_sp (by kernel_rfl) (rl_c (u := bo C_47 x_a) (by kernel_rfl) (ren_bor (rens_same (noRefs_fl nr_C_47))) (rl_c (u := ii x_k) (by kernel_rfl) ren_i (rl_c (u := ii 0) (by kernel_rfl) ren_i rl_n)))) hs_nil) ?_
 intro s2 u2 Q2 hh hN2 hX2 hR2
 unfold F_laws_heldSlotS_l2 at hh
 refine Aw.seq ?_
 refine sy [0, 1, 5, 9] [] (sp 44 [(0, bo C_47 x_a), (1, ii s2.1), (5, ii s2.2), (9, bb (decide (s2.2 < (((List.length x_a) : Nat) : Int))))]) [] 0 ?_
 rcases cond_some hh with ⟨hb, hh⟩ | ⟨hb, hh⟩
 · refine cT hb ?_
   refine Aw.xskip (fun _ _ _ hq => then_m hq) ?_
   refine Aw.seq ?_
   refine Aw.block ?_
   refine Aw.seq ?_
   refine Aw.sreg [0, 1, 5, 18] [] (yj 2  (sp 44 [(0, bo C_47 x_a), (1, ii s2.1), (5, ii s2.2), (9, bb (decide (s2.2 < (((List.length x_a) : Nat) : Int)))), (12, bo C_47 x_a), (13, ii s2.2)]) [] 0 ?_)
   obtain ⟨hg136, hh⟩ := grd_some hh
   refine ys (.iadr 3 (.t 12) (.t 13)) (some 14) (op_iadr (kd := .i64) (c := C_47) (xs := x_a) len_C_47 (by decide) (by kernel_rfl) (by kernel_rfl) hg136 ?_)
   refine yu 1 [(14, .bptr (fl C_47 x_a) (Int.toNat s2.2 * 3)), (15, .bptr (fl C_47 x_a) (Int.toNat s2.2 * 3 + 0))] [] 0 ?_
   refine ys (.load false 1 (.t 15)) (some 16) (op_loadb (c := C_47) (xs := x_a) (o := Int.toNat s2.2 * 3 + 0) (i := (Int.toNat s2.2)) (off := 0) (v := ii ((List.getD x_a (Int.toNat s2.2) default).Frame)) len_C_47 (by kernel_rfl) (by omega) (by omega) (by decide) (by kernel_rfl) ?_)
   refine yt (sp 44 [(0, bo C_47 x_a), (1, ii s2.1), (5, ii s2.2), (18, bb (!decide (((List.getD x_a (Int.toNat s2.2) default).Frame) = s2.1)))]) [] 0 ?_
   rcases cond_some hh with ⟨hb, hh⟩ | ⟨hb, hh⟩
   · refine cT hb ?_
     refine sy [4] [] (sp 44 [(4, ii (-1))]) [] 0 ?_
     refine Aw.ret ?_
     refine then_r (blk_r (then_r ?_))
     refine hR2 _ _ _ _ (some_some hh) ?_
     intro hout
     rw [hout] at hk2
     refine blk_r ?_
     obtain rfl := some_some hk2
     refine hR1 _ _ _ ?_
     refine ?_
     rw [some_some hk1]
     exact gvi
   refine cF hb ?_
   refine Aw.xskip (fun _ _ _ hq => then_m hq) ?_
   refine sy [0, 1, 5] [] (sp 44 [(0, bo C_47 x_a), (1, ii (w64 (s2.1 + (1 : Int)))), (5, ii s2.2)]) [] 0 ?_
   refine Aw.seq ?_
   refine Aw.sreg [0, 1, 5, 29] [] (yj 2  (sp 44 [(0, bo C_47 x_a), (1, ii (w64 (s2.1 + (1 : Int)))), (5, ii s2.2), (21, bo C_47 x_a), (22, ii s2.2)]) [] 0 ?_)
   obtain ⟨hg140, hh⟩ := grd_some hh
   refine ys (.iadr 3 (.t 21) (.t 22)) (some 23) (op_iadr (kd := .i64) (c := C_47) (xs := x_a) len_C_47 (by decide) (by kernel_rfl) (by kernel_rfl) hg140 ?_)
   refine yu 1 [(23, .bptr (fl C_47 x_a) (Int.toNat s2.2 * 3)), (24, .bptr (fl C_47 x_a) (Int.toNat s2.2 * 3 + 1))] [] 0 ?_
   refine ys (.load false 1 (.t 24)) (some 25) (op_loadb (c := C_47) (xs := x_a) (o := Int.toNat s2.2 * 3 + 1) (i := (Int.toNat s2.2)) (off := 1) (v := bb ((List.getD x_a (Int.toNat s2.2) default).Write)) len_C_47 (by kernel_rfl) (by omega) (by omega) (by decide) (by kernel_rfl) ?_)
   refine ytc [(3 : Int) ≠ 0] (sp 44 [(0, bo C_47 x_a), (1, ii (w64 (s2.1 + (1 : Int)))), (5, ii s2.2), (29, bb (!(((List.getD x_a (Int.toNat s2.2) default).Write) == (decide ((Int.tmod (w64 (s2.1 + (1 : Int))) (3 : Int)) = (0 : Int))))))]) [] 0 (.cons (by decide) .nil) ?_
   rcases cond_some hh with ⟨hb, hh⟩ | ⟨hb, hh⟩
   · refine cT hb ?_
     refine sy [4] [] (sp 44 [(4, ii (-1))]) [] 0 ?_
     refine Aw.ret ?_
     refine then_r (blk_r (then_r ?_))
     refine hR2 _ _ _ _ (some_some hh) ?_
     intro hout
     rw [hout] at hk2
     refine blk_r ?_
     obtain rfl := some_some hk2
     refine hR1 _ _ _ ?_
     refine ?_
     rw [some_some hk1]
     exact gvi
   refine cF hb ?_
   refine Aw.xskip (fun _ _ _ hq => then_m hq) ?_
   refine sy [0, 1, 5] [] (sp 44 [(0, bo C_47 x_a), (1, ii (w64 ((w64 (s2.1 + (1 : Int))) + (1 : Int)))), (5, ii s2.2)]) [] 0 ?_
   refine Aw.seq ?_
   refine Aw.sreg [0, 1, 5, 40] [] (yj 2  (sp 44 [(0, bo C_47 x_a), (1, ii (w64 ((w64 (s2.1 + (1 : Int))) + (1 : Int)))), (5, ii s2.2), (32, bo C_47 x_a), (33, ii s2.2)]) [] 0 ?_)
   obtain ⟨hg144, hh⟩ := grd_some hh
   refine ys (.iadr 3 (.t 32) (.t 33)) (some 34) (op_iadr (kd := .i64) (c := C_47) (xs := x_a) len_C_47 (by decide) (by kernel_rfl) (by kernel_rfl) hg144 ?_)
   refine yu 1 [(34, .bptr (fl C_47 x_a) (Int.toNat s2.2 * 3)), (35, .bptr (fl C_47 x_a) (Int.toNat s2.2 * 3 + 2))] [] 0 ?_
   refine ys (.load false 1 (.t 35)) (some 36) (op_loadb (c := C_47) (xs := x_a) (o := Int.toNat s2.2 * 3 + 2) (i := (Int.toNat s2.2)) (off := 2) (v := bb ((List.getD x_a (Int.toNat s2.2) default).Dirty)) len_C_47 (by kernel_rfl) (by omega) (by omega) (by decide) (by kernel_rfl) ?_)
   refine ytc [(3 : Int) ≠ 0] (sp 44 [(0, bo C_47 x_a), (1, ii (w64 ((w64 (s2.1 + (1 : Int))) + (1 : Int)))), (5, ii s2.2), (40, bb (!(((List.getD x_a (Int.toNat s2.2) default).Dirty) == (decide ((Int.tmod (w64 ((w64 (s2.1 + (1 : Int))) + (1 : Int))) (3 : Int)) = (0 : Int))))))]) [] 0 (.cons (by decide) .nil) ?_
   rcases cond_some hh with ⟨hb, hh⟩ | ⟨hb, hh⟩
   · refine cT hb ?_
     refine sy [4] [] (sp 44 [(4, ii (-1))]) [] 0 ?_
     refine Aw.ret ?_
     refine then_r (blk_r (then_r ?_))
     refine hR2 _ _ _ _ (some_some hh) ?_
     intro hout
     rw [hout] at hk2
     refine blk_r ?_
     obtain rfl := some_some hk2
     refine hR1 _ _ _ ?_
     refine ?_
     rw [some_some hk1]
     exact gvi
   refine cF hb ?_
   refine Aw.xskip (fun _ _ _ hq => then_m hq) ?_
   refine Aw.xreg [0, 1, 5] [] (fun _ _ _ hq => blk_m (then_m hq)) ?_
   refine yt (sp 44 [(0, bo C_47 x_a), (1, ii (w64 ((w64 ((w64 (s2.1 + (1 : Int))) + (1 : Int))) + (1 : Int)))), (5, ii s2.2)]) [] 0 ?_
   refine Aw.oreg ?_
   refine ye (sp 44 [(0, bo C_47 x_a), (1, ii (w64 ((w64 ((w64 (s2.1 + (1 : Int))) + (1 : Int))) + (1 : Int)))), (5, ii (w64 (s2.2 + (1 : Int)))), (10, ii s2.2), (11, ii (w64 (s2.2 + (1 : Int))))]) [] 0 ?_
   exact hN2 ((w64 ((w64 ((w64 (s2.1 + (1 : Int))) + (1 : Int))) + (1 : Int))), (w64 (s2.2 + (1 : Int)))) _ _ _ (some_some hh) (Ent.list2 [] rfl rfl (by decide) (rens_sp (by kernel_rfl) (rl_c (u := bo C_47 x_a) (by kernel_rfl) (ren_bor (rens_same (noRefs_fl nr_C_47))) (rl_c (u := ii (w64 ((w64 ((w64 (s2.1 + (1 : Int))) + (1 : Int))) + (1 : Int)))) (by kernel_rfl) ren_i (rl_c (u := ii (w64 (s2.2 + (1 : Int)))) (by kernel_rfl) ren_i rl_n)))) hs_nil)
 refine cF hb ?_
 refine Aw.exit ?_
 refine then_x ?_
 refine hX2 _ _ _ _ _ (some_some hh) ?_
 intro hout
 rw [hout] at hk2
 refine blk_x ?_
 obtain rfl := some_some hk2
 exact hN1 s2.1 _ _ _ hk1 (Ent.list2 [] rfl rfl (by decide) (rens_sp (by kernel_rfl) (rl_c (u := ii s2.1) (by kernel_rfl) ren_i rl_n)) hs_nil)
def Lf90_r0 : List LOper := [oo 4 (.mv (.c (ii 0)))]
def Lf90_r1 : List LOper := [oo 5 (.mv (.c (ii 0)))]
def Lf90_r2 : List LOper := [om 6 5, om 7 0, oo 8 (.len (.t 7)), oo 9 (.bin .lss (.t 6) (.t 8))]
def Lf90_r3 : List LOper := [om 12 0, om 13 5, oo 14 (.iadr 17 (.t 12) (.t 13)), oo 15 (.fadr 0 (.t 14)), oo 16 (.load false 1 (.t 15)), om 17 1, oo 18 (.bin .rem (.t 17) (.c (ii 3))), oo 19 (.bin .eql (.t 18) (.c (ii 0))), oo 20 (.binb true (.t 16) (.t 19))]
def Lf90_r4 : List LOper := [oo 4 (.mv (.c (ii (-1))))]
def Lf90_r5 : List LOper := [om 21 1, oo 22 (.bin .add (.t 21) (.c (ii 1))), om 1 22]
def Lf90_r6 : List LOper := [om 23 0, om 24 5, oo 25 (.iadr 17 (.t 23) (.t 24)), oo 26 (.fadr 1 (.t 25)), oo 27 (.fadr 0 (.t 26)), oo 28 (.load false 1 (.t 27)), om 29 1, oo 30 (.call 51 [(.t 28), (.t 29)]), om 1 30]
def Lf90_r7 : List LOper := [om 31 1, oo 32 (.bin .lss (.t 31) (.c (ii 0)))]
def Lf90_r8 : List LOper := [oo 4 (.mv (.c (ii (-1))))]
def Lf90_r9 : List LOper := [om 33 0, om 34 5, oo 35 (.iadr 17 (.t 33) (.t 34)), oo 36 (.fadr 1 (.t 35)), oo 37 (.fadr 1 (.t 36)), oo 38 (.load false 1 (.t 37)), om 39 1, oo 40 (.bin .neq (.t 38) (.t 39))]
def Lf90_r10 : List LOper := [oo 4 (.mv (.c (ii (-1))))]
def Lf90_r11 : List LOper := [om 41 1, oo 42 (.bin .add (.t 41) (.c (ii 1))), om 1 42]
def Lf90_r12 : List LOper := [om 43 0, om 44 5, oo 45 (.iadr 17 (.t 43) (.t 44)), oo 46 (.fadr 1 (.t 45)), oo 47 (.fadr 2 (.t 46)), oo 48 (.load false 1 (.t 47)), om 49 1, oo 50 (.bin .neq (.t 48) (.t 49))]
def Lf90_r13 : List LOper := [oo 4 (.mv (.c (ii (-1))))]
def Lf90_r14 : List LOper := [om 51 1, oo 52 (.bin .add (.t 51) (.c (ii 1))), om 1 52]
def Lf90_r15 : List LOper := [om 53 0, om 54 5, oo 55 (.iadr 17 (.t 53) (.t 54)), oo 56 (.fadr 1 (.t 55)), oo 57 (.fadr 3 (.t 56)), oo 58 (.load false 1 (.t 57)), om 59 1, oo 60 (.bin .neq (.t 58) (.t 59))]
def Lf90_r16 : List LOper := [oo 4 (.mv (.c (ii (-1))))]
def Lf90_r17 : List LOper := [om 61 1, oo 62 (.bin .add (.t 61) (.c (ii 1))), om 1 62]
def Lf90_r18 : List LOper := [om 63 0, om 64 5, oo 65 (.iadr 17 (.t 63) (.t 64)), oo 66 (.fadr 1 (.t 65)), oo 67 (.fadr 4 (.t 66)), oo 68 (.load false 1 (.t 67)), om 69 1, oo 70 (.bin .neq (.t 68) (.t 69))]
def Lf90_r19 : List LOper := [oo 4 (.mv (.c (ii (-1))))]
def Lf90_r20 : List LOper := [om 71 1, oo 72 (.bin .add (.t 71) (.c (ii 1))), om 1 72]
def Lf90_r21 : List LOper := [om 73 0, om 74 5, oo 75 (.iadr 17 (.t 73) (.t 74)), oo 76 (.fadr 1 (.t 75)), oo 77 (.fadr 5 (.t 76)), oo 78 (.load false 1 (.t 77)), om 79 1, oo 80 (.bin .rem (.t 79) (.c (ii 3))), oo 81 (.bin .eql (.t 80) (.c (ii 0))), oo 82 (.binb true (.t 78) (.t 81))]
def Lf90_r22 : List LOper := [oo 4 (.mv (.c (ii (-1))))]
def Lf90_r23 : List LOper := [om 83 1, oo 84 (.bin .add (.t 83) (.c (ii 1))), om 1 84]
def Lf90_r24 : List LOper := [om 85 0, om 86 5, oo 87 (.iadr 17 (.t 85) (.t 86)), oo 88 (.fadr 1 (.t 87)), oo 89 (.fadr 6 (.t 88)), oo 90 (.load false 1 (.t 89)), om 91 1, oo 92 (.bin .neq (.t 90) (.t 91))]
def Lf90_r25 : List LOper := [oo 4 (.mv (.c (ii (-1))))]
def Lf90_r26 : List LOper := [om 93 1, oo 94 (.bin .add (.t 93) (.c (ii 1))), om 1 94]
def Lf90_r27 : List LOper := [om 95 0, om 96 5, oo 97 (.iadr 17 (.t 95) (.t 96)), oo 98 (.fadr 1 (.t 97)), oo 99 (.fadr 7 (.t 98)), oo 100 (.load false 1 (.t 99)), om 101 1, oo 102 (.bin .neq (.t 100) (.t 101))]
def Lf90_r28 : List LOper := [oo 4 (.mv (.c (ii (-1))))]
def Lf90_r29 : List LOper := [om 103 1, oo 104 (.bin .add (.t 103) (.c (ii 1))), om 1 104]
def Lf90_r30 : List LOper := [om 105 0, om 106 5, oo 107 (.iadr 17 (.t 105) (.t 106)), oo 108 (.fadr 1 (.t 107)), oo 109 (.fadr 8 (.t 108)), oo 110 (.load false 1 (.t 109)), om 111 1, oo 112 (.bin .neq (.t 110) (.t 111))]
def Lf90_r31 : List LOper := [oo 4 (.mv (.c (ii (-1))))]
def Lf90_r32 : List LOper := [om 113 1, oo 114 (.bin .add (.t 113) (.c (ii 1))), om 1 114]
def Lf90_r33 : List LOper := [om 115 0, om 116 5, oo 117 (.iadr 17 (.t 115) (.t 116)), oo 118 (.fadr 1 (.t 117)), oo 119 (.fadr 9 (.t 118)), oo 120 (.load false 1 (.t 119)), om 121 1, oo 122 (.bin .rem (.t 121) (.c (ii 3))), oo 123 (.bin .eql (.t 122) (.c (ii 0))), oo 124 (.binb true (.t 120) (.t 123))]
def Lf90_r34 : List LOper := [oo 4 (.mv (.c (ii (-1))))]
def Lf90_r35 : List LOper := [om 125 1, oo 126 (.bin .add (.t 125) (.c (ii 1))), om 1 126]
def Lf90_r36 : List LOper := [om 127 0, om 128 5, oo 129 (.iadr 17 (.t 127) (.t 128)), oo 130 (.fadr 1 (.t 129)), oo 131 (.fadr 10 (.t 130)), oo 132 (.load false 1 (.t 131)), om 133 1, oo 134 (.bin .rem (.t 133) (.c (ii 3))), oo 135 (.bin .eql (.t 134) (.c (ii 0))), oo 136 (.binb true (.t 132) (.t 135))]
def Lf90_r37 : List LOper := [oo 4 (.mv (.c (ii (-1))))]
def Lf90_r38 : List LOper := [om 137 1, oo 138 (.bin .add (.t 137) (.c (ii 1))), om 1 138]
def Lf90_r39 : List LOper := [om 139 0, om 140 5, oo 141 (.iadr 17 (.t 139) (.t 140)), oo 142 (.fadr 1 (.t 141)), oo 143 (.fadr 11 (.t 142)), oo 144 (.load false 1 (.t 143)), om 145 1, oo 146 (.bin .rem (.t 145) (.c (ii 3))), oo 147 (.bin .eql (.t 146) (.c (ii 0))), oo 148 (.binb true (.t 144) (.t 147))]
def Lf90_r40 : List LOper := [oo 4 (.mv (.c (ii (-1))))]
def Lf90_r41 : List LOper := [om 149 1, oo 150 (.bin .add (.t 149) (.c (ii 1))), om 1 150]
def Lf90_r42 : List LOper := [om 151 0, om 152 5, oo 153 (.iadr 17 (.t 151) (.t 152)), oo 154 (.fadr 1 (.t 153)), oo 155 (.fadr 12 (.t 154)), oo 156 (.load false 1 (.t 155)), om 157 1, oo 158 (.bin .rem (.t 157) (.c (ii 3))), oo 159 (.bin .eql (.t 158) (.c (ii 0))), oo 160 (.binb true (.t 156) (.t 159))]
def Lf90_r43 : List LOper := [oo 4 (.mv (.c (ii (-1))))]
def Lf90_r44 : List LOper := [om 161 1, oo 162 (.bin .add (.t 161) (.c (ii 1))), om 1 162]
def Lf90_r45 : List LOper := [om 163 0, om 164 5, oo 165 (.iadr 17 (.t 163) (.t 164)), oo 166 (.fadr 14 (.t 165)), oo 167 (.load false 1 (.t 166)), om 168 1, oo 169 (.call 116 [(.t 167), (.t 168)]), om 1 169]
def Lf90_r46 : List LOper := [om 170 1, oo 171 (.bin .lss (.t 170) (.c (ii 0)))]
def Lf90_r47 : List LOper := [oo 4 (.mv (.c (ii (-1))))]
def Lf90_r48 : List LOper := [om 172 0, om 173 5, oo 174 (.iadr 17 (.t 172) (.t 173)), oo 175 (.fadr 15 (.t 174)), oo 176 (.load false 1 (.t 175)), om 177 1, oo 178 (.call 51 [(.t 176), (.t 177)]), om 1 178]
def Lf90_r49 : List LOper := [om 179 1, oo 180 (.bin .lss (.t 179) (.c (ii 0)))]
def Lf90_r50 : List LOper := [oo 4 (.mv (.c (ii (-1))))]
def Lf90_r51 : List LOper := [om 181 0, om 182 5, oo 183 (.iadr 17 (.t 181) (.t 182)), oo 184 (.fadr 16 (.t 183)), oo 185 (.load false 1 (.t 184)), om 186 1, oo 187 (.call 51 [(.t 185), (.t 186)]), om 1 187]
def Lf90_r52 : List LOper := [om 188 1, oo 189 (.bin .lss (.t 188) (.c (ii 0)))]
def Lf90_r53 : List LOper := [oo 4 (.mv (.c (ii (-1))))]
def Lf90_r54 : List LOper := [om 10 5, oo 11 (.bin .add (.t 10) (.c (ii 1))), om 5 11]
def Lf90_l55 : LCode := (.seq (.seq (.reg false Lf90_r2) (.cond (.t 9) .skip (.exit 0))) (.seq (.block 1 (.seq (.seq (.reg false Lf90_r3) (.cond (.t 20) (.seq (.reg false Lf90_r4) .ret) .skip)) (.seq (.reg false Lf90_r5) (.seq (.reg false Lf90_r6) (.seq (.seq (.reg false Lf90_r7) (.cond (.t 32) (.seq (.reg false Lf90_r8) .ret) .skip)) (.seq (.seq (.reg false Lf90_r9) (.cond (.t 40) (.seq (.reg false Lf90_r10) .ret) .skip)) (.seq (.reg false Lf90_r11) (.seq (.seq (.reg false Lf90_r12) (.cond (.t 50) (.seq (.reg false Lf90_r13) .ret) .skip)) (.seq (.reg false Lf90_r14) (.seq (.seq (.reg false Lf90_r15) (.cond (.t 60) (.seq (.reg false Lf90_r16) .ret) .skip)) (.seq (.reg false Lf90_r17) (.seq (.seq (.reg false Lf90_r18) (.cond (.t 70) (.seq (.reg false Lf90_r19) .ret) .skip)) (.seq (.reg false Lf90_r20) (.seq (.seq (.reg false Lf90_r21) (.cond (.t 82) (.seq (.reg false Lf90_r22) .ret) .skip)) (.seq (.reg false Lf90_r23) (.seq (.seq (.reg false Lf90_r24) (.cond (.t 92) (.seq (.reg false Lf90_r25) .ret) .skip)) (.seq (.reg false Lf90_r26) (.seq (.seq (.reg false Lf90_r27) (.cond (.t 102) (.seq (.reg false Lf90_r28) .ret) .skip)) (.seq (.reg false Lf90_r29) (.seq (.seq (.reg false Lf90_r30) (.cond (.t 112) (.seq (.reg false Lf90_r31) .ret) .skip)) (.seq (.reg false Lf90_r32) (.seq (.seq (.reg false Lf90_r33) (.cond (.t 124) (.seq (.reg false Lf90_r34) .ret) .skip)) (.seq (.reg false Lf90_r35) (.seq (.seq (.reg false Lf90_r36) (.cond (.t 136) (.seq (.reg false Lf90_r37) .ret) .skip)) (.seq (.reg false Lf90_r38) (.seq (.seq (.reg false Lf90_r39) (.cond (.t 148) (.seq (.reg false Lf90_r40) .ret) .skip)) (.seq (.reg false Lf90_r41) (.seq (.seq (.reg false Lf90_r42) (.cond (.t 160) (.seq (.reg false Lf90_r43) .ret) .skip)) (.seq (.reg false Lf90_r44) (.seq (.reg false Lf90_r45) (.seq (.seq (.reg false Lf90_r46) (.cond (.t 171) (.seq (.reg false Lf90_r47) .ret) .skip)) (.seq (.reg false Lf90_r48) (.seq (.seq (.reg false Lf90_r49) (.cond (.t 180) (.seq (.reg false Lf90_r50) .ret) .skip)) (.seq (.reg false Lf90_r51) (.seq (.reg false Lf90_r52) (.cond (.t 189) (.seq (.reg false Lf90_r53) .ret) .skip)))))))))))))))))))))))))))))))))))) (.reg false Lf90_r54)))
def Lf90_r56 : List LOper := [om 190 1, om 4 190]
def Lf90 : LFun := ⟨191, [(.tmp 4)], (.seq (.reg false Lf90_r0) (.seq (.seq (.reg false Lf90_r1) (.block 0 (.loop Lf90_l55))) (.seq (.reg false Lf90_r56) .ret)))⟩
theorem low_laws_heldGuestS : lowFun Go.Proofs.Try.prog 90 = some Lf90 := by kernel_rfl
noncomputable def F_laws_heldGuestS_j1  (s1 : Int) : Option Int :=
 some s1
noncomputable def F_laws_heldGuestS_l2 (x_a : List DGuest) (s2 : Int × Int) : Option (LO (Int × Int) (JO Int Int)) :=
 cond (decide (s2.2 < (((List.length x_a) : Nat) : Int)))
  (grd ((0 : Int) ≤ s2.2 ∧ s2.2 < ((List.length x_a : Nat) : Int)) (cond (!(((List.getD x_a (Int.toNat s2.2) default).Live) == (decide ((Int.tmod s2.1 (3 : Int)) = (0 : Int)))))
   (some (.ret (.out (-1 : Int))))
   (grd ((0 : Int) ≤ s2.2 ∧ s2.2 < ((List.length x_a : Nat) : Int)) (Option.bind (F_laws_heldIntS (((List.getD x_a (Int.toNat s2.2) default).C).Regs) (w64 (s2.1 + (1 : Int)))) fun v3 =>
    cond (decide (v3 < (0 : Int)))
     (some (.ret (.out (-1 : Int))))
     (grd ((0 : Int) ≤ s2.2 ∧ s2.2 < ((List.length x_a : Nat) : Int)) (cond (!decide ((((List.getD x_a (Int.toNat s2.2) default).C).Pc) = v3))
      (some (.ret (.out (-1 : Int))))
      (grd ((0 : Int) ≤ s2.2 ∧ s2.2 < ((List.length x_a : Nat) : Int)) (cond (!decide ((((List.getD x_a (Int.toNat s2.2) default).C).Root) = (w64 (v3 + (1 : Int)))))
       (some (.ret (.out (-1 : Int))))
       (grd ((0 : Int) ≤ s2.2 ∧ s2.2 < ((List.length x_a : Nat) : Int)) (cond (!decide ((((List.getD x_a (Int.toNat s2.2) default).C).Vector) = (w64 ((w64 (v3 + (1 : Int))) + (1 : Int)))))
        (some (.ret (.out (-1 : Int))))
        (grd ((0 : Int) ≤ s2.2 ∧ s2.2 < ((List.length x_a : Nat) : Int)) (cond (!decide ((((List.getD x_a (Int.toNat s2.2) default).C).Saved) = (w64 ((w64 ((w64 (v3 + (1 : Int))) + (1 : Int))) + (1 : Int)))))
         (some (.ret (.out (-1 : Int))))
         (grd ((0 : Int) ≤ s2.2 ∧ s2.2 < ((List.length x_a : Nat) : Int)) (cond (!((((List.getD x_a (Int.toNat s2.2) default).C).SavedUser) == (decide ((Int.tmod (w64 ((w64 ((w64 ((w64 (v3 + (1 : Int))) + (1 : Int))) + (1 : Int))) + (1 : Int))) (3 : Int)) = (0 : Int)))))
          (some (.ret (.out (-1 : Int))))
          (grd ((0 : Int) ≤ s2.2 ∧ s2.2 < ((List.length x_a : Nat) : Int)) (cond (!decide ((((List.getD x_a (Int.toNat s2.2) default).C).Cause) = (w64 ((w64 ((w64 ((w64 ((w64 (v3 + (1 : Int))) + (1 : Int))) + (1 : Int))) + (1 : Int))) + (1 : Int)))))
           (some (.ret (.out (-1 : Int))))
           (grd ((0 : Int) ≤ s2.2 ∧ s2.2 < ((List.length x_a : Nat) : Int)) (cond (!decide ((((List.getD x_a (Int.toNat s2.2) default).C).Bad) = (w64 ((w64 ((w64 ((w64 ((w64 ((w64 (v3 + (1 : Int))) + (1 : Int))) + (1 : Int))) + (1 : Int))) + (1 : Int))) + (1 : Int)))))
            (some (.ret (.out (-1 : Int))))
            (grd ((0 : Int) ≤ s2.2 ∧ s2.2 < ((List.length x_a : Nat) : Int)) (cond (!decide ((((List.getD x_a (Int.toNat s2.2) default).C).Timer) = (w64 ((w64 ((w64 ((w64 ((w64 ((w64 ((w64 (v3 + (1 : Int))) + (1 : Int))) + (1 : Int))) + (1 : Int))) + (1 : Int))) + (1 : Int))) + (1 : Int)))))
             (some (.ret (.out (-1 : Int))))
             (grd ((0 : Int) ≤ s2.2 ∧ s2.2 < ((List.length x_a : Nat) : Int)) (cond (!((((List.getD x_a (Int.toNat s2.2) default).C).Waits) == (decide ((Int.tmod (w64 ((w64 ((w64 ((w64 ((w64 ((w64 ((w64 ((w64 (v3 + (1 : Int))) + (1 : Int))) + (1 : Int))) + (1 : Int))) + (1 : Int))) + (1 : Int))) + (1 : Int))) + (1 : Int))) (3 : Int)) = (0 : Int)))))
              (some (.ret (.out (-1 : Int))))
              (grd ((0 : Int) ≤ s2.2 ∧ s2.2 < ((List.length x_a : Nat) : Int)) (cond (!((((List.getD x_a (Int.toNat s2.2) default).C).User) == (decide ((Int.tmod (w64 ((w64 ((w64 ((w64 ((w64 ((w64 ((w64 ((w64 ((w64 (v3 + (1 : Int))) + (1 : Int))) + (1 : Int))) + (1 : Int))) + (1 : Int))) + (1 : Int))) + (1 : Int))) + (1 : Int))) + (1 : Int))) (3 : Int)) = (0 : Int)))))
               (some (.ret (.out (-1 : Int))))
               (grd ((0 : Int) ≤ s2.2 ∧ s2.2 < ((List.length x_a : Nat) : Int)) (cond (!((((List.getD x_a (Int.toNat s2.2) default).C).On) == (decide ((Int.tmod (w64 ((w64 ((w64 ((w64 ((w64 ((w64 ((w64 ((w64 ((w64 ((w64 (v3 + (1 : Int))) + (1 : Int))) + (1 : Int))) + (1 : Int))) + (1 : Int))) + (1 : Int))) + (1 : Int))) + (1 : Int))) + (1 : Int))) + (1 : Int))) (3 : Int)) = (0 : Int)))))
                (some (.ret (.out (-1 : Int))))
                (grd ((0 : Int) ≤ s2.2 ∧ s2.2 < ((List.length x_a : Nat) : Int)) (cond (!((((List.getD x_a (Int.toNat s2.2) default).C).Stopped) == (decide ((Int.tmod (w64 ((w64 ((w64 ((w64 ((w64 ((w64 ((w64 ((w64 ((w64 ((w64 ((w64 (v3 + (1 : Int))) + (1 : Int))) + (1 : Int))) + (1 : Int))) + (1 : Int))) + (1 : Int))) + (1 : Int))) + (1 : Int))) + (1 : Int))) + (1 : Int))) + (1 : Int))) (3 : Int)) = (0 : Int)))))
                 (some (.ret (.out (-1 : Int))))
                 (grd ((0 : Int) ≤ s2.2 ∧ s2.2 < ((List.length x_a : Nat) : Int)) (Option.bind (F_laws_heldSlotS ((List.getD x_a (Int.toNat s2.2) default).Pages) (w64 ((w64 ((w64 ((w64 ((w64 ((w64 ((w64 ((w64 ((w64 ((w64 ((w64 ((w64 (v3 + (1 : Int))) + (1 : Int))) + (1 : Int))) + (1 : Int))) + (1 : Int))) + (1 : Int))) + (1 : Int))) + (1 : Int))) + (1 : Int))) + (1 : Int))) + (1 : Int))) + (1 : Int)))) fun v4 =>
                  cond (decide (v4 < (0 : Int)))
                   (some (.ret (.out (-1 : Int))))
                   (grd ((0 : Int) ≤ s2.2 ∧ s2.2 < ((List.length x_a : Nat) : Int)) (Option.bind (F_laws_heldIntS ((List.getD x_a (Int.toNat s2.2) default).In) v4) fun v5 =>
                    cond (decide (v5 < (0 : Int)))
                     (some (.ret (.out (-1 : Int))))
                     (grd ((0 : Int) ≤ s2.2 ∧ s2.2 < ((List.length x_a : Nat) : Int)) (Option.bind (F_laws_heldIntS ((List.getD x_a (Int.toNat s2.2) default).Out) v5) fun v6 =>
                      cond (decide (v6 < (0 : Int)))
                       (some (.ret (.out (-1 : Int))))
                       (some (.next (v6, (w64 (s2.2 + (1 : Int))))))))))))))))))))))))))))))))))))))))
  (some (.ret (.go s2.1)))
noncomputable def F_laws_heldGuestS (x_a : List DGuest) (x_k : Int) : Option Int :=
 Option.bind (Option.bind (iter (F_laws_heldGuestS_l2 x_a) (x_k, (0 : Int))) LO.val) fun j1 =>
  JO.run j1 (F_laws_heldGuestS_j1)
theorem laws_heldGuestS_fn {x_a : List DGuest} {x_k : Int} {R_ : Int} (hh : F_laws_heldGuestS x_a x_k = some R_) : Fn Try.prog 90 [bo B_50 x_a, .int .i64 x_k] (.int .i64 R_) := by
 unfold F_laws_heldGuestS at hh
 refine Fn.start low_laws_heldGuestS [0, 1] (E := sp 191 [(0, bo B_50 x_a), (1, ii x_k)]) (by kernel_rfl) (v := ii R_) (Hr := []) (k := 0) (by kernel_rfl) ?_
 refine sy [0, 1] [] (sp 191 [(0, bo B_50 x_a), (1, ii x_k)]) [] 0 ?_
 obtain ⟨j1, hh, hk1⟩ := bind_some hh
 refine Aw.join (S := Int) (fun s1 => sp 191 [(1, ii s1)]) (fun s1 => []) 0 (fun s1 => F_laws_heldGuestS_j1 s1 = some R_) ?_ ?_
 · intro s1 hh
   unfold F_laws_heldGuestS_j1 at hh
   refine sy [4] [] (sp 191 [(4, ii s1)]) [] 0 ?_
   refine Aw.ret ?_
   rw [some_some hh]
   exact gvi
 intro Q1 hN1 hR1 hE1
 refine sy [0, 1, 5] [] (sp 191 [(0, bo B_50 x_a), (1, ii x_k), (5, ii 0)]) [] 0 ?_
 refine Aw.block ?_
 obtain ⟨o2, hi2, hk2⟩ := bind_some hh
 refine Aw.iter (fun (s2 : Int × Int) => sp 191 [(0, bo B_50 x_a), (1, ii s2.1), (5, ii s2.2)]) (fun (s2 : Int × Int) => []) 0 hi2 (Ent.list2 [] rfl rfl (by decide) (rens_sp (by kernel_rfl) (rl_c (u := bo B_50 x_a) (by kernel_rfl) (ren_bor (rens_same (noRefs_fl nr_B_50))) (rl_c (u := ii x_k) (by kernel_rfl) ren_i (rl_c (u := ii 0) (by kernel_rfl) ren_i rl_n)))) hs_nil) ?_
 intro s2 u2 Q2 hh hN2 hX2 hR2
 unfold F_laws_heldGuestS_l2 at hh
 refine Aw.seq ?_
 refine sy [0, 1, 5, 9] [] (sp 191 [(0, bo B_50 x_a), (1, ii s2.1), (5, ii s2.2), (9, bb (decide (s2.2 < (((List.length x_a) : Nat) : Int))))]) [] 0 ?_
 rcases cond_some hh with ⟨hb, hh⟩ | ⟨hb, hh⟩
 · refine cT hb ?_
   refine Aw.xskip (fun _ _ _ hq => then_m hq) ?_
   refine Aw.seq ?_
   refine Aw.block ?_
   refine Aw.seq ?_
   refine Aw.sreg [0, 1, 5, 20] [] (yj 2  (sp 191 [(0, bo B_50 x_a), (1, ii s2.1), (5, ii s2.2), (9, bb (decide (s2.2 < (((List.length x_a) : Nat) : Int)))), (12, bo B_50 x_a), (13, ii s2.2)]) [] 0 ?_)
   obtain ⟨hg664, hh⟩ := grd_some hh
   refine ys (.iadr 17 (.t 12) (.t 13)) (some 14) (op_iadr (kd := .i64) (c := B_50) (xs := x_a) len_B_50 (by decide) (by kernel_rfl) (by kernel_rfl) hg664 ?_)
   refine yu 1 [(14, .bptr (fl B_50 x_a) (Int.toNat s2.2 * 17)), (15, .bptr (fl B_50 x_a) (Int.toNat s2.2 * 17 + 0))] [] 0 ?_
   refine ys (.load false 1 (.t 15)) (some 16) (op_loadb (c := B_50) (xs := x_a) (o := Int.toNat s2.2 * 17 + 0) (i := (Int.toNat s2.2)) (off := 0) (v := bb ((List.getD x_a (Int.toNat s2.2) default).Live)) len_B_50 (by kernel_rfl) (by omega) (by omega) (by decide) (by kernel_rfl) ?_)
   refine ytc [(3 : Int) ≠ 0] (sp 191 [(0, bo B_50 x_a), (1, ii s2.1), (5, ii s2.2), (20, bb (!(((List.getD x_a (Int.toNat s2.2) default).Live) == (decide ((Int.tmod s2.1 (3 : Int)) = (0 : Int))))))]) [] 0 (.cons (by decide) .nil) ?_
   rcases cond_some hh with ⟨hb, hh⟩ | ⟨hb, hh⟩
   · refine cT hb ?_
     refine sy [4] [] (sp 191 [(4, ii (-1))]) [] 0 ?_
     refine Aw.ret ?_
     refine then_r (blk_r (then_r ?_))
     refine hR2 _ _ _ _ (some_some hh) ?_
     intro hout
     rw [hout] at hk2
     refine blk_r ?_
     obtain rfl := some_some hk2
     refine hR1 _ _ _ ?_
     refine ?_
     rw [some_some hk1]
     exact gvi
   refine cF hb ?_
   refine Aw.xskip (fun _ _ _ hq => then_m hq) ?_
   refine sy [0, 1, 5] [] (sp 191 [(0, bo B_50 x_a), (1, ii (w64 (s2.1 + (1 : Int)))), (5, ii s2.2)]) [] 0 ?_
   refine Aw.sreg [0, 1, 5] [] (yu 2 [(23, bo B_50 x_a), (24, ii s2.2)] [] 0 ?_)
   obtain ⟨hg666, hh⟩ := grd_some hh
   refine ys (.iadr 17 (.t 23) (.t 24)) (some 25) (op_iadr (kd := .i64) (c := B_50) (xs := x_a) len_B_50 (by decide) (by kernel_rfl) (by kernel_rfl) hg666 ?_)
   refine yu 2 [(25, .bptr (fl B_50 x_a) (Int.toNat s2.2 * 17)), (26, .bptr (fl B_50 x_a) (Int.toNat s2.2 * 17 + 1)), (27, .bptr (fl B_50 x_a) (Int.toNat s2.2 * 17 + 1 + 0))] [] 0 ?_
   refine ys (.load false 1 (.t 27)) (some 28) (op_loadb (c := B_50) (xs := x_a) (o := Int.toNat s2.2 * 17 + 1 + 0) (i := (Int.toNat s2.2)) (off := 1) (v := bo (eI .i64) (((List.getD x_a (Int.toNat s2.2) default).C).Regs)) len_B_50 (by kernel_rfl) (by omega) (by omega) (by decide) (by kernel_rfl) ?_)
   refine yu 1 [(28, bo (eI .i64) (((List.getD x_a (Int.toNat s2.2) default).C).Regs)), (29, ii (w64 (s2.1 + (1 : Int))))] [] 0 ?_
   obtain ⟨v3, hv3, hh⟩ := bind_some hh
   refine ys (.call 51 [(.t 28), (.t 29)]) (some 30) (oc (laws_heldIntS_fn hv3) ?_)
   refine yt (sp 191 [(0, bo B_50 x_a), (1, ii v3), (5, ii s2.2)]) [] 0 ?_
   refine Aw.seq ?_
   refine sy [0, 1, 5, 32] [] (sp 191 [(0, bo B_50 x_a), (1, ii v3), (5, ii s2.2), (32, bb (decide (v3 < (0 : Int))))]) [] 0 ?_
   rcases cond_some hh with ⟨hb, hh⟩ | ⟨hb, hh⟩
   · refine cT hb ?_
     refine sy [4] [] (sp 191 [(4, ii (-1))]) [] 0 ?_
     refine Aw.ret ?_
     refine then_r (blk_r (then_r ?_))
     refine hR2 _ _ _ _ (some_some hh) ?_
     intro hout
     rw [hout] at hk2
     refine blk_r ?_
     obtain rfl := some_some hk2
     refine hR1 _ _ _ ?_
     refine ?_
     rw [some_some hk1]
     exact gvi
   refine cF hb ?_
   refine Aw.xskip (fun _ _ _ hq => then_m hq) ?_
   refine Aw.seq ?_
   refine Aw.sreg [0, 1, 5, 40] [] (yj 2  (sp 191 [(0, bo B_50 x_a), (1, ii v3), (5, ii s2.2), (32, bb (decide (v3 < (0 : Int)))), (33, bo B_50 x_a), (34, ii s2.2)]) [] 0 ?_)
   obtain ⟨hg670, hh⟩ := grd_some hh
   refine ys (.iadr 17 (.t 33) (.t 34)) (some 35) (op_iadr (kd := .i64) (c := B_50) (xs := x_a) len_B_50 (by decide) (by kernel_rfl) (by kernel_rfl) hg670 ?_)
   refine yu 2 [(35, .bptr (fl B_50 x_a) (Int.toNat s2.2 * 17)), (36, .bptr (fl B_50 x_a) (Int.toNat s2.2 * 17 + 1)), (37, .bptr (fl B_50 x_a) (Int.toNat s2.2 * 17 + 1 + 1))] [] 0 ?_
   refine ys (.load false 1 (.t 37)) (some 38) (op_loadb (c := B_50) (xs := x_a) (o := Int.toNat s2.2 * 17 + 1 + 1) (i := (Int.toNat s2.2)) (off := 2) (v := ii (((List.getD x_a (Int.toNat s2.2) default).C).Pc)) len_B_50 (by kernel_rfl) (by omega) (by omega) (by decide) (by kernel_rfl) ?_)
   refine yt (sp 191 [(0, bo B_50 x_a), (1, ii v3), (5, ii s2.2), (40, bb (!decide ((((List.getD x_a (Int.toNat s2.2) default).C).Pc) = v3)))]) [] 0 ?_
   rcases cond_some hh with ⟨hb, hh⟩ | ⟨hb, hh⟩
   · refine cT hb ?_
     refine sy [4] [] (sp 191 [(4, ii (-1))]) [] 0 ?_
     refine Aw.ret ?_
     refine then_r (blk_r (then_r ?_))
     refine hR2 _ _ _ _ (some_some hh) ?_
     intro hout
     rw [hout] at hk2
     refine blk_r ?_
     obtain rfl := some_some hk2
     refine hR1 _ _ _ ?_
     refine ?_
     rw [some_some hk1]
     exact gvi
   refine cF hb ?_
   refine Aw.xskip (fun _ _ _ hq => then_m hq) ?_
   refine sy [0, 1, 5] [] (sp 191 [(0, bo B_50 x_a), (1, ii (w64 (v3 + (1 : Int)))), (5, ii s2.2)]) [] 0 ?_
   refine Aw.seq ?_
   refine Aw.sreg [0, 1, 5, 50] [] (yj 2  (sp 191 [(0, bo B_50 x_a), (1, ii (w64 (v3 + (1 : Int)))), (5, ii s2.2), (43, bo B_50 x_a), (44, ii s2.2)]) [] 0 ?_)
   obtain ⟨hg674, hh⟩ := grd_some hh
   refine ys (.iadr 17 (.t 43) (.t 44)) (some 45) (op_iadr (kd := .i64) (c := B_50) (xs := x_a) len_B_50 (by decide) (by kernel_rfl) (by kernel_rfl) hg674 ?_)
   refine yu 2 [(45, .bptr (fl B_50 x_a) (Int.toNat s2.2 * 17)), (46, .bptr (fl B_50 x_a) (Int.toNat s2.2 * 17 + 1)), (47, .bptr (fl B_50 x_a) (Int.toNat s2.2 * 17 + 1 + 2))] [] 0 ?_
   refine ys (.load false 1 (.t 47)) (some 48) (op_loadb (c := B_50) (xs := x_a) (o := Int.toNat s2.2 * 17 + 1 + 2) (i := (Int.toNat s2.2)) (off := 3) (v := ii (((List.getD x_a (Int.toNat s2.2) default).C).Root)) len_B_50 (by kernel_rfl) (by omega) (by omega) (by decide) (by kernel_rfl) ?_)
   refine yt (sp 191 [(0, bo B_50 x_a), (1, ii (w64 (v3 + (1 : Int)))), (5, ii s2.2), (50, bb (!decide ((((List.getD x_a (Int.toNat s2.2) default).C).Root) = (w64 (v3 + (1 : Int))))))]) [] 0 ?_
   rcases cond_some hh with ⟨hb, hh⟩ | ⟨hb, hh⟩
   · refine cT hb ?_
     refine sy [4] [] (sp 191 [(4, ii (-1))]) [] 0 ?_
     refine Aw.ret ?_
     refine then_r (blk_r (then_r ?_))
     refine hR2 _ _ _ _ (some_some hh) ?_
     intro hout
     rw [hout] at hk2
     refine blk_r ?_
     obtain rfl := some_some hk2
     refine hR1 _ _ _ ?_
     refine ?_
     rw [some_some hk1]
     exact gvi
   refine cF hb ?_
   refine Aw.xskip (fun _ _ _ hq => then_m hq) ?_
   refine sy [0, 1, 5] [] (sp 191 [(0, bo B_50 x_a), (1, ii (w64 ((w64 (v3 + (1 : Int))) + (1 : Int)))), (5, ii s2.2)]) [] 0 ?_
   refine Aw.seq ?_
   refine Aw.sreg [0, 1, 5, 60] [] (yj 2  (sp 191 [(0, bo B_50 x_a), (1, ii (w64 ((w64 (v3 + (1 : Int))) + (1 : Int)))), (5, ii s2.2), (53, bo B_50 x_a), (54, ii s2.2)]) [] 0 ?_)
   obtain ⟨hg678, hh⟩ := grd_some hh
   refine ys (.iadr 17 (.t 53) (.t 54)) (some 55) (op_iadr (kd := .i64) (c := B_50) (xs := x_a) len_B_50 (by decide) (by kernel_rfl) (by kernel_rfl) hg678 ?_)
   refine yu 2 [(55, .bptr (fl B_50 x_a) (Int.toNat s2.2 * 17)), (56, .bptr (fl B_50 x_a) (Int.toNat s2.2 * 17 + 1)), (57, .bptr (fl B_50 x_a) (Int.toNat s2.2 * 17 + 1 + 3))] [] 0 ?_
   refine ys (.load false 1 (.t 57)) (some 58) (op_loadb (c := B_50) (xs := x_a) (o := Int.toNat s2.2 * 17 + 1 + 3) (i := (Int.toNat s2.2)) (off := 4) (v := ii (((List.getD x_a (Int.toNat s2.2) default).C).Vector)) len_B_50 (by kernel_rfl) (by omega) (by omega) (by decide) (by kernel_rfl) ?_)
   refine yt (sp 191 [(0, bo B_50 x_a), (1, ii (w64 ((w64 (v3 + (1 : Int))) + (1 : Int)))), (5, ii s2.2), (60, bb (!decide ((((List.getD x_a (Int.toNat s2.2) default).C).Vector) = (w64 ((w64 (v3 + (1 : Int))) + (1 : Int))))))]) [] 0 ?_
   rcases cond_some hh with ⟨hb, hh⟩ | ⟨hb, hh⟩
   · refine cT hb ?_
     refine sy [4] [] (sp 191 [(4, ii (-1))]) [] 0 ?_
     refine Aw.ret ?_
     refine then_r (blk_r (then_r ?_))
     refine hR2 _ _ _ _ (some_some hh) ?_
     intro hout
     rw [hout] at hk2
     refine blk_r ?_
     obtain rfl := some_some hk2
     refine hR1 _ _ _ ?_
     refine ?_
     rw [some_some hk1]
     exact gvi
   refine cF hb ?_
   refine Aw.xskip (fun _ _ _ hq => then_m hq) ?_
   refine sy [0, 1, 5] [] (sp 191 [(0, bo B_50 x_a), (1, ii (w64 ((w64 ((w64 (v3 + (1 : Int))) + (1 : Int))) + (1 : Int)))), (5, ii s2.2)]) [] 0 ?_
   refine Aw.seq ?_
   refine Aw.sreg [0, 1, 5, 70] [] (yj 2  (sp 191 [(0, bo B_50 x_a), (1, ii (w64 ((w64 ((w64 (v3 + (1 : Int))) + (1 : Int))) + (1 : Int)))), (5, ii s2.2), (63, bo B_50 x_a), (64, ii s2.2)]) [] 0 ?_)
   obtain ⟨hg682, hh⟩ := grd_some hh
   refine ys (.iadr 17 (.t 63) (.t 64)) (some 65) (op_iadr (kd := .i64) (c := B_50) (xs := x_a) len_B_50 (by decide) (by kernel_rfl) (by kernel_rfl) hg682 ?_)
   refine yu 2 [(65, .bptr (fl B_50 x_a) (Int.toNat s2.2 * 17)), (66, .bptr (fl B_50 x_a) (Int.toNat s2.2 * 17 + 1)), (67, .bptr (fl B_50 x_a) (Int.toNat s2.2 * 17 + 1 + 4))] [] 0 ?_
   refine ys (.load false 1 (.t 67)) (some 68) (op_loadb (c := B_50) (xs := x_a) (o := Int.toNat s2.2 * 17 + 1 + 4) (i := (Int.toNat s2.2)) (off := 5) (v := ii (((List.getD x_a (Int.toNat s2.2) default).C).Saved)) len_B_50 (by kernel_rfl) (by omega) (by omega) (by decide) (by kernel_rfl) ?_)
   refine yt (sp 191 [(0, bo B_50 x_a), (1, ii (w64 ((w64 ((w64 (v3 + (1 : Int))) + (1 : Int))) + (1 : Int)))), (5, ii s2.2), (70, bb (!decide ((((List.getD x_a (Int.toNat s2.2) default).C).Saved) = (w64 ((w64 ((w64 (v3 + (1 : Int))) + (1 : Int))) + (1 : Int))))))]) [] 0 ?_
   rcases cond_some hh with ⟨hb, hh⟩ | ⟨hb, hh⟩
   · refine cT hb ?_
     refine sy [4] [] (sp 191 [(4, ii (-1))]) [] 0 ?_
     refine Aw.ret ?_
     refine then_r (blk_r (then_r ?_))
     refine hR2 _ _ _ _ (some_some hh) ?_
     intro hout
     rw [hout] at hk2
     refine blk_r ?_
     obtain rfl := some_some hk2
     refine hR1 _ _ _ ?_
     refine ?_
     rw [some_some hk1]
     exact gvi
   refine cF hb ?_
   refine Aw.xskip (fun _ _ _ hq => then_m hq) ?_
   refine sy [0, 1, 5] [] (sp 191 [(0, bo B_50 x_a), (1, ii (w64 ((w64 ((w64 ((w64 (v3 + (1 : Int))) + (1 : Int))) + (1 : Int))) + (1 : Int)))), (5, ii s2.2)]) [] 0 ?_
   refine Aw.seq ?_
   refine Aw.sreg [0, 1, 5, 82] [] (yj 2  (sp 191 [(0, bo B_50 x_a), (1, ii (w64 ((w64 ((w64 ((w64 (v3 + (1 : Int))) + (1 : Int))) + (1 : Int))) + (1 : Int)))), (5, ii s2.2), (73, bo B_50 x_a), (74, ii s2.2)]) [] 0 ?_)
   obtain ⟨hg686, hh⟩ := grd_some hh
   refine ys (.iadr 17 (.t 73) (.t 74)) (some 75) (op_iadr (kd := .i64) (c := B_50) (xs := x_a) len_B_50 (by decide) (by kernel_rfl) (by kernel_rfl) hg686 ?_)
   refine yu 2 [(75, .bptr (fl B_50 x_a) (Int.toNat s2.2 * 17)), (76, .bptr (fl B_50 x_a) (Int.toNat s2.2 * 17 + 1)), (77, .bptr (fl B_50 x_a) (Int.toNat s2.2 * 17 + 1 + 5))] [] 0 ?_
   refine ys (.load false 1 (.t 77)) (some 78) (op_loadb (c := B_50) (xs := x_a) (o := Int.toNat s2.2 * 17 + 1 + 5) (i := (Int.toNat s2.2)) (off := 6) (v := bb (((List.getD x_a (Int.toNat s2.2) default).C).SavedUser)) len_B_50 (by kernel_rfl) (by omega) (by omega) (by decide) (by kernel_rfl) ?_)
   refine ytc [(3 : Int) ≠ 0] (sp 191 [(0, bo B_50 x_a), (1, ii (w64 ((w64 ((w64 ((w64 (v3 + (1 : Int))) + (1 : Int))) + (1 : Int))) + (1 : Int)))), (5, ii s2.2), (82, bb (!((((List.getD x_a (Int.toNat s2.2) default).C).SavedUser) == (decide ((Int.tmod (w64 ((w64 ((w64 ((w64 (v3 + (1 : Int))) + (1 : Int))) + (1 : Int))) + (1 : Int))) (3 : Int)) = (0 : Int))))))]) [] 0 (.cons (by decide) .nil) ?_
   rcases cond_some hh with ⟨hb, hh⟩ | ⟨hb, hh⟩
   · refine cT hb ?_
     refine sy [4] [] (sp 191 [(4, ii (-1))]) [] 0 ?_
     refine Aw.ret ?_
     refine then_r (blk_r (then_r ?_))
     refine hR2 _ _ _ _ (some_some hh) ?_
     intro hout
     rw [hout] at hk2
     refine blk_r ?_
     obtain rfl := some_some hk2
     refine hR1 _ _ _ ?_
     refine ?_
     rw [some_some hk1]
     exact gvi
   refine cF hb ?_
   refine Aw.xskip (fun _ _ _ hq => then_m hq) ?_
   refine sy [0, 1, 5] [] (sp 191 [(0, bo B_50 x_a), (1, ii (w64 ((w64 ((w64 ((w64 ((w64 (v3 + (1 : Int))) + (1 : Int))) + (1 : Int))) + (1 : Int))) + (1 : Int)))), (5, ii s2.2)]) [] 0 ?_
   refine Aw.seq ?_
   refine Aw.sreg [0, 1, 5, 92] [] (yj 2  (sp 191 [(0, bo B_50 x_a), (1, ii (w64 ((w64 ((w64 ((w64 ((w64 (v3 + (1 : Int))) + (1 : Int))) + (1 : Int))) + (1 : Int))) + (1 : Int)))), (5, ii s2.2), (85, bo B_50 x_a), (86, ii s2.2)]) [] 0 ?_)
   obtain ⟨hg690, hh⟩ := grd_some hh
   refine ys (.iadr 17 (.t 85) (.t 86)) (some 87) (op_iadr (kd := .i64) (c := B_50) (xs := x_a) len_B_50 (by decide) (by kernel_rfl) (by kernel_rfl) hg690 ?_)
   refine yu 2 [(87, .bptr (fl B_50 x_a) (Int.toNat s2.2 * 17)), (88, .bptr (fl B_50 x_a) (Int.toNat s2.2 * 17 + 1)), (89, .bptr (fl B_50 x_a) (Int.toNat s2.2 * 17 + 1 + 6))] [] 0 ?_
   refine ys (.load false 1 (.t 89)) (some 90) (op_loadb (c := B_50) (xs := x_a) (o := Int.toNat s2.2 * 17 + 1 + 6) (i := (Int.toNat s2.2)) (off := 7) (v := ii (((List.getD x_a (Int.toNat s2.2) default).C).Cause)) len_B_50 (by kernel_rfl) (by omega) (by omega) (by decide) (by kernel_rfl) ?_)
   refine yt (sp 191 [(0, bo B_50 x_a), (1, ii (w64 ((w64 ((w64 ((w64 ((w64 (v3 + (1 : Int))) + (1 : Int))) + (1 : Int))) + (1 : Int))) + (1 : Int)))), (5, ii s2.2), (92, bb (!decide ((((List.getD x_a (Int.toNat s2.2) default).C).Cause) = (w64 ((w64 ((w64 ((w64 ((w64 (v3 + (1 : Int))) + (1 : Int))) + (1 : Int))) + (1 : Int))) + (1 : Int))))))]) [] 0 ?_
   rcases cond_some hh with ⟨hb, hh⟩ | ⟨hb, hh⟩
   · refine cT hb ?_
     refine sy [4] [] (sp 191 [(4, ii (-1))]) [] 0 ?_
     refine Aw.ret ?_
     refine then_r (blk_r (then_r ?_))
     refine hR2 _ _ _ _ (some_some hh) ?_
     intro hout
     rw [hout] at hk2
     refine blk_r ?_
     obtain rfl := some_some hk2
     refine hR1 _ _ _ ?_
     refine ?_
     rw [some_some hk1]
     exact gvi
   refine cF hb ?_
   refine Aw.xskip (fun _ _ _ hq => then_m hq) ?_
   refine sy [0, 1, 5] [] (sp 191 [(0, bo B_50 x_a), (1, ii (w64 ((w64 ((w64 ((w64 ((w64 ((w64 (v3 + (1 : Int))) + (1 : Int))) + (1 : Int))) + (1 : Int))) + (1 : Int))) + (1 : Int)))), (5, ii s2.2)]) [] 0 ?_
   refine Aw.seq ?_
   refine Aw.sreg [0, 1, 5, 102] [] (yj 2  (sp 191 [(0, bo B_50 x_a), (1, ii (w64 ((w64 ((w64 ((w64 ((w64 ((w64 (v3 + (1 : Int))) + (1 : Int))) + (1 : Int))) + (1 : Int))) + (1 : Int))) + (1 : Int)))), (5, ii s2.2), (95, bo B_50 x_a), (96, ii s2.2)]) [] 0 ?_)
   obtain ⟨hg694, hh⟩ := grd_some hh
   refine ys (.iadr 17 (.t 95) (.t 96)) (some 97) (op_iadr (kd := .i64) (c := B_50) (xs := x_a) len_B_50 (by decide) (by kernel_rfl) (by kernel_rfl) hg694 ?_)
   refine yu 2 [(97, .bptr (fl B_50 x_a) (Int.toNat s2.2 * 17)), (98, .bptr (fl B_50 x_a) (Int.toNat s2.2 * 17 + 1)), (99, .bptr (fl B_50 x_a) (Int.toNat s2.2 * 17 + 1 + 7))] [] 0 ?_
   refine ys (.load false 1 (.t 99)) (some 100) (op_loadb (c := B_50) (xs := x_a) (o := Int.toNat s2.2 * 17 + 1 + 7) (i := (Int.toNat s2.2)) (off := 8) (v := ii (((List.getD x_a (Int.toNat s2.2) default).C).Bad)) len_B_50 (by kernel_rfl) (by omega) (by omega) (by decide) (by kernel_rfl) ?_)
   refine yt (sp 191 [(0, bo B_50 x_a), (1, ii (w64 ((w64 ((w64 ((w64 ((w64 ((w64 (v3 + (1 : Int))) + (1 : Int))) + (1 : Int))) + (1 : Int))) + (1 : Int))) + (1 : Int)))), (5, ii s2.2), (102, bb (!decide ((((List.getD x_a (Int.toNat s2.2) default).C).Bad) = (w64 ((w64 ((w64 ((w64 ((w64 ((w64 (v3 + (1 : Int))) + (1 : Int))) + (1 : Int))) + (1 : Int))) + (1 : Int))) + (1 : Int))))))]) [] 0 ?_
   rcases cond_some hh with ⟨hb, hh⟩ | ⟨hb, hh⟩
   · refine cT hb ?_
     refine sy [4] [] (sp 191 [(4, ii (-1))]) [] 0 ?_
     refine Aw.ret ?_
     refine then_r (blk_r (then_r ?_))
     refine hR2 _ _ _ _ (some_some hh) ?_
     intro hout
     rw [hout] at hk2
     refine blk_r ?_
     obtain rfl := some_some hk2
     refine hR1 _ _ _ ?_
     refine ?_
     rw [some_some hk1]
     exact gvi
   refine cF hb ?_
   refine Aw.xskip (fun _ _ _ hq => then_m hq) ?_
   refine sy [0, 1, 5] [] (sp 191 [(0, bo B_50 x_a), (1, ii (w64 ((w64 ((w64 ((w64 ((w64 ((w64 ((w64 (v3 + (1 : Int))) + (1 : Int))) + (1 : Int))) + (1 : Int))) + (1 : Int))) + (1 : Int))) + (1 : Int)))), (5, ii s2.2)]) [] 0 ?_
   refine Aw.seq ?_
   refine Aw.sreg [0, 1, 5, 112] [] (yj 2  (sp 191 [(0, bo B_50 x_a), (1, ii (w64 ((w64 ((w64 ((w64 ((w64 ((w64 ((w64 (v3 + (1 : Int))) + (1 : Int))) + (1 : Int))) + (1 : Int))) + (1 : Int))) + (1 : Int))) + (1 : Int)))), (5, ii s2.2), (105, bo B_50 x_a), (106, ii s2.2)]) [] 0 ?_)
   obtain ⟨hg698, hh⟩ := grd_some hh
   refine ys (.iadr 17 (.t 105) (.t 106)) (some 107) (op_iadr (kd := .i64) (c := B_50) (xs := x_a) len_B_50 (by decide) (by kernel_rfl) (by kernel_rfl) hg698 ?_)
   refine yu 2 [(107, .bptr (fl B_50 x_a) (Int.toNat s2.2 * 17)), (108, .bptr (fl B_50 x_a) (Int.toNat s2.2 * 17 + 1)), (109, .bptr (fl B_50 x_a) (Int.toNat s2.2 * 17 + 1 + 8))] [] 0 ?_
   refine ys (.load false 1 (.t 109)) (some 110) (op_loadb (c := B_50) (xs := x_a) (o := Int.toNat s2.2 * 17 + 1 + 8) (i := (Int.toNat s2.2)) (off := 9) (v := ii (((List.getD x_a (Int.toNat s2.2) default).C).Timer)) len_B_50 (by kernel_rfl) (by omega) (by omega) (by decide) (by kernel_rfl) ?_)
   refine yt (sp 191 [(0, bo B_50 x_a), (1, ii (w64 ((w64 ((w64 ((w64 ((w64 ((w64 ((w64 (v3 + (1 : Int))) + (1 : Int))) + (1 : Int))) + (1 : Int))) + (1 : Int))) + (1 : Int))) + (1 : Int)))), (5, ii s2.2), (112, bb (!decide ((((List.getD x_a (Int.toNat s2.2) default).C).Timer) = (w64 ((w64 ((w64 ((w64 ((w64 ((w64 ((w64 (v3 + (1 : Int))) + (1 : Int))) + (1 : Int))) + (1 : Int))) + (1 : Int))) + (1 : Int))) + (1 : Int))))))]) [] 0 ?_
   rcases cond_some hh with ⟨hb, hh⟩ | ⟨hb, hh⟩
   · refine cT hb ?_
     refine sy [4] [] (sp 191 [(4, ii (-1))]) [] 0 ?_
     refine Aw.ret ?_
     refine then_r (blk_r (then_r ?_))
     refine hR2 _ _ _ _ (some_some hh) ?_
     intro hout
     rw [hout] at hk2
     refine blk_r ?_
     obtain rfl := some_some hk2
     refine hR1 _ _ _ ?_
     refine ?_
     rw [some_some hk1]
     exact gvi
   refine cF hb ?_
   refine Aw.xskip (fun _ _ _ hq => then_m hq) ?_
   refine sy [0, 1, 5] [] (sp 191 [(0, bo B_50 x_a), (1, ii (w64 ((w64 ((w64 ((w64 ((w64 ((w64 ((w64 ((w64 (v3 + (1 : Int))) + (1 : Int))) + (1 : Int))) + (1 : Int))) + (1 : Int))) + (1 : Int))) + (1 : Int))) + (1 : Int)))), (5, ii s2.2)]) [] 0 ?_
   refine Aw.seq ?_
   refine Aw.sreg [0, 1, 5, 124] [] (yj 2  (sp 191 [(0, bo B_50 x_a), (1, ii (w64 ((w64 ((w64 ((w64 ((w64 ((w64 ((w64 ((w64 (v3 + (1 : Int))) + (1 : Int))) + (1 : Int))) + (1 : Int))) + (1 : Int))) + (1 : Int))) + (1 : Int))) + (1 : Int)))), (5, ii s2.2), (115, bo B_50 x_a), (116, ii s2.2)]) [] 0 ?_)
   obtain ⟨hg702, hh⟩ := grd_some hh
   refine ys (.iadr 17 (.t 115) (.t 116)) (some 117) (op_iadr (kd := .i64) (c := B_50) (xs := x_a) len_B_50 (by decide) (by kernel_rfl) (by kernel_rfl) hg702 ?_)
   refine yu 2 [(117, .bptr (fl B_50 x_a) (Int.toNat s2.2 * 17)), (118, .bptr (fl B_50 x_a) (Int.toNat s2.2 * 17 + 1)), (119, .bptr (fl B_50 x_a) (Int.toNat s2.2 * 17 + 1 + 9))] [] 0 ?_
   refine ys (.load false 1 (.t 119)) (some 120) (op_loadb (c := B_50) (xs := x_a) (o := Int.toNat s2.2 * 17 + 1 + 9) (i := (Int.toNat s2.2)) (off := 10) (v := bb (((List.getD x_a (Int.toNat s2.2) default).C).Waits)) len_B_50 (by kernel_rfl) (by omega) (by omega) (by decide) (by kernel_rfl) ?_)
   refine ytc [(3 : Int) ≠ 0] (sp 191 [(0, bo B_50 x_a), (1, ii (w64 ((w64 ((w64 ((w64 ((w64 ((w64 ((w64 ((w64 (v3 + (1 : Int))) + (1 : Int))) + (1 : Int))) + (1 : Int))) + (1 : Int))) + (1 : Int))) + (1 : Int))) + (1 : Int)))), (5, ii s2.2), (124, bb (!((((List.getD x_a (Int.toNat s2.2) default).C).Waits) == (decide ((Int.tmod (w64 ((w64 ((w64 ((w64 ((w64 ((w64 ((w64 ((w64 (v3 + (1 : Int))) + (1 : Int))) + (1 : Int))) + (1 : Int))) + (1 : Int))) + (1 : Int))) + (1 : Int))) + (1 : Int))) (3 : Int)) = (0 : Int))))))]) [] 0 (.cons (by decide) .nil) ?_
   rcases cond_some hh with ⟨hb, hh⟩ | ⟨hb, hh⟩
   · refine cT hb ?_
     refine sy [4] [] (sp 191 [(4, ii (-1))]) [] 0 ?_
     refine Aw.ret ?_
     refine then_r (blk_r (then_r ?_))
     refine hR2 _ _ _ _ (some_some hh) ?_
     intro hout
     rw [hout] at hk2
     refine blk_r ?_
     obtain rfl := some_some hk2
     refine hR1 _ _ _ ?_
     refine ?_
     rw [some_some hk1]
     exact gvi
   refine cF hb ?_
   refine Aw.xskip (fun _ _ _ hq => then_m hq) ?_
   refine sy [0, 1, 5] [] (sp 191 [(0, bo B_50 x_a), (1, ii (w64 ((w64 ((w64 ((w64 ((w64 ((w64 ((w64 ((w64 ((w64 (v3 + (1 : Int))) + (1 : Int))) + (1 : Int))) + (1 : Int))) + (1 : Int))) + (1 : Int))) + (1 : Int))) + (1 : Int))) + (1 : Int)))), (5, ii s2.2)]) [] 0 ?_
   refine Aw.seq ?_
   refine Aw.sreg [0, 1, 5, 136] [] (yj 2  (sp 191 [(0, bo B_50 x_a), (1, ii (w64 ((w64 ((w64 ((w64 ((w64 ((w64 ((w64 ((w64 ((w64 (v3 + (1 : Int))) + (1 : Int))) + (1 : Int))) + (1 : Int))) + (1 : Int))) + (1 : Int))) + (1 : Int))) + (1 : Int))) + (1 : Int)))), (5, ii s2.2), (127, bo B_50 x_a), (128, ii s2.2)]) [] 0 ?_)
   obtain ⟨hg706, hh⟩ := grd_some hh
   refine ys (.iadr 17 (.t 127) (.t 128)) (some 129) (op_iadr (kd := .i64) (c := B_50) (xs := x_a) len_B_50 (by decide) (by kernel_rfl) (by kernel_rfl) hg706 ?_)
   refine yu 2 [(129, .bptr (fl B_50 x_a) (Int.toNat s2.2 * 17)), (130, .bptr (fl B_50 x_a) (Int.toNat s2.2 * 17 + 1)), (131, .bptr (fl B_50 x_a) (Int.toNat s2.2 * 17 + 1 + 10))] [] 0 ?_
   refine ys (.load false 1 (.t 131)) (some 132) (op_loadb (c := B_50) (xs := x_a) (o := Int.toNat s2.2 * 17 + 1 + 10) (i := (Int.toNat s2.2)) (off := 11) (v := bb (((List.getD x_a (Int.toNat s2.2) default).C).User)) len_B_50 (by kernel_rfl) (by omega) (by omega) (by decide) (by kernel_rfl) ?_)
   refine ytc [(3 : Int) ≠ 0] (sp 191 [(0, bo B_50 x_a), (1, ii (w64 ((w64 ((w64 ((w64 ((w64 ((w64 ((w64 ((w64 ((w64 (v3 + (1 : Int))) + (1 : Int))) + (1 : Int))) + (1 : Int))) + (1 : Int))) + (1 : Int))) + (1 : Int))) + (1 : Int))) + (1 : Int)))), (5, ii s2.2), (136, bb (!((((List.getD x_a (Int.toNat s2.2) default).C).User) == (decide ((Int.tmod (w64 ((w64 ((w64 ((w64 ((w64 ((w64 ((w64 ((w64 ((w64 (v3 + (1 : Int))) + (1 : Int))) + (1 : Int))) + (1 : Int))) + (1 : Int))) + (1 : Int))) + (1 : Int))) + (1 : Int))) + (1 : Int))) (3 : Int)) = (0 : Int))))))]) [] 0 (.cons (by decide) .nil) ?_
   rcases cond_some hh with ⟨hb, hh⟩ | ⟨hb, hh⟩
   · refine cT hb ?_
     refine sy [4] [] (sp 191 [(4, ii (-1))]) [] 0 ?_
     refine Aw.ret ?_
     refine then_r (blk_r (then_r ?_))
     refine hR2 _ _ _ _ (some_some hh) ?_
     intro hout
     rw [hout] at hk2
     refine blk_r ?_
     obtain rfl := some_some hk2
     refine hR1 _ _ _ ?_
     refine ?_
     rw [some_some hk1]
     exact gvi
   refine cF hb ?_
   refine Aw.xskip (fun _ _ _ hq => then_m hq) ?_
   refine sy [0, 1, 5] [] (sp 191 [(0, bo B_50 x_a), (1, ii (w64 ((w64 ((w64 ((w64 ((w64 ((w64 ((w64 ((w64 ((w64 ((w64 (v3 + (1 : Int))) + (1 : Int))) + (1 : Int))) + (1 : Int))) + (1 : Int))) + (1 : Int))) + (1 : Int))) + (1 : Int))) + (1 : Int))) + (1 : Int)))), (5, ii s2.2)]) [] 0 ?_
   refine Aw.seq ?_
   refine Aw.sreg [0, 1, 5, 148] [] (yj 2  (sp 191 [(0, bo B_50 x_a), (1, ii (w64 ((w64 ((w64 ((w64 ((w64 ((w64 ((w64 ((w64 ((w64 ((w64 (v3 + (1 : Int))) + (1 : Int))) + (1 : Int))) + (1 : Int))) + (1 : Int))) + (1 : Int))) + (1 : Int))) + (1 : Int))) + (1 : Int))) + (1 : Int)))), (5, ii s2.2), (139, bo B_50 x_a), (140, ii s2.2)]) [] 0 ?_)
   obtain ⟨hg710, hh⟩ := grd_some hh
   refine ys (.iadr 17 (.t 139) (.t 140)) (some 141) (op_iadr (kd := .i64) (c := B_50) (xs := x_a) len_B_50 (by decide) (by kernel_rfl) (by kernel_rfl) hg710 ?_)
   refine yu 2 [(141, .bptr (fl B_50 x_a) (Int.toNat s2.2 * 17)), (142, .bptr (fl B_50 x_a) (Int.toNat s2.2 * 17 + 1)), (143, .bptr (fl B_50 x_a) (Int.toNat s2.2 * 17 + 1 + 11))] [] 0 ?_
   refine ys (.load false 1 (.t 143)) (some 144) (op_loadb (c := B_50) (xs := x_a) (o := Int.toNat s2.2 * 17 + 1 + 11) (i := (Int.toNat s2.2)) (off := 12) (v := bb (((List.getD x_a (Int.toNat s2.2) default).C).On)) len_B_50 (by kernel_rfl) (by omega) (by omega) (by decide) (by kernel_rfl) ?_)
   refine ytc [(3 : Int) ≠ 0] (sp 191 [(0, bo B_50 x_a), (1, ii (w64 ((w64 ((w64 ((w64 ((w64 ((w64 ((w64 ((w64 ((w64 ((w64 (v3 + (1 : Int))) + (1 : Int))) + (1 : Int))) + (1 : Int))) + (1 : Int))) + (1 : Int))) + (1 : Int))) + (1 : Int))) + (1 : Int))) + (1 : Int)))), (5, ii s2.2), (148, bb (!((((List.getD x_a (Int.toNat s2.2) default).C).On) == (decide ((Int.tmod (w64 ((w64 ((w64 ((w64 ((w64 ((w64 ((w64 ((w64 ((w64 ((w64 (v3 + (1 : Int))) + (1 : Int))) + (1 : Int))) + (1 : Int))) + (1 : Int))) + (1 : Int))) + (1 : Int))) + (1 : Int))) + (1 : Int))) + (1 : Int))) (3 : Int)) = (0 : Int))))))]) [] 0 (.cons (by decide) .nil) ?_
   rcases cond_some hh with ⟨hb, hh⟩ | ⟨hb, hh⟩
   · refine cT hb ?_
     refine sy [4] [] (sp 191 [(4, ii (-1))]) [] 0 ?_
     refine Aw.ret ?_
     refine then_r (blk_r (then_r ?_))
     refine hR2 _ _ _ _ (some_some hh) ?_
     intro hout
     rw [hout] at hk2
     refine blk_r ?_
     obtain rfl := some_some hk2
     refine hR1 _ _ _ ?_
     refine ?_
     rw [some_some hk1]
     exact gvi
   refine cF hb ?_
   refine Aw.xskip (fun _ _ _ hq => then_m hq) ?_
   refine sy [0, 1, 5] [] (sp 191 [(0, bo B_50 x_a), (1, ii (w64 ((w64 ((w64 ((w64 ((w64 ((w64 ((w64 ((w64 ((w64 ((w64 ((w64 (v3 + (1 : Int))) + (1 : Int))) + (1 : Int))) + (1 : Int))) + (1 : Int))) + (1 : Int))) + (1 : Int))) + (1 : Int))) + (1 : Int))) + (1 : Int))) + (1 : Int)))), (5, ii s2.2)]) [] 0 ?_
   refine Aw.seq ?_
   refine Aw.sreg [0, 1, 5, 160] [] (yj 2  (sp 191 [(0, bo B_50 x_a), (1, ii (w64 ((w64 ((w64 ((w64 ((w64 ((w64 ((w64 ((w64 ((w64 ((w64 ((w64 (v3 + (1 : Int))) + (1 : Int))) + (1 : Int))) + (1 : Int))) + (1 : Int))) + (1 : Int))) + (1 : Int))) + (1 : Int))) + (1 : Int))) + (1 : Int))) + (1 : Int)))), (5, ii s2.2), (151, bo B_50 x_a), (152, ii s2.2)]) [] 0 ?_)
   obtain ⟨hg714, hh⟩ := grd_some hh
   refine ys (.iadr 17 (.t 151) (.t 152)) (some 153) (op_iadr (kd := .i64) (c := B_50) (xs := x_a) len_B_50 (by decide) (by kernel_rfl) (by kernel_rfl) hg714 ?_)
   refine yu 2 [(153, .bptr (fl B_50 x_a) (Int.toNat s2.2 * 17)), (154, .bptr (fl B_50 x_a) (Int.toNat s2.2 * 17 + 1)), (155, .bptr (fl B_50 x_a) (Int.toNat s2.2 * 17 + 1 + 12))] [] 0 ?_
   refine ys (.load false 1 (.t 155)) (some 156) (op_loadb (c := B_50) (xs := x_a) (o := Int.toNat s2.2 * 17 + 1 + 12) (i := (Int.toNat s2.2)) (off := 13) (v := bb (((List.getD x_a (Int.toNat s2.2) default).C).Stopped)) len_B_50 (by kernel_rfl) (by omega) (by omega) (by decide) (by kernel_rfl) ?_)
   refine ytc [(3 : Int) ≠ 0] (sp 191 [(0, bo B_50 x_a), (1, ii (w64 ((w64 ((w64 ((w64 ((w64 ((w64 ((w64 ((w64 ((w64 ((w64 ((w64 (v3 + (1 : Int))) + (1 : Int))) + (1 : Int))) + (1 : Int))) + (1 : Int))) + (1 : Int))) + (1 : Int))) + (1 : Int))) + (1 : Int))) + (1 : Int))) + (1 : Int)))), (5, ii s2.2), (160, bb (!((((List.getD x_a (Int.toNat s2.2) default).C).Stopped) == (decide ((Int.tmod (w64 ((w64 ((w64 ((w64 ((w64 ((w64 ((w64 ((w64 ((w64 ((w64 ((w64 (v3 + (1 : Int))) + (1 : Int))) + (1 : Int))) + (1 : Int))) + (1 : Int))) + (1 : Int))) + (1 : Int))) + (1 : Int))) + (1 : Int))) + (1 : Int))) + (1 : Int))) (3 : Int)) = (0 : Int))))))]) [] 0 (.cons (by decide) .nil) ?_
   rcases cond_some hh with ⟨hb, hh⟩ | ⟨hb, hh⟩
   · refine cT hb ?_
     refine sy [4] [] (sp 191 [(4, ii (-1))]) [] 0 ?_
     refine Aw.ret ?_
     refine then_r (blk_r (then_r ?_))
     refine hR2 _ _ _ _ (some_some hh) ?_
     intro hout
     rw [hout] at hk2
     refine blk_r ?_
     obtain rfl := some_some hk2
     refine hR1 _ _ _ ?_
     refine ?_
     rw [some_some hk1]
     exact gvi
   refine cF hb ?_
   refine Aw.xskip (fun _ _ _ hq => then_m hq) ?_
   refine sy [0, 1, 5] [] (sp 191 [(0, bo B_50 x_a), (1, ii (w64 ((w64 ((w64 ((w64 ((w64 ((w64 ((w64 ((w64 ((w64 ((w64 ((w64 ((w64 (v3 + (1 : Int))) + (1 : Int))) + (1 : Int))) + (1 : Int))) + (1 : Int))) + (1 : Int))) + (1 : Int))) + (1 : Int))) + (1 : Int))) + (1 : Int))) + (1 : Int))) + (1 : Int)))), (5, ii s2.2)]) [] 0 ?_
   refine Aw.sreg [0, 1, 5] [] (yu 2 [(163, bo B_50 x_a), (164, ii s2.2)] [] 0 ?_)
   obtain ⟨hg716, hh⟩ := grd_some hh
   refine ys (.iadr 17 (.t 163) (.t 164)) (some 165) (op_iadr (kd := .i64) (c := B_50) (xs := x_a) len_B_50 (by decide) (by kernel_rfl) (by kernel_rfl) hg716 ?_)
   refine yu 1 [(165, .bptr (fl B_50 x_a) (Int.toNat s2.2 * 17)), (166, .bptr (fl B_50 x_a) (Int.toNat s2.2 * 17 + 14))] [] 0 ?_
   refine ys (.load false 1 (.t 166)) (some 167) (op_loadb (c := B_50) (xs := x_a) (o := Int.toNat s2.2 * 17 + 14) (i := (Int.toNat s2.2)) (off := 14) (v := bo C_47 ((List.getD x_a (Int.toNat s2.2) default).Pages)) len_B_50 (by kernel_rfl) (by omega) (by omega) (by decide) (by kernel_rfl) ?_)
   refine yu 1 [(167, bo C_47 ((List.getD x_a (Int.toNat s2.2) default).Pages)), (168, ii (w64 ((w64 ((w64 ((w64 ((w64 ((w64 ((w64 ((w64 ((w64 ((w64 ((w64 ((w64 (v3 + (1 : Int))) + (1 : Int))) + (1 : Int))) + (1 : Int))) + (1 : Int))) + (1 : Int))) + (1 : Int))) + (1 : Int))) + (1 : Int))) + (1 : Int))) + (1 : Int))) + (1 : Int))))] [] 0 ?_
   obtain ⟨v4, hv4, hh⟩ := bind_some hh
   refine ys (.call 116 [(.t 167), (.t 168)]) (some 169) (op_call (r := ii v4) (v := ii v4) (Hr := []) (n' := 0) (laws_heldSlotS_fn hv4) (clz_v (vs := [bo C_47 ((List.getD x_a (Int.toNat s2.2) default).Pages), ii (w64 ((w64 ((w64 ((w64 ((w64 ((w64 ((w64 ((w64 ((w64 ((w64 ((w64 ((w64 (v3 + (1 : Int))) + (1 : Int))) + (1 : Int))) + (1 : Int))) + (1 : Int))) + (1 : Int))) + (1 : Int))) + (1 : Int))) + (1 : Int))) + (1 : Int))) + (1 : Int))) + (1 : Int)))]) (by kernel_rfl) (clz_c (clo_same (clean_bor (cleans_fl cl_C_47))) (cz1 clz_n))) rfl rfl (by kernel_rfl) ?_)
   refine yt (sp 191 [(0, bo B_50 x_a), (1, ii v4), (5, ii s2.2)]) [] 0 ?_
   refine Aw.seq ?_
   refine sy [0, 1, 5, 171] [] (sp 191 [(0, bo B_50 x_a), (1, ii v4), (5, ii s2.2), (171, bb (decide (v4 < (0 : Int))))]) [] 0 ?_
   rcases cond_some hh with ⟨hb, hh⟩ | ⟨hb, hh⟩
   · refine cT hb ?_
     refine sy [4] [] (sp 191 [(4, ii (-1))]) [] 0 ?_
     refine Aw.ret ?_
     refine then_r (blk_r (then_r ?_))
     refine hR2 _ _ _ _ (some_some hh) ?_
     intro hout
     rw [hout] at hk2
     refine blk_r ?_
     obtain rfl := some_some hk2
     refine hR1 _ _ _ ?_
     refine ?_
     rw [some_some hk1]
     exact gvi
   refine cF hb ?_
   refine Aw.xskip (fun _ _ _ hq => then_m hq) ?_
   refine Aw.sreg [0, 1, 5] [] (yj 2  (sp 191 [(0, bo B_50 x_a), (1, ii v4), (5, ii s2.2), (171, bb (decide (v4 < (0 : Int)))), (172, bo B_50 x_a), (173, ii s2.2)]) [] 0 ?_)
   obtain ⟨hg718, hh⟩ := grd_some hh
   refine ys (.iadr 17 (.t 172) (.t 173)) (some 174) (op_iadr (kd := .i64) (c := B_50) (xs := x_a) len_B_50 (by decide) (by kernel_rfl) (by kernel_rfl) hg718 ?_)
   refine yu 1 [(174, .bptr (fl B_50 x_a) (Int.toNat s2.2 * 17)), (175, .bptr (fl B_50 x_a) (Int.toNat s2.2 * 17 + 15))] [] 0 ?_
   refine ys (.load false 1 (.t 175)) (some 176) (op_loadb (c := B_50) (xs := x_a) (o := Int.toNat s2.2 * 17 + 15) (i := (Int.toNat s2.2)) (off := 15) (v := bo (eI .i64) ((List.getD x_a (Int.toNat s2.2) default).In)) len_B_50 (by kernel_rfl) (by omega) (by omega) (by decide) (by kernel_rfl) ?_)
   refine yu 1 [(176, bo (eI .i64) ((List.getD x_a (Int.toNat s2.2) default).In)), (177, ii v4)] [] 0 ?_
   obtain ⟨v5, hv5, hh⟩ := bind_some hh
   refine ys (.call 51 [(.t 176), (.t 177)]) (some 178) (oc (laws_heldIntS_fn hv5) ?_)
   refine yt (sp 191 [(0, bo B_50 x_a), (1, ii v5), (5, ii s2.2)]) [] 0 ?_
   refine Aw.seq ?_
   refine sy [0, 1, 5, 180] [] (sp 191 [(0, bo B_50 x_a), (1, ii v5), (5, ii s2.2), (180, bb (decide (v5 < (0 : Int))))]) [] 0 ?_
   rcases cond_some hh with ⟨hb, hh⟩ | ⟨hb, hh⟩
   · refine cT hb ?_
     refine sy [4] [] (sp 191 [(4, ii (-1))]) [] 0 ?_
     refine Aw.ret ?_
     refine then_r (blk_r (then_r ?_))
     refine hR2 _ _ _ _ (some_some hh) ?_
     intro hout
     rw [hout] at hk2
     refine blk_r ?_
     obtain rfl := some_some hk2
     refine hR1 _ _ _ ?_
     refine ?_
     rw [some_some hk1]
     exact gvi
   refine cF hb ?_
   refine Aw.xskip (fun _ _ _ hq => then_m hq) ?_
   refine Aw.sreg [0, 1, 5] [] (yj 2  (sp 191 [(0, bo B_50 x_a), (1, ii v5), (5, ii s2.2), (180, bb (decide (v5 < (0 : Int)))), (181, bo B_50 x_a), (182, ii s2.2)]) [] 0 ?_)
   obtain ⟨hg720, hh⟩ := grd_some hh
   refine ys (.iadr 17 (.t 181) (.t 182)) (some 183) (op_iadr (kd := .i64) (c := B_50) (xs := x_a) len_B_50 (by decide) (by kernel_rfl) (by kernel_rfl) hg720 ?_)
   refine yu 1 [(183, .bptr (fl B_50 x_a) (Int.toNat s2.2 * 17)), (184, .bptr (fl B_50 x_a) (Int.toNat s2.2 * 17 + 16))] [] 0 ?_
   refine ys (.load false 1 (.t 184)) (some 185) (op_loadb (c := B_50) (xs := x_a) (o := Int.toNat s2.2 * 17 + 16) (i := (Int.toNat s2.2)) (off := 16) (v := bo (eI .i64) ((List.getD x_a (Int.toNat s2.2) default).Out)) len_B_50 (by kernel_rfl) (by omega) (by omega) (by decide) (by kernel_rfl) ?_)
   refine yu 1 [(185, bo (eI .i64) ((List.getD x_a (Int.toNat s2.2) default).Out)), (186, ii v5)] [] 0 ?_
   obtain ⟨v6, hv6, hh⟩ := bind_some hh
   refine ys (.call 51 [(.t 185), (.t 186)]) (some 187) (oc (laws_heldIntS_fn hv6) ?_)
   refine yt (sp 191 [(0, bo B_50 x_a), (1, ii v6), (5, ii s2.2)]) [] 0 ?_
   refine sy [0, 1, 5, 189] [] (sp 191 [(0, bo B_50 x_a), (1, ii v6), (5, ii s2.2), (189, bb (decide (v6 < (0 : Int))))]) [] 0 ?_
   rcases cond_some hh with ⟨hb, hh⟩ | ⟨hb, hh⟩
   · refine cT hb ?_
     refine sy [4] [] (sp 191 [(4, ii (-1))]) [] 0 ?_
     refine Aw.ret ?_
     refine blk_r (then_r ?_)
     refine hR2 _ _ _ _ (some_some hh) ?_
     intro hout
     rw [hout] at hk2
     refine blk_r ?_
     obtain rfl := some_some hk2
     refine hR1 _ _ _ ?_
     refine ?_
     rw [some_some hk1]
     exact gvi
   refine cF hb ?_
   refine Aw.xskip (fun _ _ _ hq => blk_m (then_m hq)) ?_
   refine Aw.oreg ?_
   refine ye (sp 191 [(0, bo B_50 x_a), (1, ii v6), (5, ii (w64 (s2.2 + (1 : Int)))), (10, ii s2.2), (11, ii (w64 (s2.2 + (1 : Int)))), (189, bb (decide (v6 < (0 : Int))))]) [] 0 ?_
   exact hN2 (v6, (w64 (s2.2 + (1 : Int)))) _ _ _ (some_some hh) (Ent.list2 [] rfl rfl (by decide) (rens_sp (by kernel_rfl) (rl_c (u := bo B_50 x_a) (by kernel_rfl) (ren_bor (rens_same (noRefs_fl nr_B_50))) (rl_c (u := ii v6) (by kernel_rfl) ren_i (rl_c (u := ii (w64 (s2.2 + (1 : Int)))) (by kernel_rfl) ren_i rl_n)))) hs_nil)
 refine cF hb ?_
 refine Aw.exit ?_
 refine then_x ?_
 refine hX2 _ _ _ _ _ (some_some hh) ?_
 intro hout
 rw [hout] at hk2
 refine blk_x ?_
 obtain rfl := some_some hk2
 exact hN1 s2.1 _ _ _ hk1 (Ent.list2 [] rfl rfl (by decide) (rens_sp (by kernel_rfl) (rl_c (u := ii s2.1) (by kernel_rfl) ren_i rl_n)) hs_nil)
def Lf45_r0 : List LOper := [oo 2 (.box 26 (.t 0)), oo 4 (.mv (.c (ii 0)))]
def Lf45_r1 : List LOper := [oo 5 (.fadr 0 (.t 2)), oo 6 (.load false 1 (.t 5)), om 7 1, oo 8 (.call 51 [(.t 6), (.t 7)]), om 1 8]
def Lf45_r2 : List LOper := [om 9 1, oo 10 (.bin .lss (.t 9) (.c (ii 0)))]
def Lf45_r3 : List LOper := [oo 4 (.mv (.c (ii (-1))))]
def Lf45_r4 : List LOper := [oo 11 (.fadr 1 (.t 2)), oo 12 (.load false 1 (.t 11)), om 13 1, oo 14 (.call 90 [(.t 12), (.t 13)]), om 1 14]
def Lf45_r5 : List LOper := [om 15 1, oo 16 (.bin .lss (.t 15) (.c (ii 0)))]
def Lf45_r6 : List LOper := [oo 4 (.mv (.c (ii (-1))))]
def Lf45_r7 : List LOper := [om 17 1, om 4 17]
def Lf45 : LFun := ⟨18, [(.tmp 4)], (.seq (.reg false Lf45_r0) (.seq (.reg false Lf45_r1) (.seq (.seq (.reg false Lf45_r2) (.cond (.t 10) (.seq (.reg false Lf45_r3) .ret) .skip)) (.seq (.reg false Lf45_r4) (.seq (.seq (.reg false Lf45_r5) (.cond (.t 16) (.seq (.reg false Lf45_r6) .ret) .skip)) (.seq (.reg false Lf45_r7) .ret))))))⟩
theorem low_laws_heldHost : lowFun Go.Proofs.Try.prog 45 = some Lf45 := by kernel_rfl
noncomputable def F_laws_heldHost (x_a : DHost) (x_k : Int) : Option Int :=
 Option.bind (F_laws_heldIntS x_a.Words x_k) fun v1 =>
 cond (decide (v1 < (0 : Int)))
  (some (-1 : Int))
  (Option.bind (F_laws_heldGuestS x_a.Guests v1) fun v2 =>
  cond (decide (v2 < (0 : Int)))
   (some (-1 : Int))
   (some v2))
theorem laws_heldHost_fn {x_a : DHost} {x_k : Int} {R_ : Int} (hh : F_laws_heldHost x_a x_k = some R_) : Fn Try.prog 45 [.agg [bo (eI .i64) x_a.Words, bo B_50 x_a.Guests], .int .i64 x_k] (.int .i64 R_) := by
 unfold F_laws_heldHost at hh
 refine Fn.start low_laws_heldHost [0, 1] (E := sp 18 [(0, .agg (B_26 x_a)), (1, ii x_k)]) (by kernel_rfl) (v := ii R_) (Hr := []) (k := 0) (by kernel_rfl) ?_
 refine Aw.sreg [1, 2] [0] ?_
 let q1 : Root := ⟨26, [bo (eI .i64) x_a.Words, bo B_50 x_a.Guests]⟩
 refine yt (sp 18 [(1, ii x_k), (2, pp 0)]) [(0, some q1)] 1 ?_
 refine Aw.sreg [1, 2] [0] (yu 3 [(5, pp 0), (6, bo (eI .i64) x_a.Words), (7, ii x_k)] [(0, some q1)] 1 ?_)
 obtain ⟨v1, hv1, hh⟩ := bind_some hh
 refine ys (.call 51 [(.t 6), (.t 7)]) (some 8) (oc (laws_heldIntS_fn hv1) ?_)
 refine yt (sp 18 [(1, ii v1), (2, pp 0)]) [(0, some q1)] 1 ?_
 refine Aw.seq ?_
 refine sy [1, 2, 10] [0] (sp 18 [(1, ii v1), (2, pp 0), (10, bb (decide (v1 < (0 : Int))))]) [(0, some q1)] 1 ?_
 rcases cond_some hh with ⟨hb, hh⟩ | ⟨hb, hh⟩
 · refine cT hb ?_
   refine sy [4] [] (sp 18 [(4, ii (-1))]) [] 1 ?_
   refine Aw.ret ?_
   refine then_r ?_
   rw [some_some hh]
   exact gvi
 refine cF hb ?_
 refine Aw.xskip (fun _ _ _ hq => then_m hq) ?_
 refine Aw.sreg [1] [] (yj 3  (sp 18 [(1, ii v1), (2, pp 0), (10, bb (decide (v1 < (0 : Int)))), (11, .ptr 0 [] 1), (12, bo B_50 x_a.Guests), (13, ii v1)]) [(0, some q1)] 1 ?_)
 obtain ⟨v2, hv2, hh⟩ := bind_some hh
 refine ys (.call 90 [(.t 12), (.t 13)]) (some 14) (op_call (r := ii v2) (v := ii v2) (Hr := []) (n' := 1) (laws_heldGuestS_fn hv2) (clz_v (vs := [bo B_50 x_a.Guests, ii v1]) (by kernel_rfl) (clz_c (clo_same (clean_bor (cleans_fl cl_B_50))) (cz1 clz_n))) rfl rfl (by kernel_rfl) ?_)
 refine yt (sp 18 [(1, ii v2)]) [] 1 ?_
 refine Aw.seq ?_
 refine sy [1, 16] [] (sp 18 [(1, ii v2), (16, bb (decide (v2 < (0 : Int))))]) [] 1 ?_
 rcases cond_some hh with ⟨hb, hh⟩ | ⟨hb, hh⟩
 · refine cT hb ?_
   refine sy [4] [] (sp 18 [(4, ii (-1))]) [] 1 ?_
   refine Aw.ret ?_
   refine then_r ?_
   rw [some_some hh]
   exact gvi
 refine cF hb ?_
 refine Aw.xskip (fun _ _ _ hq => then_m hq) ?_
 refine sy [4] [] (sp 18 [(4, ii v2)]) [] 1 ?_
 refine Aw.ret ?_
 rw [some_some hh]
 exact gvi
end Go.Proofs.Ytbogmfjpabfhpaa
