/- Plain functions of the program, and that it hands back what they say. Made by program. -/
import Derived.Test.YtbogmfjpabfhpaaWT
import Derived.Test.YtbogmfjpabfhpaaProg
import Derived.Test.YtbogmfjpabfhpaaWH1
namespace Go.Proofs.Ytbogmfjpabfhpaa
open Go.RowKit
set_option maxRecDepth 100000
set_option linter.all false
set_option maxHeartbeats 0
def Lf131_r0 : List LOper := [oo 1 (.box 139 (.t 0)), oo 2 (.fresh 47 [(ii 0), (bb false), (bb false)])]
def Lf131_r1 : List LOper := [oo 3 (.fresh 47 [(ii 0), (bb false), (bb false)])]
def Lf131_r2 : List LOper := [oo 4 (.fadr 0 (.t 1)), oo 5 (.load false 1 (.t 4)), oo 6 (.fadr 0 (.t 3)), ⟨none, (.store 1 (.t 6) (.t 5)), none⟩]
def Lf131_r3 : List LOper := [oo 7 (.fadr 1 (.t 1)), oo 8 (.load false 1 (.t 7)), oo 9 (.fadr 1 (.t 3)), ⟨none, (.store 1 (.t 9) (.t 8)), none⟩]
def Lf131_r4 : List LOper := [oo 10 (.fadr 2 (.t 1)), oo 11 (.load false 1 (.t 10)), oo 12 (.fadr 2 (.t 3)), ⟨none, (.store 1 (.t 12) (.t 11)), none⟩]
def Lf131_r5 : List LOper := [oo 13 (.load true 3 (.t 3)), ⟨none, (.store 3 (.t 2) (.t 13)), none⟩]
def Lf131 : LFun := ⟨14, [(.cell 2 true 3)], (.seq (.reg false Lf131_r0) (.seq (.reg false Lf131_r1) (.seq (.reg false Lf131_r2) (.seq (.reg false Lf131_r3) (.seq (.reg false Lf131_r4) (.seq (.reg false Lf131_r5) .ret))))))⟩
theorem low_laws_toSlot : lowFun Go.Proofs.Try.prog 131 = some Lf131 := by kernel_rfl
noncomputable def F_laws_toSlot (x_a : DSlot) : Option DSlot :=
 some x_a
theorem laws_toSlot_fn {x_a : DSlot} {R_ : DSlot} (hh : F_laws_toSlot x_a = some R_) : Fn Try.prog 131 [.agg (C_47 x_a)] (.agg [.int .i64 R_.Frame, .bool R_.Write, .bool R_.Dirty]) := by
 unfold F_laws_toSlot at hh
 refine Fn.start low_laws_toSlot [0] (E := sp 14 [(0, .agg (C_47 x_a))]) (by kernel_rfl) (v := .agg [ii R_.Frame, bb R_.Write, bb R_.Dirty]) (Hr := []) (k := 0) (by kernel_rfl) ?_
 refine Aw.sreg [1, 2] [0, 1] ?_
 let q1 : Root := ⟨47, [ii 0, bb false, bb false]⟩
 refine yt (sp 14 [(1, pp 0), (2, pp 1)]) [(0, some ⟨139, (C_47 x_a)⟩), (1, some q1)] 2 ?_
 refine sy [1, 2, 3] [0, 1, 2] (sp 14 [(1, pp 0), (2, pp 1), (3, pp 2)]) [(0, some ⟨139, (C_47 x_a)⟩), (1, some q1), (2, some q1)] 3 ?_
 refine sy [1, 2, 3] [0, 1, 2] (sp 14 [(1, pp 0), (2, pp 1), (3, pp 2)]) [(0, some ⟨139, (C_47 x_a)⟩), (1, some q1), (2, some ⟨47, [ii x_a.Frame, bb false, bb false]⟩)] 3 ?_
 refine sy [1, 2, 3] [0, 1, 2] (sp 14 [(1, pp 0), (2, pp 1), (3, pp 2)]) [(0, some ⟨139, (C_47 x_a)⟩), (1, some q1), (2, some ⟨47, [ii x_a.Frame, bb x_a.Write, bb false]⟩)] 3 ?_
 refine sy [2, 3] [1, 2] (sp 14 [(2, pp 1), (3, pp 2)]) [(1, some q1), (2, some ⟨47, (C_47 x_a)⟩)] 3 ?_
 refine sy [2] [1] (sp 14 [(2, pp 1)]) [(1, some ⟨47, (C_47 x_a)⟩)] 3 ?_
 refine Aw.ret ?_
 rw [some_some hh]
 exact gives (r' := .agg (C_47 x_a)) (by kernel_rfl) (Ent.list [] rfl rfl (Nat.zero_le _) (rens_1 (ren_agg (rens_i (rens_b (rens_b rens_n))))) hs_nil)
def Lf125_r0 : List LOper := [oo 2 (.mv (.c .nil))]
def Lf125_r1 : List LOper := [om 5 0, oo 6 (.len (.t 5)), oo 7 (.mk 47 3 16 [(ii 0), (bb false), (bb false)] (.t 6)), om 3 7]
def Lf125_r2 : List LOper := [oo 4 (.mv (.c (ii 0)))]
def Lf125_r3 : List LOper := [om 8 4, om 9 0, oo 10 (.len (.t 9)), oo 11 (.bin .lss (.t 8) (.t 10))]
def Lf125_r4 : List LOper := [om 14 3, om 15 4, om 16 0, om 17 4, oo 18 (.iadr 3 (.t 16) (.t 17)), oo 19 (.load true 3 (.t 18)), oo 20 (.call 131 [(.t 19)]), oo 21 (.iadr 3 (.t 14) (.t 15)), ⟨none, (.store 3 (.t 21) (.t 20)), none⟩]
def Lf125_r5 : List LOper := [om 12 4, oo 13 (.bin .add (.t 12) (.c (ii 1))), om 4 13]
def Lf125_l6 : LCode := (.seq (.seq (.reg false Lf125_r3) (.cond (.t 11) .skip (.exit 0))) (.seq (.block 1 (.reg false Lf125_r4)) (.reg false Lf125_r5)))
def Lf125_r7 : List LOper := [om 22 3, om 2 22]
def Lf125 : LFun := ⟨23, [(.tmp 2)], (.seq (.reg false Lf125_r0) (.seq (.reg false Lf125_r1) (.seq (.seq (.reg false Lf125_r2) (.block 0 (.loop Lf125_l6))) (.seq (.reg false Lf125_r7) .ret))))⟩
theorem low_laws_toSlotS : lowFun Go.Proofs.Try.prog 125 = some Lf125 := by kernel_rfl
noncomputable def F_laws_toSlotS_j1  (s1 : (List DSlot)) : Option (List DSlot) :=
 some s1
noncomputable def F_laws_toSlotS_l2 (x_a : List DSlot) (s2 : (List DSlot) × Int) : Option (LO ((List DSlot) × Int) (JO (List DSlot) (List DSlot))) :=
 cond (decide (s2.2 < (((List.length x_a) : Nat) : Int)))
  (grd ((0 : Int) ≤ s2.2 ∧ s2.2 < ((List.length x_a : Nat) : Int)) (Option.bind (F_laws_toSlot (DSlot.mk ((List.getD x_a (Int.toNat s2.2) default).Frame) ((List.getD x_a (Int.toNat s2.2) default).Write) ((List.getD x_a (Int.toNat s2.2) default).Dirty))) fun v3 =>
   grd ((0 : Int) ≤ s2.2 ∧ s2.2 < (((List.length s2.1) : Nat) : Int)) (some (.next ((List.set s2.1 (Int.toNat s2.2) v3), (w64 (s2.2 + (1 : Int))))))))
  (some (.ret (.go s2.1)))
noncomputable def F_laws_toSlotS (x_a : List DSlot) : Option (List DSlot) :=
 grd ((0 : Int) ≤ (((List.length x_a) : Nat) : Int) ∧ (((List.length x_a) : Nat) : Int) * 16 ≤ 2 ^ 47 ∧ (((List.length x_a) : Nat) : Int) ≤ 2 ^ 47) (Option.bind (Option.bind (iter (F_laws_toSlotS_l2 x_a) ((List.replicate (Int.toNat (((List.length x_a) : Nat) : Int)) (DSlot.mk (0 : Int) false false)), (0 : Int))) LO.val) fun j1 =>
  JO.run j1 (F_laws_toSlotS_j1))
theorem laws_toSlotS_fn {x_a : List DSlot} {R_ : (List DSlot)} (hh : F_laws_toSlotS x_a = some R_) : Fn Try.prog 125 [bo C_139 x_a] (.own 47 3 (List.length R_) (fl C_47 R_)) := by
 unfold F_laws_toSlotS at hh
 refine Fn.start low_laws_toSlotS [0] (E := sp 23 [(0, bo C_139 x_a)]) (by kernel_rfl) (v := .sref 0 [] 0 (List.length R_) 3) (Hr := [(0, some ⟨47, (fl C_47 R_)⟩)]) (k := 1) (by kernel_rfl) ?_
 refine sy [0] [] (sp 23 [(0, bo C_139 x_a)]) [] 0 ?_
 refine Aw.sreg [0, 3] [0] (yu 2 [(5, bo C_139 x_a), (6, ii (((List.length x_a) : Nat) : Int))] [] 0 ?_)
 obtain ⟨hg50, hh⟩ := grd_some hh
 refine ys (.mk 47 3 16 [(ii 0), (bb false), (bb false)] (.t 6)) (some 7) (op_mk (c := C_47) (d := (DSlot.mk (0 : Int) false false)) (k := (((List.length x_a) : Nat) : Int)) (by kernel_rfl) hg50 (by kernel_rfl) ?_)
 let q1 : Root := ⟨47, (fl C_47 (List.replicate (Int.toNat (((List.length x_a) : Nat) : Int)) (DSlot.mk (0 : Int) false false)))⟩
 refine yt (sp 23 [(0, bo C_139 x_a), (3, .sref 0 [] 0 (List.length (List.replicate (Int.toNat (((List.length x_a) : Nat) : Int)) (DSlot.mk (0 : Int) false false))) 3)]) [(0, some q1)] 1 ?_
 obtain ⟨j1, hh, hk1⟩ := bind_some hh
 refine Aw.join (S := (List DSlot)) (fun s1 => sp 23 [(3, .sref 0 [] 0 (List.length s1) 3)]) (fun s1 => [(0, some ⟨47, (fl C_47 s1)⟩)]) 1 (fun s1 => F_laws_toSlotS_j1 s1 = some R_) ?_ ?_
 · intro s1 hh
   unfold F_laws_toSlotS_j1 at hh
   refine sy [2] [0] (sp 23 [(2, .sref 0 [] 0 (List.length s1) 3)]) [(0, some ⟨47, (fl C_47 s1)⟩)] 1 ?_
   refine Aw.ret ?_
   rw [some_some hh]
   exact gives (r' := .sref 0 [] 0 (List.length s1) 3) (by kernel_rfl) (Ent.list [some 0] rfl rfl (Nat.zero_le _) (rens_1 ren_sx) (hq ⟨47, (fl C_47 s1)⟩ (rens_same (noRefs_fl nr_C_47)) hs_nil))
 intro Q1 hN1 hR1 hE1
 refine sy [0, 3, 4] [0] (sp 23 [(0, bo C_139 x_a), (3, .sref 0 [] 0 (List.length (List.replicate (Int.toNat (((List.length x_a) : Nat) : Int)) (DSlot.mk (0 : Int) false false))) 3), (4, ii 0)]) [(0, some q1)] 1 ?_
 refine Aw.block ?_
 obtain ⟨o2, hi2, hk2⟩ := bind_some hh
 refine Aw.iter (fun (s2 : (List DSlot) × Int) => sp 23 [(0, bo C_139 x_a), (3, .sref 0 [] 0 (List.length s2.1) 3), (4, ii s2.2)]) (fun (s2 : (List DSlot) × Int) => [(0, some ⟨47, (fl C_47 s2.1)⟩)]) 1 hi2 (Ent.list2 [some 0] rfl rfl (by decide) (rens_sp (by kernel_rfl) (rl_c (u := bo C_139 x_a) (by kernel_rfl) (ren_bor (rens_same (noRefs_fl nr_C_139))) (rl_c (u := .sref 0 [] 0 (List.length (List.replicate (Int.toNat (((List.length x_a) : Nat) : Int)) (DSlot.mk (0 : Int) false false))) 3) (by kernel_rfl) ren_sx (rl_c (u := ii 0) (by kernel_rfl) ren_i rl_n)))) (hq q1 (rens_same (noRefs_fl nr_C_47)) hs_nil)) ?_
 intro s2 u2 Q2 hh hN2 hX2 hR2
 unfold F_laws_toSlotS_l2 at hh
 refine Aw.seq ?_
 refine sy [0, 3, 4, 11] [0] (sp 23 [(0, bo C_139 x_a), (3, .sref 0 [] 0 (List.length s2.1) 3), (4, ii s2.2), (11, bb (decide (s2.2 < (((List.length x_a) : Nat) : Int))))]) [(0, some ⟨47, (fl C_47 s2.1)⟩)] 1 ?_
 rcases cond_some hh with ⟨hb, hh⟩ | ⟨hb, hh⟩
 · refine cT hb ?_
   refine Aw.xskip (fun _ _ _ hq => then_m hq) ?_
   refine Aw.seq ?_
   refine Aw.block ?_
   refine Aw.xreg [0, 3, 4] [0] (fun _ _ _ hq => blk_m (then_m hq)) ?_
   refine yj 4  (sp 23 [(0, bo C_139 x_a), (3, .sref 0 [] 0 (List.length s2.1) 3), (4, ii s2.2), (11, bb (decide (s2.2 < (((List.length x_a) : Nat) : Int)))), (14, .sref 0 [] 0 (List.length s2.1) 3), (15, ii s2.2), (16, bo C_139 x_a), (17, ii s2.2)]) [(0, some ⟨47, (fl C_47 s2.1)⟩)] 1 ?_
   obtain ⟨hg48, hh⟩ := grd_some hh
   refine ys (.iadr 3 (.t 16) (.t 17)) (some 18) (op_iadr (kd := .i64) (c := C_139) (xs := x_a) len_C_139 (by decide) (by kernel_rfl) (by kernel_rfl) hg48 ?_)
   refine ys (.load true 3 (.t 18)) (some 19) (op_loadbA (c := C_139) (xs := x_a) (o := Int.toNat s2.2 * 3) (i := (Int.toNat s2.2)) (off := 0) (v := .agg [ii ((List.getD x_a (Int.toNat s2.2) default).Frame), bb ((List.getD x_a (Int.toNat s2.2) default).Write), bb ((List.getD x_a (Int.toNat s2.2) default).Dirty)]) len_C_139 (by kernel_rfl) (by omega) (by omega) (by decide) (by kernel_rfl) ?_)
   obtain ⟨v3, hv3, hh⟩ := bind_some hh
   refine ys (.call 131 [(.t 19)]) (some 20) (oc (laws_toSlot_fn hv3) ?_)
   obtain ⟨hg49, hh⟩ := grd_some hh
   refine yjc 1 [(0 : Int) ≤ s2.2 ∧ s2.2 < (((List.length s2.1) : Nat) : Int)] (sp 23 [(0, bo C_139 x_a), (3, .sref 0 [] 0 (List.length s2.1) 3), (4, ii s2.2), (11, bb (decide (s2.2 < (((List.length x_a) : Nat) : Int)))), (14, .sref 0 [] 0 (List.length s2.1) 3), (15, ii s2.2), (16, bo C_139 x_a), (17, ii s2.2), (18, .bptr (fl C_139 x_a) (Int.toNat s2.2 * 3)), (19, .agg [ii ((List.getD x_a (Int.toNat s2.2) default).Frame), bb ((List.getD x_a (Int.toNat s2.2) default).Write), bb ((List.getD x_a (Int.toNat s2.2) default).Dirty)]), (20, .agg (C_47 v3)), (21, .ptr 0 [] (0 + (Int.toNat s2.2) * 3))]) [(0, some ⟨47, (fl C_47 s2.1)⟩)] 1 (.cons hg49 .nil) ?_
   let q2 : Root := ⟨47, (fl C_47 (List.set s2.1 (Int.toNat s2.2) v3))⟩
   refine ys (.store 3 (.t 21) (.t 20)) none (op_store (c := C_47) (xs := s2.1) (e := 47) (r := 0) (π := []) (o := 0 + (Int.toNat s2.2) * 3) (i := (Int.toNat s2.2)) (off := 0) (vs := [ii v3.Frame, bb v3.Write, bb v3.Dirty]) (y := v3) (H' := [(0, some q2), (0, some ⟨47, (fl C_47 s2.1)⟩)]) len_C_47 (by kernel_rfl) (by kernel_rfl) (by kernel_rfl) (by kernel_rfl) (by omega) (by omega) (by decide) (by kernel_rfl) (by kernel_rfl) ?_)
   refine yt (sp 23 [(0, bo C_139 x_a), (3, .sref 0 [] 0 (List.length s2.1) 3), (4, ii s2.2)]) [(0, some q2)] 1 ?_
   refine Aw.oreg ?_
   refine ye (sp 23 [(0, bo C_139 x_a), (3, .sref 0 [] 0 (List.length s2.1) 3), (4, ii (w64 (s2.2 + (1 : Int)))), (12, ii s2.2), (13, ii (w64 (s2.2 + (1 : Int))))]) [(0, some q2)] 1 ?_
   exact hN2 ((List.set s2.1 (Int.toNat s2.2) v3), (w64 (s2.2 + (1 : Int)))) _ _ _ (some_some hh) (Ent.list2 [some 0] rfl rfl (by decide) (rens_sp (by kernel_rfl) (rl_c (u := bo C_139 x_a) (by kernel_rfl) (ren_bor (rens_same (noRefs_fl nr_C_139))) (rl_c (u := .sref 0 [] 0 (List.length s2.1) 3) (by kernel_rfl) ren_sx (rl_c (u := ii (w64 (s2.2 + (1 : Int)))) (by kernel_rfl) ren_i rl_n)))) (hq q2 (rens_same (noRefs_fl nr_C_47)) hs_nil))
 refine cF hb ?_
 refine Aw.exit ?_
 refine then_x ?_
 refine hX2 _ _ _ _ _ (some_some hh) ?_
 intro hout
 rw [hout] at hk2
 refine blk_x ?_
 obtain rfl := some_some hk2
 exact hN1 s2.1 _ _ _ hk1 (Ent.list2 [some 0] rfl rfl (by decide) (rens_sp (by kernel_rfl) (rl_c (u := .sref 0 [] 0 (List.length s2.1) 3) (by kernel_rfl) ren_sx rl_n)) (hq ⟨47, (fl C_47 s2.1)⟩ (rens_same (noRefs_fl nr_C_47)) hs_nil))
def Lf113_r0 : List LOper := [oo 1 (.box 121 (.t 0)), oo 2 (.fresh 50 [(bb false), .nil, (ii 0), (ii 0), (ii 0), (ii 0), (bb false), (ii 0), (ii 0), (ii 0), (bb false), (bb false), (bb false), (bb false), .nil, .nil, .nil])]
def Lf113_r1 : List LOper := [oo 3 (.fresh 50 [(bb false), .nil, (ii 0), (ii 0), (ii 0), (ii 0), (bb false), (ii 0), (ii 0), (ii 0), (bb false), (bb false), (bb false), (bb false), .nil, .nil, .nil])]
def Lf113_r2 : List LOper := [oo 4 (.fadr 0 (.t 1)), oo 5 (.load false 1 (.t 4)), oo 6 (.fadr 0 (.t 3)), ⟨none, (.store 1 (.t 6) (.t 5)), none⟩]
def Lf113_r3 : List LOper := [oo 7 (.fadr 1 (.t 1)), oo 8 (.load true 13 (.t 7)), oo 9 (.call 95 [(.t 8)]), oo 10 (.fadr 1 (.t 3)), ⟨none, (.store 13 (.t 10) (.t 9)), none⟩]
def Lf113_r4 : List LOper := [oo 11 (.fadr 14 (.t 1)), oo 12 (.load false 1 (.t 11)), oo 13 (.call 125 [(.t 12)]), oo 14 (.fadr 14 (.t 3)), ⟨none, (.store 1 (.t 14) (.t 13)), none⟩]
def Lf113_r5 : List LOper := [oo 15 (.fadr 15 (.t 1)), oo 16 (.load false 1 (.t 15)), oo 17 (.call 86 [(.t 16)]), oo 18 (.fadr 15 (.t 3)), ⟨none, (.store 1 (.t 18) (.t 17)), none⟩]
def Lf113_r6 : List LOper := [oo 19 (.fadr 16 (.t 1)), oo 20 (.load false 1 (.t 19)), oo 21 (.call 86 [(.t 20)]), oo 22 (.fadr 16 (.t 3)), ⟨none, (.store 1 (.t 22) (.t 21)), none⟩]
def Lf113_r7 : List LOper := [oo 23 (.load true 17 (.t 3)), ⟨none, (.store 17 (.t 2) (.t 23)), none⟩]
def Lf113 : LFun := ⟨24, [(.cell 2 true 17)], (.seq (.reg false Lf113_r0) (.seq (.reg false Lf113_r1) (.seq (.reg false Lf113_r2) (.seq (.reg false Lf113_r3) (.seq (.reg false Lf113_r4) (.seq (.reg false Lf113_r5) (.seq (.reg false Lf113_r6) (.seq (.reg false Lf113_r7) .ret))))))))⟩
theorem low_laws_toGuest : lowFun Go.Proofs.Try.prog 113 = some Lf113 := by kernel_rfl
noncomputable def F_laws_toGuest (x_a : DGuest) : Option DGuest :=
 Option.bind (F_laws_toCore x_a.C) fun v1 =>
 Option.bind (F_laws_toSlotS x_a.Pages) fun v2 =>
 Option.bind (F_laws_toIntS x_a.In) fun v3 =>
 Option.bind (F_laws_toIntS x_a.Out) fun v4 =>
 some (DGuest.mk x_a.Live v1 v2 v3 v4)
theorem laws_toGuest_fn {x_a : DGuest} {R_ : DGuest} (hh : F_laws_toGuest x_a = some R_) : Fn Try.prog 113 [.agg (.bool x_a.Live :: bo (eI .i64) x_a.C.Regs :: ru36 x_a.C [bo C_139 x_a.Pages, bo (eI .i64) x_a.In, bo (eI .i64) x_a.Out])] (.agg (.bool R_.Live :: .own 3 1 (List.length R_.C.Regs) (fl (eI .i64) R_.C.Regs) :: ru36 R_.C [.own 47 3 (List.length R_.Pages) (fl C_47 R_.Pages), .own 3 1 (List.length R_.In) (fl (eI .i64) R_.In), .own 3 1 (List.length R_.Out) (fl (eI .i64) R_.Out)])) := by
 unfold F_laws_toGuest at hh
 refine Fn.start low_laws_toGuest [0] (E := sp 24 [(0, .agg (bb x_a.Live :: bo (eI .i64) x_a.C.Regs :: ru36 x_a.C [bo C_139 x_a.Pages, bo (eI .i64) x_a.In, bo (eI .i64) x_a.Out]))]) (by kernel_rfl) (v := .agg (bb R_.Live :: sw 0 R_.C.Regs :: ru36 R_.C [.sref 1 [] 0 (List.length R_.Pages) 3, sw 2 R_.In, sw 3 R_.Out])) (Hr := [(3, some ⟨3, (fl (eI .i64) R_.Out)⟩), (2, some ⟨3, (fl (eI .i64) R_.In)⟩), (1, some ⟨47, (fl C_47 R_.Pages)⟩), (0, some ⟨3, (fl (eI .i64) R_.C.Regs)⟩)]) (k := 4) (by kernel_rfl) ?_
 refine Aw.sreg [1, 2] [0, 1] ?_
 let q1 : Root := ⟨121, (bb x_a.Live :: bo (eI .i64) x_a.C.Regs :: ru36 x_a.C [bo C_139 x_a.Pages, bo (eI .i64) x_a.In, bo (eI .i64) x_a.Out])⟩
 let q2 : Root := ⟨50, (bb false :: .nil :: zru36 [.nil, .nil, .nil])⟩
 refine yt (sp 24 [(1, pp 0), (2, pp 1)]) [(0, some q1), (1, some q2)] 2 ?_
 refine sy [1, 2, 3] [0, 1, 2] (sp 24 [(1, pp 0), (2, pp 1), (3, pp 2)]) [(0, some q1), (1, some q2), (2, some q2)] 3 ?_
 refine Aw.sreg [1, 2, 3] [0, 1, 2] ?_
 let q3 : Root := ⟨50, (bb x_a.Live :: .nil :: zru36 [.nil, .nil, .nil])⟩
 refine yt (sp 24 [(1, pp 0), (2, pp 1), (3, pp 2)]) [(0, some q1), (1, some q2), (2, some q3)] 3 ?_
 refine Aw.sreg [1, 2, 3] [0, 1, 2, 3] (yu 2 [(7, .ptr 0 [] 1), (8, .agg (B_36 x_a.C))] [(0, some q1), (1, some q2), (2, some q3)] 3 ?_)
 obtain ⟨v1, hv1, hh⟩ := bind_some hh
 let q4 : Root := ⟨3, (fl (eI .i64) v1.Regs)⟩
 refine ys (.call 95 [(.t 8)]) (some 9) (op_call (r := .agg (.own 3 1 (List.length v1.Regs) (fl (eI .i64) v1.Regs) :: ru36 v1 [])) (v := .agg (sw 3 v1.Regs :: ru36 v1 [])) (Hr := [(3, some q4)]) (n' := 4) (laws_toCore_fn hv1) (clz_v (vs := [.agg (B_36 x_a.C)]) (by kernel_rfl) (clz_c (clo_same (clean_agg (cl_B_36 _))) clz_n)) (by simp only [ru36, AV.noRef, noRefs, Bool.and_self, noRefs_fl nr_eI]) (by simp only [ru36, AV.noBor, noBors, Bool.and_self, noBors_fl nb_eI]) (by kernel_rfl) ?_)
 let q5 : Root := ⟨50, (bb x_a.Live :: sw 3 v1.Regs :: ru36 v1 [.nil, .nil, .nil])⟩
 refine yt (sp 24 [(1, pp 0), (2, pp 1), (3, pp 2)]) [(0, some q1), (1, some q2), (2, some q5), (3, some q4)] 4 ?_
 refine Aw.sreg [1, 2, 3] [0, 1, 2, 3, 4] (yu 2 [(11, .ptr 0 [] 14), (12, bo C_139 x_a.Pages)] [(0, some q1), (1, some q2), (2, some q5), (3, some q4)] 4 ?_)
 obtain ⟨v2, hv2, hh⟩ := bind_some hh
 refine ys (.call 125 [(.t 12)]) (some 13) (op_call (r := .own 47 3 (List.length v2) (fl C_47 v2)) (v := .sref 4 [] 0 (List.length v2) 3) (Hr := [(4, some ⟨47, (fl C_47 v2)⟩)]) (n' := 5) (laws_toSlotS_fn hv2) (clz_v (vs := [bo C_139 x_a.Pages]) (by kernel_rfl) (clz_c (clo_same (clean_bor (cleans_fl cl_C_139))) clz_n)) (by simp only [AV.noRef, noRefs, Bool.and_self, noRefs_fl nr_C_47]) (by simp only [AV.noBor, noBors, Bool.and_self, noBors_fl nb_C_47]) (by kernel_rfl) ?_)
 let q6 : Root := ⟨50, (bb x_a.Live :: sw 3 v1.Regs :: ru36 v1 [.sref 4 [] 0 (List.length v2) 3, .nil, .nil])⟩
 refine yt (sp 24 [(1, pp 0), (2, pp 1), (3, pp 2)]) [(0, some q1), (1, some q2), (2, some q6), (3, some q4), (4, some ⟨47, (fl C_47 v2)⟩)] 5 ?_
 refine Aw.sreg [1, 2, 3] [0, 1, 2, 3, 4, 5] (yu 2 [(15, .ptr 0 [] 15), (16, bo (eI .i64) x_a.In)] [(0, some q1), (1, some q2), (2, some q6), (3, some q4), (4, some ⟨47, (fl C_47 v2)⟩)] 5 ?_)
 obtain ⟨v3, hv3, hh⟩ := bind_some hh
 refine ys (.call 86 [(.t 16)]) (some 17) (op_call (r := .own 3 1 (List.length v3) (fl (eI .i64) v3)) (v := sw 5 v3) (Hr := [(5, some ⟨3, (fl (eI .i64) v3)⟩)]) (n' := 6) (laws_toIntS_fn hv3) (clz_v (vs := [bo (eI .i64) x_a.In]) (by kernel_rfl) (clz_c (clo_same (clean_bor (cleans_fl cl_eI))) clz_n)) (by simp only [AV.noRef, noRefs, Bool.and_self, noRefs_fl nr_eI]) (by simp only [AV.noBor, noBors, Bool.and_self, noBors_fl nb_eI]) (by kernel_rfl) ?_)
 let q7 : Root := ⟨50, (bb x_a.Live :: sw 3 v1.Regs :: ru36 v1 [.sref 4 [] 0 (List.length v2) 3, sw 5 v3, .nil])⟩
 refine yt (sp 24 [(1, pp 0), (2, pp 1), (3, pp 2)]) [(0, some q1), (1, some q2), (2, some q7), (3, some q4), (4, some ⟨47, (fl C_47 v2)⟩), (5, some ⟨3, (fl (eI .i64) v3)⟩)] 6 ?_
 refine Aw.sreg [2, 3] [1, 2, 3, 4, 5, 6] (yu 2 [(19, .ptr 0 [] 16), (20, bo (eI .i64) x_a.Out)] [(0, some q1), (1, some q2), (2, some q7), (3, some q4), (4, some ⟨47, (fl C_47 v2)⟩), (5, some ⟨3, (fl (eI .i64) v3)⟩)] 6 ?_)
 obtain ⟨v4, hv4, hh⟩ := bind_some hh
 refine ys (.call 86 [(.t 20)]) (some 21) (op_call (r := .own 3 1 (List.length v4) (fl (eI .i64) v4)) (v := sw 6 v4) (Hr := [(6, some ⟨3, (fl (eI .i64) v4)⟩)]) (n' := 7) (laws_toIntS_fn hv4) (clz_v (vs := [bo (eI .i64) x_a.Out]) (by kernel_rfl) (clz_c (clo_same (clean_bor (cleans_fl cl_eI))) clz_n)) (by simp only [AV.noRef, noRefs, Bool.and_self, noRefs_fl nr_eI]) (by simp only [AV.noBor, noBors, Bool.and_self, noBors_fl nb_eI]) (by kernel_rfl) ?_)
 let q8 : Root := ⟨50, (bb x_a.Live :: sw 3 v1.Regs :: ru36 v1 [.sref 4 [] 0 (List.length v2) 3, sw 5 v3, sw 6 v4])⟩
 refine yt (sp 24 [(2, pp 1), (3, pp 2)]) [(1, some q2), (2, some q8), (3, some q4), (4, some ⟨47, (fl C_47 v2)⟩), (5, some ⟨3, (fl (eI .i64) v3)⟩), (6, some ⟨3, (fl (eI .i64) v4)⟩)] 7 ?_
 refine sy [2] [1, 3, 4, 5, 6] (sp 24 [(2, pp 1)]) [(1, some q8), (3, some q4), (4, some ⟨47, (fl C_47 v2)⟩), (5, some ⟨3, (fl (eI .i64) v3)⟩), (6, some ⟨3, (fl (eI .i64) v4)⟩)] 7 ?_
 refine Aw.ret ?_
 rw [some_some hh]
 exact gives (r' := .agg (bb x_a.Live :: sw 3 v1.Regs :: ru36 v1 [.sref 4 [] 0 (List.length v2) 3, sw 5 v3, sw 6 v4])) (by kernel_rfl) (Ent.list [some 3, some 4, some 5, some 6] rfl rfl (Nat.zero_le _) (rens_1 (ren_agg (rens_b (rens_c ren_sx (rens_i (rens_i (rens_i (rens_i (rens_b (rens_i (rens_i (rens_i (rens_b (rens_b (rens_b (rens_b (rens_c ren_sx (rens_c ren_sx (rens_c ren_sx rens_n))))))))))))))))))) (hq ⟨3, (fl (eI .i64) v4)⟩ (rens_same (noRefs_fl nr_eI)) (hq ⟨3, (fl (eI .i64) v3)⟩ (rens_same (noRefs_fl nr_eI)) (hq ⟨47, (fl C_47 v2)⟩ (rens_same (noRefs_fl nr_C_47)) (hq q4 (rens_same (noRefs_fl nr_eI)) hs_nil)))))
def Lf87_r0 : List LOper := [oo 2 (.mv (.c .nil))]
def Lf87_r1 : List LOper := [om 5 0, oo 6 (.len (.t 5)), oo 7 (.mk 50 17 176 [(bb false), .nil, (ii 0), (ii 0), (ii 0), (ii 0), (bb false), (ii 0), (ii 0), (ii 0), (bb false), (bb false), (bb false), (bb false), .nil, .nil, .nil] (.t 6)), om 3 7]
def Lf87_r2 : List LOper := [oo 4 (.mv (.c (ii 0)))]
def Lf87_r3 : List LOper := [om 8 4, om 9 0, oo 10 (.len (.t 9)), oo 11 (.bin .lss (.t 8) (.t 10))]
def Lf87_r4 : List LOper := [om 14 3, om 15 4, om 16 0, om 17 4, oo 18 (.iadr 17 (.t 16) (.t 17)), oo 19 (.load true 17 (.t 18)), oo 20 (.call 113 [(.t 19)]), oo 21 (.iadr 17 (.t 14) (.t 15)), ⟨none, (.store 17 (.t 21) (.t 20)), none⟩]
def Lf87_r5 : List LOper := [om 12 4, oo 13 (.bin .add (.t 12) (.c (ii 1))), om 4 13]
def Lf87_l6 : LCode := (.seq (.seq (.reg false Lf87_r3) (.cond (.t 11) .skip (.exit 0))) (.seq (.block 1 (.reg false Lf87_r4)) (.reg false Lf87_r5)))
def Lf87_r7 : List LOper := [om 22 3, om 2 22]
def Lf87 : LFun := ⟨23, [(.tmp 2)], (.seq (.reg false Lf87_r0) (.seq (.reg false Lf87_r1) (.seq (.seq (.reg false Lf87_r2) (.block 0 (.loop Lf87_l6))) (.seq (.reg false Lf87_r7) .ret))))⟩
theorem low_laws_toGuestS : lowFun Go.Proofs.Try.prog 87 = some Lf87 := by kernel_rfl
noncomputable def F_laws_toGuestS_j1  (s1 : (List DGuest)) : Option (List DGuest) :=
 some s1
noncomputable def F_laws_toGuestS_l2 (x_a : List DGuest) (s2 : (List DGuest) × Int) : Option (LO ((List DGuest) × Int) (JO (List DGuest) (List DGuest))) :=
 cond (decide (s2.2 < (((List.length x_a) : Nat) : Int)))
  (grd ((0 : Int) ≤ s2.2 ∧ s2.2 < ((List.length x_a : Nat) : Int)) (Option.bind (F_laws_toGuest (DGuest.mk ((List.getD x_a (Int.toNat s2.2) default).Live) (DCore.mk (((List.getD x_a (Int.toNat s2.2) default).C).Regs) (((List.getD x_a (Int.toNat s2.2) default).C).Pc) (((List.getD x_a (Int.toNat s2.2) default).C).Root) (((List.getD x_a (Int.toNat s2.2) default).C).Vector) (((List.getD x_a (Int.toNat s2.2) default).C).Saved) (((List.getD x_a (Int.toNat s2.2) default).C).SavedUser) (((List.getD x_a (Int.toNat s2.2) default).C).Cause) (((List.getD x_a (Int.toNat s2.2) default).C).Bad) (((List.getD x_a (Int.toNat s2.2) default).C).Timer) (((List.getD x_a (Int.toNat s2.2) default).C).Waits) (((List.getD x_a (Int.toNat s2.2) default).C).User) (((List.getD x_a (Int.toNat s2.2) default).C).On) (((List.getD x_a (Int.toNat s2.2) default).C).Stopped)) ((List.getD x_a (Int.toNat s2.2) default).Pages) ((List.getD x_a (Int.toNat s2.2) default).In) ((List.getD x_a (Int.toNat s2.2) default).Out))) fun v3 =>
   grd ((0 : Int) ≤ s2.2 ∧ s2.2 < (((List.length s2.1) : Nat) : Int)) (some (.next ((List.set s2.1 (Int.toNat s2.2) v3), (w64 (s2.2 + (1 : Int))))))))
  (some (.ret (.go s2.1)))
noncomputable def F_laws_toGuestS (x_a : List DGuest) : Option (List DGuest) :=
 grd ((0 : Int) ≤ (((List.length x_a) : Nat) : Int) ∧ (((List.length x_a) : Nat) : Int) * 176 ≤ 2 ^ 47 ∧ (((List.length x_a) : Nat) : Int) ≤ 2 ^ 47) (Option.bind (Option.bind (iter (F_laws_toGuestS_l2 x_a) ((List.replicate (Int.toNat (((List.length x_a) : Nat) : Int)) (DGuest.mk false (DCore.mk ([] : List Int) (0 : Int) (0 : Int) (0 : Int) (0 : Int) false (0 : Int) (0 : Int) (0 : Int) false false false false) ([] : List DSlot) ([] : List Int) ([] : List Int))), (0 : Int))) LO.val) fun j1 =>
  JO.run j1 (F_laws_toGuestS_j1))
theorem laws_toGuestS_fn {x_a : List DGuest} {R_ : (List DGuest)} (hh : F_laws_toGuestS x_a = some R_) : Fn Try.prog 87 [bo B_121 x_a] (.own 50 17 (List.length R_) (fl O_50 R_)) := by
 unfold F_laws_toGuestS at hh
 refine Fn.start low_laws_toGuestS [0] (E := sp 23 [(0, bo B_121 x_a)]) (by kernel_rfl) (v := .sref 0 [] 0 (List.length R_) 17) (Hr := [(0, some ⟨50, (fl O_50 R_)⟩)]) (k := 1) (by kernel_rfl) ?_
 refine sy [0] [] (sp 23 [(0, bo B_121 x_a)]) [] 0 ?_
 refine Aw.sreg [0, 3] [0] (yu 2 [(5, bo B_121 x_a), (6, ii (((List.length x_a) : Nat) : Int))] [] 0 ?_)
 obtain ⟨hg50, hh⟩ := grd_some hh
 refine ys (.mk 50 17 176 [(bb false), .nil, (ii 0), (ii 0), (ii 0), (ii 0), (bb false), (ii 0), (ii 0), (ii 0), (bb false), (bb false), (bb false), (bb false), .nil, .nil, .nil] (.t 6)) (some 7) (op_mkR (z := (bb false :: .nil :: zru36 [.nil, .nil, .nil])) (k := (((List.length x_a) : Nat) : Int)) (by kernel_rfl) hg50 ?_)
 refine yt (sp 23 [(0, bo B_121 x_a), (3, .sref 0 [] 0 (Int.toNat (((List.length x_a) : Nat) : Int)) 17)]) [(0, some ⟨50, (repeatCells (bb false :: .nil :: zru36 [.nil, .nil, .nil]) (Int.toNat (((List.length x_a) : Nat) : Int)))⟩)] 1 ?_
 refine Aw.ent (Ent.foldM (c := O_50) (k := Int.toNat (((List.length x_a) : Nat) : Int)) (d := (DGuest.mk false (DCore.mk ([] : List Int) (0 : Int) (0 : Int) (0 : Int) (0 : Int) false (0 : Int) (0 : Int) (0 : Int) false false false false) ([] : List DSlot) ([] : List Int) ([] : List Int))) (R := 0) (e := 50) (us2 := sp 23 [(0, bo B_121 x_a), (3, .sref 1 [] 0 (List.length (List.replicate (Int.toNat (((List.length x_a) : Nat) : Int)) (DGuest.mk false (DCore.mk ([] : List Int) (0 : Int) (0 : Int) (0 : Int) (0 : Int) false (0 : Int) (0 : Int) (0 : Int) false false false false) ([] : List DSlot) ([] : List Int) ([] : List Int)))) 17)]) (H2 := []) (L := [none, some none, none, none, none, none, none, none, none, none, none, none, none, none, some none, some none, some none]) (ws := (bb false :: .own 3 1 0 [] :: zru36 [.own 47 3 0 [], .own 3 1 0 [], .own 3 1 0 []])) (by decide) (by kernel_rfl) (by kernel_rfl) (fcs_s (fcs_0 (fcs_s (fcs_s (fcs_s (fcs_s (fcs_s (fcs_s (fcs_s (fcs_s (fcs_s (fcs_s (fcs_s (fcs_s (fcs_0 (fcs_0 (fcs_0 fcs_n))))))))))))))))) rfl (rds_sp (by kernel_rfl) (rdl_c (u := bo B_121 x_a) (by kernel_rfl) (.same _) (rdl_c (u := .sref 0 [] 0 (Int.toNat (((List.length x_a) : Nat) : Int)) 17) (by kernel_rfl) (.sref _ _ _ _ (by first | rfl | omega | (simp only [List.length_set, over_len, List.length_replicate, List.length_append, List.length_cons, List.length_nil, List.length_take, List.length_drop] <;> omega))) rdl_n))) hd_n) ?_
 obtain ⟨j1, hh, hk1⟩ := bind_some hh
 refine Aw.join (S := (List DGuest)) (fun s1 => sp 23 [(3, .sref 0 [] 0 (List.length s1) 17)]) (fun s1 => [(0, some ⟨50, (fl O_50 s1)⟩)]) 1 (fun s1 => F_laws_toGuestS_j1 s1 = some R_) ?_ ?_
 · intro s1 hh
   unfold F_laws_toGuestS_j1 at hh
   refine sy [2] [0] (sp 23 [(2, .sref 0 [] 0 (List.length s1) 17)]) [(0, some ⟨50, (fl O_50 s1)⟩)] 1 ?_
   refine Aw.ret ?_
   rw [some_some hh]
   exact gives (r' := .sref 0 [] 0 (List.length s1) 17) (by kernel_rfl) (Ent.list [some 0] rfl rfl (Nat.zero_le _) (rens_1 ren_sx) (hq ⟨50, (fl O_50 s1)⟩ (rens_same (noRefs_fl nr_O_50)) hs_nil))
 intro Q1 hN1 hR1 hE1
 refine Aw.sreg [0, 3, 4] [1] ?_
 let q1 : Root := ⟨50, (fl O_50 (List.replicate (Int.toNat (((List.length x_a) : Nat) : Int)) (DGuest.mk false (DCore.mk ([] : List Int) (0 : Int) (0 : Int) (0 : Int) (0 : Int) false (0 : Int) (0 : Int) (0 : Int) false false false false) ([] : List DSlot) ([] : List Int) ([] : List Int))))⟩
 refine yt (sp 23 [(0, bo B_121 x_a), (3, .sref 1 [] 0 (List.length (List.replicate (Int.toNat (((List.length x_a) : Nat) : Int)) (DGuest.mk false (DCore.mk ([] : List Int) (0 : Int) (0 : Int) (0 : Int) (0 : Int) false (0 : Int) (0 : Int) (0 : Int) false false false false) ([] : List DSlot) ([] : List Int) ([] : List Int)))) 17), (4, ii 0)]) [(1, some q1)] 2 ?_
 refine Aw.block ?_
 obtain ⟨o2, hi2, hk2⟩ := bind_some hh
 refine Aw.iter (fun (s2 : (List DGuest) × Int) => sp 23 [(0, bo B_121 x_a), (3, .sref 0 [] 0 (List.length s2.1) 17), (4, ii s2.2)]) (fun (s2 : (List DGuest) × Int) => [(0, some ⟨50, (fl O_50 s2.1)⟩)]) 1 hi2 (Ent.list2 [some 1] rfl rfl (by decide) (rens_sp (by kernel_rfl) (rl_c (u := bo B_121 x_a) (by kernel_rfl) (ren_bor (rens_same (noRefs_fl nr_B_121))) (rl_c (u := .sref 1 [] 0 (List.length (List.replicate (Int.toNat (((List.length x_a) : Nat) : Int)) (DGuest.mk false (DCore.mk ([] : List Int) (0 : Int) (0 : Int) (0 : Int) (0 : Int) false (0 : Int) (0 : Int) (0 : Int) false false false false) ([] : List DSlot) ([] : List Int) ([] : List Int)))) 17) (by kernel_rfl) ren_sx (rl_c (u := ii 0) (by kernel_rfl) ren_i rl_n)))) (hq q1 (rens_same (noRefs_fl nr_O_50)) hs_nil)) ?_
 intro s2 u2 Q2 hh hN2 hX2 hR2
 unfold F_laws_toGuestS_l2 at hh
 refine Aw.seq ?_
 refine sy [0, 3, 4, 11] [0] (sp 23 [(0, bo B_121 x_a), (3, .sref 0 [] 0 (List.length s2.1) 17), (4, ii s2.2), (11, bb (decide (s2.2 < (((List.length x_a) : Nat) : Int))))]) [(0, some ⟨50, (fl O_50 s2.1)⟩)] 1 ?_
 rcases cond_some hh with ⟨hb, hh⟩ | ⟨hb, hh⟩
 · refine cT hb ?_
   refine Aw.xskip (fun _ _ _ hq => then_m hq) ?_
   refine Aw.seq ?_
   refine Aw.block ?_
   refine Aw.xreg [0, 3, 4] [0, 1, 2, 3, 4] (fun _ _ _ hq => blk_m (then_m hq)) ?_
   refine yj 4  (sp 23 [(0, bo B_121 x_a), (3, .sref 0 [] 0 (List.length s2.1) 17), (4, ii s2.2), (11, bb (decide (s2.2 < (((List.length x_a) : Nat) : Int)))), (14, .sref 0 [] 0 (List.length s2.1) 17), (15, ii s2.2), (16, bo B_121 x_a), (17, ii s2.2)]) [(0, some ⟨50, (fl O_50 s2.1)⟩)] 1 ?_
   obtain ⟨hg48, hh⟩ := grd_some hh
   refine ys (.iadr 17 (.t 16) (.t 17)) (some 18) (op_iadr (kd := .i64) (c := B_121) (xs := x_a) len_B_121 (by decide) (by kernel_rfl) (by kernel_rfl) hg48 ?_)
   refine ys (.load true 17 (.t 18)) (some 19) (op_loadbA (c := B_121) (xs := x_a) (o := Int.toNat s2.2 * 17) (i := (Int.toNat s2.2)) (off := 0) (v := .agg [bb ((List.getD x_a (Int.toNat s2.2) default).Live), bo (eI .i64) (((List.getD x_a (Int.toNat s2.2) default).C).Regs), ii (((List.getD x_a (Int.toNat s2.2) default).C).Pc), ii (((List.getD x_a (Int.toNat s2.2) default).C).Root), ii (((List.getD x_a (Int.toNat s2.2) default).C).Vector), ii (((List.getD x_a (Int.toNat s2.2) default).C).Saved), bb (((List.getD x_a (Int.toNat s2.2) default).C).SavedUser), ii (((List.getD x_a (Int.toNat s2.2) default).C).Cause), ii (((List.getD x_a (Int.toNat s2.2) default).C).Bad), ii (((List.getD x_a (Int.toNat s2.2) default).C).Timer), bb (((List.getD x_a (Int.toNat s2.2) default).C).Waits), bb (((List.getD x_a (Int.toNat s2.2) default).C).User), bb (((List.getD x_a (Int.toNat s2.2) default).C).On), bb (((List.getD x_a (Int.toNat s2.2) default).C).Stopped), bo C_139 ((List.getD x_a (Int.toNat s2.2) default).Pages), bo (eI .i64) ((List.getD x_a (Int.toNat s2.2) default).In), bo (eI .i64) ((List.getD x_a (Int.toNat s2.2) default).Out)]) len_B_121 (by kernel_rfl) (by omega) (by omega) (by decide) (by kernel_rfl) ?_)
   obtain ⟨v3, hv3, hh⟩ := bind_some hh
   let q2 : Root := ⟨3, (fl (eI .i64) v3.Out)⟩
   let q3 : Root := ⟨3, (fl (eI .i64) v3.In)⟩
   let q4 : Root := ⟨3, (fl (eI .i64) v3.C.Regs)⟩
   refine ys (.call 113 [(.t 19)]) (some 20) (op_call (r := .agg (bb v3.Live :: .own 3 1 (List.length v3.C.Regs) (fl (eI .i64) v3.C.Regs) :: ru36 v3.C [.own 47 3 (List.length v3.Pages) (fl C_47 v3.Pages), .own 3 1 (List.length v3.In) (fl (eI .i64) v3.In), .own 3 1 (List.length v3.Out) (fl (eI .i64) v3.Out)])) (v := .agg (bb v3.Live :: sw 1 v3.C.Regs :: ru36 v3.C [.sref 2 [] 0 (List.length v3.Pages) 3, sw 3 v3.In, sw 4 v3.Out])) (Hr := [(4, some q2), (3, some q3), (2, some ⟨47, (fl C_47 v3.Pages)⟩), (1, some q4)]) (n' := 5) (laws_toGuest_fn hv3) (clz_v (vs := [.agg [bb ((List.getD x_a (Int.toNat s2.2) default).Live), bo (eI .i64) (((List.getD x_a (Int.toNat s2.2) default).C).Regs), ii (((List.getD x_a (Int.toNat s2.2) default).C).Pc), ii (((List.getD x_a (Int.toNat s2.2) default).C).Root), ii (((List.getD x_a (Int.toNat s2.2) default).C).Vector), ii (((List.getD x_a (Int.toNat s2.2) default).C).Saved), bb (((List.getD x_a (Int.toNat s2.2) default).C).SavedUser), ii (((List.getD x_a (Int.toNat s2.2) default).C).Cause), ii (((List.getD x_a (Int.toNat s2.2) default).C).Bad), ii (((List.getD x_a (Int.toNat s2.2) default).C).Timer), bb (((List.getD x_a (Int.toNat s2.2) default).C).Waits), bb (((List.getD x_a (Int.toNat s2.2) default).C).User), bb (((List.getD x_a (Int.toNat s2.2) default).C).On), bb (((List.getD x_a (Int.toNat s2.2) default).C).Stopped), bo C_139 ((List.getD x_a (Int.toNat s2.2) default).Pages), bo (eI .i64) ((List.getD x_a (Int.toNat s2.2) default).In), bo (eI .i64) ((List.getD x_a (Int.toNat s2.2) default).Out)]]) (by kernel_rfl) (clz_c (clo_agg (cs1 (clos_c (clo_same (clean_bor (cleans_fl cl_eI))) (cs1 (cs1 (cs1 (cs1 (cs1 (cs1 (cs1 (cs1 (cs1 (cs1 (cs1 (cs1 (clos_c (clo_same (clean_bor (cleans_fl cl_C_139))) (clos_c (clo_same (clean_bor (cleans_fl cl_eI))) (clos_c (clo_same (clean_bor (cleans_fl cl_eI))) clos_n)))))))))))))))))) clz_n)) (by simp only [ru36, AV.noRef, noRefs, Bool.and_self, noRefs_fl nr_eI, noRefs_fl nr_C_47]) (by simp only [ru36, AV.noBor, noBors, Bool.and_self, noBors_fl nb_eI, noBors_fl nb_C_47]) (by kernel_rfl) ?_)
   obtain ⟨hg49, hh⟩ := grd_some hh
   refine yjc 1 [(0 : Int) ≤ s2.2 ∧ s2.2 < (((List.length s2.1) : Nat) : Int)] (sp 23 [(0, bo B_121 x_a), (3, .sref 0 [] 0 (List.length s2.1) 17), (4, ii s2.2), (11, bb (decide (s2.2 < (((List.length x_a) : Nat) : Int)))), (14, .sref 0 [] 0 (List.length s2.1) 17), (15, ii s2.2), (16, bo B_121 x_a), (17, ii s2.2), (18, .bptr (fl B_121 x_a) (Int.toNat s2.2 * 17)), (19, .agg [bb ((List.getD x_a (Int.toNat s2.2) default).Live), bo (eI .i64) (((List.getD x_a (Int.toNat s2.2) default).C).Regs), ii (((List.getD x_a (Int.toNat s2.2) default).C).Pc), ii (((List.getD x_a (Int.toNat s2.2) default).C).Root), ii (((List.getD x_a (Int.toNat s2.2) default).C).Vector), ii (((List.getD x_a (Int.toNat s2.2) default).C).Saved), bb (((List.getD x_a (Int.toNat s2.2) default).C).SavedUser), ii (((List.getD x_a (Int.toNat s2.2) default).C).Cause), ii (((List.getD x_a (Int.toNat s2.2) default).C).Bad), ii (((List.getD x_a (Int.toNat s2.2) default).C).Timer), bb (((List.getD x_a (Int.toNat s2.2) default).C).Waits), bb (((List.getD x_a (Int.toNat s2.2) default).C).User), bb (((List.getD x_a (Int.toNat s2.2) default).C).On), bb (((List.getD x_a (Int.toNat s2.2) default).C).Stopped), bo C_139 ((List.getD x_a (Int.toNat s2.2) default).Pages), bo (eI .i64) ((List.getD x_a (Int.toNat s2.2) default).In), bo (eI .i64) ((List.getD x_a (Int.toNat s2.2) default).Out)]), (20, .agg (bb v3.Live :: sw 1 v3.C.Regs :: ru36 v3.C [.sref 2 [] 0 (List.length v3.Pages) 3, sw 3 v3.In, sw 4 v3.Out])), (21, .ptr 0 [] (0 + (Int.toNat s2.2) * 17))]) [(4, some q2), (3, some q3), (2, some ⟨47, (fl C_47 v3.Pages)⟩), (1, some q4), (0, some ⟨50, (fl O_50 s2.1)⟩)] 5 (.cons hg49 .nil) ?_
   refine ys (.store 17 (.t 21) (.t 20)) none (op_storeR (c := O_50) (xs := s2.1) (e := 50) (r := 0) (o := 0 + (Int.toNat s2.2) * 17) (i := (Int.toNat s2.2)) (off := 0) (vs := (bb v3.Live :: sw 1 v3.C.Regs :: ru36 v3.C [.sref 2 [] 0 (List.length v3.Pages) 3, sw 3 v3.In, sw 4 v3.Out])) len_O_50 (by kernel_rfl) (by kernel_rfl) (by kernel_rfl) (by kernel_rfl) (by omega) (by omega) (by decide) ?_)
   refine yt (sp 23 [(0, bo B_121 x_a), (3, .sref 0 [] 0 (List.length s2.1) 17), (4, ii s2.2)]) [(0, some ⟨50, (setCells (fl O_50 s2.1) (0 + (Int.toNat s2.2) * 17) (bb v3.Live :: sw 1 v3.C.Regs :: ru36 v3.C [.sref 2 [] 0 (List.length v3.Pages) 3, sw 3 v3.In, sw 4 v3.Out]))⟩), (1, some q4), (2, some ⟨47, (fl C_47 v3.Pages)⟩), (3, some q3), (4, some q2)] 5 ?_
   refine Aw.ent (Ent.foldP (c := O_50) (xs := s2.1) (i := (Int.toNat s2.2)) (off := 0) (o := 0 + (Int.toNat s2.2) * 17) (y := v3) (R := 0) (e := 50) (us2 := sp 23 [(0, bo B_121 x_a), (3, .sref 5 [] 0 (List.length s2.1) 17), (4, ii s2.2)]) (H2 := []) (L := [none, some (some 1), none, none, none, none, none, none, none, none, none, none, none, none, some (some 2), some (some 3), some (some 4)]) (ws := (bb v3.Live :: .own 3 1 (List.length v3.C.Regs) (fl (eI .i64) v3.C.Regs) :: ru36 v3.C [.own 47 3 (List.length v3.Pages) (fl C_47 v3.Pages), .own 3 1 (List.length v3.In) (fl (eI .i64) v3.In), .own 3 1 (List.length v3.Out) (fl (eI .i64) v3.Out)])) len_O_50 (by kernel_rfl) (by omega) (by omega) (Nat.le_of_ble_eq_true rfl) (by kernel_rfl) (fcs_s (fcs_r (by kernel_rfl) (by first | rfl | omega | (simp only [List.length_set, over_len, List.length_replicate, List.length_append, List.length_cons, List.length_nil, List.length_take, List.length_drop] <;> omega)) (fcs_s (fcs_s (fcs_s (fcs_s (fcs_s (fcs_s (fcs_s (fcs_s (fcs_s (fcs_s (fcs_s (fcs_s (fcs_r (by kernel_rfl) (by first | rfl | omega | (simp only [List.length_set, over_len, List.length_replicate, List.length_append, List.length_cons, List.length_nil, List.length_take, List.length_drop] <;> omega)) (fcs_r (by kernel_rfl) (by first | rfl | omega | (simp only [List.length_set, over_len, List.length_replicate, List.length_append, List.length_cons, List.length_nil, List.length_take, List.length_drop] <;> omega)) (fcs_r (by kernel_rfl) (by first | rfl | omega | (simp only [List.length_set, over_len, List.length_replicate, List.length_append, List.length_cons, List.length_nil, List.length_take, List.length_drop] <;> omega)) fcs_n))))))))))))))))) (by rfl) (by rfl) (rds_sp (by kernel_rfl) (rdl_c (u := bo B_121 x_a) (by kernel_rfl) (.same _) (rdl_c (u := .sref 0 [] 0 (List.length s2.1) 17) (by kernel_rfl) (.sref _ _ _ _ (by first | rfl | omega | (simp only [List.length_set, over_len, List.length_replicate, List.length_append, List.length_cons, List.length_nil, List.length_take, List.length_drop] <;> omega))) (rdl_c (u := ii s2.2) (by kernel_rfl) (.same _) rdl_n)))) hd_n) ?_
   refine Aw.oreg ?_
   let q5 : Root := ⟨50, (fl O_50 (List.set s2.1 (Int.toNat s2.2) v3))⟩
   refine ye (sp 23 [(0, bo B_121 x_a), (3, .sref 5 [] 0 (List.length s2.1) 17), (4, ii (w64 (s2.2 + (1 : Int)))), (12, ii s2.2), (13, ii (w64 (s2.2 + (1 : Int))))]) [(5, some q5)] 6 ?_
   exact hN2 ((List.set s2.1 (Int.toNat s2.2) v3), (w64 (s2.2 + (1 : Int)))) _ _ _ (some_some hh) (Ent.list2 [some 5] rfl rfl (by decide) (rens_sp (by kernel_rfl) (rl_c (u := bo B_121 x_a) (by kernel_rfl) (ren_bor (rens_same (noRefs_fl nr_B_121))) (rl_c (u := .sref 5 [] 0 (List.length s2.1) 17) (by kernel_rfl) ren_sx (rl_c (u := ii (w64 (s2.2 + (1 : Int)))) (by kernel_rfl) ren_i rl_n)))) (hq q5 (rens_same (noRefs_fl nr_O_50)) hs_nil))
 refine cF hb ?_
 refine Aw.exit ?_
 refine then_x ?_
 refine hX2 _ _ _ _ _ (some_some hh) ?_
 intro hout
 rw [hout] at hk2
 refine blk_x ?_
 obtain rfl := some_some hk2
 exact hN1 s2.1 _ _ _ hk1 (Ent.list2 [some 0] rfl rfl (by decide) (rens_sp (by kernel_rfl) (rl_c (u := .sref 0 [] 0 (List.length s2.1) 17) (by kernel_rfl) ren_sx rl_n)) (hq ⟨50, (fl O_50 s2.1)⟩ (rens_same (noRefs_fl nr_O_50)) hs_nil))
def Lf42_r0 : List LOper := [oo 1 (.box 62 (.t 0)), oo 2 (.fresh 26 [.nil, .nil])]
def Lf42_r1 : List LOper := [oo 3 (.fresh 26 [.nil, .nil])]
def Lf42_r2 : List LOper := [oo 4 (.fadr 0 (.t 1)), oo 5 (.load false 1 (.t 4)), oo 6 (.call 86 [(.t 5)]), oo 7 (.fadr 0 (.t 3)), ⟨none, (.store 1 (.t 7) (.t 6)), none⟩]
def Lf42_r3 : List LOper := [oo 8 (.fadr 1 (.t 1)), oo 9 (.load false 1 (.t 8)), oo 10 (.call 87 [(.t 9)]), oo 11 (.fadr 1 (.t 3)), ⟨none, (.store 1 (.t 11) (.t 10)), none⟩]
def Lf42_r4 : List LOper := [oo 12 (.load true 2 (.t 3)), ⟨none, (.store 2 (.t 2) (.t 12)), none⟩]
def Lf42 : LFun := ⟨13, [(.cell 2 true 2)], (.seq (.reg false Lf42_r0) (.seq (.reg false Lf42_r1) (.seq (.reg false Lf42_r2) (.seq (.reg false Lf42_r3) (.seq (.reg false Lf42_r4) .ret)))))⟩
theorem low_laws_toHost : lowFun Go.Proofs.Try.prog 42 = some Lf42 := by kernel_rfl
noncomputable def F_laws_toHost (x_a : DHost) : Option DHost :=
 Option.bind (F_laws_toIntS x_a.Words) fun v1 =>
 Option.bind (F_laws_toGuestS x_a.Guests) fun v2 =>
 some (DHost.mk v1 v2)
theorem laws_toHost_fn {x_a : DHost} {R_ : DHost} (hh : F_laws_toHost x_a = some R_) : Fn Try.prog 42 [.agg [bo (eI .i64) x_a.Words, bo B_121 x_a.Guests]] (.agg [.own 3 1 (List.length R_.Words) (fl (eI .i64) R_.Words), .own 50 17 (List.length R_.Guests) (fl O_50 R_.Guests)]) := by
 unfold F_laws_toHost at hh
 refine Fn.start low_laws_toHost [0] (E := sp 13 [(0, .agg [bo (eI .i64) x_a.Words, bo B_121 x_a.Guests])]) (by kernel_rfl) (v := .agg [sw 0 R_.Words, .sref 1 [] 0 (List.length R_.Guests) 17]) (Hr := [(1, some ⟨50, (fl O_50 R_.Guests)⟩), (0, some ⟨3, (fl (eI .i64) R_.Words)⟩)]) (k := 2) (by kernel_rfl) ?_
 refine Aw.sreg [1, 2] [0, 1] ?_
 let q1 : Root := ⟨62, [bo (eI .i64) x_a.Words, bo B_121 x_a.Guests]⟩
 refine yt (sp 13 [(1, pp 0), (2, pp 1)]) [(0, some q1), (1, some ⟨26, [.nil, .nil]⟩)] 2 ?_
 refine sy [1, 2, 3] [0, 1, 2] (sp 13 [(1, pp 0), (2, pp 1), (3, pp 2)]) [(0, some q1), (1, some ⟨26, [.nil, .nil]⟩), (2, some ⟨26, [.nil, .nil]⟩)] 3 ?_
 refine Aw.sreg [1, 2, 3] [0, 1, 2, 3] (yu 2 [(4, pp 0), (5, bo (eI .i64) x_a.Words)] [(0, some q1), (1, some ⟨26, [.nil, .nil]⟩), (2, some ⟨26, [.nil, .nil]⟩)] 3 ?_)
 obtain ⟨v1, hv1, hh⟩ := bind_some hh
 refine ys (.call 86 [(.t 5)]) (some 6) (op_call (r := .own 3 1 (List.length v1) (fl (eI .i64) v1)) (v := sw 3 v1) (Hr := [(3, some ⟨3, (fl (eI .i64) v1)⟩)]) (n' := 4) (laws_toIntS_fn hv1) (clz_v (vs := [bo (eI .i64) x_a.Words]) (by kernel_rfl) (clz_c (clo_same (clean_bor (cleans_fl cl_eI))) clz_n)) (by simp only [AV.noRef, noRefs, Bool.and_self, noRefs_fl nr_eI]) (by simp only [AV.noBor, noBors, Bool.and_self, noBors_fl nb_eI]) (by kernel_rfl) ?_)
 let q2 : Root := ⟨26, [sw 3 v1, .nil]⟩
 refine yt (sp 13 [(1, pp 0), (2, pp 1), (3, pp 2)]) [(0, some q1), (1, some ⟨26, [.nil, .nil]⟩), (2, some q2), (3, some ⟨3, (fl (eI .i64) v1)⟩)] 4 ?_
 refine Aw.sreg [2, 3] [1, 2, 3, 4] (yu 2 [(8, .ptr 0 [] 1), (9, bo B_121 x_a.Guests)] [(0, some q1), (1, some ⟨26, [.nil, .nil]⟩), (2, some q2), (3, some ⟨3, (fl (eI .i64) v1)⟩)] 4 ?_)
 obtain ⟨v2, hv2, hh⟩ := bind_some hh
 refine ys (.call 87 [(.t 9)]) (some 10) (op_call (r := .own 50 17 (List.length v2) (fl O_50 v2)) (v := .sref 4 [] 0 (List.length v2) 17) (Hr := [(4, some ⟨50, (fl O_50 v2)⟩)]) (n' := 5) (laws_toGuestS_fn hv2) (clz_v (vs := [bo B_121 x_a.Guests]) (by kernel_rfl) (clz_c (clo_same (clean_bor (cleans_fl cl_B_121))) clz_n)) (by simp only [AV.noRef, noRefs, Bool.and_self, noRefs_fl nr_O_50]) (by simp only [AV.noBor, noBors, Bool.and_self, noBors_fl nb_O_50]) (by kernel_rfl) ?_)
 let q3 : Root := ⟨26, [sw 3 v1, .sref 4 [] 0 (List.length v2) 17]⟩
 refine yt (sp 13 [(2, pp 1), (3, pp 2)]) [(1, some ⟨26, [.nil, .nil]⟩), (2, some q3), (3, some ⟨3, (fl (eI .i64) v1)⟩), (4, some ⟨50, (fl O_50 v2)⟩)] 5 ?_
 refine sy [2] [1, 3, 4] (sp 13 [(2, pp 1)]) [(1, some q3), (3, some ⟨3, (fl (eI .i64) v1)⟩), (4, some ⟨50, (fl O_50 v2)⟩)] 5 ?_
 refine Aw.ret ?_
 rw [some_some hh]
 exact gives (r' := .agg [sw 3 v1, .sref 4 [] 0 (List.length v2) 17]) (by kernel_rfl) (Ent.list [some 3, some 4] rfl rfl (Nat.zero_le _) (rens_1 (ren_agg (rens_c ren_sx (rens_c ren_sx rens_n)))) (hq ⟨50, (fl O_50 v2)⟩ (rens_same (noRefs_fl nr_O_50)) (hq ⟨3, (fl (eI .i64) v1)⟩ (rens_same (noRefs_fl nr_eI)) hs_nil)))
def Lf132_r0 : List LOper := [oo 2 (.box 47 (.t 0)), oo 3 (.box 47 (.t 1)), oo 4 (.mv (.c (bb false)))]
def Lf132_r1 : List LOper := [oo 5 (.fadr 0 (.t 2)), oo 6 (.load false 1 (.t 5)), oo 7 (.fadr 0 (.t 3)), oo 8 (.load false 1 (.t 7)), oo 9 (.bin .neq (.t 6) (.t 8))]
def Lf132_r2 : List LOper := [oo 4 (.mv (.c (bb false)))]
def Lf132_r3 : List LOper := [oo 10 (.fadr 1 (.t 2)), oo 11 (.load false 1 (.t 10)), oo 12 (.fadr 1 (.t 3)), oo 13 (.load false 1 (.t 12)), oo 14 (.binb true (.t 11) (.t 13))]
def Lf132_r4 : List LOper := [oo 4 (.mv (.c (bb false)))]
def Lf132_r5 : List LOper := [oo 15 (.fadr 2 (.t 2)), oo 16 (.load false 1 (.t 15)), oo 17 (.fadr 2 (.t 3)), oo 18 (.load false 1 (.t 17)), oo 19 (.binb true (.t 16) (.t 18))]
def Lf132_r6 : List LOper := [oo 4 (.mv (.c (bb false)))]
def Lf132_r7 : List LOper := [oo 4 (.mv (.c (bb true)))]
def Lf132 : LFun := ⟨20, [(.tmp 4)], (.seq (.reg false Lf132_r0) (.seq (.seq (.reg false Lf132_r1) (.cond (.t 9) (.seq (.reg false Lf132_r2) .ret) .skip)) (.seq (.seq (.reg false Lf132_r3) (.cond (.t 14) (.seq (.reg false Lf132_r4) .ret) .skip)) (.seq (.seq (.reg false Lf132_r5) (.cond (.t 19) (.seq (.reg false Lf132_r6) .ret) .skip)) (.seq (.reg false Lf132_r7) .ret)))))⟩
theorem low_laws_eqSlot : lowFun Go.Proofs.Try.prog 132 = some Lf132 := by kernel_rfl
noncomputable def F_laws_eqSlot (x_a : DSlot) (x_b : DSlot) : Option Bool :=
 cond (!decide (x_a.Frame = x_b.Frame))
  (some false)
  (cond (!(x_a.Write == x_b.Write))
   (some false)
   (cond (!(x_a.Dirty == x_b.Dirty))
    (some false)
    (some true)))
theorem laws_eqSlot_fn {x_a : DSlot} {x_b : DSlot} {R_ : Bool} (hh : F_laws_eqSlot x_a x_b = some R_) : Fn Try.prog 132 [.agg (C_47 x_a), .agg (C_47 x_b)] (.bool R_) := by
 unfold F_laws_eqSlot at hh
 refine Fn.start low_laws_eqSlot [0, 1] (E := sp 20 [(0, .agg (C_47 x_a)), (1, .agg (C_47 x_b))]) (by kernel_rfl) (v := bb R_) (Hr := []) (k := 0) (by kernel_rfl) ?_
 refine sy [2, 3] [0, 1] (sp 20 [(2, pp 0), (3, pp 1)]) [(0, some ⟨47, (C_47 x_a)⟩), (1, some ⟨47, (C_47 x_b)⟩)] 2 ?_
 refine Aw.seq ?_
 refine sy [2, 3, 9] [0, 1] (sp 20 [(2, pp 0), (3, pp 1), (9, bb (!decide (x_a.Frame = x_b.Frame)))]) [(0, some ⟨47, (C_47 x_a)⟩), (1, some ⟨47, (C_47 x_b)⟩)] 2 ?_
 rcases cond_some hh with ⟨hb, hh⟩ | ⟨hb, hh⟩
 · refine cT hb ?_
   refine sy [4] [] (sp 20 [(4, bb false)]) [] 2 ?_
   refine Aw.ret ?_
   refine then_r ?_
   rw [some_some hh]
   exact gvb
 refine cF hb ?_
 refine Aw.xskip (fun _ _ _ hq => then_m hq) ?_
 refine Aw.seq ?_
 refine sy [2, 3, 14] [0, 1] (sp 20 [(2, pp 0), (3, pp 1), (14, bb (!(x_a.Write == x_b.Write)))]) [(0, some ⟨47, (C_47 x_a)⟩), (1, some ⟨47, (C_47 x_b)⟩)] 2 ?_
 rcases cond_some hh with ⟨hb, hh⟩ | ⟨hb, hh⟩
 · refine cT hb ?_
   refine sy [4] [] (sp 20 [(4, bb false)]) [] 2 ?_
   refine Aw.ret ?_
   refine then_r ?_
   rw [some_some hh]
   exact gvb
 refine cF hb ?_
 refine Aw.xskip (fun _ _ _ hq => then_m hq) ?_
 refine Aw.seq ?_
 refine sy [19] [] (sp 20 [(19, bb (!(x_a.Dirty == x_b.Dirty)))]) [] 2 ?_
 rcases cond_some hh with ⟨hb, hh⟩ | ⟨hb, hh⟩
 · refine cT hb ?_
   refine sy [4] [] (sp 20 [(4, bb false)]) [] 2 ?_
   refine Aw.ret ?_
   refine then_r ?_
   rw [some_some hh]
   exact gvb
 refine cF hb ?_
 refine Aw.xskip (fun _ _ _ hq => then_m hq) ?_
 refine sy [4] [] (sp 20 [(4, bb true)]) [] 2 ?_
 refine Aw.ret ?_
 rw [some_some hh]
 exact gvb
def Lf126_r0 : List LOper := [oo 4 (.mv (.c (bb false)))]
def Lf126_r1 : List LOper := [om 6 0, oo 7 (.len (.t 6)), om 8 1, oo 9 (.len (.t 8)), oo 10 (.bin .neq (.t 7) (.t 9))]
def Lf126_r2 : List LOper := [oo 4 (.mv (.c (bb false)))]
def Lf126_r3 : List LOper := [oo 5 (.mv (.c (ii 0)))]
def Lf126_r4 : List LOper := [om 11 5, om 12 0, oo 13 (.len (.t 12)), oo 14 (.bin .lss (.t 11) (.t 13))]
def Lf126_r5 : List LOper := [om 17 0, om 18 5, oo 19 (.iadr 3 (.t 17) (.t 18)), oo 20 (.load true 3 (.t 19)), om 21 1, om 22 5, oo 23 (.iadr 3 (.t 21) (.t 22)), oo 24 (.load true 3 (.t 23))]
def Lf126_r5t : List LOper := [oo 25 (.call 132 [(.t 20), (.t 24)]), oo 26 (.un .not (.t 25))]
def Lf126_r7 : List LOper := [oo 4 (.mv (.c (bb false)))]
def Lf126_r8 : List LOper := [om 15 5, oo 16 (.bin .add (.t 15) (.c (ii 1))), om 5 16]
def Lf126_l9 : LCode := (.seq (.seq (.reg false Lf126_r4) (.cond (.t 14) .skip (.exit 0))) (.seq (.block 1 (.seq (.regd Lf126_r5 Lf126_r5t) (.cond (.t 26) (.seq (.reg false Lf126_r7) .ret) .skip))) (.reg false Lf126_r8)))
def Lf126_r10 : List LOper := [oo 4 (.mv (.c (bb true)))]
def Lf126 : LFun := ⟨27, [(.tmp 4)], (.seq (.reg false Lf126_r0) (.seq (.seq (.reg false Lf126_r1) (.cond (.t 10) (.seq (.reg false Lf126_r2) .ret) .skip)) (.seq (.seq (.reg false Lf126_r3) (.block 0 (.loop Lf126_l9))) (.seq (.reg false Lf126_r10) .ret))))⟩
theorem low_laws_eqSlotS : lowFun Go.Proofs.Try.prog 126 = some Lf126 := by kernel_rfl
noncomputable def F_laws_eqSlotS_j1  (s1 : Unit) : Option Bool :=
 some true
noncomputable def F_laws_eqSlotS_l2 (x_a : List DSlot) (x_b : List DSlot) (s2 : Int) : Option (LO Int (JO Unit Bool)) :=
 cond (decide (s2 < (((List.length x_a) : Nat) : Int)))
  (grd ((0 : Int) ≤ s2 ∧ s2 < ((List.length x_a : Nat) : Int)) (grd ((0 : Int) ≤ s2 ∧ s2 < ((List.length x_b : Nat) : Int)) (Option.bind (F_laws_eqSlot (DSlot.mk ((List.getD x_a (Int.toNat s2) default).Frame) ((List.getD x_a (Int.toNat s2) default).Write) ((List.getD x_a (Int.toNat s2) default).Dirty)) (DSlot.mk ((List.getD x_b (Int.toNat s2) default).Frame) ((List.getD x_b (Int.toNat s2) default).Write) ((List.getD x_b (Int.toNat s2) default).Dirty))) fun v3 =>
   cond (!v3)
    (some (.ret (.out false)))
    (some (.next (w64 (s2 + (1 : Int))))))))
  (some (.ret (.go ())))
noncomputable def F_laws_eqSlotS (x_a : List DSlot) (x_b : List DSlot) : Option Bool :=
 cond (!decide ((((List.length x_a) : Nat) : Int) = (((List.length x_b) : Nat) : Int)))
  (some false)
  (Option.bind (Option.bind (iter (F_laws_eqSlotS_l2 x_a x_b) (0 : Int)) LO.val) fun j1 =>
   JO.run j1 (F_laws_eqSlotS_j1))
theorem laws_eqSlotS_fn {x_a : List DSlot} {x_b : List DSlot} {R_ : Bool} (hh : F_laws_eqSlotS x_a x_b = some R_) : Fn Try.prog 126 [bo C_47 x_a, bo C_47 x_b] (.bool R_) := by
 unfold F_laws_eqSlotS at hh
 refine Fn.start low_laws_eqSlotS [0, 1] (E := sp 27 [(0, bo C_47 x_a), (1, bo C_47 x_b)]) (by kernel_rfl) (v := bb R_) (Hr := []) (k := 0) (by kernel_rfl) ?_
 refine sy [0, 1] [] (sp 27 [(0, bo C_47 x_a), (1, bo C_47 x_b)]) [] 0 ?_
 refine Aw.seq ?_
 refine sy [0, 1, 10] [] (sp 27 [(0, bo C_47 x_a), (1, bo C_47 x_b), (10, bb (!decide ((((List.length x_a) : Nat) : Int) = (((List.length x_b) : Nat) : Int))))]) [] 0 ?_
 rcases cond_some hh with ⟨hb, hh⟩ | ⟨hb, hh⟩
 · refine cT hb ?_
   refine sy [4] [] (sp 27 [(4, bb false)]) [] 0 ?_
   refine Aw.ret ?_
   refine then_r ?_
   rw [some_some hh]
   exact gvb
 refine cF hb ?_
 refine Aw.xskip (fun _ _ _ hq => then_m hq) ?_
 obtain ⟨j1, hh, hk1⟩ := bind_some hh
 refine Aw.join (S := Unit) (fun s1 => sp 27 []) (fun s1 => []) 0 (fun s1 => F_laws_eqSlotS_j1 s1 = some R_) ?_ ?_
 · intro s1 hh
   unfold F_laws_eqSlotS_j1 at hh
   refine sy [4] [] (sp 27 [(4, bb true)]) [] 0 ?_
   refine Aw.ret ?_
   rw [some_some hh]
   exact gvb
 intro Q1 hN1 hR1 hE1
 refine sy [0, 1, 5] [] (sp 27 [(0, bo C_47 x_a), (1, bo C_47 x_b), (5, ii 0)]) [] 0 ?_
 refine Aw.block ?_
 obtain ⟨o2, hi2, hk2⟩ := bind_some hh
 refine Aw.iter (fun (s2 : Int) => sp 27 [(0, bo C_47 x_a), (1, bo C_47 x_b), (5, ii s2)]) (fun (s2 : Int) => []) 0 hi2 (Ent.list2 [] rfl rfl (by decide) (rens_sp (by kernel_rfl) (rl_c (u := bo C_47 x_a) (by kernel_rfl) (ren_bor (rens_same (noRefs_fl nr_C_47))) (rl_c (u := bo C_47 x_b) (by kernel_rfl) (ren_bor (rens_same (noRefs_fl nr_C_47))) (rl_c (u := ii 0) (by kernel_rfl) ren_i rl_n)))) hs_nil) ?_
 intro s2 u2 Q2 hh hN2 hX2 hR2
 unfold F_laws_eqSlotS_l2 at hh
 refine Aw.seq ?_
 refine sy [0, 1, 5, 14] [] (sp 27 [(0, bo C_47 x_a), (1, bo C_47 x_b), (5, ii s2), (14, bb (decide (s2 < (((List.length x_a) : Nat) : Int))))]) [] 0 ?_
 rcases cond_some hh with ⟨hb, hh⟩ | ⟨hb, hh⟩
 · refine cT hb ?_
   refine Aw.xskip (fun _ _ _ hq => then_m hq) ?_
   refine Aw.seq ?_
   refine Aw.block ?_
   refine Aw.sregd [0, 1, 5, 26] [] [] (by kernel_rfl) ?_
   refine dc (cs := []) (E' := (sp 27 [(0, bo C_47 x_a), (1, bo C_47 x_b), (5, ii s2), (14, bb (decide (s2 < (((List.length x_a) : Nat) : Int)))), (17, bo C_47 x_a), (18, ii s2)])) (H' := []) (n' := 0) (fs' := none) (pre := (List.take 2 Lf126_r5)) (L' := (List.drop 2 Lf126_r5)) (by kernel_rfl) (fun K => by kernel_rfl) .nil ?_
   obtain ⟨hg47, hh⟩ := grd_some hh
   refine ds (.iadr 3 (.t 17) (.t 18)) (some 19) (ydo_q rfl (by kernel_rfl) (op_iadr (kd := .i64) (c := C_47) (xs := x_a) len_C_47 (by decide) (by kernel_rfl) (by kernel_rfl) hg47 ?_))
   refine ds (.load true 3 (.t 19)) (some 20) (ydo_q rfl (by kernel_rfl) (op_loadbA (c := C_47) (xs := x_a) (o := Int.toNat s2 * 3) (i := (Int.toNat s2)) (off := 0) (v := .agg [ii ((List.getD x_a (Int.toNat s2) default).Frame), bb ((List.getD x_a (Int.toNat s2) default).Write), bb ((List.getD x_a (Int.toNat s2) default).Dirty)]) len_C_47 (by kernel_rfl) (by omega) (by omega) (by decide) (by kernel_rfl) ?_))
   refine dc (cs := []) (E' := (sp 27 [(0, bo C_47 x_a), (1, bo C_47 x_b), (5, ii s2), (14, bb (decide (s2 < (((List.length x_a) : Nat) : Int)))), (17, bo C_47 x_a), (18, ii s2), (19, .bptr (fl C_47 x_a) (Int.toNat s2 * 3)), (20, .agg [ii ((List.getD x_a (Int.toNat s2) default).Frame), bb ((List.getD x_a (Int.toNat s2) default).Write), bb ((List.getD x_a (Int.toNat s2) default).Dirty)]), (21, bo C_47 x_b), (22, ii s2)])) (H' := []) (n' := 0) (fs' := none) (pre := (List.take 2 (List.drop 4 Lf126_r5))) (L' := (List.drop 6 Lf126_r5)) (by kernel_rfl) (fun K => by kernel_rfl) .nil ?_
   obtain ⟨hg48, hh⟩ := grd_some hh
   refine ds (.iadr 3 (.t 21) (.t 22)) (some 23) (ydo_q rfl (by kernel_rfl) (op_iadr (kd := .i64) (c := C_47) (xs := x_b) len_C_47 (by decide) (by kernel_rfl) (by kernel_rfl) hg48 ?_))
   refine ds (.load true 3 (.t 23)) (some 24) (ydo_q rfl (by kernel_rfl) (op_loadbA (c := C_47) (xs := x_b) (o := Int.toNat s2 * 3) (i := (Int.toNat s2)) (off := 0) (v := .agg [ii ((List.getD x_b (Int.toNat s2) default).Frame), bb ((List.getD x_b (Int.toNat s2) default).Write), bb ((List.getD x_b (Int.toNat s2) default).Dirty)]) len_C_47 (by kernel_rfl) (by omega) (by omega) (by decide) (by kernel_rfl) ?_))
   refine dct (cs := []) (E' := (sp 27 [(0, bo C_47 x_a), (1, bo C_47 x_b), (5, ii s2), (14, bb (decide (s2 < (((List.length x_a) : Nat) : Int)))), (17, bo C_47 x_a), (18, ii s2), (19, .bptr (fl C_47 x_a) (Int.toNat s2 * 3)), (20, .agg [ii ((List.getD x_a (Int.toNat s2) default).Frame), bb ((List.getD x_a (Int.toNat s2) default).Write), bb ((List.getD x_a (Int.toNat s2) default).Dirty)]), (21, bo C_47 x_b), (22, ii s2), (23, .bptr (fl C_47 x_b) (Int.toNat s2 * 3)), (24, .agg [ii ((List.getD x_b (Int.toNat s2) default).Frame), bb ((List.getD x_b (Int.toNat s2) default).Write), bb ((List.getD x_b (Int.toNat s2) default).Dirty)])])) (H' := []) (n' := 0) (fun K => by kernel_rfl) .nil ?_
   obtain ⟨v3, hv3, hh⟩ := bind_some hh
   refine ys (.call 132 [(.t 20), (.t 24)]) (some 25) (oc (laws_eqSlot_fn hv3) ?_)
   refine yt (sp 27 [(0, bo C_47 x_a), (1, bo C_47 x_b), (5, ii s2), (26, bb (!v3))]) [] 0 ?_
   rcases cond_some hh with ⟨hb, hh⟩ | ⟨hb, hh⟩
   · refine cT hb ?_
     refine sy [4] [] (sp 27 [(4, bb false)]) [] 0 ?_
     refine Aw.ret ?_
     refine blk_r (then_r ?_)
     refine hR2 _ _ _ _ (some_some hh) ?_
     intro hout
     rw [hout] at hk2
     refine blk_r ?_
     obtain rfl := some_some hk2
     refine hR1 _ _ _ ?_
     refine ?_
     rw [some_some hk1]
     exact gvb
   refine cF hb ?_
   refine Aw.xskip (fun _ _ _ hq => blk_m (then_m hq)) ?_
   refine Aw.oreg ?_
   refine ye (sp 27 [(0, bo C_47 x_a), (1, bo C_47 x_b), (5, ii (w64 (s2 + (1 : Int)))), (15, ii s2), (16, ii (w64 (s2 + (1 : Int)))), (26, bb (!v3))]) [] 0 ?_
   exact hN2 (w64 (s2 + (1 : Int))) _ _ _ (some_some hh) (Ent.list2 [] rfl rfl (by decide) (rens_sp (by kernel_rfl) (rl_c (u := bo C_47 x_a) (by kernel_rfl) (ren_bor (rens_same (noRefs_fl nr_C_47))) (rl_c (u := bo C_47 x_b) (by kernel_rfl) (ren_bor (rens_same (noRefs_fl nr_C_47))) (rl_c (u := ii (w64 (s2 + (1 : Int)))) (by kernel_rfl) ren_i rl_n)))) hs_nil)
 refine cF hb ?_
 refine Aw.exit ?_
 refine then_x ?_
 refine hX2 _ _ _ _ _ (some_some hh) ?_
 intro hout
 rw [hout] at hk2
 refine blk_x ?_
 obtain rfl := some_some hk2
 exact hN1 () _ _ _ hk1 (Ent.list2 [] rfl rfl (by decide) (rens_sp (by kernel_rfl) rl_n) hs_nil)
def Lf114_r0 : List LOper := [oo 2 (.box 50 (.t 0)), oo 3 (.box 50 (.t 1)), oo 4 (.mv (.c (bb false)))]
def Lf114_r1 : List LOper := [oo 5 (.fadr 0 (.t 2)), oo 6 (.load false 1 (.t 5)), oo 7 (.fadr 0 (.t 3)), oo 8 (.load false 1 (.t 7)), oo 9 (.binb true (.t 6) (.t 8))]
def Lf114_r2 : List LOper := [oo 4 (.mv (.c (bb false)))]
def Lf114_r3 : List LOper := [oo 10 (.fadr 1 (.t 2)), oo 11 (.load true 13 (.t 10)), oo 12 (.fadr 1 (.t 3)), oo 13 (.load true 13 (.t 12)), oo 14 (.call 91 [(.t 11), (.t 13)]), oo 15 (.un .not (.t 14))]
def Lf114_r4 : List LOper := [oo 4 (.mv (.c (bb false)))]
def Lf114_r5 : List LOper := [oo 16 (.fadr 14 (.t 2)), oo 17 (.load false 1 (.t 16)), oo 18 (.fadr 14 (.t 3)), oo 19 (.load false 1 (.t 18)), oo 20 (.call 126 [(.t 17), (.t 19)]), oo 21 (.un .not (.t 20))]
def Lf114_r6 : List LOper := [oo 4 (.mv (.c (bb false)))]
def Lf114_r7 : List LOper := [oo 22 (.fadr 15 (.t 2)), oo 23 (.load false 1 (.t 22)), oo 24 (.fadr 15 (.t 3)), oo 25 (.load false 1 (.t 24)), oo 26 (.call 49 [(.t 23), (.t 25)]), oo 27 (.un .not (.t 26))]
def Lf114_r8 : List LOper := [oo 4 (.mv (.c (bb false)))]
def Lf114_r9 : List LOper := [oo 28 (.fadr 16 (.t 2)), oo 29 (.load false 1 (.t 28)), oo 30 (.fadr 16 (.t 3)), oo 31 (.load false 1 (.t 30)), oo 32 (.call 49 [(.t 29), (.t 31)]), oo 33 (.un .not (.t 32))]
def Lf114_r10 : List LOper := [oo 4 (.mv (.c (bb false)))]
def Lf114_r11 : List LOper := [oo 4 (.mv (.c (bb true)))]
def Lf114 : LFun := ⟨34, [(.tmp 4)], (.seq (.reg false Lf114_r0) (.seq (.seq (.reg false Lf114_r1) (.cond (.t 9) (.seq (.reg false Lf114_r2) .ret) .skip)) (.seq (.seq (.reg false Lf114_r3) (.cond (.t 15) (.seq (.reg false Lf114_r4) .ret) .skip)) (.seq (.seq (.reg false Lf114_r5) (.cond (.t 21) (.seq (.reg false Lf114_r6) .ret) .skip)) (.seq (.seq (.reg false Lf114_r7) (.cond (.t 27) (.seq (.reg false Lf114_r8) .ret) .skip)) (.seq (.seq (.reg false Lf114_r9) (.cond (.t 33) (.seq (.reg false Lf114_r10) .ret) .skip)) (.seq (.reg false Lf114_r11) .ret)))))))⟩
theorem low_laws_eqGuest : lowFun Go.Proofs.Try.prog 114 = some Lf114 := by kernel_rfl
noncomputable def F_laws_eqGuest (x_a : DGuest) (x_b : DGuest) : Option Bool :=
 cond (!(x_a.Live == x_b.Live))
  (some false)
  (Option.bind (F_laws_eqCore x_a.C x_b.C) fun v1 =>
  cond (!v1)
   (some false)
   (Option.bind (F_laws_eqSlotS x_a.Pages x_b.Pages) fun v2 =>
   cond (!v2)
    (some false)
    (Option.bind (F_laws_eqIntS x_a.In x_b.In) fun v3 =>
    cond (!v3)
     (some false)
     (Option.bind (F_laws_eqIntS x_a.Out x_b.Out) fun v4 =>
     cond (!v4)
      (some false)
      (some true)))))
theorem laws_eqGuest_fn {x_a : DGuest} {x_b : DGuest} {R_ : Bool} (hh : F_laws_eqGuest x_a x_b = some R_) : Fn Try.prog 114 [.agg (.bool x_a.Live :: bo (eI .i64) x_a.C.Regs :: ru36 x_a.C [bo C_47 x_a.Pages, bo (eI .i64) x_a.In, bo (eI .i64) x_a.Out]), .agg (.bool x_b.Live :: bo (eI .i64) x_b.C.Regs :: ru36 x_b.C [bo C_47 x_b.Pages, bo (eI .i64) x_b.In, bo (eI .i64) x_b.Out])] (.bool R_) := by
 unfold F_laws_eqGuest at hh
 refine Fn.start low_laws_eqGuest [0, 1] (E := sp 34 [(0, .agg (B_50 x_a)), (1, .agg (B_50 x_b))]) (by kernel_rfl) (v := bb R_) (Hr := []) (k := 0) (by kernel_rfl) ?_
 refine Aw.sreg [2, 3] [0, 1] ?_
 let q1 : Root := ⟨50, (bb x_a.Live :: bo (eI .i64) x_a.C.Regs :: ru36 x_a.C [bo C_47 x_a.Pages, bo (eI .i64) x_a.In, bo (eI .i64) x_a.Out])⟩
 let q2 : Root := ⟨50, (bb x_b.Live :: bo (eI .i64) x_b.C.Regs :: ru36 x_b.C [bo C_47 x_b.Pages, bo (eI .i64) x_b.In, bo (eI .i64) x_b.Out])⟩
 refine yt (sp 34 [(2, pp 0), (3, pp 1)]) [(0, some q1), (1, some q2)] 2 ?_
 refine Aw.seq ?_
 refine sy [2, 3, 9] [0, 1] (sp 34 [(2, pp 0), (3, pp 1), (9, bb (!(x_a.Live == x_b.Live)))]) [(0, some q1), (1, some q2)] 2 ?_
 rcases cond_some hh with ⟨hb, hh⟩ | ⟨hb, hh⟩
 · refine cT hb ?_
   refine sy [4] [] (sp 34 [(4, bb false)]) [] 2 ?_
   refine Aw.ret ?_
   refine then_r ?_
   rw [some_some hh]
   exact gvb
 refine cF hb ?_
 refine Aw.xskip (fun _ _ _ hq => then_m hq) ?_
 refine Aw.seq ?_
 refine Aw.sreg [2, 3, 15] [0, 1] (yj 4  (sp 34 [(2, pp 0), (3, pp 1), (9, bb (!(x_a.Live == x_b.Live))), (10, .ptr 0 [] 1), (11, .agg (B_36 x_a.C)), (12, .ptr 1 [] 1), (13, .agg (B_36 x_b.C))]) [(0, some q1), (1, some q2)] 2 ?_)
 obtain ⟨v1, hv1, hh⟩ := bind_some hh
 refine ys (.call 91 [(.t 11), (.t 13)]) (some 14) (op_call (r := bb v1) (v := bb v1) (Hr := []) (n' := 2) (laws_eqCore_fn hv1) (clz_v (vs := [.agg (B_36 x_a.C), .agg (B_36 x_b.C)]) (by kernel_rfl) (clz_c (clo_same (clean_agg (cl_B_36 _))) (clz_c (clo_same (clean_agg (cl_B_36 _))) clz_n))) rfl rfl (by kernel_rfl) ?_)
 refine yt (sp 34 [(2, pp 0), (3, pp 1), (15, bb (!v1))]) [(0, some q1), (1, some q2)] 2 ?_
 rcases cond_some hh with ⟨hb, hh⟩ | ⟨hb, hh⟩
 · refine cT hb ?_
   refine sy [4] [] (sp 34 [(4, bb false)]) [] 2 ?_
   refine Aw.ret ?_
   refine then_r ?_
   rw [some_some hh]
   exact gvb
 refine cF hb ?_
 refine Aw.xskip (fun _ _ _ hq => then_m hq) ?_
 refine Aw.seq ?_
 refine Aw.sreg [2, 3, 21] [0, 1] (yj 4  (sp 34 [(2, pp 0), (3, pp 1), (15, bb (!v1)), (16, .ptr 0 [] 14), (17, bo C_47 x_a.Pages), (18, .ptr 1 [] 14), (19, bo C_47 x_b.Pages)]) [(0, some q1), (1, some q2)] 2 ?_)
 obtain ⟨v2, hv2, hh⟩ := bind_some hh
 refine ys (.call 126 [(.t 17), (.t 19)]) (some 20) (op_call (r := bb v2) (v := bb v2) (Hr := []) (n' := 2) (laws_eqSlotS_fn hv2) (clz_v (vs := [bo C_47 x_a.Pages, bo C_47 x_b.Pages]) (by kernel_rfl) (clz_c (clo_same (clean_bor (cleans_fl cl_C_47))) (clz_c (clo_same (clean_bor (cleans_fl cl_C_47))) clz_n))) rfl rfl (by kernel_rfl) ?_)
 refine yt (sp 34 [(2, pp 0), (3, pp 1), (21, bb (!v2))]) [(0, some q1), (1, some q2)] 2 ?_
 rcases cond_some hh with ⟨hb, hh⟩ | ⟨hb, hh⟩
 · refine cT hb ?_
   refine sy [4] [] (sp 34 [(4, bb false)]) [] 2 ?_
   refine Aw.ret ?_
   refine then_r ?_
   rw [some_some hh]
   exact gvb
 refine cF hb ?_
 refine Aw.xskip (fun _ _ _ hq => then_m hq) ?_
 refine Aw.seq ?_
 refine Aw.sreg [2, 3, 27] [0, 1] (yj 4  (sp 34 [(2, pp 0), (3, pp 1), (21, bb (!v2)), (22, .ptr 0 [] 15), (23, bo (eI .i64) x_a.In), (24, .ptr 1 [] 15), (25, bo (eI .i64) x_b.In)]) [(0, some q1), (1, some q2)] 2 ?_)
 obtain ⟨v3, hv3, hh⟩ := bind_some hh
 refine ys (.call 49 [(.t 23), (.t 25)]) (some 26) (oc (laws_eqIntS_fn hv3) ?_)
 refine yt (sp 34 [(2, pp 0), (3, pp 1), (27, bb (!v3))]) [(0, some q1), (1, some q2)] 2 ?_
 rcases cond_some hh with ⟨hb, hh⟩ | ⟨hb, hh⟩
 · refine cT hb ?_
   refine sy [4] [] (sp 34 [(4, bb false)]) [] 2 ?_
   refine Aw.ret ?_
   refine then_r ?_
   rw [some_some hh]
   exact gvb
 refine cF hb ?_
 refine Aw.xskip (fun _ _ _ hq => then_m hq) ?_
 refine Aw.seq ?_
 refine Aw.sreg [33] [] (yj 4  (sp 34 [(2, pp 0), (3, pp 1), (27, bb (!v3)), (28, .ptr 0 [] 16), (29, bo (eI .i64) x_a.Out), (30, .ptr 1 [] 16), (31, bo (eI .i64) x_b.Out)]) [(0, some q1), (1, some q2)] 2 ?_)
 obtain ⟨v4, hv4, hh⟩ := bind_some hh
 refine ys (.call 49 [(.t 29), (.t 31)]) (some 32) (oc (laws_eqIntS_fn hv4) ?_)
 refine yt (sp 34 [(33, bb (!v4))]) [] 2 ?_
 rcases cond_some hh with ⟨hb, hh⟩ | ⟨hb, hh⟩
 · refine cT hb ?_
   refine sy [4] [] (sp 34 [(4, bb false)]) [] 2 ?_
   refine Aw.ret ?_
   refine then_r ?_
   rw [some_some hh]
   exact gvb
 refine cF hb ?_
 refine Aw.xskip (fun _ _ _ hq => then_m hq) ?_
 refine sy [4] [] (sp 34 [(4, bb true)]) [] 2 ?_
 refine Aw.ret ?_
 rw [some_some hh]
 exact gvb
def Lf88_r0 : List LOper := [oo 4 (.mv (.c (bb false)))]
def Lf88_r1 : List LOper := [om 6 0, oo 7 (.len (.t 6)), om 8 1, oo 9 (.len (.t 8)), oo 10 (.bin .neq (.t 7) (.t 9))]
def Lf88_r2 : List LOper := [oo 4 (.mv (.c (bb false)))]
def Lf88_r3 : List LOper := [oo 5 (.mv (.c (ii 0)))]
def Lf88_r4 : List LOper := [om 11 5, om 12 0, oo 13 (.len (.t 12)), oo 14 (.bin .lss (.t 11) (.t 13))]
def Lf88_r5 : List LOper := [om 17 0, om 18 5, oo 19 (.iadr 17 (.t 17) (.t 18)), oo 20 (.load true 17 (.t 19)), om 21 1, om 22 5, oo 23 (.iadr 17 (.t 21) (.t 22)), oo 24 (.load true 17 (.t 23))]
def Lf88_r5t : List LOper := [oo 25 (.call 114 [(.t 20), (.t 24)]), oo 26 (.un .not (.t 25))]
def Lf88_r7 : List LOper := [oo 4 (.mv (.c (bb false)))]
def Lf88_r8 : List LOper := [om 15 5, oo 16 (.bin .add (.t 15) (.c (ii 1))), om 5 16]
def Lf88_l9 : LCode := (.seq (.seq (.reg false Lf88_r4) (.cond (.t 14) .skip (.exit 0))) (.seq (.block 1 (.seq (.regd Lf88_r5 Lf88_r5t) (.cond (.t 26) (.seq (.reg false Lf88_r7) .ret) .skip))) (.reg false Lf88_r8)))
def Lf88_r10 : List LOper := [oo 4 (.mv (.c (bb true)))]
def Lf88 : LFun := ⟨27, [(.tmp 4)], (.seq (.reg false Lf88_r0) (.seq (.seq (.reg false Lf88_r1) (.cond (.t 10) (.seq (.reg false Lf88_r2) .ret) .skip)) (.seq (.seq (.reg false Lf88_r3) (.block 0 (.loop Lf88_l9))) (.seq (.reg false Lf88_r10) .ret))))⟩
theorem low_laws_eqGuestS : lowFun Go.Proofs.Try.prog 88 = some Lf88 := by kernel_rfl
noncomputable def F_laws_eqGuestS_j1  (s1 : Unit) : Option Bool :=
 some true
noncomputable def F_laws_eqGuestS_l2 (x_a : List DGuest) (x_b : List DGuest) (s2 : Int) : Option (LO Int (JO Unit Bool)) :=
 cond (decide (s2 < (((List.length x_a) : Nat) : Int)))
  (grd ((0 : Int) ≤ s2 ∧ s2 < ((List.length x_a : Nat) : Int)) (grd ((0 : Int) ≤ s2 ∧ s2 < ((List.length x_b : Nat) : Int)) (Option.bind (F_laws_eqGuest (DGuest.mk ((List.getD x_a (Int.toNat s2) default).Live) (DCore.mk (((List.getD x_a (Int.toNat s2) default).C).Regs) (((List.getD x_a (Int.toNat s2) default).C).Pc) (((List.getD x_a (Int.toNat s2) default).C).Root) (((List.getD x_a (Int.toNat s2) default).C).Vector) (((List.getD x_a (Int.toNat s2) default).C).Saved) (((List.getD x_a (Int.toNat s2) default).C).SavedUser) (((List.getD x_a (Int.toNat s2) default).C).Cause) (((List.getD x_a (Int.toNat s2) default).C).Bad) (((List.getD x_a (Int.toNat s2) default).C).Timer) (((List.getD x_a (Int.toNat s2) default).C).Waits) (((List.getD x_a (Int.toNat s2) default).C).User) (((List.getD x_a (Int.toNat s2) default).C).On) (((List.getD x_a (Int.toNat s2) default).C).Stopped)) ((List.getD x_a (Int.toNat s2) default).Pages) ((List.getD x_a (Int.toNat s2) default).In) ((List.getD x_a (Int.toNat s2) default).Out)) (DGuest.mk ((List.getD x_b (Int.toNat s2) default).Live) (DCore.mk (((List.getD x_b (Int.toNat s2) default).C).Regs) (((List.getD x_b (Int.toNat s2) default).C).Pc) (((List.getD x_b (Int.toNat s2) default).C).Root) (((List.getD x_b (Int.toNat s2) default).C).Vector) (((List.getD x_b (Int.toNat s2) default).C).Saved) (((List.getD x_b (Int.toNat s2) default).C).SavedUser) (((List.getD x_b (Int.toNat s2) default).C).Cause) (((List.getD x_b (Int.toNat s2) default).C).Bad) (((List.getD x_b (Int.toNat s2) default).C).Timer) (((List.getD x_b (Int.toNat s2) default).C).Waits) (((List.getD x_b (Int.toNat s2) default).C).User) (((List.getD x_b (Int.toNat s2) default).C).On) (((List.getD x_b (Int.toNat s2) default).C).Stopped)) ((List.getD x_b (Int.toNat s2) default).Pages) ((List.getD x_b (Int.toNat s2) default).In) ((List.getD x_b (Int.toNat s2) default).Out))) fun v3 =>
   cond (!v3)
    (some (.ret (.out false)))
    (some (.next (w64 (s2 + (1 : Int))))))))
  (some (.ret (.go ())))
noncomputable def F_laws_eqGuestS (x_a : List DGuest) (x_b : List DGuest) : Option Bool :=
 cond (!decide ((((List.length x_a) : Nat) : Int) = (((List.length x_b) : Nat) : Int)))
  (some false)
  (Option.bind (Option.bind (iter (F_laws_eqGuestS_l2 x_a x_b) (0 : Int)) LO.val) fun j1 =>
   JO.run j1 (F_laws_eqGuestS_j1))
theorem laws_eqGuestS_fn {x_a : List DGuest} {x_b : List DGuest} {R_ : Bool} (hh : F_laws_eqGuestS x_a x_b = some R_) : Fn Try.prog 88 [bo B_50 x_a, bo B_50 x_b] (.bool R_) := by
 unfold F_laws_eqGuestS at hh
 refine Fn.start low_laws_eqGuestS [0, 1] (E := sp 27 [(0, bo B_50 x_a), (1, bo B_50 x_b)]) (by kernel_rfl) (v := bb R_) (Hr := []) (k := 0) (by kernel_rfl) ?_
 refine sy [0, 1] [] (sp 27 [(0, bo B_50 x_a), (1, bo B_50 x_b)]) [] 0 ?_
 refine Aw.seq ?_
 refine sy [0, 1, 10] [] (sp 27 [(0, bo B_50 x_a), (1, bo B_50 x_b), (10, bb (!decide ((((List.length x_a) : Nat) : Int) = (((List.length x_b) : Nat) : Int))))]) [] 0 ?_
 rcases cond_some hh with ⟨hb, hh⟩ | ⟨hb, hh⟩
 · refine cT hb ?_
   refine sy [4] [] (sp 27 [(4, bb false)]) [] 0 ?_
   refine Aw.ret ?_
   refine then_r ?_
   rw [some_some hh]
   exact gvb
 refine cF hb ?_
 refine Aw.xskip (fun _ _ _ hq => then_m hq) ?_
 obtain ⟨j1, hh, hk1⟩ := bind_some hh
 refine Aw.join (S := Unit) (fun s1 => sp 27 []) (fun s1 => []) 0 (fun s1 => F_laws_eqGuestS_j1 s1 = some R_) ?_ ?_
 · intro s1 hh
   unfold F_laws_eqGuestS_j1 at hh
   refine sy [4] [] (sp 27 [(4, bb true)]) [] 0 ?_
   refine Aw.ret ?_
   rw [some_some hh]
   exact gvb
 intro Q1 hN1 hR1 hE1
 refine sy [0, 1, 5] [] (sp 27 [(0, bo B_50 x_a), (1, bo B_50 x_b), (5, ii 0)]) [] 0 ?_
 refine Aw.block ?_
 obtain ⟨o2, hi2, hk2⟩ := bind_some hh
 refine Aw.iter (fun (s2 : Int) => sp 27 [(0, bo B_50 x_a), (1, bo B_50 x_b), (5, ii s2)]) (fun (s2 : Int) => []) 0 hi2 (Ent.list2 [] rfl rfl (by decide) (rens_sp (by kernel_rfl) (rl_c (u := bo B_50 x_a) (by kernel_rfl) (ren_bor (rens_same (noRefs_fl nr_B_50))) (rl_c (u := bo B_50 x_b) (by kernel_rfl) (ren_bor (rens_same (noRefs_fl nr_B_50))) (rl_c (u := ii 0) (by kernel_rfl) ren_i rl_n)))) hs_nil) ?_
 intro s2 u2 Q2 hh hN2 hX2 hR2
 unfold F_laws_eqGuestS_l2 at hh
 refine Aw.seq ?_
 refine sy [0, 1, 5, 14] [] (sp 27 [(0, bo B_50 x_a), (1, bo B_50 x_b), (5, ii s2), (14, bb (decide (s2 < (((List.length x_a) : Nat) : Int))))]) [] 0 ?_
 rcases cond_some hh with ⟨hb, hh⟩ | ⟨hb, hh⟩
 · refine cT hb ?_
   refine Aw.xskip (fun _ _ _ hq => then_m hq) ?_
   refine Aw.seq ?_
   refine Aw.block ?_
   refine Aw.sregd [0, 1, 5, 26] [] [] (by kernel_rfl) ?_
   refine dc (cs := []) (E' := (sp 27 [(0, bo B_50 x_a), (1, bo B_50 x_b), (5, ii s2), (14, bb (decide (s2 < (((List.length x_a) : Nat) : Int)))), (17, bo B_50 x_a), (18, ii s2)])) (H' := []) (n' := 0) (fs' := none) (pre := (List.take 2 Lf88_r5)) (L' := (List.drop 2 Lf88_r5)) (by kernel_rfl) (fun K => by kernel_rfl) .nil ?_
   obtain ⟨hg47, hh⟩ := grd_some hh
   refine ds (.iadr 17 (.t 17) (.t 18)) (some 19) (ydo_q rfl (by kernel_rfl) (op_iadr (kd := .i64) (c := B_50) (xs := x_a) len_B_50 (by decide) (by kernel_rfl) (by kernel_rfl) hg47 ?_))
   refine ds (.load true 17 (.t 19)) (some 20) (ydo_q rfl (by kernel_rfl) (op_loadbA (c := B_50) (xs := x_a) (o := Int.toNat s2 * 17) (i := (Int.toNat s2)) (off := 0) (v := .agg [bb ((List.getD x_a (Int.toNat s2) default).Live), bo (eI .i64) (((List.getD x_a (Int.toNat s2) default).C).Regs), ii (((List.getD x_a (Int.toNat s2) default).C).Pc), ii (((List.getD x_a (Int.toNat s2) default).C).Root), ii (((List.getD x_a (Int.toNat s2) default).C).Vector), ii (((List.getD x_a (Int.toNat s2) default).C).Saved), bb (((List.getD x_a (Int.toNat s2) default).C).SavedUser), ii (((List.getD x_a (Int.toNat s2) default).C).Cause), ii (((List.getD x_a (Int.toNat s2) default).C).Bad), ii (((List.getD x_a (Int.toNat s2) default).C).Timer), bb (((List.getD x_a (Int.toNat s2) default).C).Waits), bb (((List.getD x_a (Int.toNat s2) default).C).User), bb (((List.getD x_a (Int.toNat s2) default).C).On), bb (((List.getD x_a (Int.toNat s2) default).C).Stopped), bo C_47 ((List.getD x_a (Int.toNat s2) default).Pages), bo (eI .i64) ((List.getD x_a (Int.toNat s2) default).In), bo (eI .i64) ((List.getD x_a (Int.toNat s2) default).Out)]) len_B_50 (by kernel_rfl) (by omega) (by omega) (by decide) (by kernel_rfl) ?_))
   refine dc (cs := []) (E' := (sp 27 [(0, bo B_50 x_a), (1, bo B_50 x_b), (5, ii s2), (14, bb (decide (s2 < (((List.length x_a) : Nat) : Int)))), (17, bo B_50 x_a), (18, ii s2), (19, .bptr (fl B_50 x_a) (Int.toNat s2 * 17)), (20, .agg [bb ((List.getD x_a (Int.toNat s2) default).Live), bo (eI .i64) (((List.getD x_a (Int.toNat s2) default).C).Regs), ii (((List.getD x_a (Int.toNat s2) default).C).Pc), ii (((List.getD x_a (Int.toNat s2) default).C).Root), ii (((List.getD x_a (Int.toNat s2) default).C).Vector), ii (((List.getD x_a (Int.toNat s2) default).C).Saved), bb (((List.getD x_a (Int.toNat s2) default).C).SavedUser), ii (((List.getD x_a (Int.toNat s2) default).C).Cause), ii (((List.getD x_a (Int.toNat s2) default).C).Bad), ii (((List.getD x_a (Int.toNat s2) default).C).Timer), bb (((List.getD x_a (Int.toNat s2) default).C).Waits), bb (((List.getD x_a (Int.toNat s2) default).C).User), bb (((List.getD x_a (Int.toNat s2) default).C).On), bb (((List.getD x_a (Int.toNat s2) default).C).Stopped), bo C_47 ((List.getD x_a (Int.toNat s2) default).Pages), bo (eI .i64) ((List.getD x_a (Int.toNat s2) default).In), bo (eI .i64) ((List.getD x_a (Int.toNat s2) default).Out)]), (21, bo B_50 x_b), (22, ii s2)])) (H' := []) (n' := 0) (fs' := none) (pre := (List.take 2 (List.drop 4 Lf88_r5))) (L' := (List.drop 6 Lf88_r5)) (by kernel_rfl) (fun K => by kernel_rfl) .nil ?_
   obtain ⟨hg48, hh⟩ := grd_some hh
   refine ds (.iadr 17 (.t 21) (.t 22)) (some 23) (ydo_q rfl (by kernel_rfl) (op_iadr (kd := .i64) (c := B_50) (xs := x_b) len_B_50 (by decide) (by kernel_rfl) (by kernel_rfl) hg48 ?_))
   refine ds (.load true 17 (.t 23)) (some 24) (ydo_q rfl (by kernel_rfl) (op_loadbA (c := B_50) (xs := x_b) (o := Int.toNat s2 * 17) (i := (Int.toNat s2)) (off := 0) (v := .agg [bb ((List.getD x_b (Int.toNat s2) default).Live), bo (eI .i64) (((List.getD x_b (Int.toNat s2) default).C).Regs), ii (((List.getD x_b (Int.toNat s2) default).C).Pc), ii (((List.getD x_b (Int.toNat s2) default).C).Root), ii (((List.getD x_b (Int.toNat s2) default).C).Vector), ii (((List.getD x_b (Int.toNat s2) default).C).Saved), bb (((List.getD x_b (Int.toNat s2) default).C).SavedUser), ii (((List.getD x_b (Int.toNat s2) default).C).Cause), ii (((List.getD x_b (Int.toNat s2) default).C).Bad), ii (((List.getD x_b (Int.toNat s2) default).C).Timer), bb (((List.getD x_b (Int.toNat s2) default).C).Waits), bb (((List.getD x_b (Int.toNat s2) default).C).User), bb (((List.getD x_b (Int.toNat s2) default).C).On), bb (((List.getD x_b (Int.toNat s2) default).C).Stopped), bo C_47 ((List.getD x_b (Int.toNat s2) default).Pages), bo (eI .i64) ((List.getD x_b (Int.toNat s2) default).In), bo (eI .i64) ((List.getD x_b (Int.toNat s2) default).Out)]) len_B_50 (by kernel_rfl) (by omega) (by omega) (by decide) (by kernel_rfl) ?_))
   refine dct (cs := []) (E' := (sp 27 [(0, bo B_50 x_a), (1, bo B_50 x_b), (5, ii s2), (14, bb (decide (s2 < (((List.length x_a) : Nat) : Int)))), (17, bo B_50 x_a), (18, ii s2), (19, .bptr (fl B_50 x_a) (Int.toNat s2 * 17)), (20, .agg [bb ((List.getD x_a (Int.toNat s2) default).Live), bo (eI .i64) (((List.getD x_a (Int.toNat s2) default).C).Regs), ii (((List.getD x_a (Int.toNat s2) default).C).Pc), ii (((List.getD x_a (Int.toNat s2) default).C).Root), ii (((List.getD x_a (Int.toNat s2) default).C).Vector), ii (((List.getD x_a (Int.toNat s2) default).C).Saved), bb (((List.getD x_a (Int.toNat s2) default).C).SavedUser), ii (((List.getD x_a (Int.toNat s2) default).C).Cause), ii (((List.getD x_a (Int.toNat s2) default).C).Bad), ii (((List.getD x_a (Int.toNat s2) default).C).Timer), bb (((List.getD x_a (Int.toNat s2) default).C).Waits), bb (((List.getD x_a (Int.toNat s2) default).C).User), bb (((List.getD x_a (Int.toNat s2) default).C).On), bb (((List.getD x_a (Int.toNat s2) default).C).Stopped), bo C_47 ((List.getD x_a (Int.toNat s2) default).Pages), bo (eI .i64) ((List.getD x_a (Int.toNat s2) default).In), bo (eI .i64) ((List.getD x_a (Int.toNat s2) default).Out)]), (21, bo B_50 x_b), (22, ii s2), (23, .bptr (fl B_50 x_b) (Int.toNat s2 * 17)), (24, .agg [bb ((List.getD x_b (Int.toNat s2) default).Live), bo (eI .i64) (((List.getD x_b (Int.toNat s2) default).C).Regs), ii (((List.getD x_b (Int.toNat s2) default).C).Pc), ii (((List.getD x_b (Int.toNat s2) default).C).Root), ii (((List.getD x_b (Int.toNat s2) default).C).Vector), ii (((List.getD x_b (Int.toNat s2) default).C).Saved), bb (((List.getD x_b (Int.toNat s2) default).C).SavedUser), ii (((List.getD x_b (Int.toNat s2) default).C).Cause), ii (((List.getD x_b (Int.toNat s2) default).C).Bad), ii (((List.getD x_b (Int.toNat s2) default).C).Timer), bb (((List.getD x_b (Int.toNat s2) default).C).Waits), bb (((List.getD x_b (Int.toNat s2) default).C).User), bb (((List.getD x_b (Int.toNat s2) default).C).On), bb (((List.getD x_b (Int.toNat s2) default).C).Stopped), bo C_47 ((List.getD x_b (Int.toNat s2) default).Pages), bo (eI .i64) ((List.getD x_b (Int.toNat s2) default).In), bo (eI .i64) ((List.getD x_b (Int.toNat s2) default).Out)])])) (H' := []) (n' := 0) (fun K => by kernel_rfl) .nil ?_
   obtain ⟨v3, hv3, hh⟩ := bind_some hh
   refine ys (.call 114 [(.t 20), (.t 24)]) (some 25) (op_call (r := bb v3) (v := bb v3) (Hr := []) (n' := 0) (laws_eqGuest_fn hv3) (clz_v (vs := [.agg [bb ((List.getD x_a (Int.toNat s2) default).Live), bo (eI .i64) (((List.getD x_a (Int.toNat s2) default).C).Regs), ii (((List.getD x_a (Int.toNat s2) default).C).Pc), ii (((List.getD x_a (Int.toNat s2) default).C).Root), ii (((List.getD x_a (Int.toNat s2) default).C).Vector), ii (((List.getD x_a (Int.toNat s2) default).C).Saved), bb (((List.getD x_a (Int.toNat s2) default).C).SavedUser), ii (((List.getD x_a (Int.toNat s2) default).C).Cause), ii (((List.getD x_a (Int.toNat s2) default).C).Bad), ii (((List.getD x_a (Int.toNat s2) default).C).Timer), bb (((List.getD x_a (Int.toNat s2) default).C).Waits), bb (((List.getD x_a (Int.toNat s2) default).C).User), bb (((List.getD x_a (Int.toNat s2) default).C).On), bb (((List.getD x_a (Int.toNat s2) default).C).Stopped), bo C_47 ((List.getD x_a (Int.toNat s2) default).Pages), bo (eI .i64) ((List.getD x_a (Int.toNat s2) default).In), bo (eI .i64) ((List.getD x_a (Int.toNat s2) default).Out)], .agg [bb ((List.getD x_b (Int.toNat s2) default).Live), bo (eI .i64) (((List.getD x_b (Int.toNat s2) default).C).Regs), ii (((List.getD x_b (Int.toNat s2) default).C).Pc), ii (((List.getD x_b (Int.toNat s2) default).C).Root), ii (((List.getD x_b (Int.toNat s2) default).C).Vector), ii (((List.getD x_b (Int.toNat s2) default).C).Saved), bb (((List.getD x_b (Int.toNat s2) default).C).SavedUser), ii (((List.getD x_b (Int.toNat s2) default).C).Cause), ii (((List.getD x_b (Int.toNat s2) default).C).Bad), ii (((List.getD x_b (Int.toNat s2) default).C).Timer), bb (((List.getD x_b (Int.toNat s2) default).C).Waits), bb (((List.getD x_b (Int.toNat s2) default).C).User), bb (((List.getD x_b (Int.toNat s2) default).C).On), bb (((List.getD x_b (Int.toNat s2) default).C).Stopped), bo C_47 ((List.getD x_b (Int.toNat s2) default).Pages), bo (eI .i64) ((List.getD x_b (Int.toNat s2) default).In), bo (eI .i64) ((List.getD x_b (Int.toNat s2) default).Out)]]) (by kernel_rfl) (clz_c (clo_agg (cs1 (clos_c (clo_same (clean_bor (cleans_fl cl_eI))) (cs1 (cs1 (cs1 (cs1 (cs1 (cs1 (cs1 (cs1 (cs1 (cs1 (cs1 (cs1 (clos_c (clo_same (clean_bor (cleans_fl cl_C_47))) (clos_c (clo_same (clean_bor (cleans_fl cl_eI))) (clos_c (clo_same (clean_bor (cleans_fl cl_eI))) clos_n)))))))))))))))))) (clz_c (clo_agg (cs1 (clos_c (clo_same (clean_bor (cleans_fl cl_eI))) (cs1 (cs1 (cs1 (cs1 (cs1 (cs1 (cs1 (cs1 (cs1 (cs1 (cs1 (cs1 (clos_c (clo_same (clean_bor (cleans_fl cl_C_47))) (clos_c (clo_same (clean_bor (cleans_fl cl_eI))) (clos_c (clo_same (clean_bor (cleans_fl cl_eI))) clos_n)))))))))))))))))) clz_n))) rfl rfl (by kernel_rfl) ?_)
   refine yt (sp 27 [(0, bo B_50 x_a), (1, bo B_50 x_b), (5, ii s2), (26, bb (!v3))]) [] 0 ?_
   rcases cond_some hh with ⟨hb, hh⟩ | ⟨hb, hh⟩
   · refine cT hb ?_
     refine sy [4] [] (sp 27 [(4, bb false)]) [] 0 ?_
     refine Aw.ret ?_
     refine blk_r (then_r ?_)
     refine hR2 _ _ _ _ (some_some hh) ?_
     intro hout
     rw [hout] at hk2
     refine blk_r ?_
     obtain rfl := some_some hk2
     refine hR1 _ _ _ ?_
     refine ?_
     rw [some_some hk1]
     exact gvb
   refine cF hb ?_
   refine Aw.xskip (fun _ _ _ hq => blk_m (then_m hq)) ?_
   refine Aw.oreg ?_
   refine ye (sp 27 [(0, bo B_50 x_a), (1, bo B_50 x_b), (5, ii (w64 (s2 + (1 : Int)))), (15, ii s2), (16, ii (w64 (s2 + (1 : Int)))), (26, bb (!v3))]) [] 0 ?_
   exact hN2 (w64 (s2 + (1 : Int))) _ _ _ (some_some hh) (Ent.list2 [] rfl rfl (by decide) (rens_sp (by kernel_rfl) (rl_c (u := bo B_50 x_a) (by kernel_rfl) (ren_bor (rens_same (noRefs_fl nr_B_50))) (rl_c (u := bo B_50 x_b) (by kernel_rfl) (ren_bor (rens_same (noRefs_fl nr_B_50))) (rl_c (u := ii (w64 (s2 + (1 : Int)))) (by kernel_rfl) ren_i rl_n)))) hs_nil)
 refine cF hb ?_
 refine Aw.exit ?_
 refine then_x ?_
 refine hX2 _ _ _ _ _ (some_some hh) ?_
 intro hout
 rw [hout] at hk2
 refine blk_x ?_
 obtain rfl := some_some hk2
 exact hN1 () _ _ _ hk1 (Ent.list2 [] rfl rfl (by decide) (rens_sp (by kernel_rfl) rl_n) hs_nil)
def Lf43_r0 : List LOper := [oo 2 (.box 26 (.t 0)), oo 3 (.box 26 (.t 1)), oo 4 (.mv (.c (bb false)))]
def Lf43_r1 : List LOper := [oo 5 (.fadr 0 (.t 2)), oo 6 (.load false 1 (.t 5)), oo 7 (.fadr 0 (.t 3)), oo 8 (.load false 1 (.t 7)), oo 9 (.call 49 [(.t 6), (.t 8)]), oo 10 (.un .not (.t 9))]
def Lf43_r2 : List LOper := [oo 4 (.mv (.c (bb false)))]
def Lf43_r3 : List LOper := [oo 11 (.fadr 1 (.t 2)), oo 12 (.load false 1 (.t 11)), oo 13 (.fadr 1 (.t 3)), oo 14 (.load false 1 (.t 13)), oo 15 (.call 88 [(.t 12), (.t 14)]), oo 16 (.un .not (.t 15))]
def Lf43_r4 : List LOper := [oo 4 (.mv (.c (bb false)))]
def Lf43_r5 : List LOper := [oo 4 (.mv (.c (bb true)))]
def Lf43 : LFun := ⟨17, [(.tmp 4)], (.seq (.reg false Lf43_r0) (.seq (.seq (.reg false Lf43_r1) (.cond (.t 10) (.seq (.reg false Lf43_r2) .ret) .skip)) (.seq (.seq (.reg false Lf43_r3) (.cond (.t 16) (.seq (.reg false Lf43_r4) .ret) .skip)) (.seq (.reg false Lf43_r5) .ret))))⟩
theorem low_laws_eqHost : lowFun Go.Proofs.Try.prog 43 = some Lf43 := by kernel_rfl
noncomputable def F_laws_eqHost (x_a : DHost) (x_b : DHost) : Option Bool :=
 Option.bind (F_laws_eqIntS x_a.Words x_b.Words) fun v1 =>
 cond (!v1)
  (some false)
  (Option.bind (F_laws_eqGuestS x_a.Guests x_b.Guests) fun v2 =>
  cond (!v2)
   (some false)
   (some true))
theorem laws_eqHost_fn {x_a : DHost} {x_b : DHost} {R_ : Bool} (hh : F_laws_eqHost x_a x_b = some R_) : Fn Try.prog 43 [.agg [bo (eI .i64) x_a.Words, bo B_50 x_a.Guests], .agg [bo (eI .i64) x_b.Words, bo B_50 x_b.Guests]] (.bool R_) := by
 unfold F_laws_eqHost at hh
 refine Fn.start low_laws_eqHost [0, 1] (E := sp 17 [(0, .agg (B_26 x_a)), (1, .agg (B_26 x_b))]) (by kernel_rfl) (v := bb R_) (Hr := []) (k := 0) (by kernel_rfl) ?_
 refine Aw.sreg [2, 3] [0, 1] ?_
 let q1 : Root := ⟨26, [bo (eI .i64) x_a.Words, bo B_50 x_a.Guests]⟩
 let q2 : Root := ⟨26, [bo (eI .i64) x_b.Words, bo B_50 x_b.Guests]⟩
 refine yt (sp 17 [(2, pp 0), (3, pp 1)]) [(0, some q1), (1, some q2)] 2 ?_
 refine Aw.seq ?_
 refine Aw.sreg [2, 3, 10] [0, 1] (yj 4  (sp 17 [(2, pp 0), (3, pp 1), (5, pp 0), (6, bo (eI .i64) x_a.Words), (7, pp 1), (8, bo (eI .i64) x_b.Words)]) [(0, some q1), (1, some q2)] 2 ?_)
 obtain ⟨v1, hv1, hh⟩ := bind_some hh
 refine ys (.call 49 [(.t 6), (.t 8)]) (some 9) (oc (laws_eqIntS_fn hv1) ?_)
 refine yt (sp 17 [(2, pp 0), (3, pp 1), (10, bb (!v1))]) [(0, some q1), (1, some q2)] 2 ?_
 rcases cond_some hh with ⟨hb, hh⟩ | ⟨hb, hh⟩
 · refine cT hb ?_
   refine sy [4] [] (sp 17 [(4, bb false)]) [] 2 ?_
   refine Aw.ret ?_
   refine then_r ?_
   rw [some_some hh]
   exact gvb
 refine cF hb ?_
 refine Aw.xskip (fun _ _ _ hq => then_m hq) ?_
 refine Aw.seq ?_
 refine Aw.sreg [16] [] (yj 4  (sp 17 [(2, pp 0), (3, pp 1), (10, bb (!v1)), (11, .ptr 0 [] 1), (12, bo B_50 x_a.Guests), (13, .ptr 1 [] 1), (14, bo B_50 x_b.Guests)]) [(0, some q1), (1, some q2)] 2 ?_)
 obtain ⟨v2, hv2, hh⟩ := bind_some hh
 refine ys (.call 88 [(.t 12), (.t 14)]) (some 15) (op_call (r := bb v2) (v := bb v2) (Hr := []) (n' := 2) (laws_eqGuestS_fn hv2) (clz_v (vs := [bo B_50 x_a.Guests, bo B_50 x_b.Guests]) (by kernel_rfl) (clz_c (clo_same (clean_bor (cleans_fl cl_B_50))) (clz_c (clo_same (clean_bor (cleans_fl cl_B_50))) clz_n))) rfl rfl (by kernel_rfl) ?_)
 refine yt (sp 17 [(16, bb (!v2))]) [] 2 ?_
 rcases cond_some hh with ⟨hb, hh⟩ | ⟨hb, hh⟩
 · refine cT hb ?_
   refine sy [4] [] (sp 17 [(4, bb false)]) [] 2 ?_
   refine Aw.ret ?_
   refine then_r ?_
   rw [some_some hh]
   exact gvb
 refine cF hb ?_
 refine Aw.xskip (fun _ _ _ hq => then_m hq) ?_
 refine sy [4] [] (sp 17 [(4, bb true)]) [] 2 ?_
 refine Aw.ret ?_
 rw [some_some hh]
 exact gvb
def Lf124_r0 : List LOper := [oo 4 (.mv (.c (ii 0)))]
def Lf124_r1 : List LOper := [om 5 1, om 6 0, oo 7 (.len (.t 6)), oo 8 (.bin .sub (.t 5) (.t 7)), om 1 8]
def Lf124_r2 : List LOper := [om 9 1, oo 10 (.bin .lss (.t 9) (.c (ii 0)))]
def Lf124_r3 : List LOper := [oo 4 (.mv (.c (ii (-1))))]
def Lf124_r4 : List LOper := [om 11 1, om 4 11]
def Lf124 : LFun := ⟨12, [(.tmp 4)], (.seq (.reg false Lf124_r0) (.seq (.reg false Lf124_r1) (.seq (.seq (.reg false Lf124_r2) (.cond (.t 10) (.seq (.reg false Lf124_r3) .ret) .skip)) (.seq (.reg false Lf124_r4) .ret))))⟩
theorem low_laws_szSlotS : lowFun Go.Proofs.Try.prog 124 = some Lf124 := by kernel_rfl
noncomputable def F_laws_szSlotS (x_a : List DSlot) (x_left : Int) : Option Int :=
 cond (decide ((w64 (x_left - (((List.length x_a) : Nat) : Int))) < (0 : Int)))
  (some (-1 : Int))
  (some (w64 (x_left - (((List.length x_a) : Nat) : Int))))
theorem laws_szSlotS_fn {x_a : List DSlot} {x_left : Int} {R_ : Int} (hh : F_laws_szSlotS x_a x_left = some R_) : Fn Try.prog 124 [bo C_139 x_a, .int .i64 x_left] (.int .i64 R_) := by
 unfold F_laws_szSlotS at hh
 refine Fn.start low_laws_szSlotS [0, 1] (E := sp 12 [(0, bo C_139 x_a), (1, ii x_left)]) (by kernel_rfl) (v := ii R_) (Hr := []) (k := 0) (by kernel_rfl) ?_
 refine sy [0, 1] [] (sp 12 [(0, bo C_139 x_a), (1, ii x_left)]) [] 0 ?_
 refine sy [1] [] (sp 12 [(1, ii (w64 (x_left - (((List.length x_a) : Nat) : Int))))]) [] 0 ?_
 refine Aw.seq ?_
 refine sy [1, 10] [] (sp 12 [(1, ii (w64 (x_left - (((List.length x_a) : Nat) : Int)))), (10, bb (decide ((w64 (x_left - (((List.length x_a) : Nat) : Int))) < (0 : Int))))]) [] 0 ?_
 rcases cond_some hh with ⟨hb, hh⟩ | ⟨hb, hh⟩
 · refine cT hb ?_
   refine sy [4] [] (sp 12 [(4, ii (-1))]) [] 0 ?_
   refine Aw.ret ?_
   refine then_r ?_
   rw [some_some hh]
   exact gvi
 refine cF hb ?_
 refine Aw.xskip (fun _ _ _ hq => then_m hq) ?_
 refine sy [4] [] (sp 12 [(4, ii (w64 (x_left - (((List.length x_a) : Nat) : Int))))]) [] 0 ?_
 refine Aw.ret ?_
 rw [some_some hh]
 exact gvi
def Lf112_r0 : List LOper := [oo 2 (.box 121 (.t 0)), oo 4 (.mv (.c (ii 0)))]
def Lf112_r1 : List LOper := [oo 5 (.fadr 1 (.t 2)), oo 6 (.load true 13 (.t 5)), om 7 1, oo 8 (.call 94 [(.t 6), (.t 7)]), om 1 8]
def Lf112_r2 : List LOper := [om 9 1, oo 10 (.bin .lss (.t 9) (.c (ii 0)))]
def Lf112_r3 : List LOper := [oo 4 (.mv (.c (ii (-1))))]
def Lf112_r4 : List LOper := [oo 11 (.fadr 14 (.t 2)), oo 12 (.load false 1 (.t 11)), om 13 1, oo 14 (.call 124 [(.t 12), (.t 13)]), om 1 14]
def Lf112_r5 : List LOper := [om 15 1, oo 16 (.bin .lss (.t 15) (.c (ii 0)))]
def Lf112_r6 : List LOper := [oo 4 (.mv (.c (ii (-1))))]
def Lf112_r7 : List LOper := [oo 17 (.fadr 15 (.t 2)), oo 18 (.load false 1 (.t 17)), om 19 1, oo 20 (.call 84 [(.t 18), (.t 19)]), om 1 20]
def Lf112_r8 : List LOper := [om 21 1, oo 22 (.bin .lss (.t 21) (.c (ii 0)))]
def Lf112_r9 : List LOper := [oo 4 (.mv (.c (ii (-1))))]
def Lf112_r10 : List LOper := [oo 23 (.fadr 16 (.t 2)), oo 24 (.load false 1 (.t 23)), om 25 1, oo 26 (.call 84 [(.t 24), (.t 25)]), om 1 26]
def Lf112_r11 : List LOper := [om 27 1, oo 28 (.bin .lss (.t 27) (.c (ii 0)))]
def Lf112_r12 : List LOper := [oo 4 (.mv (.c (ii (-1))))]
def Lf112_r13 : List LOper := [om 29 1, om 4 29]
def Lf112 : LFun := ⟨30, [(.tmp 4)], (.seq (.reg false Lf112_r0) (.seq (.reg false Lf112_r1) (.seq (.seq (.reg false Lf112_r2) (.cond (.t 10) (.seq (.reg false Lf112_r3) .ret) .skip)) (.seq (.reg false Lf112_r4) (.seq (.seq (.reg false Lf112_r5) (.cond (.t 16) (.seq (.reg false Lf112_r6) .ret) .skip)) (.seq (.reg false Lf112_r7) (.seq (.seq (.reg false Lf112_r8) (.cond (.t 22) (.seq (.reg false Lf112_r9) .ret) .skip)) (.seq (.reg false Lf112_r10) (.seq (.seq (.reg false Lf112_r11) (.cond (.t 28) (.seq (.reg false Lf112_r12) .ret) .skip)) (.seq (.reg false Lf112_r13) .ret))))))))))⟩
theorem low_laws_szGuest : lowFun Go.Proofs.Try.prog 112 = some Lf112 := by kernel_rfl
noncomputable def F_laws_szGuest (x_a : DGuest) (x_left : Int) : Option Int :=
 Option.bind (F_laws_szCore x_a.C x_left) fun v1 =>
 cond (decide (v1 < (0 : Int)))
  (some (-1 : Int))
  (Option.bind (F_laws_szSlotS x_a.Pages v1) fun v2 =>
  cond (decide (v2 < (0 : Int)))
   (some (-1 : Int))
   (Option.bind (F_laws_szIntS x_a.In v2) fun v3 =>
   cond (decide (v3 < (0 : Int)))
    (some (-1 : Int))
    (Option.bind (F_laws_szIntS x_a.Out v3) fun v4 =>
    cond (decide (v4 < (0 : Int)))
     (some (-1 : Int))
     (some v4))))
theorem laws_szGuest_fn {x_a : DGuest} {x_left : Int} {R_ : Int} (hh : F_laws_szGuest x_a x_left = some R_) : Fn Try.prog 112 [.agg (.bool x_a.Live :: bo (eI .i64) x_a.C.Regs :: ru36 x_a.C [bo C_139 x_a.Pages, bo (eI .i64) x_a.In, bo (eI .i64) x_a.Out]), .int .i64 x_left] (.int .i64 R_) := by
 unfold F_laws_szGuest at hh
 refine Fn.start low_laws_szGuest [0, 1] (E := sp 30 [(0, .agg (bb x_a.Live :: bo (eI .i64) x_a.C.Regs :: ru36 x_a.C [bo C_139 x_a.Pages, bo (eI .i64) x_a.In, bo (eI .i64) x_a.Out])), (1, ii x_left)]) (by kernel_rfl) (v := ii R_) (Hr := []) (k := 0) (by kernel_rfl) ?_
 refine Aw.sreg [1, 2] [0] ?_
 let q1 : Root := ⟨121, (bb x_a.Live :: bo (eI .i64) x_a.C.Regs :: ru36 x_a.C [bo C_139 x_a.Pages, bo (eI .i64) x_a.In, bo (eI .i64) x_a.Out])⟩
 refine yt (sp 30 [(1, ii x_left), (2, pp 0)]) [(0, some q1)] 1 ?_
 refine Aw.sreg [1, 2] [0] (yu 3 [(5, .ptr 0 [] 1), (6, .agg (B_36 x_a.C)), (7, ii x_left)] [(0, some q1)] 1 ?_)
 obtain ⟨v1, hv1, hh⟩ := bind_some hh
 refine ys (.call 94 [(.t 6), (.t 7)]) (some 8) (op_call (r := ii v1) (v := ii v1) (Hr := []) (n' := 1) (laws_szCore_fn hv1) (clz_v (vs := [.agg (B_36 x_a.C), ii x_left]) (by kernel_rfl) (clz_c (clo_same (clean_agg (cl_B_36 _))) (cz1 clz_n))) rfl rfl (by kernel_rfl) ?_)
 refine yt (sp 30 [(1, ii v1), (2, pp 0)]) [(0, some q1)] 1 ?_
 refine Aw.seq ?_
 refine sy [1, 2, 10] [0] (sp 30 [(1, ii v1), (2, pp 0), (10, bb (decide (v1 < (0 : Int))))]) [(0, some q1)] 1 ?_
 rcases cond_some hh with ⟨hb, hh⟩ | ⟨hb, hh⟩
 · refine cT hb ?_
   refine sy [4] [] (sp 30 [(4, ii (-1))]) [] 1 ?_
   refine Aw.ret ?_
   refine then_r ?_
   rw [some_some hh]
   exact gvi
 refine cF hb ?_
 refine Aw.xskip (fun _ _ _ hq => then_m hq) ?_
 refine Aw.sreg [1, 2] [0] (yj 3  (sp 30 [(1, ii v1), (2, pp 0), (10, bb (decide (v1 < (0 : Int)))), (11, .ptr 0 [] 14), (12, bo C_139 x_a.Pages), (13, ii v1)]) [(0, some q1)] 1 ?_)
 obtain ⟨v2, hv2, hh⟩ := bind_some hh
 refine ys (.call 124 [(.t 12), (.t 13)]) (some 14) (op_call (r := ii v2) (v := ii v2) (Hr := []) (n' := 1) (laws_szSlotS_fn hv2) (clz_v (vs := [bo C_139 x_a.Pages, ii v1]) (by kernel_rfl) (clz_c (clo_same (clean_bor (cleans_fl cl_C_139))) (cz1 clz_n))) rfl rfl (by kernel_rfl) ?_)
 refine yt (sp 30 [(1, ii v2), (2, pp 0)]) [(0, some q1)] 1 ?_
 refine Aw.seq ?_
 refine sy [1, 2, 16] [0] (sp 30 [(1, ii v2), (2, pp 0), (16, bb (decide (v2 < (0 : Int))))]) [(0, some q1)] 1 ?_
 rcases cond_some hh with ⟨hb, hh⟩ | ⟨hb, hh⟩
 · refine cT hb ?_
   refine sy [4] [] (sp 30 [(4, ii (-1))]) [] 1 ?_
   refine Aw.ret ?_
   refine then_r ?_
   rw [some_some hh]
   exact gvi
 refine cF hb ?_
 refine Aw.xskip (fun _ _ _ hq => then_m hq) ?_
 refine Aw.sreg [1, 2] [0] (yj 3  (sp 30 [(1, ii v2), (2, pp 0), (16, bb (decide (v2 < (0 : Int)))), (17, .ptr 0 [] 15), (18, bo (eI .i64) x_a.In), (19, ii v2)]) [(0, some q1)] 1 ?_)
 obtain ⟨v3, hv3, hh⟩ := bind_some hh
 refine ys (.call 84 [(.t 18), (.t 19)]) (some 20) (oc (laws_szIntS_fn hv3) ?_)
 refine yt (sp 30 [(1, ii v3), (2, pp 0)]) [(0, some q1)] 1 ?_
 refine Aw.seq ?_
 refine sy [1, 2, 22] [0] (sp 30 [(1, ii v3), (2, pp 0), (22, bb (decide (v3 < (0 : Int))))]) [(0, some q1)] 1 ?_
 rcases cond_some hh with ⟨hb, hh⟩ | ⟨hb, hh⟩
 · refine cT hb ?_
   refine sy [4] [] (sp 30 [(4, ii (-1))]) [] 1 ?_
   refine Aw.ret ?_
   refine then_r ?_
   rw [some_some hh]
   exact gvi
 refine cF hb ?_
 refine Aw.xskip (fun _ _ _ hq => then_m hq) ?_
 refine Aw.sreg [1] [] (yj 3  (sp 30 [(1, ii v3), (2, pp 0), (22, bb (decide (v3 < (0 : Int)))), (23, .ptr 0 [] 16), (24, bo (eI .i64) x_a.Out), (25, ii v3)]) [(0, some q1)] 1 ?_)
 obtain ⟨v4, hv4, hh⟩ := bind_some hh
 refine ys (.call 84 [(.t 24), (.t 25)]) (some 26) (oc (laws_szIntS_fn hv4) ?_)
 refine yt (sp 30 [(1, ii v4)]) [] 1 ?_
 refine Aw.seq ?_
 refine sy [1, 28] [] (sp 30 [(1, ii v4), (28, bb (decide (v4 < (0 : Int))))]) [] 1 ?_
 rcases cond_some hh with ⟨hb, hh⟩ | ⟨hb, hh⟩
 · refine cT hb ?_
   refine sy [4] [] (sp 30 [(4, ii (-1))]) [] 1 ?_
   refine Aw.ret ?_
   refine then_r ?_
   rw [some_some hh]
   exact gvi
 refine cF hb ?_
 refine Aw.xskip (fun _ _ _ hq => then_m hq) ?_
 refine sy [4] [] (sp 30 [(4, ii v4)]) [] 1 ?_
 refine Aw.ret ?_
 rw [some_some hh]
 exact gvi
def Lf85_r0 : List LOper := [oo 4 (.mv (.c (ii 0)))]
def Lf85_r1 : List LOper := [om 6 1, om 7 0, oo 8 (.len (.t 7)), oo 9 (.bin .sub (.t 6) (.t 8)), om 1 9]
def Lf85_r2 : List LOper := [om 10 1, oo 11 (.bin .lss (.t 10) (.c (ii 0)))]
def Lf85_r3 : List LOper := [oo 4 (.mv (.c (ii (-1))))]
def Lf85_r4 : List LOper := [oo 5 (.mv (.c (ii 0)))]
def Lf85_r5 : List LOper := [om 12 5, om 13 0, oo 14 (.len (.t 13)), oo 15 (.bin .lss (.t 12) (.t 14))]
def Lf85_r6 : List LOper := [om 18 0, om 19 5, oo 20 (.iadr 17 (.t 18) (.t 19)), oo 21 (.load true 17 (.t 20)), om 22 1, oo 23 (.call 112 [(.t 21), (.t 22)]), om 1 23]
def Lf85_r7 : List LOper := [om 24 1, oo 25 (.bin .lss (.t 24) (.c (ii 0)))]
def Lf85_r8 : List LOper := [oo 4 (.mv (.c (ii (-1))))]
def Lf85_r9 : List LOper := [om 16 5, oo 17 (.bin .add (.t 16) (.c (ii 1))), om 5 17]
def Lf85_l10 : LCode := (.seq (.seq (.reg false Lf85_r5) (.cond (.t 15) .skip (.exit 0))) (.seq (.block 1 (.seq (.reg false Lf85_r6) (.seq (.reg false Lf85_r7) (.cond (.t 25) (.seq (.reg false Lf85_r8) .ret) .skip)))) (.reg false Lf85_r9)))
def Lf85_r11 : List LOper := [om 26 1, om 4 26]
def Lf85 : LFun := ⟨27, [(.tmp 4)], (.seq (.reg false Lf85_r0) (.seq (.reg false Lf85_r1) (.seq (.seq (.reg false Lf85_r2) (.cond (.t 11) (.seq (.reg false Lf85_r3) .ret) .skip)) (.seq (.seq (.reg false Lf85_r4) (.block 0 (.loop Lf85_l10))) (.seq (.reg false Lf85_r11) .ret)))))⟩
theorem low_laws_szGuestS : lowFun Go.Proofs.Try.prog 85 = some Lf85 := by kernel_rfl
noncomputable def F_laws_szGuestS_j1  (s1 : Int) : Option Int :=
 some s1
noncomputable def F_laws_szGuestS_l2 (x_a : List DGuest) (s2 : Int × Int) : Option (LO (Int × Int) (JO Int Int)) :=
 cond (decide (s2.2 < (((List.length x_a) : Nat) : Int)))
  (grd ((0 : Int) ≤ s2.2 ∧ s2.2 < ((List.length x_a : Nat) : Int)) (Option.bind (F_laws_szGuest (DGuest.mk ((List.getD x_a (Int.toNat s2.2) default).Live) (DCore.mk (((List.getD x_a (Int.toNat s2.2) default).C).Regs) (((List.getD x_a (Int.toNat s2.2) default).C).Pc) (((List.getD x_a (Int.toNat s2.2) default).C).Root) (((List.getD x_a (Int.toNat s2.2) default).C).Vector) (((List.getD x_a (Int.toNat s2.2) default).C).Saved) (((List.getD x_a (Int.toNat s2.2) default).C).SavedUser) (((List.getD x_a (Int.toNat s2.2) default).C).Cause) (((List.getD x_a (Int.toNat s2.2) default).C).Bad) (((List.getD x_a (Int.toNat s2.2) default).C).Timer) (((List.getD x_a (Int.toNat s2.2) default).C).Waits) (((List.getD x_a (Int.toNat s2.2) default).C).User) (((List.getD x_a (Int.toNat s2.2) default).C).On) (((List.getD x_a (Int.toNat s2.2) default).C).Stopped)) ((List.getD x_a (Int.toNat s2.2) default).Pages) ((List.getD x_a (Int.toNat s2.2) default).In) ((List.getD x_a (Int.toNat s2.2) default).Out)) s2.1) fun v3 =>
   cond (decide (v3 < (0 : Int)))
    (some (.ret (.out (-1 : Int))))
    (some (.next (v3, (w64 (s2.2 + (1 : Int))))))))
  (some (.ret (.go s2.1)))
noncomputable def F_laws_szGuestS (x_a : List DGuest) (x_left : Int) : Option Int :=
 cond (decide ((w64 (x_left - (((List.length x_a) : Nat) : Int))) < (0 : Int)))
  (some (-1 : Int))
  (Option.bind (Option.bind (iter (F_laws_szGuestS_l2 x_a) ((w64 (x_left - (((List.length x_a) : Nat) : Int))), (0 : Int))) LO.val) fun j1 =>
   JO.run j1 (F_laws_szGuestS_j1))
theorem laws_szGuestS_fn {x_a : List DGuest} {x_left : Int} {R_ : Int} (hh : F_laws_szGuestS x_a x_left = some R_) : Fn Try.prog 85 [bo B_121 x_a, .int .i64 x_left] (.int .i64 R_) := by
 unfold F_laws_szGuestS at hh
 refine Fn.start low_laws_szGuestS [0, 1] (E := sp 27 [(0, bo B_121 x_a), (1, ii x_left)]) (by kernel_rfl) (v := ii R_) (Hr := []) (k := 0) (by kernel_rfl) ?_
 refine sy [0, 1] [] (sp 27 [(0, bo B_121 x_a), (1, ii x_left)]) [] 0 ?_
 refine sy [0, 1] [] (sp 27 [(0, bo B_121 x_a), (1, ii (w64 (x_left - (((List.length x_a) : Nat) : Int))))]) [] 0 ?_
 refine Aw.seq ?_
 refine sy [0, 1, 11] [] (sp 27 [(0, bo B_121 x_a), (1, ii (w64 (x_left - (((List.length x_a) : Nat) : Int)))), (11, bb (decide ((w64 (x_left - (((List.length x_a) : Nat) : Int))) < (0 : Int))))]) [] 0 ?_
 rcases cond_some hh with ⟨hb, hh⟩ | ⟨hb, hh⟩
 · refine cT hb ?_
   refine sy [4] [] (sp 27 [(4, ii (-1))]) [] 0 ?_
   refine Aw.ret ?_
   refine then_r ?_
   rw [some_some hh]
   exact gvi
 refine cF hb ?_
 refine Aw.xskip (fun _ _ _ hq => then_m hq) ?_
 obtain ⟨j1, hh, hk1⟩ := bind_some hh
 refine Aw.join (S := Int) (fun s1 => sp 27 [(1, ii s1)]) (fun s1 => []) 0 (fun s1 => F_laws_szGuestS_j1 s1 = some R_) ?_ ?_
 · intro s1 hh
   unfold F_laws_szGuestS_j1 at hh
   refine sy [4] [] (sp 27 [(4, ii s1)]) [] 0 ?_
   refine Aw.ret ?_
   rw [some_some hh]
   exact gvi
 intro Q1 hN1 hR1 hE1
 refine sy [0, 1, 5] [] (sp 27 [(0, bo B_121 x_a), (1, ii (w64 (x_left - (((List.length x_a) : Nat) : Int)))), (5, ii 0)]) [] 0 ?_
 refine Aw.block ?_
 obtain ⟨o2, hi2, hk2⟩ := bind_some hh
 refine Aw.iter (fun (s2 : Int × Int) => sp 27 [(0, bo B_121 x_a), (1, ii s2.1), (5, ii s2.2)]) (fun (s2 : Int × Int) => []) 0 hi2 (Ent.list2 [] rfl rfl (by decide) (rens_sp (by kernel_rfl) (rl_c (u := bo B_121 x_a) (by kernel_rfl) (ren_bor (rens_same (noRefs_fl nr_B_121))) (rl_c (u := ii (w64 (x_left - (((List.length x_a) : Nat) : Int)))) (by kernel_rfl) ren_i (rl_c (u := ii 0) (by kernel_rfl) ren_i rl_n)))) hs_nil) ?_
 intro s2 u2 Q2 hh hN2 hX2 hR2
 unfold F_laws_szGuestS_l2 at hh
 refine Aw.seq ?_
 refine sy [0, 1, 5, 15] [] (sp 27 [(0, bo B_121 x_a), (1, ii s2.1), (5, ii s2.2), (15, bb (decide (s2.2 < (((List.length x_a) : Nat) : Int))))]) [] 0 ?_
 rcases cond_some hh with ⟨hb, hh⟩ | ⟨hb, hh⟩
 · refine cT hb ?_
   refine Aw.xskip (fun _ _ _ hq => then_m hq) ?_
   refine Aw.seq ?_
   refine Aw.block ?_
   refine Aw.sreg [0, 1, 5] [] (yj 2  (sp 27 [(0, bo B_121 x_a), (1, ii s2.1), (5, ii s2.2), (15, bb (decide (s2.2 < (((List.length x_a) : Nat) : Int)))), (18, bo B_121 x_a), (19, ii s2.2)]) [] 0 ?_)
   obtain ⟨hg24, hh⟩ := grd_some hh
   refine ys (.iadr 17 (.t 18) (.t 19)) (some 20) (op_iadr (kd := .i64) (c := B_121) (xs := x_a) len_B_121 (by decide) (by kernel_rfl) (by kernel_rfl) hg24 ?_)
   refine ys (.load true 17 (.t 20)) (some 21) (op_loadbA (c := B_121) (xs := x_a) (o := Int.toNat s2.2 * 17) (i := (Int.toNat s2.2)) (off := 0) (v := .agg [bb ((List.getD x_a (Int.toNat s2.2) default).Live), bo (eI .i64) (((List.getD x_a (Int.toNat s2.2) default).C).Regs), ii (((List.getD x_a (Int.toNat s2.2) default).C).Pc), ii (((List.getD x_a (Int.toNat s2.2) default).C).Root), ii (((List.getD x_a (Int.toNat s2.2) default).C).Vector), ii (((List.getD x_a (Int.toNat s2.2) default).C).Saved), bb (((List.getD x_a (Int.toNat s2.2) default).C).SavedUser), ii (((List.getD x_a (Int.toNat s2.2) default).C).Cause), ii (((List.getD x_a (Int.toNat s2.2) default).C).Bad), ii (((List.getD x_a (Int.toNat s2.2) default).C).Timer), bb (((List.getD x_a (Int.toNat s2.2) default).C).Waits), bb (((List.getD x_a (Int.toNat s2.2) default).C).User), bb (((List.getD x_a (Int.toNat s2.2) default).C).On), bb (((List.getD x_a (Int.toNat s2.2) default).C).Stopped), bo C_139 ((List.getD x_a (Int.toNat s2.2) default).Pages), bo (eI .i64) ((List.getD x_a (Int.toNat s2.2) default).In), bo (eI .i64) ((List.getD x_a (Int.toNat s2.2) default).Out)]) len_B_121 (by kernel_rfl) (by omega) (by omega) (by decide) (by kernel_rfl) ?_)
   refine yu 1 [(20, .bptr (fl B_121 x_a) (Int.toNat s2.2 * 17)), (21, .agg [bb ((List.getD x_a (Int.toNat s2.2) default).Live), bo (eI .i64) (((List.getD x_a (Int.toNat s2.2) default).C).Regs), ii (((List.getD x_a (Int.toNat s2.2) default).C).Pc), ii (((List.getD x_a (Int.toNat s2.2) default).C).Root), ii (((List.getD x_a (Int.toNat s2.2) default).C).Vector), ii (((List.getD x_a (Int.toNat s2.2) default).C).Saved), bb (((List.getD x_a (Int.toNat s2.2) default).C).SavedUser), ii (((List.getD x_a (Int.toNat s2.2) default).C).Cause), ii (((List.getD x_a (Int.toNat s2.2) default).C).Bad), ii (((List.getD x_a (Int.toNat s2.2) default).C).Timer), bb (((List.getD x_a (Int.toNat s2.2) default).C).Waits), bb (((List.getD x_a (Int.toNat s2.2) default).C).User), bb (((List.getD x_a (Int.toNat s2.2) default).C).On), bb (((List.getD x_a (Int.toNat s2.2) default).C).Stopped), bo C_139 ((List.getD x_a (Int.toNat s2.2) default).Pages), bo (eI .i64) ((List.getD x_a (Int.toNat s2.2) default).In), bo (eI .i64) ((List.getD x_a (Int.toNat s2.2) default).Out)]), (22, ii s2.1)] [] 0 ?_
   obtain ⟨v3, hv3, hh⟩ := bind_some hh
   refine ys (.call 112 [(.t 21), (.t 22)]) (some 23) (op_call (r := ii v3) (v := ii v3) (Hr := []) (n' := 0) (laws_szGuest_fn hv3) (clz_v (vs := [.agg [bb ((List.getD x_a (Int.toNat s2.2) default).Live), bo (eI .i64) (((List.getD x_a (Int.toNat s2.2) default).C).Regs), ii (((List.getD x_a (Int.toNat s2.2) default).C).Pc), ii (((List.getD x_a (Int.toNat s2.2) default).C).Root), ii (((List.getD x_a (Int.toNat s2.2) default).C).Vector), ii (((List.getD x_a (Int.toNat s2.2) default).C).Saved), bb (((List.getD x_a (Int.toNat s2.2) default).C).SavedUser), ii (((List.getD x_a (Int.toNat s2.2) default).C).Cause), ii (((List.getD x_a (Int.toNat s2.2) default).C).Bad), ii (((List.getD x_a (Int.toNat s2.2) default).C).Timer), bb (((List.getD x_a (Int.toNat s2.2) default).C).Waits), bb (((List.getD x_a (Int.toNat s2.2) default).C).User), bb (((List.getD x_a (Int.toNat s2.2) default).C).On), bb (((List.getD x_a (Int.toNat s2.2) default).C).Stopped), bo C_139 ((List.getD x_a (Int.toNat s2.2) default).Pages), bo (eI .i64) ((List.getD x_a (Int.toNat s2.2) default).In), bo (eI .i64) ((List.getD x_a (Int.toNat s2.2) default).Out)], ii s2.1]) (by kernel_rfl) (clz_c (clo_agg (cs1 (clos_c (clo_same (clean_bor (cleans_fl cl_eI))) (cs1 (cs1 (cs1 (cs1 (cs1 (cs1 (cs1 (cs1 (cs1 (cs1 (cs1 (cs1 (clos_c (clo_same (clean_bor (cleans_fl cl_C_139))) (clos_c (clo_same (clean_bor (cleans_fl cl_eI))) (clos_c (clo_same (clean_bor (cleans_fl cl_eI))) clos_n)))))))))))))))))) (cz1 clz_n))) rfl rfl (by kernel_rfl) ?_)
   refine yt (sp 27 [(0, bo B_121 x_a), (1, ii v3), (5, ii s2.2)]) [] 0 ?_
   refine sy [0, 1, 5, 25] [] (sp 27 [(0, bo B_121 x_a), (1, ii v3), (5, ii s2.2), (25, bb (decide (v3 < (0 : Int))))]) [] 0 ?_
   rcases cond_some hh with ⟨hb, hh⟩ | ⟨hb, hh⟩
   · refine cT hb ?_
     refine sy [4] [] (sp 27 [(4, ii (-1))]) [] 0 ?_
     refine Aw.ret ?_
     refine blk_r (then_r ?_)
     refine hR2 _ _ _ _ (some_some hh) ?_
     intro hout
     rw [hout] at hk2
     refine blk_r ?_
     obtain rfl := some_some hk2
     refine hR1 _ _ _ ?_
     refine ?_
     rw [some_some hk1]
     exact gvi
   refine cF hb ?_
   refine Aw.xskip (fun _ _ _ hq => blk_m (then_m hq)) ?_
   refine Aw.oreg ?_
   refine ye (sp 27 [(0, bo B_121 x_a), (1, ii v3), (5, ii (w64 (s2.2 + (1 : Int)))), (16, ii s2.2), (17, ii (w64 (s2.2 + (1 : Int)))), (25, bb (decide (v3 < (0 : Int))))]) [] 0 ?_
   exact hN2 (v3, (w64 (s2.2 + (1 : Int)))) _ _ _ (some_some hh) (Ent.list2 [] rfl rfl (by decide) (rens_sp (by kernel_rfl) (rl_c (u := bo B_121 x_a) (by kernel_rfl) (ren_bor (rens_same (noRefs_fl nr_B_121))) (rl_c (u := ii v3) (by kernel_rfl) ren_i (rl_c (u := ii (w64 (s2.2 + (1 : Int)))) (by kernel_rfl) ren_i rl_n)))) hs_nil)
 refine cF hb ?_
 refine Aw.exit ?_
 refine then_x ?_
 refine hX2 _ _ _ _ _ (some_some hh) ?_
 intro hout
 rw [hout] at hk2
 refine blk_x ?_
 obtain rfl := some_some hk2
 exact hN1 s2.1 _ _ _ hk1 (Ent.list2 [] rfl rfl (by decide) (rens_sp (by kernel_rfl) (rl_c (u := ii s2.1) (by kernel_rfl) ren_i rl_n)) hs_nil)
def Lf41_r0 : List LOper := [oo 2 (.box 62 (.t 0)), oo 4 (.mv (.c (ii 0)))]
def Lf41_r1 : List LOper := [oo 5 (.fadr 0 (.t 2)), oo 6 (.load false 1 (.t 5)), om 7 1, oo 8 (.call 84 [(.t 6), (.t 7)]), om 1 8]
def Lf41_r2 : List LOper := [om 9 1, oo 10 (.bin .lss (.t 9) (.c (ii 0)))]
def Lf41_r3 : List LOper := [oo 4 (.mv (.c (ii (-1))))]
def Lf41_r4 : List LOper := [oo 11 (.fadr 1 (.t 2)), oo 12 (.load false 1 (.t 11)), om 13 1, oo 14 (.call 85 [(.t 12), (.t 13)]), om 1 14]
def Lf41_r5 : List LOper := [om 15 1, oo 16 (.bin .lss (.t 15) (.c (ii 0)))]
def Lf41_r6 : List LOper := [oo 4 (.mv (.c (ii (-1))))]
def Lf41_r7 : List LOper := [om 17 1, om 4 17]
def Lf41 : LFun := ⟨18, [(.tmp 4)], (.seq (.reg false Lf41_r0) (.seq (.reg false Lf41_r1) (.seq (.seq (.reg false Lf41_r2) (.cond (.t 10) (.seq (.reg false Lf41_r3) .ret) .skip)) (.seq (.reg false Lf41_r4) (.seq (.seq (.reg false Lf41_r5) (.cond (.t 16) (.seq (.reg false Lf41_r6) .ret) .skip)) (.seq (.reg false Lf41_r7) .ret))))))⟩
theorem low_laws_szHost : lowFun Go.Proofs.Try.prog 41 = some Lf41 := by kernel_rfl
noncomputable def F_laws_szHost (x_a : DHost) (x_left : Int) : Option Int :=
 Option.bind (F_laws_szIntS x_a.Words x_left) fun v1 =>
 cond (decide (v1 < (0 : Int)))
  (some (-1 : Int))
  (Option.bind (F_laws_szGuestS x_a.Guests v1) fun v2 =>
  cond (decide (v2 < (0 : Int)))
   (some (-1 : Int))
   (some v2))
theorem laws_szHost_fn {x_a : DHost} {x_left : Int} {R_ : Int} (hh : F_laws_szHost x_a x_left = some R_) : Fn Try.prog 41 [.agg [bo (eI .i64) x_a.Words, bo B_121 x_a.Guests], .int .i64 x_left] (.int .i64 R_) := by
 unfold F_laws_szHost at hh
 refine Fn.start low_laws_szHost [0, 1] (E := sp 18 [(0, .agg [bo (eI .i64) x_a.Words, bo B_121 x_a.Guests]), (1, ii x_left)]) (by kernel_rfl) (v := ii R_) (Hr := []) (k := 0) (by kernel_rfl) ?_
 refine Aw.sreg [1, 2] [0] ?_
 let q1 : Root := ⟨62, [bo (eI .i64) x_a.Words, bo B_121 x_a.Guests]⟩
 refine yt (sp 18 [(1, ii x_left), (2, pp 0)]) [(0, some q1)] 1 ?_
 refine Aw.sreg [1, 2] [0] (yu 3 [(5, pp 0), (6, bo (eI .i64) x_a.Words), (7, ii x_left)] [(0, some q1)] 1 ?_)
 obtain ⟨v1, hv1, hh⟩ := bind_some hh
 refine ys (.call 84 [(.t 6), (.t 7)]) (some 8) (oc (laws_szIntS_fn hv1) ?_)
 refine yt (sp 18 [(1, ii v1), (2, pp 0)]) [(0, some q1)] 1 ?_
 refine Aw.seq ?_
 refine sy [1, 2, 10] [0] (sp 18 [(1, ii v1), (2, pp 0), (10, bb (decide (v1 < (0 : Int))))]) [(0, some q1)] 1 ?_
 rcases cond_some hh with ⟨hb, hh⟩ | ⟨hb, hh⟩
 · refine cT hb ?_
   refine sy [4] [] (sp 18 [(4, ii (-1))]) [] 1 ?_
   refine Aw.ret ?_
   refine then_r ?_
   rw [some_some hh]
   exact gvi
 refine cF hb ?_
 refine Aw.xskip (fun _ _ _ hq => then_m hq) ?_
 refine Aw.sreg [1] [] (yj 3  (sp 18 [(1, ii v1), (2, pp 0), (10, bb (decide (v1 < (0 : Int)))), (11, .ptr 0 [] 1), (12, bo B_121 x_a.Guests), (13, ii v1)]) [(0, some q1)] 1 ?_)
 obtain ⟨v2, hv2, hh⟩ := bind_some hh
 refine ys (.call 85 [(.t 12), (.t 13)]) (some 14) (op_call (r := ii v2) (v := ii v2) (Hr := []) (n' := 1) (laws_szGuestS_fn hv2) (clz_v (vs := [bo B_121 x_a.Guests, ii v1]) (by kernel_rfl) (clz_c (clo_same (clean_bor (cleans_fl cl_B_121))) (cz1 clz_n))) rfl rfl (by kernel_rfl) ?_)
 refine yt (sp 18 [(1, ii v2)]) [] 1 ?_
 refine Aw.seq ?_
 refine sy [1, 16] [] (sp 18 [(1, ii v2), (16, bb (decide (v2 < (0 : Int))))]) [] 1 ?_
 rcases cond_some hh with ⟨hb, hh⟩ | ⟨hb, hh⟩
 · refine cT hb ?_
   refine sy [4] [] (sp 18 [(4, ii (-1))]) [] 1 ?_
   refine Aw.ret ?_
   refine then_r ?_
   rw [some_some hh]
   exact gvi
 refine cF hb ?_
 refine Aw.xskip (fun _ _ _ hq => then_m hq) ?_
 refine sy [4] [] (sp 18 [(4, ii v2)]) [] 1 ?_
 refine Aw.ret ?_
 rw [some_some hh]
 exact gvi
end Go.Proofs.Ytbogmfjpabfhpaa
