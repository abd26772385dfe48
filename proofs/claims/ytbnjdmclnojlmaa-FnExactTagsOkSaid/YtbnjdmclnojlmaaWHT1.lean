/- Plain functions of the program, and that it hands back what they say. Made by program. -/
import Derived.Test.YtbnjdmclnojlmaaWT
import Derived.Test.YtbnjdmclnojlmaaProg
import Derived.Test.YtbnjdmclnojlmaaWH1
namespace Go.Proofs.Ytbnjdmclnojlmaa
open Go.RowKit
set_option maxRecDepth 100000
set_option linter.all false
set_option maxHeartbeats 0
theorem low_laws_toSlot : LW 115 ⟨14, [(.cell 2 true 3)], (.seq (.reg false (rg 115 0)) (.seq (.reg false (rg 115 1)) (.seq (.reg false (rg 115 2)) (.seq (.reg false (rg 115 3)) (.seq (.reg false (rg 115 4)) (.seq (.reg false (rg 115 5)) .ret))))))⟩ := kr
noncomputable def F_laws_toSlot (x_a : DSlot) : Option DSlot :=
 some x_a
theorem laws_toSlot_fn {x_a : DSlot} {R_ : DSlot} (hh : F_laws_toSlot x_a = some R_) : Fn Try.prog 115 [.agg (C_110 x_a)] (.agg [.int .i64 R_.Frame, .bool R_.Write, .bool R_.Dirty]) := by
 let z1 : EH := (0, some ⟨156, (C_110 x_a)⟩); let z2 := (2, pp 1)
 unfold F_laws_toSlot at hh
 refine Fn.start low_laws_toSlot [0] (E := sp 14 [(0, .agg (C_110 x_a))]) kr (v := .agg [ii R_.Frame, bb R_.Write, bb R_.Dirty]) (Hr := []) (k := 0) kr (Aw.sreg [1, 2] [0, 1] ?_)
 let q1 : Root := ⟨110, [ii 0, bb false, bb false]⟩; let z3 := (1, some q1)
 refine yt (sp 14 [(1, pp 0), z2]) [z1, z3] 2 (sy [1, 2, 3] [0, 1, 2] (sp 14 [(1, pp 0), z2, (3, pp 2)]) [z1, z3, (2, some q1)] 3 (sy [1, 2, 3] [0, 1, 2] (sp 14 [(1, pp 0), z2, (3, pp 2)]) [z1, z3, (2, some ⟨110, [ii x_a.Frame, bb false, bb false]⟩)] 3 (sy [1, 2, 3] [0, 1, 2] (sp 14 [(1, pp 0), z2, (3, pp 2)]) [z1, z3, (2, some ⟨110, [ii x_a.Frame, bb x_a.Write, bb false]⟩)] 3 (sy [2, 3] [1, 2] (sp 14 [z2, (3, pp 2)]) [z3, (2, some ⟨110, (C_110 x_a)⟩)] 3 (sy [2] [1] (sp 14 [z2]) [(1, some ⟨110, (C_110 x_a)⟩)] 3 (Aw.ret ?_))))))
 rw [some_some hh]
 exact gives (r' := .agg (C_110 x_a)) kr (Ent.list [] rfl rfl (Nat.zero_le _) (rens_1 (ren_agg rz)) hs_nil)
theorem low_laws_toSlotS : LW 102 ⟨23, [(.tmp 2)], (.seq (.reg false (rg 102 0)) (.seq (.reg false (rg 102 1)) (.seq (.seq (.reg false (rg 102 2)) (.block 0 (.loop (.seq (.seq (.reg false (rg 102 3)) (.cond (.t 11) .skip (.exit 0))) (.seq (.block 1 (.reg false (rg 102 4))) (.reg false (rg 102 5))))))) (.seq (.reg false (rg 102 7)) .ret))))⟩ := kr
noncomputable def F_laws_toSlotS_j1  (s1 : (List DSlot)) : Option (List DSlot) :=
 some s1
noncomputable def F_laws_toSlotS_l2 (x_a : List DSlot) (s2 : (List DSlot) × Int) : Option (LO ((List DSlot) × Int) (JO (List DSlot) (List DSlot))) :=
 cond (decide (s2.2 < (((List.length x_a) : Nat) : Int)))
  (grd ((0 : Int) ≤ s2.2 ∧ s2.2 < ((List.length x_a : Nat) : Int)) (Option.bind (F_laws_toSlot (DSlot.mk ((List.getD x_a (Int.toNat s2.2) default).Frame) ((List.getD x_a (Int.toNat s2.2) default).Write) ((List.getD x_a (Int.toNat s2.2) default).Dirty))) fun v3 =>
   grd ((0 : Int) ≤ s2.2 ∧ s2.2 < (((List.length s2.1) : Nat) : Int)) (some (.next ((List.set s2.1 (Int.toNat s2.2) v3), (w64 (s2.2 + (1 : Int))))))))
  (some (.ret (.go s2.1)))
noncomputable def F_laws_toSlotS (x_a : List DSlot) : Option (List DSlot) :=
 grd ((0 : Int) ≤ (((List.length x_a) : Nat) : Int) ∧ (((List.length x_a) : Nat) : Int) * 16 ≤ 2 ^ 47 ∧ (((List.length x_a) : Nat) : Int) ≤ 2 ^ 47) (Option.bind (Option.bind (iter (F_laws_toSlotS_l2 x_a) ((List.replicate (Int.toNat (((List.length x_a) : Nat) : Int)) (DSlot.mk (0 : Int) false false)), (0 : Int))) LO.val) fun j1 =>
  JO.run j1 (F_laws_toSlotS_j1))
theorem laws_toSlotS_fn {x_a : List DSlot} {R_ : (List DSlot)} (hh : F_laws_toSlotS x_a = some R_) : Fn Try.prog 102 [bo C_156 x_a] (.own 110 3 (List.length R_) (fl C_110 R_)) := by
 let z4 := (0, bo C_156 x_a); let z1 := DSlot.mk (0 : Int) false false; let z5 : EV := (3, .sref 0 [] 0 (List.length (List.replicate (Int.toNat (((List.length x_a) : Nat) : Int)) z1)) 3)
 unfold F_laws_toSlotS at hh
 refine Fn.start low_laws_toSlotS [0] (E := sp 23 [z4]) kr (v := .sref 0 [] 0 (List.length R_) 3) (Hr := [(0, some (rC110 R_))]) (k := 1) kr (sy [0] [] (sp 23 [z4]) [] 0 (Aw.sreg [0, 3] [0] (yu 2 [(5, bo C_156 x_a), (6, ii (((List.length x_a) : Nat) : Int))] [] 0 ?_)))
 obtain ⟨hg50, hh⟩ := grd_some hh
 refine ys (.mk 110 3 16 [(ii 0), (bb false), (bb false)] (.t 6)) (some 7) (op_mk (c := C_110) (d := z1) (k := (((List.length x_a) : Nat) : Int)) kr hg50 kr ?_)
 let q1 : Root := (rC110 (List.replicate (Int.toNat (((List.length x_a) : Nat) : Int)) z1))
 refine yt (sp 23 [z4, z5]) [(0, some q1)] 1 ?_
 obtain ⟨j1, hh, hk1⟩ := bind_some hh
 refine Aw.join (S := (List DSlot)) (fun s1 => sp 23 [(3, .sref 0 [] 0 (List.length s1) 3)]) (fun s1 => [(0, some (rC110 s1))]) 1 (fun s1 => F_laws_toSlotS_j1 s1 = some R_) ?_ ?_
 · intro s1 hh
   unfold F_laws_toSlotS_j1 at hh
   refine sy [2] [0] (sp 23 [(2, .sref 0 [] 0 (List.length s1) 3)]) [(0, some (rC110 s1))] 1 (Aw.ret ?_)
   rw [some_some hh]
   exact gives (r' := .sref 0 [] 0 (List.length s1) 3) kr (Ent.list [some 0] rfl rfl (Nat.zero_le _) (rens_1 ren_sy) (hn nr_C_110 hs_nil))
 intro Q1 hN1 hR1 hE1
 refine sy [0, 3, 4] [0] (sp 23 [z4, z5, (4, ii 0)]) [(0, some q1)] 1 (Aw.block ?_)
 obtain ⟨o2, hi2, hk2⟩ := bind_some hh
 refine Aw.iter (fun (s2 : (List DSlot) × Int) => sp 23 [(0, bo C_156 x_a), (3, .sref 0 [] 0 (List.length s2.1) 3), (4, ii s2.2)]) (fun (s2 : (List DSlot) × Int) => [(0, some (rC110 s2.1))]) 1 hi2 (el [some 0] (rens_sp kr (ro nr_C_156 (rs (.sref 0 [] 0 (List.length (List.replicate (Int.toNat (((List.length x_a) : Nat) : Int)) (DSlot.mk (0 : Int) false false))) 3) (ri rl_n)))) (hn nr_C_110 hs_nil)) ?_
 intro s2 u2 Q2 hh hN2 hX2 hR2
 let z6 : EH := (0, some (rC110 s2.1)); let z7 := (11, bb (decide (s2.2 < (((List.length x_a) : Nat) : Int)))); let z8 : EV := (14, .sref 0 [] 0 (List.length s2.1) 3); let z9 : EV := (3, .sref 0 [] 0 (List.length s2.1) 3); let z2 := List.getD x_a (Int.toNat s2.2) default
 unfold F_laws_toSlotS_l2 at hh
 refine Aw.seq (sy [0, 3, 4, 11] [0] (sp 23 [z4, z9, (4, ii s2.2), z7]) [z6] 1 ?_)
 rcases cond_sf hh with ⟨hb, hh⟩ | ⟨hb, hh⟩
 · refine cF hb (Aw.exit (then_x (hX2 _ _ _ _ _ (some_some hh) ?_)))
   intro hout
   rw [hout] at hk2
   refine blk_x ?_
   obtain rfl := some_some hk2
   exact hN1 s2.1 _ _ _ hk1 (el [some 0] (rens_sp kr (rs (.sref 0 [] 0 (List.length s2.1) 3) rl_n)) (hn nr_C_110 hs_nil))
 refine cT hb (Aw.xskip (fun _ _ _ hq => then_m hq) (Aw.seq (Aw.block (Aw.xreg [0, 3, 4] [0] (fun _ _ _ hq => blk_m (then_m hq)) (yj 4  (sp 23 [z4, z9, (4, ii s2.2), z7, z8, (15, ii s2.2), (16, bo C_156 x_a), (17, ii s2.2)]) [z6] 1 ?_)))))
 obtain ⟨hg48, hh⟩ := grd_some hh
 refine ys (.iadr 3 (.t 16) (.t 17)) (some 18) (op_iadr (kd := .i64) (c := C_156) (xs := x_a) len_C_156 dd kr kr hg48 ?_)
 refine ys (.load true 3 (.t 18)) (some 19) (op_loadbA (c := C_156) (xs := x_a) (o := Int.toNat s2.2 * 3) (i := (Int.toNat s2.2)) (off := 0) (v := .agg [ii (z2.Frame), bb (z2.Write), bb (z2.Dirty)]) len_C_156 kr ltn ltn dd kr ?_)
 obtain ⟨v3, hv3, hh⟩ := bind_some hh
 let z3 := List.set s2.1 (Int.toNat s2.2) v3
 refine ys (.call 115 [(.t 19)]) (some 20) (oc (laws_toSlot_fn hv3) ?_)
 obtain ⟨hg49, hh⟩ := grd_some hh
 refine yjc 1 [(0 : Int) ≤ s2.2 ∧ s2.2 < (((List.length s2.1) : Nat) : Int)] (sp 23 [z4, z9, (4, ii s2.2), z7, z8, (15, ii s2.2), (16, bo C_156 x_a), (17, ii s2.2), (18, .bptr (fl C_156 x_a) (Int.toNat s2.2 * 3)), (19, .agg [ii (z2.Frame), bb (z2.Write), bb (z2.Dirty)]), (20, .agg (C_110 v3)), (21, .ptr 0 [] (0 + (Int.toNat s2.2) * 3))]) [z6] 1 (.cons hg49 .nil) ?_
 let q2 : Root := (rC110 z3)
 refine ys (.store 3 (.t 21) (.t 20)) none (op_store (c := C_110) (xs := s2.1) (e := 110) (r := 0) (π := []) (o := 0 + (Int.toNat s2.2) * 3) (i := (Int.toNat s2.2)) (off := 0) (vs := [ii v3.Frame, bb v3.Write, bb v3.Dirty]) (y := v3) (H' := [(0, some q2), z6]) len_C_110 kr kr kr kr ltn ltn dd kr kr ?_)
 exact yt (sp 23 [z4, z9, (4, ii s2.2)]) [(0, some q2)] 1 (Aw.oreg (ye (sp 23 [z4, z9, (4, ii (w64 (s2.2 + (1 : Int)))), (12, ii s2.2), (13, ii (w64 (s2.2 + (1 : Int))))]) [(0, some q2)] 1 (hN2 (z3, (w64 (s2.2 + (1 : Int)))) _ _ _ (some_some hh) (el [some 0] (rens_sp kr (ro nr_C_156 (rs (.sref 0 [] 0 (List.length s2.1) 3) (ri rl_n)))) (hn nr_C_110 hs_nil)))))
theorem low_laws_toGuest : LW 80 ⟨24, [(.cell 2 true 17)], (.seq (.reg false (rg 80 0)) (.seq (.reg false (rg 80 1)) (.seq (.reg false (rg 80 2)) (.seq (.reg false (rg 80 3)) (.seq (.reg false (rg 80 4)) (.seq (.reg false (rg 80 5)) (.seq (.reg false (rg 80 6)) (.seq (.reg false (rg 80 7)) .ret))))))))⟩ := kr
noncomputable def F_laws_toGuest (x_a : DGuest) : Option DGuest :=
 Option.bind (F_laws_toCore x_a.C) fun v1 =>
 Option.bind (F_laws_toSlotS x_a.Pages) fun v2 =>
 Option.bind (F_laws_toIntS x_a.In) fun v3 =>
 Option.bind (F_laws_toIntS x_a.Out) fun v4 =>
 some (DGuest.mk x_a.Live v1 v2 v3 v4)
theorem laws_toGuest_fn {x_a : DGuest} {R_ : DGuest} (hh : F_laws_toGuest x_a = some R_) : Fn Try.prog 80 [.agg (B_126 x_a)] (.agg (.bool R_.Live :: .own 3 1 (List.length R_.C.Regs) (fl (eI .i64) R_.C.Regs) :: ru100 R_.C [.own 110 3 (List.length R_.Pages) (fl C_110 R_.Pages), .own 3 1 (List.length R_.In) (fl (eI .i64) R_.In), .own 3 1 (List.length R_.Out) (fl (eI .i64) R_.Out)])) := by
 let z1 : EH := (0, some (rB126 x_a)); let z2 := (1, pp 0); let z3 := (2, pp 1); let z4 := (3, pp 2)
 unfold F_laws_toGuest at hh
 refine Fn.start low_laws_toGuest [0] (E := sp 24 [(0, .agg (B_126 x_a))]) kr (v := .agg (bb R_.Live :: sw 0 R_.C.Regs :: ru100 R_.C [.sref 1 [] 0 (List.length R_.Pages) 3, sw 2 R_.In, sw 3 R_.Out])) (Hr := [(3, some (rI_3 R_.Out)), (2, some (rI_3 R_.In)), (1, some (rC110 R_.Pages)), (0, some (rI_3 R_.C.Regs))]) (k := 4) kr (Aw.sreg [1, 2] [0, 1] ?_)
 let q1 : Root := ⟨108, (bb false :: .nil :: zru100 [.nil, .nil, .nil])⟩; let z5 := (1, some q1)
 refine yt (sp 24 [z2, z3]) [z1, z5] 2 (sy [1, 2, 3] [0, 1, 2] (sp 24 [z2, z3, z4]) [z1, z5, (2, some q1)] 3 (Aw.sreg [1, 2, 3] [0, 1, 2] ?_))
 let q2 : Root := ⟨108, (bb x_a.Live :: .nil :: zru100 [.nil, .nil, .nil])⟩
 refine yt (sp 24 [z2, z3, z4]) [z1, z5, (2, some q2)] 3 (Aw.sreg [1, 2, 3] [0, 1, 2, 3] (yu 2 [(7, .ptr 0 [] 1), (8, .agg (B_100 x_a.C))] [z1, z5, (2, some q2)] 3 ?_))
 obtain ⟨v1, hv1, hh⟩ := bind_some hh
 let q3 : Root := (rI_3 v1.Regs); let z6 := (3, some q3)
 refine ys (.call 101 [(.t 8)]) (some 9) (op_call (r := .agg (.own 3 1 (List.length v1.Regs) (fl (eI .i64) v1.Regs) :: ru100 v1 [])) (v := .agg (sw 3 v1.Regs :: ru100 v1 [])) (Hr := [z6]) (n' := 4) (laws_toCore_fn hv1) (clz_v (vs := [.agg (B_100 x_a.C)]) kr (clz_c (clo_same (clean_agg (cl_B_100 _))) clz_n)) nrr nrr kr ?_)
 let q4 : Root := ⟨108, (bb x_a.Live :: sw 3 v1.Regs :: ru100 v1 [.nil, .nil, .nil])⟩
 refine yt (sp 24 [z2, z3, z4]) [z1, z5, (2, some q4), z6] 4 (Aw.sreg [1, 2, 3] [0, 1, 2, 3, 4] (yu 2 [(11, .ptr 0 [] 14), (12, bo C_156 x_a.Pages)] [z1, z5, (2, some q4), z6] 4 ?_))
 obtain ⟨v2, hv2, hh⟩ := bind_some hh
 let z7 : EH := (4, some (rC110 v2))
 refine ys (.call 102 [(.t 12)]) (some 13) (op_call (r := .own 110 3 (List.length v2) (fl C_110 v2)) (v := .sref 4 [] 0 (List.length v2) 3) (Hr := [z7]) (n' := 5) (laws_toSlotS_fn hv2) (clz_v (vs := [bo C_156 x_a.Pages]) kr (clz_c (clo_same (clean_bor (cleans_fl cl_C_156))) clz_n)) nrr nrr kr ?_)
 let q5 : Root := ⟨108, (bb x_a.Live :: sw 3 v1.Regs :: ru100 v1 [.sref 4 [] 0 (List.length v2) 3, .nil, .nil])⟩
 refine yt (sp 24 [z2, z3, z4]) [z1, z5, (2, some q5), z6, z7] 5 (Aw.sreg [1, 2, 3] [0, 1, 2, 3, 4, 5] (yu 2 [(15, .ptr 0 [] 15), (16, bo (eI .i64) x_a.In)] [z1, z5, (2, some q5), z6, z7] 5 ?_))
 obtain ⟨v3, hv3, hh⟩ := bind_some hh
 let z8 : EH := (5, some (rI_3 v3))
 refine ys (.call 56 [(.t 16)]) (some 17) (op_call (r := .own 3 1 (List.length v3) (fl (eI .i64) v3)) (v := sw 5 v3) (Hr := [z8]) (n' := 6) (laws_toIntS_fn hv3) (clz_v (vs := [bo (eI .i64) x_a.In]) kr (clz_c (clo_same (clean_bor (cleans_fl cl_eI))) clz_n)) nrr nrr kr ?_)
 let q6 : Root := ⟨108, (bb x_a.Live :: sw 3 v1.Regs :: ru100 v1 [.sref 4 [] 0 (List.length v2) 3, sw 5 v3, .nil])⟩
 refine yt (sp 24 [z2, z3, z4]) [z1, z5, (2, some q6), z6, z7, z8] 6 (Aw.sreg [2, 3] [1, 2, 3, 4, 5, 6] (yu 2 [(19, .ptr 0 [] 16), (20, bo (eI .i64) x_a.Out)] [z1, z5, (2, some q6), z6, z7, z8] 6 ?_))
 obtain ⟨v4, hv4, hh⟩ := bind_some hh
 let z9 : EH := (6, some (rI_3 v4))
 refine ys (.call 56 [(.t 20)]) (some 21) (op_call (r := .own 3 1 (List.length v4) (fl (eI .i64) v4)) (v := sw 6 v4) (Hr := [z9]) (n' := 7) (laws_toIntS_fn hv4) (clz_v (vs := [bo (eI .i64) x_a.Out]) kr (clz_c (clo_same (clean_bor (cleans_fl cl_eI))) clz_n)) nrr nrr kr ?_)
 let q7 : Root := ⟨108, (bb x_a.Live :: sw 3 v1.Regs :: ru100 v1 [.sref 4 [] 0 (List.length v2) 3, sw 5 v3, sw 6 v4])⟩
 refine yt (sp 24 [z3, z4]) [z5, (2, some q7), z6, z7, z8, z9] 7 (sy [2] [1, 3, 4, 5, 6] (sp 24 [z3]) [(1, some q7), z6, z7, z8, z9] 7 (Aw.ret ?_))
 rw [some_some hh]
 exact gives (r' := .agg (bb x_a.Live :: sw 3 v1.Regs :: ru100 v1 [.sref 4 [] 0 (List.length v2) 3, sw 5 v3, sw 6 v4])) kr (Ent.list [some 3, some 4, some 5, some 6] rfl rfl (Nat.zero_le _) (rens_1 (ren_agg rz)) (hn nr_eI (hn nr_eI (hn nr_C_110 (hn nr_eI hs_nil)))))
theorem low_laws_toGuestS : LW 57 ⟨23, [(.tmp 2)], (.seq (.reg false (rg 57 0)) (.seq (.reg false (rg 57 1)) (.seq (.seq (.reg false (rg 57 2)) (.block 0 (.loop (.seq (.seq (.reg false (rg 57 3)) (.cond (.t 11) .skip (.exit 0))) (.seq (.block 1 (.reg false (rg 57 4))) (.reg false (rg 57 5))))))) (.seq (.reg false (rg 57 7)) .ret))))⟩ := kr
noncomputable def F_laws_toGuestS_j1  (s1 : (List DGuest)) : Option (List DGuest) :=
 some s1
noncomputable def F_laws_toGuestS_l2 (x_a : List DGuest) (s2 : (List DGuest) × Int) : Option (LO ((List DGuest) × Int) (JO (List DGuest) (List DGuest))) :=
 cond (decide (s2.2 < (((List.length x_a) : Nat) : Int)))
  (grd ((0 : Int) ≤ s2.2 ∧ s2.2 < ((List.length x_a : Nat) : Int)) (Option.bind (F_laws_toGuest (DGuest.mk ((List.getD x_a (Int.toNat s2.2) default).Live) (DCore.mk (((List.getD x_a (Int.toNat s2.2) default).C).Regs) (((List.getD x_a (Int.toNat s2.2) default).C).Pc) (((List.getD x_a (Int.toNat s2.2) default).C).Root) (((List.getD x_a (Int.toNat s2.2) default).C).Vector) (((List.getD x_a (Int.toNat s2.2) default).C).Saved) (((List.getD x_a (Int.toNat s2.2) default).C).SavedUser) (((List.getD x_a (Int.toNat s2.2) default).C).Cause) (((List.getD x_a (Int.toNat s2.2) default).C).Bad) (((List.getD x_a (Int.toNat s2.2) default).C).Timer) (((List.getD x_a (Int.toNat s2.2) default).C).Waits) (((List.getD x_a (Int.toNat s2.2) default).C).User) (((List.getD x_a (Int.toNat s2.2) default).C).On) (((List.getD x_a (Int.toNat s2.2) default).C).Stopped)) ((List.getD x_a (Int.toNat s2.2) default).Pages) ((List.getD x_a (Int.toNat s2.2) default).In) ((List.getD x_a (Int.toNat s2.2) default).Out))) fun v3 =>
   grd ((0 : Int) ≤ s2.2 ∧ s2.2 < (((List.length s2.1) : Nat) : Int)) (some (.next ((List.set s2.1 (Int.toNat s2.2) v3), (w64 (s2.2 + (1 : Int))))))))
  (some (.ret (.go s2.1)))
noncomputable def F_laws_toGuestS (x_a : List DGuest) : Option (List DGuest) :=
 grd ((0 : Int) ≤ (((List.length x_a) : Nat) : Int) ∧ (((List.length x_a) : Nat) : Int) * 176 ≤ 2 ^ 47 ∧ (((List.length x_a) : Nat) : Int) ≤ 2 ^ 47) (Option.bind (Option.bind (iter (F_laws_toGuestS_l2 x_a) ((List.replicate (Int.toNat (((List.length x_a) : Nat) : Int)) (DGuest.mk false (DCore.mk ([] : List Int) (0 : Int) (0 : Int) (0 : Int) (0 : Int) false (0 : Int) (0 : Int) (0 : Int) false false false false) ([] : List DSlot) ([] : List Int) ([] : List Int))), (0 : Int))) LO.val) fun j1 =>
  JO.run j1 (F_laws_toGuestS_j1))
theorem laws_toGuestS_fn {x_a : List DGuest} {R_ : (List DGuest)} (hh : F_laws_toGuestS x_a = some R_) : Fn Try.prog 57 [bo B_126 x_a] (.own 108 17 (List.length R_) (fl O_108 R_)) := by
 let z5 := (0, bo B_126 x_a); let z1 := DCore.mk ([] : List Int) (0 : Int) (0 : Int) (0 : Int) (0 : Int) false (0 : Int) (0 : Int) (0 : Int) false false false false; let z4 := DGuest.mk false z1 ([] : List DSlot) ([] : List Int) ([] : List Int); let z6 : EV := (3, .sref 1 [] 0 (List.length (List.replicate (Int.toNat (((List.length x_a) : Nat) : Int)) z4)) 17)
 unfold F_laws_toGuestS at hh
 refine Fn.start low_laws_toGuestS [0] (E := sp 23 [z5]) kr (v := .sref 0 [] 0 (List.length R_) 17) (Hr := [(0, some (rO108 R_))]) (k := 1) kr (sy [0] [] (sp 23 [z5]) [] 0 (Aw.sreg [0, 3] [0] (yu 2 [(5, bo B_126 x_a), (6, ii (((List.length x_a) : Nat) : Int))] [] 0 ?_)))
 obtain ⟨hg50, hh⟩ := grd_some hh
 refine ys (.mk 108 17 176 zc1 (.t 6)) (some 7) (op_mkR (z := (bb false :: .nil :: zru100 [.nil, .nil, .nil])) (k := (((List.length x_a) : Nat) : Int)) kr hg50 ?_)
 refine yt (sp 23 [z5, (3, .sref 0 [] 0 (Int.toNat (((List.length x_a) : Nat) : Int)) 17)]) [(0, some ⟨108, (repeatCells (bb false :: .nil :: zru100 [.nil, .nil, .nil]) (Int.toNat (((List.length x_a) : Nat) : Int)))⟩)] 1 (Aw.ent (Ent.foldM (c := O_108) (k := Int.toNat (((List.length x_a) : Nat) : Int)) (d := z4) (R := 0) (e := 108) (us2 := sp 23 [z5, z6]) (H2 := []) (L := [none, some none, none, none, none, none, none, none, none, none, none, none, none, none, some none, some none, some none]) (ws := (bb false :: .own 3 1 0 [] :: zru100 [.own 110 3 0 [], .own 3 1 0 [], .own 3 1 0 []])) dd kr kr (fcs_s (fcs_0 (fcs_s (fcs_s (fcs_s (fcs_s (fcs_s (fcs_s (fcs_s (fcs_s (fcs_s (fcs_s (fcs_s (fcs_s (fcs_0 (fcs_0 (fcs_0 fcs_n))))))))))))))))) rfl (rds_sp kr (rdl_c (u := bo B_126 x_a) kr (.same _) (rdl_c (u := .sref 0 [] 0 (Int.toNat (((List.length x_a) : Nat) : Int)) 17) kr (.sref _ _ _ _ eqn) rdl_n))) hd_n) ?_)
 obtain ⟨j1, hh, hk1⟩ := bind_some hh
 refine Aw.join (S := (List DGuest)) (fun s1 => sp 23 [(3, .sref 0 [] 0 (List.length s1) 17)]) (fun s1 => [(0, some (rO108 s1))]) 1 (fun s1 => F_laws_toGuestS_j1 s1 = some R_) ?_ ?_
 · intro s1 hh
   unfold F_laws_toGuestS_j1 at hh
   refine sy [2] [0] (sp 23 [(2, .sref 0 [] 0 (List.length s1) 17)]) [(0, some (rO108 s1))] 1 (Aw.ret ?_)
   rw [some_some hh]
   exact gives (r' := .sref 0 [] 0 (List.length s1) 17) kr (Ent.list [some 0] rfl rfl (Nat.zero_le _) (rens_1 ren_sy) (hn nr_O_108 hs_nil))
 intro Q1 hN1 hR1 hE1
 refine Aw.sreg [0, 3, 4] [1] ?_
 let q1 : Root := (rO108 (List.replicate (Int.toNat (((List.length x_a) : Nat) : Int)) z4))
 refine yt (sp 23 [z5, z6, (4, ii 0)]) [(1, some q1)] 2 (Aw.block ?_)
 obtain ⟨o2, hi2, hk2⟩ := bind_some hh
 refine Aw.iter (fun (s2 : (List DGuest) × Int) => sp 23 [(0, bo B_126 x_a), (3, .sref 0 [] 0 (List.length s2.1) 17), (4, ii s2.2)]) (fun (s2 : (List DGuest) × Int) => [(0, some (rO108 s2.1))]) 1 hi2 (el [some 1] (rens_sp kr (ro nr_B_126 (rs (.sref 1 [] 0 (List.length (List.replicate (Int.toNat (((List.length x_a) : Nat) : Int)) (DGuest.mk false (DCore.mk ([] : List Int) (0 : Int) (0 : Int) (0 : Int) (0 : Int) false (0 : Int) (0 : Int) (0 : Int) false false false false) ([] : List DSlot) ([] : List Int) ([] : List Int)))) 17) (ri rl_n)))) (hn nr_O_108 hs_nil)) ?_
 intro s2 u2 Q2 hh hN2 hX2 hR2
 let z7 : EH := (0, some (rO108 s2.1)); let z8 := (11, bb (decide (s2.2 < (((List.length x_a) : Nat) : Int)))); let z9 : EV := (14, .sref 0 [] 0 (List.length s2.1) 17); let z10 : EV := (3, .sref 0 [] 0 (List.length s2.1) 17); let z11 : EV := (3, .sref 5 [] 0 (List.length s2.1) 17); let z12 := (4, ii s2.2); let z2 := List.getD x_a (Int.toNat s2.2) default
 unfold F_laws_toGuestS_l2 at hh
 refine Aw.seq (sy [0, 3, 4, 11] [0] (sp 23 [z5, z10, z12, z8]) [z7] 1 ?_)
 rcases cond_sf hh with ⟨hb, hh⟩ | ⟨hb, hh⟩
 · refine cF hb (Aw.exit (then_x (hX2 _ _ _ _ _ (some_some hh) ?_)))
   intro hout
   rw [hout] at hk2
   refine blk_x ?_
   obtain rfl := some_some hk2
   exact hN1 s2.1 _ _ _ hk1 (el [some 0] (rens_sp kr (rs (.sref 0 [] 0 (List.length s2.1) 17) rl_n)) (hn nr_O_108 hs_nil))
 refine cT hb (Aw.xskip (fun _ _ _ hq => then_m hq) (Aw.seq (Aw.block (Aw.xreg [0, 3, 4] [0, 1, 2, 3, 4] (fun _ _ _ hq => blk_m (then_m hq)) (yj 4  (sp 23 [z5, z10, z12, z8, z9, (15, ii s2.2), (16, bo B_126 x_a), (17, ii s2.2)]) [z7] 1 ?_)))))
 obtain ⟨hg48, hh⟩ := grd_some hh
 refine ys (.iadr 17 (.t 16) (.t 17)) (some 18) (op_iadr (kd := .i64) (c := B_126) (xs := x_a) len_B_126 dd kr kr hg48 ?_)
 refine ys (.load true 17 (.t 18)) (some 19) (op_loadbA (c := B_126) (xs := x_a) (o := Int.toNat s2.2 * 17) (i := (Int.toNat s2.2)) (off := 0) (v := .agg (B_126 z2)) len_B_126 kr ltn ltn dd kr ?_)
 obtain ⟨v3, hv3, hh⟩ := bind_some hh
 let z3 := List.set s2.1 (Int.toNat s2.2) v3; let q2 : Root := (rI_3 v3.Out); let q3 : Root := (rI_3 v3.In); let q4 : Root := (rC110 v3.Pages); let q5 : Root := (rI_3 v3.C.Regs)
 refine ys (.call 80 [(.t 19)]) (some 20) (op_call (r := .agg (bb v3.Live :: .own 3 1 (List.length v3.C.Regs) (fl (eI .i64) v3.C.Regs) :: ru100 v3.C [.own 110 3 (List.length v3.Pages) (fl C_110 v3.Pages), .own 3 1 (List.length v3.In) (fl (eI .i64) v3.In), .own 3 1 (List.length v3.Out) (fl (eI .i64) v3.Out)])) (v := .agg (bb v3.Live :: sw 1 v3.C.Regs :: ru100 v3.C [.sref 2 [] 0 (List.length v3.Pages) 3, sw 3 v3.In, sw 4 v3.Out])) (Hr := [(4, some q2), (3, some q3), (2, some q4), (1, some q5)]) (n' := 5) (laws_toGuest_fn hv3) (clz_v (vs := [.agg (B_126 z2)]) kr (clz_c (clo_agg cz) clz_n)) nrr nrr kr ?_)
 obtain ⟨hg49, hh⟩ := grd_some hh
 refine yjc 1 [(0 : Int) ≤ s2.2 ∧ s2.2 < (((List.length s2.1) : Nat) : Int)] (sp 23 [z5, z10, z12, z8, z9, (15, ii s2.2), (16, bo B_126 x_a), (17, ii s2.2), (18, .bptr (fl B_126 x_a) (Int.toNat s2.2 * 17)), (19, .agg (B_126 z2)), (20, .agg (bb v3.Live :: sw 1 v3.C.Regs :: ru100 v3.C [.sref 2 [] 0 (List.length v3.Pages) 3, sw 3 v3.In, sw 4 v3.Out])), (21, .ptr 0 [] (0 + (Int.toNat s2.2) * 17))]) [(4, some q2), (3, some q3), (2, some q4), (1, some q5), z7] 5 (.cons hg49 .nil) (ys (.store 17 (.t 21) (.t 20)) none (op_storeR (c := O_108) (xs := s2.1) (e := 108) (r := 0) (o := 0 + (Int.toNat s2.2) * 17) (i := (Int.toNat s2.2)) (off := 0) (vs := (bb v3.Live :: sw 1 v3.C.Regs :: ru100 v3.C [.sref 2 [] 0 (List.length v3.Pages) 3, sw 3 v3.In, sw 4 v3.Out])) len_O_108 kr kr kr kr ltn ltn dd ?_))
 refine yt (sp 23 [z5, z10, z12]) [(0, some ⟨108, (setCells (fl O_108 s2.1) (0 + (Int.toNat s2.2) * 17) (bb v3.Live :: sw 1 v3.C.Regs :: ru100 v3.C [.sref 2 [] 0 (List.length v3.Pages) 3, sw 3 v3.In, sw 4 v3.Out]))⟩), (1, some q5), (2, some q4), (3, some q3), (4, some q2)] 5 (Aw.ent (Ent.foldP (c := O_108) (xs := s2.1) (i := (Int.toNat s2.2)) (off := 0) (o := 0 + (Int.toNat s2.2) * 17) (y := v3) (R := 0) (e := 108) (us2 := sp 23 [z5, z11, z12]) (H2 := []) (L := [none, some (some 1), none, none, none, none, none, none, none, none, none, none, none, none, some (some 2), some (some 3), some (some 4)]) (ws := (bb v3.Live :: .own 3 1 (List.length v3.C.Regs) (fl (eI .i64) v3.C.Regs) :: ru100 v3.C [.own 110 3 (List.length v3.Pages) (fl C_110 v3.Pages), .own 3 1 (List.length v3.In) (fl (eI .i64) v3.In), .own 3 1 (List.length v3.Out) (fl (eI .i64) v3.Out)])) len_O_108 kr ltn ltn (Nat.le_of_ble_eq_true rfl) kr (fcs_s (fcs_r kr eqn (fcs_s (fcs_s (fcs_s (fcs_s (fcs_s (fcs_s (fcs_s (fcs_s (fcs_s (fcs_s (fcs_s (fcs_s (fcs_r kr eqn (fcs_r kr eqn (fcs_r kr eqn fcs_n))))))))))))))))) (by rfl) (by rfl) (rds_sp kr (rdl_c (u := bo B_126 x_a) kr (.same _) (rdl_c (u := .sref 0 [] 0 (List.length s2.1) 17) kr (.sref _ _ _ _ eqn) (rdl_c (u := ii s2.2) kr (.same _) rdl_n)))) hd_n) (Aw.oreg ?_))
 let q6 : Root := (rO108 z3)
 exact ye (sp 23 [z5, z11, (4, ii (w64 (s2.2 + (1 : Int)))), (12, ii s2.2), (13, ii (w64 (s2.2 + (1 : Int))))]) [(5, some q6)] 6 (hN2 (z3, (w64 (s2.2 + (1 : Int)))) _ _ _ (some_some hh) (el [some 5] (rens_sp kr (ro nr_B_126 (rs (.sref 5 [] 0 (List.length s2.1) 17) (ri rl_n)))) (hn nr_O_108 hs_nil)))
theorem low_laws_toHost : LW 24 ⟨13, [(.cell 2 true 2)], (.seq (.reg false (rg 24 0)) (.seq (.reg false (rg 24 1)) (.seq (.reg false (rg 24 2)) (.seq (.reg false (rg 24 3)) (.seq (.reg false (rg 24 4)) .ret)))))⟩ := kr
noncomputable def F_laws_toHost (x_a : DHost) : Option DHost :=
 Option.bind (F_laws_toIntS x_a.Words) fun v1 =>
 Option.bind (F_laws_toGuestS x_a.Guests) fun v2 =>
 some (DHost.mk v1 v2)
theorem laws_toHost_fn {x_a : DHost} {R_ : DHost} (hh : F_laws_toHost x_a = some R_) : Fn Try.prog 24 [.agg [bo (eI .i64) x_a.Words, bo B_126 x_a.Guests]] (.agg [.own 3 1 (List.length R_.Words) (fl (eI .i64) R_.Words), .own 108 17 (List.length R_.Guests) (fl O_108 R_.Guests)]) := by
 let z1 : EH := (1, some ⟨26, [.nil, .nil]⟩)
 unfold F_laws_toHost at hh
 refine Fn.start low_laws_toHost [0] (E := sp 13 [(0, .agg [bo (eI .i64) x_a.Words, bo B_126 x_a.Guests])]) kr (v := .agg [sw 0 R_.Words, .sref 1 [] 0 (List.length R_.Guests) 17]) (Hr := [(1, some (rO108 R_.Guests)), (0, some (rI_3 R_.Words))]) (k := 2) kr (Aw.sreg [1, 2] [0, 1] ?_)
 let q1 : Root := ⟨50, [bo (eI .i64) x_a.Words, bo B_126 x_a.Guests]⟩; let z2 := (0, some q1)
 refine yt (sp 13 [(1, pp 0), (2, pp 1)]) [z2, z1] 2 (sy [1, 2, 3] [0, 1, 2] (sp 13 [(1, pp 0), (2, pp 1), (3, pp 2)]) [z2, z1, (2, some ⟨26, [.nil, .nil]⟩)] 3 (Aw.sreg [1, 2, 3] [0, 1, 2, 3] (yu 2 [(4, pp 0), (5, bo (eI .i64) x_a.Words)] [z2, z1, (2, some ⟨26, [.nil, .nil]⟩)] 3 ?_)))
 obtain ⟨v1, hv1, hh⟩ := bind_some hh
 let z3 : EH := (3, some (rI_3 v1))
 refine ys (.call 56 [(.t 5)]) (some 6) (op_call (r := .own 3 1 (List.length v1) (fl (eI .i64) v1)) (v := sw 3 v1) (Hr := [z3]) (n' := 4) (laws_toIntS_fn hv1) (clz_v (vs := [bo (eI .i64) x_a.Words]) kr (clz_c (clo_same (clean_bor (cleans_fl cl_eI))) clz_n)) nrr nrr kr ?_)
 let q2 : Root := ⟨26, [sw 3 v1, .nil]⟩
 refine yt (sp 13 [(1, pp 0), (2, pp 1), (3, pp 2)]) [z2, z1, (2, some q2), z3] 4 (Aw.sreg [2, 3] [1, 2, 3, 4] (yu 2 [(8, .ptr 0 [] 1), (9, bo B_126 x_a.Guests)] [z2, z1, (2, some q2), z3] 4 ?_))
 obtain ⟨v2, hv2, hh⟩ := bind_some hh
 let z4 : EH := (4, some (rO108 v2))
 refine ys (.call 57 [(.t 9)]) (some 10) (op_call (r := .own 108 17 (List.length v2) (fl O_108 v2)) (v := .sref 4 [] 0 (List.length v2) 17) (Hr := [z4]) (n' := 5) (laws_toGuestS_fn hv2) (clz_v (vs := [bo B_126 x_a.Guests]) kr (clz_c (clo_same (clean_bor (cleans_fl cl_B_126))) clz_n)) nrr nrr kr ?_)
 let q3 : Root := ⟨26, [sw 3 v1, .sref 4 [] 0 (List.length v2) 17]⟩
 refine yt (sp 13 [(2, pp 1), (3, pp 2)]) [z1, (2, some q3), z3, z4] 5 (sy [2] [1, 3, 4] (sp 13 [(2, pp 1)]) [(1, some q3), z3, z4] 5 (Aw.ret ?_))
 rw [some_some hh]
 exact gives (r' := .agg [sw 3 v1, .sref 4 [] 0 (List.length v2) 17]) kr (Ent.list [some 3, some 4] rfl rfl (Nat.zero_le _) (rens_1 (ren_agg rz)) (hn nr_O_108 (hn nr_eI hs_nil)))
theorem low_laws_eqSlot : LW 116 ⟨20, [(.tmp 4)], (.seq (.reg false (rg 116 0)) (.seq (.seq (.reg false (rg 116 1)) (.cond (.t 9) (.seq (.reg false (rg 116 2)) .ret) .skip)) (.seq (.seq (.reg false (rg 116 3)) (.cond (.t 14) (.seq (.reg false (rg 116 4)) .ret) .skip)) (.seq (.seq (.reg false (rg 116 5)) (.cond (.t 19) (.seq (.reg false (rg 116 6)) .ret) .skip)) (.seq (.reg false (rg 116 7)) .ret)))))⟩ := kr
noncomputable def F_laws_eqSlot (x_a : DSlot) (x_b : DSlot) : Option Bool :=
 cond (!decide (x_a.Frame = x_b.Frame))
  (some false)
  (cond (!(x_a.Write == x_b.Write))
   (some false)
   (cond (!(x_a.Dirty == x_b.Dirty))
    (some false)
    (some true)))
theorem laws_eqSlot_fn {x_a : DSlot} {x_b : DSlot} {R_ : Bool} (hh : F_laws_eqSlot x_a x_b = some R_) : Fn Try.prog 116 [.agg (C_110 x_a), .agg (C_110 x_b)] (.bool R_) := by
 let z1 : EH := (0, some ⟨110, (C_110 x_a)⟩); let z2 : EH := (1, some ⟨110, (C_110 x_b)⟩)
 unfold F_laws_eqSlot at hh
 refine Fn.start low_laws_eqSlot [0, 1] (E := sp 20 [(0, .agg (C_110 x_a)), (1, .agg (C_110 x_b))]) kr (v := bb R_) (Hr := []) (k := 0) kr (sy [2, 3] [0, 1] (sp 20 [(2, pp 0), (3, pp 1)]) [z1, z2] 2 (Aw.seq (sy [2, 3, 9] [0, 1] (sp 20 [(2, pp 0), (3, pp 1), (9, bb (!decide (x_a.Frame = x_b.Frame)))]) [z1, z2] 2 ?_)))
 rcases cond_some hh with ⟨hb, hh⟩ | ⟨hb, hh⟩
 · exact cT hb (sy [4] [] (sp 20 [(4, bb false)]) [] 2 (Aw.ret (then_r (gvbs hh))))
 refine cF hb (Aw.xskip (fun _ _ _ hq => then_m hq) (Aw.seq (sy [2, 3, 14] [0, 1] (sp 20 [(2, pp 0), (3, pp 1), (14, bb (!(x_a.Write == x_b.Write)))]) [z1, z2] 2 ?_)))
 rcases cond_some hh with ⟨hb, hh⟩ | ⟨hb, hh⟩
 · exact cT hb (sy [4] [] (sp 20 [(4, bb false)]) [] 2 (Aw.ret (then_r (gvbs hh))))
 refine cF hb (Aw.xskip (fun _ _ _ hq => then_m hq) (Aw.seq (sy [19] [] (sp 20 [(19, bb (!(x_a.Dirty == x_b.Dirty)))]) [] 2 ?_)))
 rcases cond_some hh with ⟨hb, hh⟩ | ⟨hb, hh⟩
 · exact cT hb (sy [4] [] (sp 20 [(4, bb false)]) [] 2 (Aw.ret (then_r (gvbs hh))))
 exact cF hb (Aw.xskip (fun _ _ _ hq => then_m hq) (sy [4] [] (sp 20 [(4, bb true)]) [] 2 (Aw.ret (gvbs hh))))
theorem low_laws_eqSlotS : LW 104 ⟨27, [(.tmp 4)], (.seq (.reg false (rg 104 0)) (.seq (.seq (.reg false (rg 104 1)) (.cond (.t 10) (.seq (.reg false (rg 104 2)) .ret) .skip)) (.seq (.seq (.reg false (rg 104 3)) (.block 0 (.loop (.seq (.seq (.reg false (rg 104 4)) (.cond (.t 14) .skip (.exit 0))) (.seq (.block 1 (.seq (.regd (rg 104 5) (rg 104 6)) (.cond (.t 26) (.seq (.reg false (rg 104 7)) .ret) .skip))) (.reg false (rg 104 8))))))) (.seq (.reg false (rg 104 10)) .ret))))⟩ := kr
noncomputable def F_laws_eqSlotS_j1  (s1 : Unit) : Option Bool :=
 some true
noncomputable def F_laws_eqSlotS_l2 (x_a : List DSlot) (x_b : List DSlot) (s2 : Int) : Option (LO Int (JO Unit Bool)) :=
 cond (decide (s2 < (((List.length x_a) : Nat) : Int)))
  (grd ((0 : Int) ≤ s2 ∧ s2 < ((List.length x_a : Nat) : Int)) (grd ((0 : Int) ≤ s2 ∧ s2 < ((List.length x_b : Nat) : Int)) (Option.bind (F_laws_eqSlot (DSlot.mk ((List.getD x_a (Int.toNat s2) default).Frame) ((List.getD x_a (Int.toNat s2) default).Write) ((List.getD x_a (Int.toNat s2) default).Dirty)) (DSlot.mk ((List.getD x_b (Int.toNat s2) default).Frame) ((List.getD x_b (Int.toNat s2) default).Write) ((List.getD x_b (Int.toNat s2) default).Dirty))) fun v3 =>
   cond (!v3)
    (some (.ret (.out false)))
    (some (.next (w64 (s2 + (1 : Int))))))))
  (some (.ret (.go ())))
noncomputable def F_laws_eqSlotS (x_a : List DSlot) (x_b : List DSlot) : Option Bool :=
 cond (!decide ((((List.length x_a) : Nat) : Int) = (((List.length x_b) : Nat) : Int)))
  (some false)
  (Option.bind (Option.bind (iter (F_laws_eqSlotS_l2 x_a x_b) (0 : Int)) LO.val) fun j1 =>
   JO.run j1 (F_laws_eqSlotS_j1))
theorem laws_eqSlotS_fn {x_a : List DSlot} {x_b : List DSlot} {R_ : Bool} (hh : F_laws_eqSlotS x_a x_b = some R_) : Fn Try.prog 104 [bo C_110 x_a, bo C_110 x_b] (.bool R_) := by
 let z3 := (0, bo C_110 x_a); let z4 := (1, bo C_110 x_b); let z5 := (17, bo C_110 x_a)
 unfold F_laws_eqSlotS at hh
 refine Fn.start low_laws_eqSlotS [0, 1] (E := sp 27 [z3, z4]) kr (v := bb R_) (Hr := []) (k := 0) kr (sy [0, 1] [] (sp 27 [z3, z4]) [] 0 (Aw.seq (sy [0, 1, 10] [] (sp 27 [z3, z4, (10, bb (!decide ((((List.length x_a) : Nat) : Int) = (((List.length x_b) : Nat) : Int))))]) [] 0 ?_)))
 rcases cond_some hh with ⟨hb, hh⟩ | ⟨hb, hh⟩
 · exact cT hb (sy [4] [] (sp 27 [(4, bb false)]) [] 0 (Aw.ret (then_r (gvbs hh))))
 refine cF hb (Aw.xskip (fun _ _ _ hq => then_m hq) ?_)
 obtain ⟨j1, hh, hk1⟩ := bind_some hh
 refine Aw.join (S := Unit) (fun s1 => sp 27 []) (fun s1 => []) 0 (fun s1 => F_laws_eqSlotS_j1 s1 = some R_) ?_ ?_
 · intro s1 hh
   unfold F_laws_eqSlotS_j1 at hh
   exact sy [4] [] (sp 27 [(4, bb true)]) [] 0 (Aw.ret (gvbs hh))
 intro Q1 hN1 hR1 hE1
 refine sy [0, 1, 5] [] (sp 27 [z3, z4, (5, ii 0)]) [] 0 (Aw.block ?_)
 obtain ⟨o2, hi2, hk2⟩ := bind_some hh
 refine Aw.iter (fun (s2 : Int) => sp 27 [(0, bo C_110 x_a), (1, bo C_110 x_b), (5, ii s2)]) (fun (s2 : Int) => []) 0 hi2 (el [] (rens_sp kr (ro nr_C_110 (ro nr_C_110 (ri rl_n)))) hs_nil) ?_
 intro s2 u2 Q2 hh hN2 hX2 hR2
 let z6 := (14, bb (decide (s2 < (((List.length x_a) : Nat) : Int)))); let z7 : EV := (19, .bptr (fl C_110 x_a) (Int.toNat s2 * 3)); let z1 := List.getD x_a (Int.toNat s2) default; let z8 : EV := (20, .agg [ii (z1.Frame), bb (z1.Write), bb (z1.Dirty)]); let z2 := List.getD x_b (Int.toNat s2) default
 unfold F_laws_eqSlotS_l2 at hh
 refine Aw.seq (sy [0, 1, 5, 14] [] (sp 27 [z3, z4, (5, ii s2), z6]) [] 0 ?_)
 rcases cond_sf hh with ⟨hb, hh⟩ | ⟨hb, hh⟩
 · refine cF hb (Aw.exit (then_x (hX2 _ _ _ _ _ (some_some hh) ?_)))
   intro hout
   rw [hout] at hk2
   refine blk_x ?_
   obtain rfl := some_some hk2
   exact hN1 () _ _ _ hk1 (el [] (rens_sp kr rl_n) hs_nil)
 refine cT hb (Aw.xskip (fun _ _ _ hq => then_m hq) (Aw.seq (Aw.block (Aw.sregd [0, 1, 5, 26] [] [] kr (dj 2 (sp 27 [z3, z4, (5, ii s2), z6, z5, (18, ii s2)]) [] 0 ?_)))))
 obtain ⟨hg47, hh⟩ := grd_some hh
 refine ds (.iadr 3 (.t 17) (.t 18)) (some 19) (ydo_q rfl kr (op_iadr (kd := .i64) (c := C_110) (xs := x_a) len_C_110 dd kr kr hg47 ?_))
 refine ds (.load true 3 (.t 19)) (some 20) (ydo_q rfl kr (op_loadbA (c := C_110) (xs := x_a) (o := Int.toNat s2 * 3) (i := (Int.toNat s2)) (off := 0) (v := .agg [ii (z1.Frame), bb (z1.Write), bb (z1.Dirty)]) len_C_110 kr ltn ltn dd kr ?_))
 refine dj 2 (sp 27 [z3, z4, (5, ii s2), z6, z5, (18, ii s2), z7, z8, (21, bo C_110 x_b), (22, ii s2)]) [] 0 ?_
 obtain ⟨hg48, hh⟩ := grd_some hh
 refine ds (.iadr 3 (.t 21) (.t 22)) (some 23) (ydo_q rfl kr (op_iadr (kd := .i64) (c := C_110) (xs := x_b) len_C_110 dd kr kr hg48 ?_))
 refine ds (.load true 3 (.t 23)) (some 24) (ydo_q rfl kr (op_loadbA (c := C_110) (xs := x_b) (o := Int.toNat s2 * 3) (i := (Int.toNat s2)) (off := 0) (v := .agg [ii (z2.Frame), bb (z2.Write), bb (z2.Dirty)]) len_C_110 kr ltn ltn dd kr ?_))
 refine dt (sp 27 [z3, z4, (5, ii s2), z6, z5, (18, ii s2), z7, z8, (21, bo C_110 x_b), (22, ii s2), (23, .bptr (fl C_110 x_b) (Int.toNat s2 * 3)), (24, .agg [ii (z2.Frame), bb (z2.Write), bb (z2.Dirty)])]) [] 0 ?_
 obtain ⟨v3, hv3, hh⟩ := bind_some hh
 refine ys (.call 116 [(.t 20), (.t 24)]) (some 25) (oc (laws_eqSlot_fn hv3) ?_)
 refine yt (sp 27 [z3, z4, (5, ii s2), (26, bb (!v3))]) [] 0 ?_
 rcases cond_some hh with ⟨hb, hh⟩ | ⟨hb, hh⟩
 · refine cT hb (sy [4] [] (sp 27 [(4, bb false)]) [] 0 (Aw.ret (blk_r (then_r ?_))))
   refine hR2 _ _ _ _ (some_some hh) ?_
   intro hout
   rw [hout] at hk2
   refine blk_r ?_
   obtain rfl := some_some hk2
   refine hR1 _ _ _ ?_
   rw [some_some hk1]
   exact gvb
 exact cF hb (Aw.xskip (fun _ _ _ hq => blk_m (then_m hq)) (Aw.oreg (ye (sp 27 [z3, z4, (5, ii (w64 (s2 + (1 : Int)))), (15, ii s2), (16, ii (w64 (s2 + (1 : Int)))), (26, bb (!v3))]) [] 0 (hN2 (w64 (s2 + (1 : Int))) _ _ _ (some_some hh) (el [] (rens_sp kr (ro nr_C_110 (ro nr_C_110 (ri rl_n)))) hs_nil)))))
theorem low_laws_eqGuest : LW 82 ⟨34, [(.tmp 4)], (.seq (.reg false (rg 82 0)) (.seq (.seq (.reg false (rg 82 1)) (.cond (.t 9) (.seq (.reg false (rg 82 2)) .ret) .skip)) (.seq (.seq (.reg false (rg 82 3)) (.cond (.t 15) (.seq (.reg false (rg 82 4)) .ret) .skip)) (.seq (.seq (.reg false (rg 82 5)) (.cond (.t 21) (.seq (.reg false (rg 82 6)) .ret) .skip)) (.seq (.seq (.reg false (rg 82 7)) (.cond (.t 27) (.seq (.reg false (rg 82 8)) .ret) .skip)) (.seq (.seq (.reg false (rg 82 9)) (.cond (.t 33) (.seq (.reg false (rg 82 10)) .ret) .skip)) (.seq (.reg false (rg 82 11)) .ret)))))))⟩ := kr
noncomputable def F_laws_eqGuest (x_a : DGuest) (x_b : DGuest) : Option Bool :=
 cond (!(x_a.Live == x_b.Live))
  (some false)
  (Option.bind (F_laws_eqCore x_a.C x_b.C) fun v1 =>
  cond (!v1)
   (some false)
   (Option.bind (F_laws_eqSlotS x_a.Pages x_b.Pages) fun v2 =>
   cond (!v2)
    (some false)
    (Option.bind (F_laws_eqIntS x_a.In x_b.In) fun v3 =>
    cond (!v3)
     (some false)
     (Option.bind (F_laws_eqIntS x_a.Out x_b.Out) fun v4 =>
     cond (!v4)
      (some false)
      (some true)))))
theorem laws_eqGuest_fn {x_a : DGuest} {x_b : DGuest} {R_ : Bool} (hh : F_laws_eqGuest x_a x_b = some R_) : Fn Try.prog 82 [.agg (B_108 x_a), .agg (B_108 x_b)] (.bool R_) := by
 let z1 : EH := (0, some (rB108 x_a)); let z2 : EH := (1, some (rB108 x_b)); let z3 := (2, pp 0); let z4 := (3, pp 1); let z5 := (4, bb false); let z6 := (9, bb (!(x_a.Live == x_b.Live)))
 unfold F_laws_eqGuest at hh
 refine Fn.start low_laws_eqGuest [0, 1] (E := sp 34 [(0, .agg (B_108 x_a)), (1, .agg (B_108 x_b))]) kr (v := bb R_) (Hr := []) (k := 0) kr (sy [2, 3] [0, 1] (sp 34 [z3, z4]) [z1, z2] 2 (Aw.seq (sy [2, 3, 9] [0, 1] (sp 34 [z3, z4, z6]) [z1, z2] 2 ?_)))
 rcases cond_some hh with ⟨hb, hh⟩ | ⟨hb, hh⟩
 · exact cT hb (sy [4] [] (sp 34 [z5]) [] 2 (Aw.ret (then_r (gvbs hh))))
 refine cF hb (Aw.xskip (fun _ _ _ hq => then_m hq) (Aw.seq (Aw.sreg [2, 3, 15] [0, 1] (yj 4  (sp 34 [z3, z4, z6, (10, .ptr 0 [] 1), (11, .agg (B_100 x_a.C)), (12, .ptr 1 [] 1), (13, .agg (B_100 x_b.C))]) [z1, z2] 2 ?_))))
 obtain ⟨v1, hv1, hh⟩ := bind_some hh
 refine ys (.call 103 [(.t 11), (.t 13)]) (some 14) (op_call (r := bb v1) (v := bb v1) (Hr := []) (n' := 2) (laws_eqCore_fn hv1) (clz_v (vs := [.agg (B_100 x_a.C), .agg (B_100 x_b.C)]) kr (clz_c (clo_same (clean_agg (cl_B_100 _))) (clz_c (clo_same (clean_agg (cl_B_100 _))) clz_n))) rfl rfl kr ?_)
 refine yt (sp 34 [z3, z4, (15, bb (!v1))]) [z1, z2] 2 ?_
 rcases cond_some hh with ⟨hb, hh⟩ | ⟨hb, hh⟩
 · exact cT hb (sy [4] [] (sp 34 [z5]) [] 2 (Aw.ret (then_r (gvbs hh))))
 refine cF hb (Aw.xskip (fun _ _ _ hq => then_m hq) (Aw.seq (Aw.sreg [2, 3, 21] [0, 1] (yj 4  (sp 34 [z3, z4, (15, bb (!v1)), (16, .ptr 0 [] 14), (17, bo C_110 x_a.Pages), (18, .ptr 1 [] 14), (19, bo C_110 x_b.Pages)]) [z1, z2] 2 ?_))))
 obtain ⟨v2, hv2, hh⟩ := bind_some hh
 refine ys (.call 104 [(.t 17), (.t 19)]) (some 20) (op_call (r := bb v2) (v := bb v2) (Hr := []) (n' := 2) (laws_eqSlotS_fn hv2) (clz_v (vs := [bo C_110 x_a.Pages, bo C_110 x_b.Pages]) kr (clz_c (clo_same (clean_bor (cleans_fl cl_C_110))) (clz_c (clo_same (clean_bor (cleans_fl cl_C_110))) clz_n))) rfl rfl kr ?_)
 refine yt (sp 34 [z3, z4, (21, bb (!v2))]) [z1, z2] 2 ?_
 rcases cond_some hh with ⟨hb, hh⟩ | ⟨hb, hh⟩
 · exact cT hb (sy [4] [] (sp 34 [z5]) [] 2 (Aw.ret (then_r (gvbs hh))))
 refine cF hb (Aw.xskip (fun _ _ _ hq => then_m hq) (Aw.seq (Aw.sreg [2, 3, 27] [0, 1] (yj 4  (sp 34 [z3, z4, (21, bb (!v2)), (22, .ptr 0 [] 15), (23, bo (eI .i64) x_a.In), (24, .ptr 1 [] 15), (25, bo (eI .i64) x_b.In)]) [z1, z2] 2 ?_))))
 obtain ⟨v3, hv3, hh⟩ := bind_some hh
 refine ys (.call 59 [(.t 23), (.t 25)]) (some 26) (oc (laws_eqIntS_fn hv3) ?_)
 refine yt (sp 34 [z3, z4, (27, bb (!v3))]) [z1, z2] 2 ?_
 rcases cond_some hh with ⟨hb, hh⟩ | ⟨hb, hh⟩
 · exact cT hb (sy [4] [] (sp 34 [z5]) [] 2 (Aw.ret (then_r (gvbs hh))))
 refine cF hb (Aw.xskip (fun _ _ _ hq => then_m hq) (Aw.seq (Aw.sreg [33] [] (yj 4  (sp 34 [z3, z4, (27, bb (!v3)), (28, .ptr 0 [] 16), (29, bo (eI .i64) x_a.Out), (30, .ptr 1 [] 16), (31, bo (eI .i64) x_b.Out)]) [z1, z2] 2 ?_))))
 obtain ⟨v4, hv4, hh⟩ := bind_some hh
 refine ys (.call 59 [(.t 29), (.t 31)]) (some 32) (oc (laws_eqIntS_fn hv4) ?_)
 refine yt (sp 34 [(33, bb (!v4))]) [] 2 ?_
 rcases cond_some hh with ⟨hb, hh⟩ | ⟨hb, hh⟩
 · exact cT hb (sy [4] [] (sp 34 [z5]) [] 2 (Aw.ret (then_r (gvbs hh))))
 exact cF hb (Aw.xskip (fun _ _ _ hq => then_m hq) (sy [4] [] (sp 34 [(4, bb true)]) [] 2 (Aw.ret (gvbs hh))))
theorem low_laws_eqGuestS : LW 60 ⟨27, [(.tmp 4)], (.seq (.reg false (rg 60 0)) (.seq (.seq (.reg false (rg 60 1)) (.cond (.t 10) (.seq (.reg false (rg 60 2)) .ret) .skip)) (.seq (.seq (.reg false (rg 60 3)) (.block 0 (.loop (.seq (.seq (.reg false (rg 60 4)) (.cond (.t 14) .skip (.exit 0))) (.seq (.block 1 (.seq (.regd (rg 60 5) (rg 60 6)) (.cond (.t 26) (.seq (.reg false (rg 60 7)) .ret) .skip))) (.reg false (rg 60 8))))))) (.seq (.reg false (rg 60 10)) .ret))))⟩ := kr
noncomputable def F_laws_eqGuestS_j1  (s1 : Unit) : Option Bool :=
 some true
noncomputable def F_laws_eqGuestS_l2 (x_a : List DGuest) (x_b : List DGuest) (s2 : Int) : Option (LO Int (JO Unit Bool)) :=
 cond (decide (s2 < (((List.length x_a) : Nat) : Int)))
  (grd ((0 : Int) ≤ s2 ∧ s2 < ((List.length x_a : Nat) : Int)) (grd ((0 : Int) ≤ s2 ∧ s2 < ((List.length x_b : Nat) : Int)) (Option.bind (F_laws_eqGuest (DGuest.mk ((List.getD x_a (Int.toNat s2) default).Live) (DCore.mk (((List.getD x_a (Int.toNat s2) default).C).Regs) (((List.getD x_a (Int.toNat s2) default).C).Pc) (((List.getD x_a (Int.toNat s2) default).C).Root) (((List.getD x_a (Int.toNat s2) default).C).Vector) (((List.getD x_a (Int.toNat s2) default).C).Saved) (((List.getD x_a (Int.toNat s2) default).C).SavedUser) (((List.getD x_a (Int.toNat s2) default).C).Cause) (((List.getD x_a (Int.toNat s2) default).C).Bad) (((List.getD x_a (Int.toNat s2) default).C).Timer) (((List.getD x_a (Int.toNat s2) default).C).Waits) (((List.getD x_a (Int.toNat s2) default).C).User) (((List.getD x_a (Int.toNat s2) default).C).On) (((List.getD x_a (Int.toNat s2) default).C).Stopped)) ((List.getD x_a (Int.toNat s2) default).Pages) ((List.getD x_a (Int.toNat s2) default).In) ((List.getD x_a (Int.toNat s2) default).Out)) (DGuest.mk ((List.getD x_b (Int.toNat s2) default).Live) (DCore.mk (((List.getD x_b (Int.toNat s2) default).C).Regs) (((List.getD x_b (Int.toNat s2) default).C).Pc) (((List.getD x_b (Int.toNat s2) default).C).Root) (((List.getD x_b (Int.toNat s2) default).C).Vector) (((List.getD x_b (Int.toNat s2) default).C).Saved) (((List.getD x_b (Int.toNat s2) default).C).SavedUser) (((List.getD x_b (Int.toNat s2) default).C).Cause) (((List.getD x_b (Int.toNat s2) default).C).Bad) (((List.getD x_b (Int.toNat s2) default).C).Timer) (((List.getD x_b (Int.toNat s2) default).C).Waits) (((List.getD x_b (Int.toNat s2) default).C).User) (((List.getD x_b (Int.toNat s2) default).C).On) (((List.getD x_b (Int.toNat s2) default).C).Stopped)) ((List.getD x_b (Int.toNat s2) default).Pages) ((List.getD x_b (Int.toNat s2) default).In) ((List.getD x_b (Int.toNat s2) default).Out))) fun v3 =>
   cond (!v3)
    (some (.ret (.out false)))
    (some (.next (w64 (s2 + (1 : Int))))))))
  (some (.ret (.go ())))
noncomputable def F_laws_eqGuestS (x_a : List DGuest) (x_b : List DGuest) : Option Bool :=
 cond (!decide ((((List.length x_a) : Nat) : Int) = (((List.length x_b) : Nat) : Int)))
  (some false)
  (Option.bind (Option.bind (iter (F_laws_eqGuestS_l2 x_a x_b) (0 : Int)) LO.val) fun j1 =>
   JO.run j1 (F_laws_eqGuestS_j1))
theorem laws_eqGuestS_fn {x_a : List DGuest} {x_b : List DGuest} {R_ : Bool} (hh : F_laws_eqGuestS x_a x_b = some R_) : Fn Try.prog 60 [bo B_108 x_a, bo B_108 x_b] (.bool R_) := by
 let z3 := (0, bo B_108 x_a); let z4 := (1, bo B_108 x_b); let z5 := (17, bo B_108 x_a)
 unfold F_laws_eqGuestS at hh
 refine Fn.start low_laws_eqGuestS [0, 1] (E := sp 27 [z3, z4]) kr (v := bb R_) (Hr := []) (k := 0) kr (sy [0, 1] [] (sp 27 [z3, z4]) [] 0 (Aw.seq (sy [0, 1, 10] [] (sp 27 [z3, z4, (10, bb (!decide ((((List.length x_a) : Nat) : Int) = (((List.length x_b) : Nat) : Int))))]) [] 0 ?_)))
 rcases cond_some hh with ⟨hb, hh⟩ | ⟨hb, hh⟩
 · exact cT hb (sy [4] [] (sp 27 [(4, bb false)]) [] 0 (Aw.ret (then_r (gvbs hh))))
 refine cF hb (Aw.xskip (fun _ _ _ hq => then_m hq) ?_)
 obtain ⟨j1, hh, hk1⟩ := bind_some hh
 refine Aw.join (S := Unit) (fun s1 => sp 27 []) (fun s1 => []) 0 (fun s1 => F_laws_eqGuestS_j1 s1 = some R_) ?_ ?_
 · intro s1 hh
   unfold F_laws_eqGuestS_j1 at hh
   exact sy [4] [] (sp 27 [(4, bb true)]) [] 0 (Aw.ret (gvbs hh))
 intro Q1 hN1 hR1 hE1
 refine sy [0, 1, 5] [] (sp 27 [z3, z4, (5, ii 0)]) [] 0 (Aw.block ?_)
 obtain ⟨o2, hi2, hk2⟩ := bind_some hh
 refine Aw.iter (fun (s2 : Int) => sp 27 [(0, bo B_108 x_a), (1, bo B_108 x_b), (5, ii s2)]) (fun (s2 : Int) => []) 0 hi2 (el [] (rens_sp kr (ro nr_B_108 (ro nr_B_108 (ri rl_n)))) hs_nil) ?_
 intro s2 u2 Q2 hh hN2 hX2 hR2
 let z6 := (14, bb (decide (s2 < (((List.length x_a) : Nat) : Int)))); let z7 : EV := (19, .bptr (fl B_108 x_a) (Int.toNat s2 * 17)); let z1 := List.getD x_a (Int.toNat s2) default; let z2 := List.getD x_b (Int.toNat s2) default
 unfold F_laws_eqGuestS_l2 at hh
 refine Aw.seq (sy [0, 1, 5, 14] [] (sp 27 [z3, z4, (5, ii s2), z6]) [] 0 ?_)
 rcases cond_sf hh with ⟨hb, hh⟩ | ⟨hb, hh⟩
 · refine cF hb (Aw.exit (then_x (hX2 _ _ _ _ _ (some_some hh) ?_)))
   intro hout
   rw [hout] at hk2
   refine blk_x ?_
   obtain rfl := some_some hk2
   exact hN1 () _ _ _ hk1 (el [] (rens_sp kr rl_n) hs_nil)
 refine cT hb (Aw.xskip (fun _ _ _ hq => then_m hq) (Aw.seq (Aw.block (Aw.sregd [0, 1, 5, 26] [] [] kr (dj 2 (sp 27 [z3, z4, (5, ii s2), z6, z5, (18, ii s2)]) [] 0 ?_)))))
 obtain ⟨hg47, hh⟩ := grd_some hh
 refine ds (.iadr 17 (.t 17) (.t 18)) (some 19) (ydo_q rfl kr (op_iadr (kd := .i64) (c := B_108) (xs := x_a) len_B_108 dd kr kr hg47 ?_))
 refine ds (.load true 17 (.t 19)) (some 20) (ydo_q rfl kr (op_loadbA (c := B_108) (xs := x_a) (o := Int.toNat s2 * 17) (i := (Int.toNat s2)) (off := 0) (v := .agg (B_108 z1)) len_B_108 kr ltn ltn dd kr ?_))
 refine dj 2 (sp 27 [z3, z4, (5, ii s2), z6, z5, (18, ii s2), z7, (20, .agg (B_108 z1)), (21, bo B_108 x_b), (22, ii s2)]) [] 0 ?_
 obtain ⟨hg48, hh⟩ := grd_some hh
 refine ds (.iadr 17 (.t 21) (.t 22)) (some 23) (ydo_q rfl kr (op_iadr (kd := .i64) (c := B_108) (xs := x_b) len_B_108 dd kr kr hg48 ?_))
 refine ds (.load true 17 (.t 23)) (some 24) (ydo_q rfl kr (op_loadbA (c := B_108) (xs := x_b) (o := Int.toNat s2 * 17) (i := (Int.toNat s2)) (off := 0) (v := .agg (B_108 z2)) len_B_108 kr ltn ltn dd kr ?_))
 refine dt (sp 27 [z3, z4, (5, ii s2), z6, z5, (18, ii s2), z7, (20, .agg (B_108 z1)), (21, bo B_108 x_b), (22, ii s2), (23, .bptr (fl B_108 x_b) (Int.toNat s2 * 17)), (24, .agg (B_108 z2))]) [] 0 ?_
 obtain ⟨v3, hv3, hh⟩ := bind_some hh
 refine ys (.call 82 [(.t 20), (.t 24)]) (some 25) (op_call (r := bb v3) (v := bb v3) (Hr := []) (n' := 0) (laws_eqGuest_fn hv3) (clz_v (vs := [.agg (B_108 z1), .agg (B_108 z2)]) kr (clz_c (clo_agg cz) (clz_c (clo_agg cz) clz_n))) rfl rfl kr ?_)
 refine yt (sp 27 [z3, z4, (5, ii s2), (26, bb (!v3))]) [] 0 ?_
 rcases cond_some hh with ⟨hb, hh⟩ | ⟨hb, hh⟩
 · refine cT hb (sy [4] [] (sp 27 [(4, bb false)]) [] 0 (Aw.ret (blk_r (then_r ?_))))
   refine hR2 _ _ _ _ (some_some hh) ?_
   intro hout
   rw [hout] at hk2
   refine blk_r ?_
   obtain rfl := some_some hk2
   refine hR1 _ _ _ ?_
   rw [some_some hk1]
   exact gvb
 exact cF hb (Aw.xskip (fun _ _ _ hq => blk_m (then_m hq)) (Aw.oreg (ye (sp 27 [z3, z4, (5, ii (w64 (s2 + (1 : Int)))), (15, ii s2), (16, ii (w64 (s2 + (1 : Int)))), (26, bb (!v3))]) [] 0 (hN2 (w64 (s2 + (1 : Int))) _ _ _ (some_some hh) (el [] (rens_sp kr (ro nr_B_108 (ro nr_B_108 (ri rl_n)))) hs_nil)))))
theorem low_laws_eqHost : LW 26 ⟨17, [(.tmp 4)], (.seq (.reg false (rg 26 0)) (.seq (.seq (.reg false (rg 26 1)) (.cond (.t 10) (.seq (.reg false (rg 26 2)) .ret) .skip)) (.seq (.seq (.reg false (rg 26 3)) (.cond (.t 16) (.seq (.reg false (rg 26 4)) .ret) .skip)) (.seq (.reg false (rg 26 5)) .ret))))⟩ := kr
noncomputable def F_laws_eqHost (x_a : DHost) (x_b : DHost) : Option Bool :=
 Option.bind (F_laws_eqIntS x_a.Words x_b.Words) fun v1 =>
 cond (!v1)
  (some false)
  (Option.bind (F_laws_eqGuestS x_a.Guests x_b.Guests) fun v2 =>
  cond (!v2)
   (some false)
   (some true))
theorem laws_eqHost_fn {x_a : DHost} {x_b : DHost} {R_ : Bool} (hh : F_laws_eqHost x_a x_b = some R_) : Fn Try.prog 26 [.agg [bo (eI .i64) x_a.Words, bo B_108 x_a.Guests], .agg [bo (eI .i64) x_b.Words, bo B_108 x_b.Guests]] (.bool R_) := by
 unfold F_laws_eqHost at hh
 refine Fn.start low_laws_eqHost [0, 1] (E := sp 17 [(0, .agg (B_26 x_a)), (1, .agg (B_26 x_b))]) kr (v := bb R_) (Hr := []) (k := 0) kr (Aw.sreg [2, 3] [0, 1] ?_)
 let q1 : Root := ⟨26, [bo (eI .i64) x_a.Words, bo B_108 x_a.Guests]⟩; let q2 : Root := ⟨26, [bo (eI .i64) x_b.Words, bo B_108 x_b.Guests]⟩
 refine yt (sp 17 [(2, pp 0), (3, pp 1)]) [(0, some q1), (1, some q2)] 2 (Aw.seq (Aw.sreg [2, 3, 10] [0, 1] (yj 4  (sp 17 [(2, pp 0), (3, pp 1), (5, pp 0), (6, bo (eI .i64) x_a.Words), (7, pp 1), (8, bo (eI .i64) x_b.Words)]) [(0, some q1), (1, some q2)] 2 ?_)))
 obtain ⟨v1, hv1, hh⟩ := bind_some hh
 refine ys (.call 59 [(.t 6), (.t 8)]) (some 9) (oc (laws_eqIntS_fn hv1) ?_)
 refine yt (sp 17 [(2, pp 0), (3, pp 1), (10, bb (!v1))]) [(0, some q1), (1, some q2)] 2 ?_
 rcases cond_some hh with ⟨hb, hh⟩ | ⟨hb, hh⟩
 · exact cT hb (sy [4] [] (sp 17 [(4, bb false)]) [] 2 (Aw.ret (then_r (gvbs hh))))
 refine cF hb (Aw.xskip (fun _ _ _ hq => then_m hq) (Aw.seq (Aw.sreg [16] [] (yj 4  (sp 17 [(2, pp 0), (3, pp 1), (10, bb (!v1)), (11, .ptr 0 [] 1), (12, bo B_108 x_a.Guests), (13, .ptr 1 [] 1), (14, bo B_108 x_b.Guests)]) [(0, some q1), (1, some q2)] 2 ?_))))
 obtain ⟨v2, hv2, hh⟩ := bind_some hh
 refine ys (.call 60 [(.t 12), (.t 14)]) (some 15) (op_call (r := bb v2) (v := bb v2) (Hr := []) (n' := 2) (laws_eqGuestS_fn hv2) (clz_v (vs := [bo B_108 x_a.Guests, bo B_108 x_b.Guests]) kr (clz_c (clo_same (clean_bor (cleans_fl cl_B_108))) (clz_c (clo_same (clean_bor (cleans_fl cl_B_108))) clz_n))) rfl rfl kr ?_)
 refine yt (sp 17 [(16, bb (!v2))]) [] 2 ?_
 rcases cond_some hh with ⟨hb, hh⟩ | ⟨hb, hh⟩
 · exact cT hb (sy [4] [] (sp 17 [(4, bb false)]) [] 2 (Aw.ret (then_r (gvbs hh))))
 exact cF hb (Aw.xskip (fun _ _ _ hq => then_m hq) (sy [4] [] (sp 17 [(4, bb true)]) [] 2 (Aw.ret (gvbs hh))))
theorem low_laws_szSlotS : LW 100 ⟨12, [(.tmp 4)], (.seq (.reg false (rg 100 0)) (.seq (.reg false (rg 100 1)) (.seq (.seq (.reg false (rg 100 2)) (.cond (.t 10) (.seq (.reg false (rg 100 3)) .ret) .skip)) (.seq (.reg false (rg 100 4)) .ret))))⟩ := kr
noncomputable def F_laws_szSlotS (x_a : List DSlot) (x_left : Int) : Option Int :=
 cond (decide ((w64 (x_left - (((List.length x_a) : Nat) : Int))) < (0 : Int)))
  (some (-1 : Int))
  (some (w64 (x_left - (((List.length x_a) : Nat) : Int))))
theorem laws_szSlotS_fn {x_a : List DSlot} {x_left : Int} {R_ : Int} (hh : F_laws_szSlotS x_a x_left = some R_) : Fn Try.prog 100 [bo C_156 x_a, .int .i64 x_left] (.int .i64 R_) := by
 let z1 := (1, ii (w64 (x_left - (((List.length x_a) : Nat) : Int))))
 unfold F_laws_szSlotS at hh
 refine Fn.start low_laws_szSlotS [0, 1] (E := sp 12 [(0, bo C_156 x_a), (1, ii x_left)]) kr (v := ii R_) (Hr := []) (k := 0) kr (sy [0, 1] [] (sp 12 [(0, bo C_156 x_a), (1, ii x_left)]) [] 0 (sy [1] [] (sp 12 [z1]) [] 0 (Aw.seq (sy [1, 10] [] (sp 12 [z1, (10, bb (decide ((w64 (x_left - (((List.length x_a) : Nat) : Int))) < (0 : Int))))]) [] 0 ?_))))
 rcases cond_some hh with ⟨hb, hh⟩ | ⟨hb, hh⟩
 · exact cT hb (sy [4] [] (sp 12 [(4, ii (-1))]) [] 0 (Aw.ret (then_r (gvis hh))))
 exact cF hb (Aw.xskip (fun _ _ _ hq => then_m hq) (sy [4] [] (sp 12 [(4, ii (w64 (x_left - (((List.length x_a) : Nat) : Int))))]) [] 0 (Aw.ret (gvis hh))))
theorem low_laws_szGuest : LW 79 ⟨30, [(.tmp 4)], (.seq (.reg false (rg 79 0)) (.seq (.reg false (rg 79 1)) (.seq (.seq (.reg false (rg 79 2)) (.cond (.t 10) (.seq (.reg false (rg 79 3)) .ret) .skip)) (.seq (.reg false (rg 79 4)) (.seq (.seq (.reg false (rg 79 5)) (.cond (.t 16) (.seq (.reg false (rg 79 6)) .ret) .skip)) (.seq (.reg false (rg 79 7)) (.seq (.seq (.reg false (rg 79 8)) (.cond (.t 22) (.seq (.reg false (rg 79 9)) .ret) .skip)) (.seq (.reg false (rg 79 10)) (.seq (.seq (.reg false (rg 79 11)) (.cond (.t 28) (.seq (.reg false (rg 79 12)) .ret) .skip)) (.seq (.reg false (rg 79 13)) .ret))))))))))⟩ := kr
noncomputable def F_laws_szGuest (x_a : DGuest) (x_left : Int) : Option Int :=
 Option.bind (F_laws_szCore x_a.C x_left) fun v1 =>
 cond (decide (v1 < (0 : Int)))
  (some (-1 : Int))
  (Option.bind (F_laws_szSlotS x_a.Pages v1) fun v2 =>
  cond (decide (v2 < (0 : Int)))
   (some (-1 : Int))
   (Option.bind (F_laws_szIntS x_a.In v2) fun v3 =>
   cond (decide (v3 < (0 : Int)))
    (some (-1 : Int))
    (Option.bind (F_laws_szIntS x_a.Out v3) fun v4 =>
    cond (decide (v4 < (0 : Int)))
     (some (-1 : Int))
     (some v4))))
theorem laws_szGuest_fn {x_a : DGuest} {x_left : Int} {R_ : Int} (hh : F_laws_szGuest x_a x_left = some R_) : Fn Try.prog 79 [.agg (B_126 x_a), .int .i64 x_left] (.int .i64 R_) := by
 let z1 : EH := (0, some (rB126 x_a)); let z2 := (2, pp 0); let z3 := (4, ii (-1))
 unfold F_laws_szGuest at hh
 refine Fn.start low_laws_szGuest [0, 1] (E := sp 30 [(0, .agg (B_126 x_a)), (1, ii x_left)]) kr (v := ii R_) (Hr := []) (k := 0) kr (sy [1, 2] [0] (sp 30 [(1, ii x_left), z2]) [z1] 1 (Aw.sreg [1, 2] [0] (yu 3 [(5, .ptr 0 [] 1), (6, .agg (B_100 x_a.C)), (7, ii x_left)] [z1] 1 ?_)))
 obtain ⟨v1, hv1, hh⟩ := bind_some hh
 let z4 := (10, bb (decide (v1 < (0 : Int))))
 refine ys (.call 99 [(.t 6), (.t 7)]) (some 8) (op_call (r := ii v1) (v := ii v1) (Hr := []) (n' := 1) (laws_szCore_fn hv1) (clz_v (vs := [.agg (B_100 x_a.C), ii x_left]) kr (clz_c (clo_same (clean_agg (cl_B_100 _))) (cz1 clz_n))) rfl rfl kr ?_)
 refine yt (sp 30 [(1, ii v1), z2]) [z1] 1 (Aw.seq (sy [1, 2, 10] [0] (sp 30 [(1, ii v1), z2, z4]) [z1] 1 ?_))
 rcases cond_some hh with ⟨hb, hh⟩ | ⟨hb, hh⟩
 · exact cT hb (sy [4] [] (sp 30 [z3]) [] 1 (Aw.ret (then_r (gvis hh))))
 refine cF hb (Aw.xskip (fun _ _ _ hq => then_m hq) (Aw.sreg [1, 2] [0] (yj 3  (sp 30 [(1, ii v1), z2, z4, (11, .ptr 0 [] 14), (12, bo C_156 x_a.Pages), (13, ii v1)]) [z1] 1 ?_)))
 obtain ⟨v2, hv2, hh⟩ := bind_some hh
 let z5 := (16, bb (decide (v2 < (0 : Int))))
 refine ys (.call 100 [(.t 12), (.t 13)]) (some 14) (op_call (r := ii v2) (v := ii v2) (Hr := []) (n' := 1) (laws_szSlotS_fn hv2) (clz_v (vs := [bo C_156 x_a.Pages, ii v1]) kr (clz_c (clo_same (clean_bor (cleans_fl cl_C_156))) (cz1 clz_n))) rfl rfl kr ?_)
 refine yt (sp 30 [(1, ii v2), z2]) [z1] 1 (Aw.seq (sy [1, 2, 16] [0] (sp 30 [(1, ii v2), z2, z5]) [z1] 1 ?_))
 rcases cond_some hh with ⟨hb, hh⟩ | ⟨hb, hh⟩
 · exact cT hb (sy [4] [] (sp 30 [z3]) [] 1 (Aw.ret (then_r (gvis hh))))
 refine cF hb (Aw.xskip (fun _ _ _ hq => then_m hq) (Aw.sreg [1, 2] [0] (yj 3  (sp 30 [(1, ii v2), z2, z5, (17, .ptr 0 [] 15), (18, bo (eI .i64) x_a.In), (19, ii v2)]) [z1] 1 ?_)))
 obtain ⟨v3, hv3, hh⟩ := bind_some hh
 let z6 := (22, bb (decide (v3 < (0 : Int))))
 refine ys (.call 54 [(.t 18), (.t 19)]) (some 20) (oc (laws_szIntS_fn hv3) ?_)
 refine yt (sp 30 [(1, ii v3), z2]) [z1] 1 (Aw.seq (sy [1, 2, 22] [0] (sp 30 [(1, ii v3), z2, z6]) [z1] 1 ?_))
 rcases cond_some hh with ⟨hb, hh⟩ | ⟨hb, hh⟩
 · exact cT hb (sy [4] [] (sp 30 [z3]) [] 1 (Aw.ret (then_r (gvis hh))))
 refine cF hb (Aw.xskip (fun _ _ _ hq => then_m hq) (Aw.sreg [1] [] (yj 3  (sp 30 [(1, ii v3), z2, z6, (23, .ptr 0 [] 16), (24, bo (eI .i64) x_a.Out), (25, ii v3)]) [z1] 1 ?_)))
 obtain ⟨v4, hv4, hh⟩ := bind_some hh
 refine ys (.call 54 [(.t 24), (.t 25)]) (some 26) (oc (laws_szIntS_fn hv4) ?_)
 refine yt (sp 30 [(1, ii v4)]) [] 1 (Aw.seq (sy [1, 28] [] (sp 30 [(1, ii v4), (28, bb (decide (v4 < (0 : Int))))]) [] 1 ?_))
 rcases cond_some hh with ⟨hb, hh⟩ | ⟨hb, hh⟩
 · exact cT hb (sy [4] [] (sp 30 [z3]) [] 1 (Aw.ret (then_r (gvis hh))))
 exact cF hb (Aw.xskip (fun _ _ _ hq => then_m hq) (sy [4] [] (sp 30 [(4, ii v4)]) [] 1 (Aw.ret (gvis hh))))
theorem low_laws_szGuestS : LW 55 ⟨27, [(.tmp 4)], (.seq (.reg false (rg 55 0)) (.seq (.reg false (rg 55 1)) (.seq (.seq (.reg false (rg 55 2)) (.cond (.t 11) (.seq (.reg false (rg 55 3)) .ret) .skip)) (.seq (.seq (.reg false (rg 55 4)) (.block 0 (.loop (.seq (.seq (.reg false (rg 55 5)) (.cond (.t 15) .skip (.exit 0))) (.seq (.block 1 (.seq (.reg false (rg 55 6)) (.seq (.reg false (rg 55 7)) (.cond (.t 25) (.seq (.reg false (rg 55 8)) .ret) .skip)))) (.reg false (rg 55 9))))))) (.seq (.reg false (rg 55 11)) .ret)))))⟩ := kr
noncomputable def F_laws_szGuestS_j1  (s1 : Int) : Option Int :=
 some s1
noncomputable def F_laws_szGuestS_l2 (x_a : List DGuest) (s2 : Int × Int) : Option (LO (Int × Int) (JO Int Int)) :=
 cond (decide (s2.2 < (((List.length x_a) : Nat) : Int)))
  (grd ((0 : Int) ≤ s2.2 ∧ s2.2 < ((List.length x_a : Nat) : Int)) (Option.bind (F_laws_szGuest (DGuest.mk ((List.getD x_a (Int.toNat s2.2) default).Live) (DCore.mk (((List.getD x_a (Int.toNat s2.2) default).C).Regs) (((List.getD x_a (Int.toNat s2.2) default).C).Pc) (((List.getD x_a (Int.toNat s2.2) default).C).Root) (((List.getD x_a (Int.toNat s2.2) default).C).Vector) (((List.getD x_a (Int.toNat s2.2) default).C).Saved) (((List.getD x_a (Int.toNat s2.2) default).C).SavedUser) (((List.getD x_a (Int.toNat s2.2) default).C).Cause) (((List.getD x_a (Int.toNat s2.2) default).C).Bad) (((List.getD x_a (Int.toNat s2.2) default).C).Timer) (((List.getD x_a (Int.toNat s2.2) default).C).Waits) (((List.getD x_a (Int.toNat s2.2) default).C).User) (((List.getD x_a (Int.toNat s2.2) default).C).On) (((List.getD x_a (Int.toNat s2.2) default).C).Stopped)) ((List.getD x_a (Int.toNat s2.2) default).Pages) ((List.getD x_a (Int.toNat s2.2) default).In) ((List.getD x_a (Int.toNat s2.2) default).Out)) s2.1) fun v3 =>
   cond (decide (v3 < (0 : Int)))
    (some (.ret (.out (-1 : Int))))
    (some (.next (v3, (w64 (s2.2 + (1 : Int))))))))
  (some (.ret (.go s2.1)))
noncomputable def F_laws_szGuestS (x_a : List DGuest) (x_left : Int) : Option Int :=
 cond (decide ((w64 (x_left - (((List.length x_a) : Nat) : Int))) < (0 : Int)))
  (some (-1 : Int))
  (Option.bind (Option.bind (iter (F_laws_szGuestS_l2 x_a) ((w64 (x_left - (((List.length x_a) : Nat) : Int))), (0 : Int))) LO.val) fun j1 =>
   JO.run j1 (F_laws_szGuestS_j1))
theorem laws_szGuestS_fn {x_a : List DGuest} {x_left : Int} {R_ : Int} (hh : F_laws_szGuestS x_a x_left = some R_) : Fn Try.prog 55 [bo B_126 x_a, .int .i64 x_left] (.int .i64 R_) := by
 let z2 := (0, bo B_126 x_a); let z3 := (1, ii (w64 (x_left - (((List.length x_a) : Nat) : Int))))
 unfold F_laws_szGuestS at hh
 refine Fn.start low_laws_szGuestS [0, 1] (E := sp 27 [z2, (1, ii x_left)]) kr (v := ii R_) (Hr := []) (k := 0) kr (sy [0, 1] [] (sp 27 [z2, (1, ii x_left)]) [] 0 (sy [0, 1] [] (sp 27 [z2, z3]) [] 0 (Aw.seq (sy [0, 1, 11] [] (sp 27 [z2, z3, (11, bb (decide ((w64 (x_left - (((List.length x_a) : Nat) : Int))) < (0 : Int))))]) [] 0 ?_))))
 rcases cond_some hh with ⟨hb, hh⟩ | ⟨hb, hh⟩
 · exact cT hb (sy [4] [] (sp 27 [(4, ii (-1))]) [] 0 (Aw.ret (then_r (gvis hh))))
 refine cF hb (Aw.xskip (fun _ _ _ hq => then_m hq) ?_)
 obtain ⟨j1, hh, hk1⟩ := bind_some hh
 refine Aw.join (S := Int) (fun s1 => sp 27 [(1, ii s1)]) (fun s1 => []) 0 (fun s1 => F_laws_szGuestS_j1 s1 = some R_) ?_ ?_
 · intro s1 hh
   unfold F_laws_szGuestS_j1 at hh
   exact sy [4] [] (sp 27 [(4, ii s1)]) [] 0 (Aw.ret (gvis hh))
 intro Q1 hN1 hR1 hE1
 refine sy [0, 1, 5] [] (sp 27 [z2, z3, (5, ii 0)]) [] 0 (Aw.block ?_)
 obtain ⟨o2, hi2, hk2⟩ := bind_some hh
 refine Aw.iter (fun (s2 : Int × Int) => sp 27 [(0, bo B_126 x_a), (1, ii s2.1), (5, ii s2.2)]) (fun (s2 : Int × Int) => []) 0 hi2 (el [] (rens_sp kr (ro nr_B_126 (ri (ri rl_n)))) hs_nil) ?_
 intro s2 u2 Q2 hh hN2 hX2 hR2
 let z4 := (15, bb (decide (s2.2 < (((List.length x_a) : Nat) : Int)))); let z1 := List.getD x_a (Int.toNat s2.2) default
 unfold F_laws_szGuestS_l2 at hh
 refine Aw.seq (sy [0, 1, 5, 15] [] (sp 27 [z2, (1, ii s2.1), (5, ii s2.2), z4]) [] 0 ?_)
 rcases cond_sf hh with ⟨hb, hh⟩ | ⟨hb, hh⟩
 · refine cF hb (Aw.exit (then_x (hX2 _ _ _ _ _ (some_some hh) ?_)))
   intro hout
   rw [hout] at hk2
   refine blk_x ?_
   obtain rfl := some_some hk2
   exact hN1 s2.1 _ _ _ hk1 (el [] (rens_sp kr (ri rl_n)) hs_nil)
 refine cT hb (Aw.xskip (fun _ _ _ hq => then_m hq) (Aw.seq (Aw.block (Aw.sreg [0, 1, 5] [] (yj 2  (sp 27 [z2, (1, ii s2.1), (5, ii s2.2), z4, (18, bo B_126 x_a), (19, ii s2.2)]) [] 0 ?_)))))
 obtain ⟨hg24, hh⟩ := grd_some hh
 refine ys (.iadr 17 (.t 18) (.t 19)) (some 20) (op_iadr (kd := .i64) (c := B_126) (xs := x_a) len_B_126 dd kr kr hg24 ?_)
 refine ys (.load true 17 (.t 20)) (some 21) (op_loadbA (c := B_126) (xs := x_a) (o := Int.toNat s2.2 * 17) (i := (Int.toNat s2.2)) (off := 0) (v := .agg (B_126 z1)) len_B_126 kr ltn ltn dd kr ?_)
 refine yu 1 [(20, .bptr (fl B_126 x_a) (Int.toNat s2.2 * 17)), (21, .agg (B_126 z1)), (22, ii s2.1)] [] 0 ?_
 obtain ⟨v3, hv3, hh⟩ := bind_some hh
 let z5 := (25, bb (decide (v3 < (0 : Int))))
 refine ys (.call 79 [(.t 21), (.t 22)]) (some 23) (op_call (r := ii v3) (v := ii v3) (Hr := []) (n' := 0) (laws_szGuest_fn hv3) (clz_v (vs := [.agg (B_126 z1), ii s2.1]) kr (clz_c (clo_agg cz) (cz1 clz_n))) rfl rfl kr ?_)
 refine yt (sp 27 [z2, (1, ii v3), (5, ii s2.2)]) [] 0 (sy [0, 1, 5, 25] [] (sp 27 [z2, (1, ii v3), (5, ii s2.2), z5]) [] 0 ?_)
 rcases cond_some hh with ⟨hb, hh⟩ | ⟨hb, hh⟩
 · refine cT hb (sy [4] [] (sp 27 [(4, ii (-1))]) [] 0 (Aw.ret (blk_r (then_r ?_))))
   refine hR2 _ _ _ _ (some_some hh) ?_
   intro hout
   rw [hout] at hk2
   refine blk_r ?_
   obtain rfl := some_some hk2
   refine hR1 _ _ _ ?_
   rw [some_some hk1]
   exact gvi
 exact cF hb (Aw.xskip (fun _ _ _ hq => blk_m (then_m hq)) (Aw.oreg (ye (sp 27 [z2, (1, ii v3), (5, ii (w64 (s2.2 + (1 : Int)))), (16, ii s2.2), (17, ii (w64 (s2.2 + (1 : Int)))), z5]) [] 0 (hN2 (v3, (w64 (s2.2 + (1 : Int)))) _ _ _ (some_some hh) (el [] (rens_sp kr (ro nr_B_126 (ri (ri rl_n)))) hs_nil)))))
theorem low_laws_szHost : LW 22 ⟨18, [(.tmp 4)], (.seq (.reg false (rg 22 0)) (.seq (.reg false (rg 22 1)) (.seq (.seq (.reg false (rg 22 2)) (.cond (.t 10) (.seq (.reg false (rg 22 3)) .ret) .skip)) (.seq (.reg false (rg 22 4)) (.seq (.seq (.reg false (rg 22 5)) (.cond (.t 16) (.seq (.reg false (rg 22 6)) .ret) .skip)) (.seq (.reg false (rg 22 7)) .ret))))))⟩ := kr
noncomputable def F_laws_szHost (x_a : DHost) (x_left : Int) : Option Int :=
 Option.bind (F_laws_szIntS x_a.Words x_left) fun v1 =>
 cond (decide (v1 < (0 : Int)))
  (some (-1 : Int))
  (Option.bind (F_laws_szGuestS x_a.Guests v1) fun v2 =>
  cond (decide (v2 < (0 : Int)))
   (some (-1 : Int))
   (some v2))
theorem laws_szHost_fn {x_a : DHost} {x_left : Int} {R_ : Int} (hh : F_laws_szHost x_a x_left = some R_) : Fn Try.prog 22 [.agg [bo (eI .i64) x_a.Words, bo B_126 x_a.Guests], .int .i64 x_left] (.int .i64 R_) := by
 unfold F_laws_szHost at hh
 refine Fn.start low_laws_szHost [0, 1] (E := sp 18 [(0, .agg [bo (eI .i64) x_a.Words, bo B_126 x_a.Guests]), (1, ii x_left)]) kr (v := ii R_) (Hr := []) (k := 0) kr (Aw.sreg [1, 2] [0] ?_)
 let q1 : Root := ⟨50, [bo (eI .i64) x_a.Words, bo B_126 x_a.Guests]⟩; let z1 := (0, some q1)
 refine yt (sp 18 [(1, ii x_left), (2, pp 0)]) [z1] 1 (Aw.sreg [1, 2] [0] (yu 3 [(5, pp 0), (6, bo (eI .i64) x_a.Words), (7, ii x_left)] [z1] 1 ?_))
 obtain ⟨v1, hv1, hh⟩ := bind_some hh
 let z2 := (10, bb (decide (v1 < (0 : Int))))
 refine ys (.call 54 [(.t 6), (.t 7)]) (some 8) (oc (laws_szIntS_fn hv1) ?_)
 refine yt (sp 18 [(1, ii v1), (2, pp 0)]) [z1] 1 (Aw.seq (sy [1, 2, 10] [0] (sp 18 [(1, ii v1), (2, pp 0), z2]) [z1] 1 ?_))
 rcases cond_some hh with ⟨hb, hh⟩ | ⟨hb, hh⟩
 · exact cT hb (sy [4] [] (sp 18 [(4, ii (-1))]) [] 1 (Aw.ret (then_r (gvis hh))))
 refine cF hb (Aw.xskip (fun _ _ _ hq => then_m hq) (Aw.sreg [1] [] (yj 3  (sp 18 [(1, ii v1), (2, pp 0), z2, (11, .ptr 0 [] 1), (12, bo B_126 x_a.Guests), (13, ii v1)]) [z1] 1 ?_)))
 obtain ⟨v2, hv2, hh⟩ := bind_some hh
 refine ys (.call 55 [(.t 12), (.t 13)]) (some 14) (op_call (r := ii v2) (v := ii v2) (Hr := []) (n' := 1) (laws_szGuestS_fn hv2) (clz_v (vs := [bo B_126 x_a.Guests, ii v1]) kr (clz_c (clo_same (clean_bor (cleans_fl cl_B_126))) (cz1 clz_n))) rfl rfl kr ?_)
 refine yt (sp 18 [(1, ii v2)]) [] 1 (Aw.seq (sy [1, 16] [] (sp 18 [(1, ii v2), (16, bb (decide (v2 < (0 : Int))))]) [] 1 ?_))
 rcases cond_some hh with ⟨hb, hh⟩ | ⟨hb, hh⟩
 · exact cT hb (sy [4] [] (sp 18 [(4, ii (-1))]) [] 1 (Aw.ret (then_r (gvis hh))))
 exact cF hb (Aw.xskip (fun _ _ _ hq => then_m hq) (sy [4] [] (sp 18 [(4, ii v2)]) [] 1 (Aw.ret (gvis hh))))
end Go.Proofs.Ytbnjdmclnojlmaa
