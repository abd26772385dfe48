/- Plain functions of the program, and that it hands back what they say. Made by program. -/
import Derived.Test.YtmjphjphgjmojaaWT
import Derived.Test.YtmjphjphgjmojaaProg
import Derived.Test.YtmjphjphgjmojaaWN1
namespace Go.Proofs.Ytmjphjphgjmojaa
open Go.RowKit
set_option maxRecDepth 100000
set_option linter.all false
set_option maxHeartbeats 0
def Lf12_r0 : List LOper := [oo 2 (.mv (.c (bb false)))]
def Lf12_r1 : List LOper := [om 5 0, oo 6 (.len (.t 5)), oo 7 (.mv (.c (ii 0)))]
def Lf12_r2 : List LOper := [oo 8 (.bin .lss (.t 7) (.t 6))]
def Lf12_r3 : List LOper := [oo 9 (.iadr 1 (.t 5) (.t 7)), oo 10 (.load false 1 (.t 9)), om 4 10]
def Lf12_r4 : List LOper := [om 11 4, oo 12 (.call 19 [(.t 11)]), oo 13 (.un .not (.t 12))]
def Lf12_r5 : List LOper := [oo 2 (.mv (.c (bb false)))]
def Lf12_r6 : List LOper := [oo 14 (.bin .add (.t 7) (.c (ii 1))), om 7 14]
def Lf12_l7 : LCode := (.seq (.reg false Lf12_r2) (.seq (.cond (.t 8) .skip (.exit 0)) (.seq (.block 1 (.seq (.reg false Lf12_r3) (.seq (.reg false Lf12_r4) (.cond (.t 13) (.seq (.reg false Lf12_r5) .ret) .skip)))) (.reg false Lf12_r6))))
def Lf12_r8 : List LOper := [oo 2 (.mv (.c (bb true)))]
def Lf12 : LFun := ⟨15, [(.tmp 2)], (.seq (.reg false Lf12_r0) (.seq (.seq (.reg false Lf12_r1) (.block 0 (.loop Lf12_l7))) (.seq (.reg false Lf12_r8) .ret)))⟩
theorem low_impl_wordsOk : lowFun Go.Proofs.Try.prog 12 = some Lf12 := by kernel_rfl
noncomputable def F_impl_wordsOk_j1  (s1 : Unit) : Option Bool :=
 some true
noncomputable def F_impl_wordsOk_l2 (x_list : List Int) (s2 : Int) : Option (LO Int (JO Unit Bool)) :=
 cond (decide (s2 < (((List.length x_list) : Nat) : Int)))
  (grd ((0 : Int) ≤ s2 ∧ s2 < ((List.length x_list : Nat) : Int)) (Option.bind (F_impl_WordOk (List.getD x_list (Int.toNat s2) default)) fun v3 =>
   cond (!v3)
    (some (.ret (.out false)))
    (some (.next (w64 (s2 + (1 : Int)))))))
  (some (.ret (.go ())))
noncomputable def F_impl_wordsOk (x_list : List Int) : Option Bool :=
 Option.bind (Option.bind (iter (F_impl_wordsOk_l2 x_list) (0 : Int)) LO.val) fun j1 =>
  JO.run j1 (F_impl_wordsOk_j1)
theorem impl_wordsOk_fn {x_list : List Int} {R_ : Bool} (hh : F_impl_wordsOk x_list = some R_) : Fn Try.prog 12 [bo (eI .i64) x_list] (.bool R_) := by
 unfold F_impl_wordsOk at hh
 refine Fn.start low_impl_wordsOk [0] (E := sp 15 [(0, bo (eI .i64) x_list)]) (by kernel_rfl) (v := bb R_) (Hr := []) (k := 0) (by kernel_rfl) ?_
 refine sy [0] [] (sp 15 [(0, bo (eI .i64) x_list)]) [] 0 ?_
 obtain ⟨j1, hh, hk1⟩ := bind_some hh
 refine Aw.join (S := Unit) (fun s1 => sp 15 []) (fun s1 => []) 0 (fun s1 => F_impl_wordsOk_j1 s1 = some R_) ?_ ?_
 · intro s1 hh
   unfold F_impl_wordsOk_j1 at hh
   refine sy [2] [] (sp 15 [(2, bb true)]) [] 0 ?_
   refine Aw.ret ?_
   rw [some_some hh]
   exact gvb
 intro Q1 hN1 hR1 hE1
 refine sy [5, 6, 7] [] (sp 15 [(5, bo (eI .i64) x_list), (6, ii (((List.length x_list) : Nat) : Int)), (7, ii 0)]) [] 0 ?_
 refine Aw.block ?_
 obtain ⟨o2, hi2, hk2⟩ := bind_some hh
 refine Aw.iter (fun (s2 : Int) => sp 15 [(5, bo (eI .i64) x_list), (6, ii (((List.length x_list) : Nat) : Int)), (7, ii s2)]) (fun (s2 : Int) => []) 0 hi2 (Ent.list2 [] rfl rfl (by decide) (rens_sp (by kernel_rfl) (rl_c (u := bo (eI .i64) x_list) (by kernel_rfl) (ren_bor (rens_same (noRefs_fl nr_eI))) (rl_c (u := ii (((List.length x_list) : Nat) : Int)) (by kernel_rfl) ren_i (rl_c (u := ii 0) (by kernel_rfl) ren_i rl_n)))) hs_nil) ?_
 intro s2 u2 Q2 hh hN2 hX2 hR2
 unfold F_impl_wordsOk_l2 at hh
 refine sy [5, 6, 7, 8] [] (sp 15 [(5, bo (eI .i64) x_list), (6, ii (((List.length x_list) : Nat) : Int)), (7, ii s2), (8, bb (decide (s2 < (((List.length x_list) : Nat) : Int))))]) [] 0 ?_
 refine Aw.seq ?_
 rcases cond_some hh with ⟨hb, hh⟩ | ⟨hb, hh⟩
 · refine cT hb ?_
   refine Aw.xskip (fun _ _ _ hq => then_m hq) ?_
   refine Aw.seq ?_
   refine Aw.block ?_
   refine Aw.sreg [4, 5, 6, 7] [] ?_
   obtain ⟨hg24, hh⟩ := grd_some hh
   refine ys (.iadr 1 (.t 5) (.t 7)) (some 9) (op_iadr (kd := .i64) (c := (eI .i64)) (xs := x_list) len_eI (by decide) (by kernel_rfl) (by kernel_rfl) hg24 ?_)
   refine ys (.load false 1 (.t 9)) (some 10) (op_loadb (c := (eI .i64)) (xs := x_list) (o := Int.toNat s2 * 1) (i := (Int.toNat s2)) (off := 0) (v := ii (List.getD x_list (Int.toNat s2) default)) len_eI (by kernel_rfl) (by omega) (by omega) (by decide) (by kernel_rfl) ?_)
   refine yt (sp 15 [(4, ii (List.getD x_list (Int.toNat s2) default)), (5, bo (eI .i64) x_list), (6, ii (((List.length x_list) : Nat) : Int)), (7, ii s2)]) [] 0 ?_
   refine Aw.sreg [5, 6, 7, 13] [] (yu 1 [(11, ii (List.getD x_list (Int.toNat s2) default))] [] 0 ?_)
   obtain ⟨v3, hv3, hh⟩ := bind_some hh
   refine ys (.call 19 [(.t 11)]) (some 12) (oc (impl_WordOk_fn hv3) ?_)
   refine yt (sp 15 [(5, bo (eI .i64) x_list), (6, ii (((List.length x_list) : Nat) : Int)), (7, ii s2), (13, bb (!v3))]) [] 0 ?_
   rcases cond_some hh with ⟨hb, hh⟩ | ⟨hb, hh⟩
   · refine cT hb ?_
     refine sy [2] [] (sp 15 [(2, bb false)]) [] 0 ?_
     refine Aw.ret ?_
     refine blk_r (then_r ?_)
     refine hR2 _ _ _ _ (some_some hh) ?_
     intro hout
     rw [hout] at hk2
     refine blk_r ?_
     obtain rfl := some_some hk2
     refine hR1 _ _ _ ?_
     refine ?_
     rw [some_some hk1]
     exact gvb
   refine cF hb ?_
   refine Aw.xskip (fun _ _ _ hq => blk_m (then_m hq)) ?_
   refine Aw.oreg ?_
   refine ye (sp 15 [(5, bo (eI .i64) x_list), (6, ii (((List.length x_list) : Nat) : Int)), (7, ii (w64 (s2 + (1 : Int)))), (13, bb (!v3)), (14, ii (w64 (s2 + (1 : Int))))]) [] 0 ?_
   exact hN2 (w64 (s2 + (1 : Int))) _ _ _ (some_some hh) (Ent.list2 [] rfl rfl (by decide) (rens_sp (by kernel_rfl) (rl_c (u := bo (eI .i64) x_list) (by kernel_rfl) (ren_bor (rens_same (noRefs_fl nr_eI))) (rl_c (u := ii (((List.length x_list) : Nat) : Int)) (by kernel_rfl) ren_i (rl_c (u := ii (w64 (s2 + (1 : Int)))) (by kernel_rfl) ren_i rl_n)))) hs_nil)
 refine cF hb ?_
 refine Aw.exit ?_
 refine then_x ?_
 refine hX2 _ _ _ _ _ (some_some hh) ?_
 intro hout
 rw [hout] at hk2
 refine blk_x ?_
 obtain rfl := some_some hk2
 exact hN1 () _ _ _ hk1 (Ent.list2 [] rfl rfl (by decide) (rens_sp (by kernel_rfl) rl_n) hs_nil)
def Lf7_r0 : List LOper := [oo 2 (.mv (.c (bb false)))]
def Lf7_r1 : List LOper := [om 3 0, oo 4 (.len (.t 3)), oo 5 (.bin .eql (.t 4) (.c (ii 64))), om 6 5, ⟨(some 7), (.mv (.t 0)), (some (6, true))⟩, ⟨(some 8), (.call 12 [(.t 7)]), (some (6, true))⟩, oo 9 (.pick (.t 6) (.t 8) (.c (bb false))), om 2 9]
def Lf7 : LFun := ⟨10, [(.tmp 2)], (.seq (.reg false Lf7_r0) (.seq (.reg false Lf7_r1) .ret))⟩
theorem low_impl_MemOk : lowFun Go.Proofs.Try.prog 7 = some Lf7 := by kernel_rfl
noncomputable def F_impl_MemOk (x_mem : List Int) : Option Bool :=
 cond (decide ((((List.length x_mem) : Nat) : Int) = (64 : Int)))
  (Option.bind (F_impl_wordsOk x_mem) fun v1 =>
  some v1)
  (some false)
theorem impl_MemOk_fn {x_mem : List Int} {R_ : Bool} (hh : F_impl_MemOk x_mem = some R_) : Fn Try.prog 7 [bo (eI .i64) x_mem] (.bool R_) := by
 unfold F_impl_MemOk at hh
 refine Fn.start low_impl_MemOk [0] (E := sp 10 [(0, bo (eI .i64) x_mem)]) (by kernel_rfl) (v := bb R_) (Hr := []) (k := 0) (by kernel_rfl) ?_
 refine sy [0] [] (sp 10 [(0, bo (eI .i64) x_mem)]) [] 0 ?_
 refine Aw.sreg [2] [] (yu 4 [(3, bo (eI .i64) x_mem), (4, ii (((List.length x_mem) : Nat) : Int)), (5, bb (decide ((((List.length x_mem) : Nat) : Int) = (64 : Int)))), (6, bb (decide ((((List.length x_mem) : Nat) : Int) = (64 : Int))))] [] 0 ?_)
 rcases cond_some hh with ⟨hb, hh⟩ | ⟨hb, hh⟩
 · refine yb 5 hb ?_
   refine yb 6 hb ?_
   refine yu 1 [(5, bb true), (6, bb true), (7, bo (eI .i64) x_mem)] [] 0 ?_
   obtain ⟨v1, hv1, hh⟩ := bind_some hh
   refine yg (.call 12 [(.t 7)]) (some 8) 6 true (oc (impl_wordsOk_fn hv1) ?_)
   refine yt (sp 10 [(2, bb v1)]) [] 0 ?_
   refine Aw.ret ?_
   rw [some_some hh]
   exact gvb
 refine yb 5 hb ?_
 refine yb 6 hb ?_
 refine yt (sp 10 [(2, bb false)]) [] 0 ?_
 refine Aw.ret ?_
 rw [some_some hh]
 exact gvb
def Lf5_r0 : List LOper := [oo 2 (.mv (.c (bb false)))]
def Lf5_r1 : List LOper := [oo 3 (.mv (.c (ii 0)))]
def Lf5_r2 : List LOper := [om 4 3, om 5 0, oo 6 (.len (.t 5)), oo 7 (.bin .lss (.t 4) (.t 6))]
def Lf5_r3 : List LOper := [om 10 0, om 11 3, oo 12 (.iadr 1 (.t 10) (.t 11)), oo 13 (.load false 1 (.t 12)), oo 14 (.call 11 [(.t 13)]), oo 15 (.un .not (.t 14))]
def Lf5_r4 : List LOper := [oo 2 (.mv (.c (bb false)))]
def Lf5_r5 : List LOper := [om 8 3, oo 9 (.bin .add (.t 8) (.c (ii 1))), om 3 9]
def Lf5_l6 : LCode := (.seq (.seq (.reg false Lf5_r2) (.cond (.t 7) .skip (.exit 0))) (.seq (.block 1 (.seq (.reg false Lf5_r3) (.cond (.t 15) (.seq (.reg false Lf5_r4) .ret) .skip))) (.reg false Lf5_r5)))
def Lf5_r7 : List LOper := [om 16 0, oo 17 (.len (.t 16)), oo 18 (.bin .eql (.t 17) (.c (ii 64))), om 2 18]
def Lf5 : LFun := ⟨19, [(.tmp 2)], (.seq (.reg false Lf5_r0) (.seq (.seq (.reg false Lf5_r1) (.block 0 (.loop Lf5_l6))) (.seq (.reg false Lf5_r7) .ret)))⟩
theorem low_spec_MemOk : lowFun Go.Proofs.Try.prog 5 = some Lf5 := by kernel_rfl
noncomputable def F_spec_MemOk_j1 (x_mem : List Int) (s1 : Unit) : Option Bool :=
 some (decide ((((List.length x_mem) : Nat) : Int) = (64 : Int)))
noncomputable def F_spec_MemOk_l2 (x_mem : List Int) (s2 : Int) : Option (LO Int (JO Unit Bool)) :=
 cond (decide (s2 < (((List.length x_mem) : Nat) : Int)))
  (grd ((0 : Int) ≤ s2 ∧ s2 < ((List.length x_mem : Nat) : Int)) (Option.bind (F_spec_WordOk (List.getD x_mem (Int.toNat s2) default)) fun v3 =>
   cond (!v3)
    (some (.ret (.out false)))
    (some (.next (w64 (s2 + (1 : Int)))))))
  (some (.ret (.go ())))
noncomputable def F_spec_MemOk (x_mem : List Int) : Option Bool :=
 Option.bind (Option.bind (iter (F_spec_MemOk_l2 x_mem) (0 : Int)) LO.val) fun j1 =>
  JO.run j1 (F_spec_MemOk_j1 x_mem)
theorem spec_MemOk_fn {x_mem : List Int} {R_ : Bool} (hh : F_spec_MemOk x_mem = some R_) : Fn Try.prog 5 [bo (eI .i64) x_mem] (.bool R_) := by
 unfold F_spec_MemOk at hh
 refine Fn.start low_spec_MemOk [0] (E := sp 19 [(0, bo (eI .i64) x_mem)]) (by kernel_rfl) (v := bb R_) (Hr := []) (k := 0) (by kernel_rfl) ?_
 refine sy [0] [] (sp 19 [(0, bo (eI .i64) x_mem)]) [] 0 ?_
 obtain ⟨j1, hh, hk1⟩ := bind_some hh
 refine Aw.join (S := Unit) (fun s1 => sp 19 [(0, bo (eI .i64) x_mem)]) (fun s1 => []) 0 (fun s1 => F_spec_MemOk_j1 x_mem s1 = some R_) ?_ ?_
 · intro s1 hh
   unfold F_spec_MemOk_j1 at hh
   refine sy [2] [] (sp 19 [(2, bb (decide ((((List.length x_mem) : Nat) : Int) = (64 : Int))))]) [] 0 ?_
   refine Aw.ret ?_
   rw [some_some hh]
   exact gvb
 intro Q1 hN1 hR1 hE1
 refine sy [0, 3] [] (sp 19 [(0, bo (eI .i64) x_mem), (3, ii 0)]) [] 0 ?_
 refine Aw.block ?_
 obtain ⟨o2, hi2, hk2⟩ := bind_some hh
 refine Aw.iter (fun (s2 : Int) => sp 19 [(0, bo (eI .i64) x_mem), (3, ii s2)]) (fun (s2 : Int) => []) 0 hi2 (Ent.list2 [] rfl rfl (by decide) (rens_sp (by kernel_rfl) (rl_c (u := bo (eI .i64) x_mem) (by kernel_rfl) (ren_bor (rens_same (noRefs_fl nr_eI))) (rl_c (u := ii 0) (by kernel_rfl) ren_i rl_n))) hs_nil) ?_
 intro s2 u2 Q2 hh hN2 hX2 hR2
 unfold F_spec_MemOk_l2 at hh
 refine Aw.seq ?_
 refine sy [0, 3, 7] [] (sp 19 [(0, bo (eI .i64) x_mem), (3, ii s2), (7, bb (decide (s2 < (((List.length x_mem) : Nat) : Int))))]) [] 0 ?_
 rcases cond_some hh with ⟨hb, hh⟩ | ⟨hb, hh⟩
 · refine cT hb ?_
   refine Aw.xskip (fun _ _ _ hq => then_m hq) ?_
   refine Aw.seq ?_
   refine Aw.block ?_
   refine Aw.sreg [0, 3, 15] [] (yj 2  (sp 19 [(0, bo (eI .i64) x_mem), (3, ii s2), (7, bb (decide (s2 < (((List.length x_mem) : Nat) : Int)))), (10, bo (eI .i64) x_mem), (11, ii s2)]) [] 0 ?_)
   obtain ⟨hg24, hh⟩ := grd_some hh
   refine ys (.iadr 1 (.t 10) (.t 11)) (some 12) (op_iadr (kd := .i64) (c := (eI .i64)) (xs := x_mem) len_eI (by decide) (by kernel_rfl) (by kernel_rfl) hg24 ?_)
   refine ys (.load false 1 (.t 12)) (some 13) (op_loadb (c := (eI .i64)) (xs := x_mem) (o := Int.toNat s2 * 1) (i := (Int.toNat s2)) (off := 0) (v := ii (List.getD x_mem (Int.toNat s2) default)) len_eI (by kernel_rfl) (by omega) (by omega) (by decide) (by kernel_rfl) ?_)
   obtain ⟨v3, hv3, hh⟩ := bind_some hh
   refine ys (.call 11 [(.t 13)]) (some 14) (oc (spec_WordOk_fn hv3) ?_)
   refine yt (sp 19 [(0, bo (eI .i64) x_mem), (3, ii s2), (15, bb (!v3))]) [] 0 ?_
   rcases cond_some hh with ⟨hb, hh⟩ | ⟨hb, hh⟩
   · refine cT hb ?_
     refine sy [2] [] (sp 19 [(2, bb false)]) [] 0 ?_
     refine Aw.ret ?_
     refine blk_r (then_r ?_)
     refine hR2 _ _ _ _ (some_some hh) ?_
     intro hout
     rw [hout] at hk2
     refine blk_r ?_
     obtain rfl := some_some hk2
     refine hR1 _ _ _ ?_
     refine ?_
     rw [some_some hk1]
     exact gvb
   refine cF hb ?_
   refine Aw.xskip (fun _ _ _ hq => blk_m (then_m hq)) ?_
   refine Aw.oreg ?_
   refine ye (sp 19 [(0, bo (eI .i64) x_mem), (3, ii (w64 (s2 + (1 : Int)))), (8, ii s2), (9, ii (w64 (s2 + (1 : Int)))), (15, bb (!v3))]) [] 0 ?_
   exact hN2 (w64 (s2 + (1 : Int))) _ _ _ (some_some hh) (Ent.list2 [] rfl rfl (by decide) (rens_sp (by kernel_rfl) (rl_c (u := bo (eI .i64) x_mem) (by kernel_rfl) (ren_bor (rens_same (noRefs_fl nr_eI))) (rl_c (u := ii (w64 (s2 + (1 : Int)))) (by kernel_rfl) ren_i rl_n))) hs_nil)
 refine cF hb ?_
 refine Aw.exit ?_
 refine then_x ?_
 refine hX2 _ _ _ _ _ (some_some hh) ?_
 intro hout
 rw [hout] at hk2
 refine blk_x ?_
 obtain rfl := some_some hk2
 exact hN1 () _ _ _ hk1 (Ent.list2 [] rfl rfl (by decide) (rens_sp (by kernel_rfl) (rl_c (u := bo (eI .i64) x_mem) (by kernel_rfl) (ren_bor (rens_same (noRefs_fl nr_eI))) rl_n)) hs_nil)
end Go.Proofs.Ytmjphjphgjmojaa
