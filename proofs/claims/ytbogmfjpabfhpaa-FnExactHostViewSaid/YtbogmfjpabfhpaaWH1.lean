/- Plain functions of the program, and that it hands back what they say. Made by program. -/
import Derived.Test.YtbogmfjpabfhpaaWT
import Derived.Test.YtbogmfjpabfhpaaProg
namespace Go.Proofs.Ytbogmfjpabfhpaa
open Go.RowKit
set_option maxRecDepth 100000
set_option linter.all false
set_option maxHeartbeats 0
def Lf86_r0 : List LOper := [oo 2 (.mv (.c .nil))]
def Lf86_r1 : List LOper := [om 5 0, oo 6 (.len (.t 5)), oo 7 (.mk 3 1 8 [(ii 0)] (.t 6)), om 3 7]
def Lf86_r2 : List LOper := [oo 4 (.mv (.c (ii 0)))]
def Lf86_r3 : List LOper := [om 8 4, om 9 0, oo 10 (.len (.t 9)), oo 11 (.bin .lss (.t 8) (.t 10))]
def Lf86_r4 : List LOper := [om 14 3, om 15 4, om 16 0, om 17 4, oo 18 (.iadr 1 (.t 16) (.t 17)), oo 19 (.load false 1 (.t 18)), oo 20 (.iadr 1 (.t 14) (.t 15)), ⟨none, (.store 1 (.t 20) (.t 19)), none⟩]
def Lf86_r5 : List LOper := [om 12 4, oo 13 (.bin .add (.t 12) (.c (ii 1))), om 4 13]
def Lf86_l6 : LCode := (.seq (.seq (.reg false Lf86_r3) (.cond (.t 11) .skip (.exit 0))) (.seq (.block 1 (.reg false Lf86_r4)) (.reg false Lf86_r5)))
def Lf86_r7 : List LOper := [om 21 3, om 2 21]
def Lf86 : LFun := ⟨22, [(.tmp 2)], (.seq (.reg false Lf86_r0) (.seq (.reg false Lf86_r1) (.seq (.seq (.reg false Lf86_r2) (.block 0 (.loop Lf86_l6))) (.seq (.reg false Lf86_r7) .ret))))⟩
theorem low_laws_toIntS : lowFun Go.Proofs.Try.prog 86 = some Lf86 := by kernel_rfl
noncomputable def F_laws_toIntS_j1  (s1 : (List Int)) : Option (List Int) :=
 some s1
noncomputable def F_laws_toIntS_l2 (x_a : List Int) (s2 : (List Int) × Int) : Option (LO ((List Int) × Int) (JO (List Int) (List Int))) :=
 cond (decide (s2.2 < (((List.length x_a) : Nat) : Int)))
  (grd ((0 : Int) ≤ s2.2 ∧ s2.2 < ((List.length x_a : Nat) : Int)) (grd ((0 : Int) ≤ s2.2 ∧ s2.2 < (((List.length s2.1) : Nat) : Int)) (some (.next ((List.set s2.1 (Int.toNat s2.2) (List.getD x_a (Int.toNat s2.2) default)), (w64 (s2.2 + (1 : Int))))))))
  (some (.ret (.go s2.1)))
noncomputable def F_laws_toIntS (x_a : List Int) : Option (List Int) :=
 grd ((0 : Int) ≤ (((List.length x_a) : Nat) : Int) ∧ (((List.length x_a) : Nat) : Int) * 8 ≤ 2 ^ 47 ∧ (((List.length x_a) : Nat) : Int) ≤ 2 ^ 47) (Option.bind (Option.bind (iter (F_laws_toIntS_l2 x_a) ((List.replicate (Int.toNat (((List.length x_a) : Nat) : Int)) (0 : Int)), (0 : Int))) LO.val) fun j1 =>
  JO.run j1 (F_laws_toIntS_j1))
theorem laws_toIntS_fn {x_a : List Int} {R_ : (List Int)} (hh : F_laws_toIntS x_a = some R_) : Fn Try.prog 86 [bo (eI .i64) x_a] (.own 3 1 (List.length R_) (fl (eI .i64) R_)) := by
 unfold F_laws_toIntS at hh
 refine Fn.start low_laws_toIntS [0] (E := sp 22 [(0, bo (eI .i64) x_a)]) (by kernel_rfl) (v := sw 0 R_) (Hr := [(0, some ⟨3, (fl (eI .i64) R_)⟩)]) (k := 1) (by kernel_rfl) ?_
 refine sy [0] [] (sp 22 [(0, bo (eI .i64) x_a)]) [] 0 ?_
 refine Aw.sreg [0, 3] [0] (yu 2 [(5, bo (eI .i64) x_a), (6, ii (((List.length x_a) : Nat) : Int))] [] 0 ?_)
 obtain ⟨hg50, hh⟩ := grd_some hh
 refine ys (.mk 3 1 8 [(ii 0)] (.t 6)) (some 7) (op_mk (c := (eI .i64)) (d := (0 : Int)) (k := (((List.length x_a) : Nat) : Int)) (by kernel_rfl) hg50 (by kernel_rfl) ?_)
 let q1 : Root := ⟨3, (fl (eI .i64) (List.replicate (Int.toNat (((List.length x_a) : Nat) : Int)) (0 : Int)))⟩
 refine yt (sp 22 [(0, bo (eI .i64) x_a), (3, .sref 0 [] 0 (List.length (List.replicate (Int.toNat (((List.length x_a) : Nat) : Int)) (0 : Int))) 1)]) [(0, some q1)] 1 ?_
 obtain ⟨j1, hh, hk1⟩ := bind_some hh
 refine Aw.join (S := (List Int)) (fun s1 => sp 22 [(3, sw 0 s1)]) (fun s1 => [(0, some ⟨3, (fl (eI .i64) s1)⟩)]) 1 (fun s1 => F_laws_toIntS_j1 s1 = some R_) ?_ ?_
 · intro s1 hh
   unfold F_laws_toIntS_j1 at hh
   refine sy [2] [0] (sp 22 [(2, sw 0 s1)]) [(0, some ⟨3, (fl (eI .i64) s1)⟩)] 1 ?_
   refine Aw.ret ?_
   rw [some_some hh]
   exact gives (r' := sw 0 s1) (by kernel_rfl) (Ent.list [some 0] rfl rfl (Nat.zero_le _) (rens_1 ren_sx) (hq ⟨3, (fl (eI .i64) s1)⟩ (rens_same (noRefs_fl nr_eI)) hs_nil))
 intro Q1 hN1 hR1 hE1
 refine sy [0, 3, 4] [0] (sp 22 [(0, bo (eI .i64) x_a), (3, .sref 0 [] 0 (List.length (List.replicate (Int.toNat (((List.length x_a) : Nat) : Int)) (0 : Int))) 1), (4, ii 0)]) [(0, some q1)] 1 ?_
 refine Aw.block ?_
 obtain ⟨o2, hi2, hk2⟩ := bind_some hh
 refine Aw.iter (fun (s2 : (List Int) × Int) => sp 22 [(0, bo (eI .i64) x_a), (3, sw 0 s2.1), (4, ii s2.2)]) (fun (s2 : (List Int) × Int) => [(0, some ⟨3, (fl (eI .i64) s2.1)⟩)]) 1 hi2 (Ent.list2 [some 0] rfl rfl (by decide) (rens_sp (by kernel_rfl) (rl_c (u := bo (eI .i64) x_a) (by kernel_rfl) (ren_bor (rens_same (noRefs_fl nr_eI))) (rl_c (u := .sref 0 [] 0 (List.length (List.replicate (Int.toNat (((List.length x_a) : Nat) : Int)) (0 : Int))) 1) (by kernel_rfl) ren_sx (rl_c (u := ii 0) (by kernel_rfl) ren_i rl_n)))) (hq q1 (rens_same (noRefs_fl nr_eI)) hs_nil)) ?_
 intro s2 u2 Q2 hh hN2 hX2 hR2
 unfold F_laws_toIntS_l2 at hh
 refine Aw.seq ?_
 refine sy [0, 3, 4, 11] [0] (sp 22 [(0, bo (eI .i64) x_a), (3, sw 0 s2.1), (4, ii s2.2), (11, bb (decide (s2.2 < (((List.length x_a) : Nat) : Int))))]) [(0, some ⟨3, (fl (eI .i64) s2.1)⟩)] 1 ?_
 rcases cond_some hh with ⟨hb, hh⟩ | ⟨hb, hh⟩
 · refine cT hb ?_
   refine Aw.xskip (fun _ _ _ hq => then_m hq) ?_
   refine Aw.seq ?_
   refine Aw.block ?_
   refine Aw.xreg [0, 3, 4] [0] (fun _ _ _ hq => blk_m (then_m hq)) ?_
   refine yj 4  (sp 22 [(0, bo (eI .i64) x_a), (3, sw 0 s2.1), (4, ii s2.2), (11, bb (decide (s2.2 < (((List.length x_a) : Nat) : Int)))), (14, sw 0 s2.1), (15, ii s2.2), (16, bo (eI .i64) x_a), (17, ii s2.2)]) [(0, some ⟨3, (fl (eI .i64) s2.1)⟩)] 1 ?_
   obtain ⟨hg48, hh⟩ := grd_some hh
   refine ys (.iadr 1 (.t 16) (.t 17)) (some 18) (op_iadr (kd := .i64) (c := (eI .i64)) (xs := x_a) len_eI (by decide) (by kernel_rfl) (by kernel_rfl) hg48 ?_)
   refine ys (.load false 1 (.t 18)) (some 19) (op_loadb (c := (eI .i64)) (xs := x_a) (o := Int.toNat s2.2 * 1) (i := (Int.toNat s2.2)) (off := 0) (v := ii (List.getD x_a (Int.toNat s2.2) default)) len_eI (by kernel_rfl) (by omega) (by omega) (by decide) (by kernel_rfl) ?_)
   obtain ⟨hg49, hh⟩ := grd_some hh
   refine yjc 1 [(0 : Int) ≤ s2.2 ∧ s2.2 < (((List.length s2.1) : Nat) : Int)] (sp 22 [(0, bo (eI .i64) x_a), (3, sw 0 s2.1), (4, ii s2.2), (11, bb (decide (s2.2 < (((List.length x_a) : Nat) : Int)))), (14, sw 0 s2.1), (15, ii s2.2), (16, bo (eI .i64) x_a), (17, ii s2.2), (18, .bptr (fl (eI .i64) x_a) (Int.toNat s2.2 * 1)), (19, ii (List.getD x_a (Int.toNat s2.2) default)), (20, .ptr 0 [] (0 + (Int.toNat s2.2) * 1))]) [(0, some ⟨3, (fl (eI .i64) s2.1)⟩)] 1 (.cons hg49 .nil) ?_
   let q2 : Root := ⟨3, (fl (eI .i64) (List.set s2.1 (Int.toNat s2.2) (List.getD x_a (Int.toNat s2.2) default)))⟩
   refine ys (.store 1 (.t 20) (.t 19)) none (op_store (c := (eI .i64)) (xs := s2.1) (e := 3) (r := 0) (π := []) (o := 0 + (Int.toNat s2.2) * 1) (i := (Int.toNat s2.2)) (off := 0) (vs := [ii (List.getD x_a (Int.toNat s2.2) default)]) (y := (List.getD x_a (Int.toNat s2.2) default)) (H' := [(0, some q2), (0, some ⟨3, (fl (eI .i64) s2.1)⟩)]) len_eI (by kernel_rfl) (by kernel_rfl) (by kernel_rfl) (by kernel_rfl) (by omega) (by omega) (by decide) (by kernel_rfl) (by kernel_rfl) ?_)
   refine yt (sp 22 [(0, bo (eI .i64) x_a), (3, sw 0 s2.1), (4, ii s2.2)]) [(0, some q2)] 1 ?_
   refine Aw.oreg ?_
   refine ye (sp 22 [(0, bo (eI .i64) x_a), (3, sw 0 s2.1), (4, ii (w64 (s2.2 + (1 : Int)))), (12, ii s2.2), (13, ii (w64 (s2.2 + (1 : Int))))]) [(0, some q2)] 1 ?_
   exact hN2 ((List.set s2.1 (Int.toNat s2.2) (List.getD x_a (Int.toNat s2.2) default)), (w64 (s2.2 + (1 : Int)))) _ _ _ (some_some hh) (Ent.list2 [some 0] rfl rfl (by decide) (rens_sp (by kernel_rfl) (rl_c (u := bo (eI .i64) x_a) (by kernel_rfl) (ren_bor (rens_same (noRefs_fl nr_eI))) (rl_c (u := sw 0 s2.1) (by kernel_rfl) ren_sx (rl_c (u := ii (w64 (s2.2 + (1 : Int)))) (by kernel_rfl) ren_i rl_n)))) (hq q2 (rens_same (noRefs_fl nr_eI)) hs_nil))
 refine cF hb ?_
 refine Aw.exit ?_
 refine then_x ?_
 refine hX2 _ _ _ _ _ (some_some hh) ?_
 intro hout
 rw [hout] at hk2
 refine blk_x ?_
 obtain rfl := some_some hk2
 exact hN1 s2.1 _ _ _ hk1 (Ent.list2 [some 0] rfl rfl (by decide) (rens_sp (by kernel_rfl) (rl_c (u := sw 0 s2.1) (by kernel_rfl) ren_sx rl_n)) (hq ⟨3, (fl (eI .i64) s2.1)⟩ (rens_same (noRefs_fl nr_eI)) hs_nil))
def Lf95_r0 : List LOper := [oo 1 (.box 71 (.t 0)), oo 2 (.fresh 36 [.nil, (ii 0), (ii 0), (ii 0), (ii 0), (bb false), (ii 0), (ii 0), (ii 0), (bb false), (bb false), (bb false), (bb false)])]
def Lf95_r1 : List LOper := [oo 3 (.fresh 36 [.nil, (ii 0), (ii 0), (ii 0), (ii 0), (bb false), (ii 0), (ii 0), (ii 0), (bb false), (bb false), (bb false), (bb false)])]
def Lf95_r2 : List LOper := [oo 4 (.fadr 0 (.t 1)), oo 5 (.load false 1 (.t 4)), oo 6 (.call 86 [(.t 5)]), oo 7 (.fadr 0 (.t 3)), ⟨none, (.store 1 (.t 7) (.t 6)), none⟩]
def Lf95_r3 : List LOper := [oo 8 (.fadr 1 (.t 1)), oo 9 (.load false 1 (.t 8)), oo 10 (.fadr 1 (.t 3)), ⟨none, (.store 1 (.t 10) (.t 9)), none⟩]
def Lf95_r4 : List LOper := [oo 11 (.fadr 2 (.t 1)), oo 12 (.load false 1 (.t 11)), oo 13 (.fadr 2 (.t 3)), ⟨none, (.store 1 (.t 13) (.t 12)), none⟩]
def Lf95_r5 : List LOper := [oo 14 (.fadr 3 (.t 1)), oo 15 (.load false 1 (.t 14)), oo 16 (.fadr 3 (.t 3)), ⟨none, (.store 1 (.t 16) (.t 15)), none⟩]
def Lf95_r6 : List LOper := [oo 17 (.fadr 4 (.t 1)), oo 18 (.load false 1 (.t 17)), oo 19 (.fadr 4 (.t 3)), ⟨none, (.store 1 (.t 19) (.t 18)), none⟩]
def Lf95_r7 : List LOper := [oo 20 (.fadr 5 (.t 1)), oo 21 (.load false 1 (.t 20)), oo 22 (.fadr 5 (.t 3)), ⟨none, (.store 1 (.t 22) (.t 21)), none⟩]
def Lf95_r8 : List LOper := [oo 23 (.fadr 6 (.t 1)), oo 24 (.load false 1 (.t 23)), oo 25 (.fadr 6 (.t 3)), ⟨none, (.store 1 (.t 25) (.t 24)), none⟩]
def Lf95_r9 : List LOper := [oo 26 (.fadr 7 (.t 1)), oo 27 (.load false 1 (.t 26)), oo 28 (.fadr 7 (.t 3)), ⟨none, (.store 1 (.t 28) (.t 27)), none⟩]
def Lf95_r10 : List LOper := [oo 29 (.fadr 8 (.t 1)), oo 30 (.load false 1 (.t 29)), oo 31 (.fadr 8 (.t 3)), ⟨none, (.store 1 (.t 31) (.t 30)), none⟩]
def Lf95_r11 : List LOper := [oo 32 (.fadr 9 (.t 1)), oo 33 (.load false 1 (.t 32)), oo 34 (.fadr 9 (.t 3)), ⟨none, (.store 1 (.t 34) (.t 33)), none⟩]
def Lf95_r12 : List LOper := [oo 35 (.fadr 10 (.t 1)), oo 36 (.load false 1 (.t 35)), oo 37 (.fadr 10 (.t 3)), ⟨none, (.store 1 (.t 37) (.t 36)), none⟩]
def Lf95_r13 : List LOper := [oo 38 (.fadr 11 (.t 1)), oo 39 (.load false 1 (.t 38)), oo 40 (.fadr 11 (.t 3)), ⟨none, (.store 1 (.t 40) (.t 39)), none⟩]
def Lf95_r14 : List LOper := [oo 41 (.fadr 12 (.t 1)), oo 42 (.load false 1 (.t 41)), oo 43 (.fadr 12 (.t 3)), ⟨none, (.store 1 (.t 43) (.t 42)), none⟩]
def Lf95_r15 : List LOper := [oo 44 (.load true 13 (.t 3)), ⟨none, (.store 13 (.t 2) (.t 44)), none⟩]
def Lf95 : LFun := ⟨45, [(.cell 2 true 13)], (.seq (.reg false Lf95_r0) (.seq (.reg false Lf95_r1) (.seq (.reg false Lf95_r2) (.seq (.reg false Lf95_r3) (.seq (.reg false Lf95_r4) (.seq (.reg false Lf95_r5) (.seq (.reg false Lf95_r6) (.seq (.reg false Lf95_r7) (.seq (.reg false Lf95_r8) (.seq (.reg false Lf95_r9) (.seq (.reg false Lf95_r10) (.seq (.reg false Lf95_r11) (.seq (.reg false Lf95_r12) (.seq (.reg false Lf95_r13) (.seq (.reg false Lf95_r14) (.seq (.reg false Lf95_r15) .ret))))))))))))))))⟩
theorem low_laws_toCore : lowFun Go.Proofs.Try.prog 95 = some Lf95 := by kernel_rfl
noncomputable def F_laws_toCore (x_a : DCore) : Option DCore :=
 Option.bind (F_laws_toIntS x_a.Regs) fun v1 =>
 some (DCore.mk v1 x_a.Pc x_a.Root x_a.Vector x_a.Saved x_a.SavedUser x_a.Cause x_a.Bad x_a.Timer x_a.Waits x_a.User x_a.On x_a.Stopped)
theorem laws_toCore_fn {x_a : DCore} {R_ : DCore} (hh : F_laws_toCore x_a = some R_) : Fn Try.prog 95 [.agg (bo (eI .i64) x_a.Regs :: ru36 x_a [])] (.agg (.own 3 1 (List.length R_.Regs) (fl (eI .i64) R_.Regs) :: ru36 R_ [])) := by
 unfold F_laws_toCore at hh
 refine Fn.start low_laws_toCore [0] (E := sp 45 [(0, .agg (B_36 x_a))]) (by kernel_rfl) (v := .agg (sw 0 R_.Regs :: ru36 R_ [])) (Hr := [(0, some ⟨3, (fl (eI .i64) R_.Regs)⟩)]) (k := 1) (by kernel_rfl) ?_
 refine Aw.sreg [1, 2] [0, 1] ?_
 let q1 : Root := ⟨71, (bo (eI .i64) x_a.Regs :: ru36 x_a [])⟩
 refine yt (sp 45 [(1, pp 0), (2, pp 1)]) [(0, some q1), (1, some ⟨36, (.nil :: zru36 [])⟩)] 2 ?_
 refine sy [1, 2, 3] [0, 1, 2] (sp 45 [(1, pp 0), (2, pp 1), (3, pp 2)]) [(0, some q1), (1, some ⟨36, (.nil :: zru36 [])⟩), (2, some ⟨36, (.nil :: zru36 [])⟩)] 3 ?_
 refine Aw.sreg [1, 2, 3] [0, 1, 2, 3] (yu 2 [(4, pp 0), (5, bo (eI .i64) x_a.Regs)] [(0, some q1), (1, some ⟨36, (.nil :: zru36 [])⟩), (2, some ⟨36, (.nil :: zru36 [])⟩)] 3 ?_)
 obtain ⟨v1, hv1, hh⟩ := bind_some hh
 refine ys (.call 86 [(.t 5)]) (some 6) (op_call (r := .own 3 1 (List.length v1) (fl (eI .i64) v1)) (v := sw 3 v1) (Hr := [(3, some ⟨3, (fl (eI .i64) v1)⟩)]) (n' := 4) (laws_toIntS_fn hv1) (clz_v (vs := [bo (eI .i64) x_a.Regs]) (by kernel_rfl) (clz_c (clo_same (clean_bor (cleans_fl cl_eI))) clz_n)) (by simp only [AV.noRef, noRefs, Bool.and_self, noRefs_fl nr_eI]) (by simp only [AV.noBor, noBors, Bool.and_self, noBors_fl nb_eI]) (by kernel_rfl) ?_)
 refine yt (sp 45 [(1, pp 0), (2, pp 1), (3, pp 2)]) [(0, some q1), (1, some ⟨36, (.nil :: zru36 [])⟩), (2, some ⟨36, (sw 3 v1 :: zru36 [])⟩), (3, some ⟨3, (fl (eI .i64) v1)⟩)] 4 ?_
 refine sy [1, 2, 3] [0, 1, 2, 3] (sp 45 [(1, pp 0), (2, pp 1), (3, pp 2)]) [(0, some q1), (1, some ⟨36, (.nil :: zru36 [])⟩), (2, some ⟨36, [sw 3 v1, ii x_a.Pc, ii 0, ii 0, ii 0, bb false, ii 0, ii 0, ii 0, bb false, bb false, bb false, bb false]⟩), (3, some ⟨3, (fl (eI .i64) v1)⟩)] 4 ?_
 refine sy [1, 2, 3] [0, 1, 2, 3] (sp 45 [(1, pp 0), (2, pp 1), (3, pp 2)]) [(0, some q1), (1, some ⟨36, (.nil :: zru36 [])⟩), (2, some ⟨36, [sw 3 v1, ii x_a.Pc, ii x_a.Root, ii 0, ii 0, bb false, ii 0, ii 0, ii 0, bb false, bb false, bb false, bb false]⟩), (3, some ⟨3, (fl (eI .i64) v1)⟩)] 4 ?_
 refine sy [1, 2, 3] [0, 1, 2, 3] (sp 45 [(1, pp 0), (2, pp 1), (3, pp 2)]) [(0, some q1), (1, some ⟨36, (.nil :: zru36 [])⟩), (2, some ⟨36, [sw 3 v1, ii x_a.Pc, ii x_a.Root, ii x_a.Vector, ii 0, bb false, ii 0, ii 0, ii 0, bb false, bb false, bb false, bb false]⟩), (3, some ⟨3, (fl (eI .i64) v1)⟩)] 4 ?_
 refine sy [1, 2, 3] [0, 1, 2, 3] (sp 45 [(1, pp 0), (2, pp 1), (3, pp 2)]) [(0, some q1), (1, some ⟨36, (.nil :: zru36 [])⟩), (2, some ⟨36, [sw 3 v1, ii x_a.Pc, ii x_a.Root, ii x_a.Vector, ii x_a.Saved, bb false, ii 0, ii 0, ii 0, bb false, bb false, bb false, bb false]⟩), (3, some ⟨3, (fl (eI .i64) v1)⟩)] 4 ?_
 refine sy [1, 2, 3] [0, 1, 2, 3] (sp 45 [(1, pp 0), (2, pp 1), (3, pp 2)]) [(0, some q1), (1, some ⟨36, (.nil :: zru36 [])⟩), (2, some ⟨36, [sw 3 v1, ii x_a.Pc, ii x_a.Root, ii x_a.Vector, ii x_a.Saved, bb x_a.SavedUser, ii 0, ii 0, ii 0, bb false, bb false, bb false, bb false]⟩), (3, some ⟨3, (fl (eI .i64) v1)⟩)] 4 ?_
 refine sy [1, 2, 3] [0, 1, 2, 3] (sp 45 [(1, pp 0), (2, pp 1), (3, pp 2)]) [(0, some q1), (1, some ⟨36, (.nil :: zru36 [])⟩), (2, some ⟨36, [sw 3 v1, ii x_a.Pc, ii x_a.Root, ii x_a.Vector, ii x_a.Saved, bb x_a.SavedUser, ii x_a.Cause, ii 0, ii 0, bb false, bb false, bb false, bb false]⟩), (3, some ⟨3, (fl (eI .i64) v1)⟩)] 4 ?_
 refine sy [1, 2, 3] [0, 1, 2, 3] (sp 45 [(1, pp 0), (2, pp 1), (3, pp 2)]) [(0, some q1), (1, some ⟨36, (.nil :: zru36 [])⟩), (2, some ⟨36, [sw 3 v1, ii x_a.Pc, ii x_a.Root, ii x_a.Vector, ii x_a.Saved, bb x_a.SavedUser, ii x_a.Cause, ii x_a.Bad, ii 0, bb false, bb false, bb false, bb false]⟩), (3, some ⟨3, (fl (eI .i64) v1)⟩)] 4 ?_
 refine sy [1, 2, 3] [0, 1, 2, 3] (sp 45 [(1, pp 0), (2, pp 1), (3, pp 2)]) [(0, some q1), (1, some ⟨36, (.nil :: zru36 [])⟩), (2, some ⟨36, [sw 3 v1, ii x_a.Pc, ii x_a.Root, ii x_a.Vector, ii x_a.Saved, bb x_a.SavedUser, ii x_a.Cause, ii x_a.Bad, ii x_a.Timer, bb false, bb false, bb false, bb false]⟩), (3, some ⟨3, (fl (eI .i64) v1)⟩)] 4 ?_
 refine sy [1, 2, 3] [0, 1, 2, 3] (sp 45 [(1, pp 0), (2, pp 1), (3, pp 2)]) [(0, some q1), (1, some ⟨36, (.nil :: zru36 [])⟩), (2, some ⟨36, [sw 3 v1, ii x_a.Pc, ii x_a.Root, ii x_a.Vector, ii x_a.Saved, bb x_a.SavedUser, ii x_a.Cause, ii x_a.Bad, ii x_a.Timer, bb x_a.Waits, bb false, bb false, bb false]⟩), (3, some ⟨3, (fl (eI .i64) v1)⟩)] 4 ?_
 refine sy [1, 2, 3] [0, 1, 2, 3] (sp 45 [(1, pp 0), (2, pp 1), (3, pp 2)]) [(0, some q1), (1, some ⟨36, (.nil :: zru36 [])⟩), (2, some ⟨36, [sw 3 v1, ii x_a.Pc, ii x_a.Root, ii x_a.Vector, ii x_a.Saved, bb x_a.SavedUser, ii x_a.Cause, ii x_a.Bad, ii x_a.Timer, bb x_a.Waits, bb x_a.User, bb false, bb false]⟩), (3, some ⟨3, (fl (eI .i64) v1)⟩)] 4 ?_
 refine sy [1, 2, 3] [0, 1, 2, 3] (sp 45 [(1, pp 0), (2, pp 1), (3, pp 2)]) [(0, some q1), (1, some ⟨36, (.nil :: zru36 [])⟩), (2, some ⟨36, [sw 3 v1, ii x_a.Pc, ii x_a.Root, ii x_a.Vector, ii x_a.Saved, bb x_a.SavedUser, ii x_a.Cause, ii x_a.Bad, ii x_a.Timer, bb x_a.Waits, bb x_a.User, bb x_a.On, bb false]⟩), (3, some ⟨3, (fl (eI .i64) v1)⟩)] 4 ?_
 refine Aw.sreg [2, 3] [1, 2, 3] ?_
 let q2 : Root := ⟨36, (sw 3 v1 :: ru36 x_a [])⟩
 refine yt (sp 45 [(2, pp 1), (3, pp 2)]) [(1, some ⟨36, (.nil :: zru36 [])⟩), (2, some q2), (3, some ⟨3, (fl (eI .i64) v1)⟩)] 4 ?_
 refine sy [2] [1, 3] (sp 45 [(2, pp 1)]) [(1, some q2), (3, some ⟨3, (fl (eI .i64) v1)⟩)] 4 ?_
 refine Aw.ret ?_
 rw [some_some hh]
 exact gives (r' := .agg (sw 3 v1 :: ru36 x_a [])) (by kernel_rfl) (Ent.list [some 3] rfl rfl (Nat.zero_le _) (rens_1 (ren_agg (rens_c ren_sx (rens_i (rens_i (rens_i (rens_i (rens_b (rens_i (rens_i (rens_i (rens_b (rens_b (rens_b (rens_b rens_n))))))))))))))) (hq ⟨3, (fl (eI .i64) v1)⟩ (rens_same (noRefs_fl nr_eI)) hs_nil))
def Lf49_r0 : List LOper := [oo 4 (.mv (.c (bb false)))]
def Lf49_r1 : List LOper := [om 6 0, oo 7 (.len (.t 6)), om 8 1, oo 9 (.len (.t 8)), oo 10 (.bin .neq (.t 7) (.t 9))]
def Lf49_r2 : List LOper := [oo 4 (.mv (.c (bb false)))]
def Lf49_r3 : List LOper := [oo 5 (.mv (.c (ii 0)))]
def Lf49_r4 : List LOper := [om 11 5, om 12 0, oo 13 (.len (.t 12)), oo 14 (.bin .lss (.t 11) (.t 13))]
def Lf49_r5 : List LOper := [om 17 0, om 18 5, oo 19 (.iadr 1 (.t 17) (.t 18)), oo 20 (.load false 1 (.t 19)), om 21 1, om 22 5, oo 23 (.iadr 1 (.t 21) (.t 22)), oo 24 (.load false 1 (.t 23)), oo 25 (.bin .neq (.t 20) (.t 24))]
def Lf49_r6 : List LOper := [oo 4 (.mv (.c (bb false)))]
def Lf49_r7 : List LOper := [om 15 5, oo 16 (.bin .add (.t 15) (.c (ii 1))), om 5 16]
def Lf49_l8 : LCode := (.seq (.seq (.reg false Lf49_r4) (.cond (.t 14) .skip (.exit 0))) (.seq (.block 1 (.seq (.reg true Lf49_r5) (.cond (.t 25) (.seq (.reg false Lf49_r6) .ret) .skip))) (.reg false Lf49_r7)))
def Lf49_r9 : List LOper := [oo 4 (.mv (.c (bb true)))]
def Lf49 : LFun := ⟨26, [(.tmp 4)], (.seq (.reg false Lf49_r0) (.seq (.seq (.reg false Lf49_r1) (.cond (.t 10) (.seq (.reg false Lf49_r2) .ret) .skip)) (.seq (.seq (.reg false Lf49_r3) (.block 0 (.loop Lf49_l8))) (.seq (.reg false Lf49_r9) .ret))))⟩
theorem low_laws_eqIntS : lowFun Go.Proofs.Try.prog 49 = some Lf49 := by kernel_rfl
noncomputable def F_laws_eqIntS_j1  (s1 : Unit) : Option Bool :=
 some true
noncomputable def F_laws_eqIntS_l2 (x_a : List Int) (x_b : List Int) (s2 : Int) : Option (LO Int (JO Unit Bool)) :=
 cond (decide (s2 < (((List.length x_a) : Nat) : Int)))
  (grd ((0 : Int) ≤ s2 ∧ s2 < ((List.length x_a : Nat) : Int)) (grd ((0 : Int) ≤ s2 ∧ s2 < ((List.length x_b : Nat) : Int)) (cond (!decide ((List.getD x_a (Int.toNat s2) default) = (List.getD x_b (Int.toNat s2) default)))
   (some (.ret (.out false)))
   (some (.next (w64 (s2 + (1 : Int))))))))
  (some (.ret (.go ())))
noncomputable def F_laws_eqIntS (x_a : List Int) (x_b : List Int) : Option Bool :=
 cond (!decide ((((List.length x_a) : Nat) : Int) = (((List.length x_b) : Nat) : Int)))
  (some false)
  (Option.bind (Option.bind (iter (F_laws_eqIntS_l2 x_a x_b) (0 : Int)) LO.val) fun j1 =>
   JO.run j1 (F_laws_eqIntS_j1))
theorem laws_eqIntS_fn {x_a : List Int} {x_b : List Int} {R_ : Bool} (hh : F_laws_eqIntS x_a x_b = some R_) : Fn Try.prog 49 [bo (eI .i64) x_a, bo (eI .i64) x_b] (.bool R_) := by
 unfold F_laws_eqIntS at hh
 refine Fn.start low_laws_eqIntS [0, 1] (E := sp 26 [(0, bo (eI .i64) x_a), (1, bo (eI .i64) x_b)]) (by kernel_rfl) (v := bb R_) (Hr := []) (k := 0) (by kernel_rfl) ?_
 refine sy [0, 1] [] (sp 26 [(0, bo (eI .i64) x_a), (1, bo (eI .i64) x_b)]) [] 0 ?_
 refine Aw.seq ?_
 refine sy [0, 1, 10] [] (sp 26 [(0, bo (eI .i64) x_a), (1, bo (eI .i64) x_b), (10, bb (!decide ((((List.length x_a) : Nat) : Int) = (((List.length x_b) : Nat) : Int))))]) [] 0 ?_
 rcases cond_some hh with ⟨hb, hh⟩ | ⟨hb, hh⟩
 · refine cT hb ?_
   refine sy [4] [] (sp 26 [(4, bb false)]) [] 0 ?_
   refine Aw.ret ?_
   refine then_r ?_
   rw [some_some hh]
   exact gvb
 refine cF hb ?_
 refine Aw.xskip (fun _ _ _ hq => then_m hq) ?_
 obtain ⟨j1, hh, hk1⟩ := bind_some hh
 refine Aw.join (S := Unit) (fun s1 => sp 26 []) (fun s1 => []) 0 (fun s1 => F_laws_eqIntS_j1 s1 = some R_) ?_ ?_
 · intro s1 hh
   unfold F_laws_eqIntS_j1 at hh
   refine sy [4] [] (sp 26 [(4, bb true)]) [] 0 ?_
   refine Aw.ret ?_
   rw [some_some hh]
   exact gvb
 intro Q1 hN1 hR1 hE1
 refine sy [0, 1, 5] [] (sp 26 [(0, bo (eI .i64) x_a), (1, bo (eI .i64) x_b), (5, ii 0)]) [] 0 ?_
 refine Aw.block ?_
 obtain ⟨o2, hi2, hk2⟩ := bind_some hh
 refine Aw.iter (fun (s2 : Int) => sp 26 [(0, bo (eI .i64) x_a), (1, bo (eI .i64) x_b), (5, ii s2)]) (fun (s2 : Int) => []) 0 hi2 (Ent.list2 [] rfl rfl (by decide) (rens_sp (by kernel_rfl) (rl_c (u := bo (eI .i64) x_a) (by kernel_rfl) (ren_bor (rens_same (noRefs_fl nr_eI))) (rl_c (u := bo (eI .i64) x_b) (by kernel_rfl) (ren_bor (rens_same (noRefs_fl nr_eI))) (rl_c (u := ii 0) (by kernel_rfl) ren_i rl_n)))) hs_nil) ?_
 intro s2 u2 Q2 hh hN2 hX2 hR2
 unfold F_laws_eqIntS_l2 at hh
 refine Aw.seq ?_
 refine sy [0, 1, 5, 14] [] (sp 26 [(0, bo (eI .i64) x_a), (1, bo (eI .i64) x_b), (5, ii s2), (14, bb (decide (s2 < (((List.length x_a) : Nat) : Int))))]) [] 0 ?_
 rcases cond_some hh with ⟨hb, hh⟩ | ⟨hb, hh⟩
 · refine cT hb ?_
   refine Aw.xskip (fun _ _ _ hq => then_m hq) ?_
   refine Aw.seq ?_
   refine Aw.block ?_
   refine Aw.sregq [0, 1, 5, 25] ?_
   refine qc (cs := []) (E' := (sp 26 [(0, bo (eI .i64) x_a), (1, bo (eI .i64) x_b), (5, ii s2), (14, bb (decide (s2 < (((List.length x_a) : Nat) : Int)))), (17, bo (eI .i64) x_a), (18, ii s2)])) (pre := (List.take 2 Lf49_r5)) (L' := (List.drop 2 Lf49_r5)) (by kernel_rfl) (fun K => by kernel_rfl) .nil ?_
   obtain ⟨hg47, hh⟩ := grd_some hh
   refine qs (.iadr 1 (.t 17) (.t 18)) (some 19) (yq_q rfl (op_iadr (kd := .i64) (c := (eI .i64)) (xs := x_a) len_eI (by decide) (by kernel_rfl) (by kernel_rfl) hg47 ?_))
   refine qs (.load false 1 (.t 19)) (some 20) (yq_q rfl (op_loadb (c := (eI .i64)) (xs := x_a) (o := Int.toNat s2 * 1) (i := (Int.toNat s2)) (off := 0) (v := ii (List.getD x_a (Int.toNat s2) default)) len_eI (by kernel_rfl) (by omega) (by omega) (by decide) (by kernel_rfl) ?_))
   refine qc (cs := []) (E' := (sp 26 [(0, bo (eI .i64) x_a), (1, bo (eI .i64) x_b), (5, ii s2), (14, bb (decide (s2 < (((List.length x_a) : Nat) : Int)))), (17, bo (eI .i64) x_a), (18, ii s2), (19, .bptr (fl (eI .i64) x_a) (Int.toNat s2 * 1)), (20, ii (List.getD x_a (Int.toNat s2) default)), (21, bo (eI .i64) x_b), (22, ii s2)])) (pre := (List.take 2 (List.drop 4 Lf49_r5))) (L' := (List.drop 6 Lf49_r5)) (by kernel_rfl) (fun K => by kernel_rfl) .nil ?_
   obtain ⟨hg48, hh⟩ := grd_some hh
   refine qs (.iadr 1 (.t 21) (.t 22)) (some 23) (yq_q rfl (op_iadr (kd := .i64) (c := (eI .i64)) (xs := x_b) len_eI (by decide) (by kernel_rfl) (by kernel_rfl) hg48 ?_))
   refine qs (.load false 1 (.t 23)) (some 24) (yq_q rfl (op_loadb (c := (eI .i64)) (xs := x_b) (o := Int.toNat s2 * 1) (i := (Int.toNat s2)) (off := 0) (v := ii (List.getD x_b (Int.toNat s2) default)) len_eI (by kernel_rfl) (by omega) (by omega) (by decide) (by kernel_rfl) ?_))
   refine qct (cs := []) (E' := (sp 26 [(0, bo (eI .i64) x_a), (1, bo (eI .i64) x_b), (5, ii s2), (25, bb (!decide ((List.getD x_a (Int.toNat s2) default) = (List.getD x_b (Int.toNat s2) default))))])) (fun K => by kernel_rfl) .nil ?_
   rcases cond_some hh with ⟨hb, hh⟩ | ⟨hb, hh⟩
   · refine cT hb ?_
     refine sy [4] [] (sp 26 [(4, bb false)]) [] 0 ?_
     refine Aw.ret ?_
     refine blk_r (then_r ?_)
     refine hR2 _ _ _ _ (some_some hh) ?_
     intro hout
     rw [hout] at hk2
     refine blk_r ?_
     obtain rfl := some_some hk2
     refine hR1 _ _ _ ?_
     refine ?_
     rw [some_some hk1]
     exact gvb
   refine cF hb ?_
   refine Aw.xskip (fun _ _ _ hq => blk_m (then_m hq)) ?_
   refine Aw.oreg ?_
   refine ye (sp 26 [(0, bo (eI .i64) x_a), (1, bo (eI .i64) x_b), (5, ii (w64 (s2 + (1 : Int)))), (15, ii s2), (16, ii (w64 (s2 + (1 : Int)))), (25, bb (!decide ((List.getD x_a (Int.toNat s2) default) = (List.getD x_b (Int.toNat s2) default))))]) [] 0 ?_
   exact hN2 (w64 (s2 + (1 : Int))) _ _ _ (some_some hh) (Ent.list2 [] rfl rfl (by decide) (rens_sp (by kernel_rfl) (rl_c (u := bo (eI .i64) x_a) (by kernel_rfl) (ren_bor (rens_same (noRefs_fl nr_eI))) (rl_c (u := bo (eI .i64) x_b) (by kernel_rfl) (ren_bor (rens_same (noRefs_fl nr_eI))) (rl_c (u := ii (w64 (s2 + (1 : Int)))) (by kernel_rfl) ren_i rl_n)))) hs_nil)
 refine cF hb ?_
 refine Aw.exit ?_
 refine then_x ?_
 refine hX2 _ _ _ _ _ (some_some hh) ?_
 intro hout
 rw [hout] at hk2
 refine blk_x ?_
 obtain rfl := some_some hk2
 exact hN1 () _ _ _ hk1 (Ent.list2 [] rfl rfl (by decide) (rens_sp (by kernel_rfl) rl_n) hs_nil)
def Lf91_r0 : List LOper := [oo 2 (.box 36 (.t 0)), oo 3 (.box 36 (.t 1)), oo 4 (.mv (.c (bb false)))]
def Lf91_r1 : List LOper := [oo 5 (.fadr 0 (.t 2)), oo 6 (.load false 1 (.t 5)), oo 7 (.fadr 0 (.t 3)), oo 8 (.load false 1 (.t 7)), oo 9 (.call 49 [(.t 6), (.t 8)]), oo 10 (.un .not (.t 9))]
def Lf91_r2 : List LOper := [oo 4 (.mv (.c (bb false)))]
def Lf91_r3 : List LOper := [oo 11 (.fadr 1 (.t 2)), oo 12 (.load false 1 (.t 11)), oo 13 (.fadr 1 (.t 3)), oo 14 (.load false 1 (.t 13)), oo 15 (.bin .neq (.t 12) (.t 14))]
def Lf91_r4 : List LOper := [oo 4 (.mv (.c (bb false)))]
def Lf91_r5 : List LOper := [oo 16 (.fadr 2 (.t 2)), oo 17 (.load false 1 (.t 16)), oo 18 (.fadr 2 (.t 3)), oo 19 (.load false 1 (.t 18)), oo 20 (.bin .neq (.t 17) (.t 19))]
def Lf91_r6 : List LOper := [oo 4 (.mv (.c (bb false)))]
def Lf91_r7 : List LOper := [oo 21 (.fadr 3 (.t 2)), oo 22 (.load false 1 (.t 21)), oo 23 (.fadr 3 (.t 3)), oo 24 (.load false 1 (.t 23)), oo 25 (.bin .neq (.t 22) (.t 24))]
def Lf91_r8 : List LOper := [oo 4 (.mv (.c (bb false)))]
def Lf91_r9 : List LOper := [oo 26 (.fadr 4 (.t 2)), oo 27 (.load false 1 (.t 26)), oo 28 (.fadr 4 (.t 3)), oo 29 (.load false 1 (.t 28)), oo 30 (.bin .neq (.t 27) (.t 29))]
def Lf91_r10 : List LOper := [oo 4 (.mv (.c (bb false)))]
def Lf91_r11 : List LOper := [oo 31 (.fadr 5 (.t 2)), oo 32 (.load false 1 (.t 31)), oo 33 (.fadr 5 (.t 3)), oo 34 (.load false 1 (.t 33)), oo 35 (.binb true (.t 32) (.t 34))]
def Lf91_r12 : List LOper := [oo 4 (.mv (.c (bb false)))]
def Lf91_r13 : List LOper := [oo 36 (.fadr 6 (.t 2)), oo 37 (.load false 1 (.t 36)), oo 38 (.fadr 6 (.t 3)), oo 39 (.load false 1 (.t 38)), oo 40 (.bin .neq (.t 37) (.t 39))]
def Lf91_r14 : List LOper := [oo 4 (.mv (.c (bb false)))]
def Lf91_r15 : List LOper := [oo 41 (.fadr 7 (.t 2)), oo 42 (.load false 1 (.t 41)), oo 43 (.fadr 7 (.t 3)), oo 44 (.load false 1 (.t 43)), oo 45 (.bin .neq (.t 42) (.t 44))]
def Lf91_r16 : List LOper := [oo 4 (.mv (.c (bb false)))]
def Lf91_r17 : List LOper := [oo 46 (.fadr 8 (.t 2)), oo 47 (.load false 1 (.t 46)), oo 48 (.fadr 8 (.t 3)), oo 49 (.load false 1 (.t 48)), oo 50 (.bin .neq (.t 47) (.t 49))]
def Lf91_r18 : List LOper := [oo 4 (.mv (.c (bb false)))]
def Lf91_r19 : List LOper := [oo 51 (.fadr 9 (.t 2)), oo 52 (.load false 1 (.t 51)), oo 53 (.fadr 9 (.t 3)), oo 54 (.load false 1 (.t 53)), oo 55 (.binb true (.t 52) (.t 54))]
def Lf91_r20 : List LOper := [oo 4 (.mv (.c (bb false)))]
def Lf91_r21 : List LOper := [oo 56 (.fadr 10 (.t 2)), oo 57 (.load false 1 (.t 56)), oo 58 (.fadr 10 (.t 3)), oo 59 (.load false 1 (.t 58)), oo 60 (.binb true (.t 57) (.t 59))]
def Lf91_r22 : List LOper := [oo 4 (.mv (.c (bb false)))]
def Lf91_r23 : List LOper := [oo 61 (.fadr 11 (.t 2)), oo 62 (.load false 1 (.t 61)), oo 63 (.fadr 11 (.t 3)), oo 64 (.load false 1 (.t 63)), oo 65 (.binb true (.t 62) (.t 64))]
def Lf91_r24 : List LOper := [oo 4 (.mv (.c (bb false)))]
def Lf91_r25 : List LOper := [oo 66 (.fadr 12 (.t 2)), oo 67 (.load false 1 (.t 66)), oo 68 (.fadr 12 (.t 3)), oo 69 (.load false 1 (.t 68)), oo 70 (.binb true (.t 67) (.t 69))]
def Lf91_r26 : List LOper := [oo 4 (.mv (.c (bb false)))]
def Lf91_r27 : List LOper := [oo 4 (.mv (.c (bb true)))]
def Lf91 : LFun := ⟨71, [(.tmp 4)], (.seq (.reg false Lf91_r0) (.seq (.seq (.reg false Lf91_r1) (.cond (.t 10) (.seq (.reg false Lf91_r2) .ret) .skip)) (.seq (.seq (.reg false Lf91_r3) (.cond (.t 15) (.seq (.reg false Lf91_r4) .ret) .skip)) (.seq (.seq (.reg false Lf91_r5) (.cond (.t 20) (.seq (.reg false Lf91_r6) .ret) .skip)) (.seq (.seq (.reg false Lf91_r7) (.cond (.t 25) (.seq (.reg false Lf91_r8) .ret) .skip)) (.seq (.seq (.reg false Lf91_r9) (.cond (.t 30) (.seq (.reg false Lf91_r10) .ret) .skip)) (.seq (.seq (.reg false Lf91_r11) (.cond (.t 35) (.seq (.reg false Lf91_r12) .ret) .skip)) (.seq (.seq (.reg false Lf91_r13) (.cond (.t 40) (.seq (.reg false Lf91_r14) .ret) .skip)) (.seq (.seq (.reg false Lf91_r15) (.cond (.t 45) (.seq (.reg false Lf91_r16) .ret) .skip)) (.seq (.seq (.reg false Lf91_r17) (.cond (.t 50) (.seq (.reg false Lf91_r18) .ret) .skip)) (.seq (.seq (.reg false Lf91_r19) (.cond (.t 55) (.seq (.reg false Lf91_r20) .ret) .skip)) (.seq (.seq (.reg false Lf91_r21) (.cond (.t 60) (.seq (.reg false Lf91_r22) .ret) .skip)) (.seq (.seq (.reg false Lf91_r23) (.cond (.t 65) (.seq (.reg false Lf91_r24) .ret) .skip)) (.seq (.seq (.reg false Lf91_r25) (.cond (.t 70) (.seq (.reg false Lf91_r26) .ret) .skip)) (.seq (.reg false Lf91_r27) .ret)))))))))))))))⟩
theorem low_laws_eqCore : lowFun Go.Proofs.Try.prog 91 = some Lf91 := by kernel_rfl
noncomputable def F_laws_eqCore (x_a : DCore) (x_b : DCore) : Option Bool :=
 Option.bind (F_laws_eqIntS x_a.Regs x_b.Regs) fun v1 =>
 cond (!v1)
  (some false)
  (cond (!decide (x_a.Pc = x_b.Pc))
   (some false)
   (cond (!decide (x_a.Root = x_b.Root))
    (some false)
    (cond (!decide (x_a.Vector = x_b.Vector))
     (some false)
     (cond (!decide (x_a.Saved = x_b.Saved))
      (some false)
      (cond (!(x_a.SavedUser == x_b.SavedUser))
       (some false)
       (cond (!decide (x_a.Cause = x_b.Cause))
        (some false)
        (cond (!decide (x_a.Bad = x_b.Bad))
         (some false)
         (cond (!decide (x_a.Timer = x_b.Timer))
          (some false)
          (cond (!(x_a.Waits == x_b.Waits))
           (some false)
           (cond (!(x_a.User == x_b.User))
            (some false)
            (cond (!(x_a.On == x_b.On))
             (some false)
             (cond (!(x_a.Stopped == x_b.Stopped))
              (some false)
              (some true)))))))))))))
theorem laws_eqCore_fn {x_a : DCore} {x_b : DCore} {R_ : Bool} (hh : F_laws_eqCore x_a x_b = some R_) : Fn Try.prog 91 [.agg (bo (eI .i64) x_a.Regs :: ru36 x_a []), .agg (bo (eI .i64) x_b.Regs :: ru36 x_b [])] (.bool R_) := by
 unfold F_laws_eqCore at hh
 refine Fn.start low_laws_eqCore [0, 1] (E := sp 71 [(0, .agg (B_36 x_a)), (1, .agg (B_36 x_b))]) (by kernel_rfl) (v := bb R_) (Hr := []) (k := 0) (by kernel_rfl) ?_
 refine Aw.sreg [2, 3] [0, 1] ?_
 let q1 : Root := ⟨36, (bo (eI .i64) x_a.Regs :: ru36 x_a [])⟩
 let q2 : Root := ⟨36, (bo (eI .i64) x_b.Regs :: ru36 x_b [])⟩
 refine yt (sp 71 [(2, pp 0), (3, pp 1)]) [(0, some q1), (1, some q2)] 2 ?_
 refine Aw.seq ?_
 refine Aw.sreg [2, 3, 10] [0, 1] (yj 4  (sp 71 [(2, pp 0), (3, pp 1), (5, pp 0), (6, bo (eI .i64) x_a.Regs), (7, pp 1), (8, bo (eI .i64) x_b.Regs)]) [(0, some q1), (1, some q2)] 2 ?_)
 obtain ⟨v1, hv1, hh⟩ := bind_some hh
 refine ys (.call 49 [(.t 6), (.t 8)]) (some 9) (oc (laws_eqIntS_fn hv1) ?_)
 refine yt (sp 71 [(2, pp 0), (3, pp 1), (10, bb (!v1))]) [(0, some q1), (1, some q2)] 2 ?_
 rcases cond_some hh with ⟨hb, hh⟩ | ⟨hb, hh⟩
 · refine cT hb ?_
   refine sy [4] [] (sp 71 [(4, bb false)]) [] 2 ?_
   refine Aw.ret ?_
   refine then_r ?_
   rw [some_some hh]
   exact gvb
 refine cF hb ?_
 refine Aw.xskip (fun _ _ _ hq => then_m hq) ?_
 refine Aw.seq ?_
 refine sy [2, 3, 15] [0, 1] (sp 71 [(2, pp 0), (3, pp 1), (15, bb (!decide (x_a.Pc = x_b.Pc)))]) [(0, some q1), (1, some q2)] 2 ?_
 rcases cond_some hh with ⟨hb, hh⟩ | ⟨hb, hh⟩
 · refine cT hb ?_
   refine sy [4] [] (sp 71 [(4, bb false)]) [] 2 ?_
   refine Aw.ret ?_
   refine then_r ?_
   rw [some_some hh]
   exact gvb
 refine cF hb ?_
 refine Aw.xskip (fun _ _ _ hq => then_m hq) ?_
 refine Aw.seq ?_
 refine sy [2, 3, 20] [0, 1] (sp 71 [(2, pp 0), (3, pp 1), (20, bb (!decide (x_a.Root = x_b.Root)))]) [(0, some q1), (1, some q2)] 2 ?_
 rcases cond_some hh with ⟨hb, hh⟩ | ⟨hb, hh⟩
 · refine cT hb ?_
   refine sy [4] [] (sp 71 [(4, bb false)]) [] 2 ?_
   refine Aw.ret ?_
   refine then_r ?_
   rw [some_some hh]
   exact gvb
 refine cF hb ?_
 refine Aw.xskip (fun _ _ _ hq => then_m hq) ?_
 refine Aw.seq ?_
 refine sy [2, 3, 25] [0, 1] (sp 71 [(2, pp 0), (3, pp 1), (25, bb (!decide (x_a.Vector = x_b.Vector)))]) [(0, some q1), (1, some q2)] 2 ?_
 rcases cond_some hh with ⟨hb, hh⟩ | ⟨hb, hh⟩
 · refine cT hb ?_
   refine sy [4] [] (sp 71 [(4, bb false)]) [] 2 ?_
   refine Aw.ret ?_
   refine then_r ?_
   rw [some_some hh]
   exact gvb
 refine cF hb ?_
 refine Aw.xskip (fun _ _ _ hq => then_m hq) ?_
 refine Aw.seq ?_
 refine sy [2, 3, 30] [0, 1] (sp 71 [(2, pp 0), (3, pp 1), (30, bb (!decide (x_a.Saved = x_b.Saved)))]) [(0, some q1), (1, some q2)] 2 ?_
 rcases cond_some hh with ⟨hb, hh⟩ | ⟨hb, hh⟩
 · refine cT hb ?_
   refine sy [4] [] (sp 71 [(4, bb false)]) [] 2 ?_
   refine Aw.ret ?_
   refine then_r ?_
   rw [some_some hh]
   exact gvb
 refine cF hb ?_
 refine Aw.xskip (fun _ _ _ hq => then_m hq) ?_
 refine Aw.seq ?_
 refine sy [2, 3, 35] [0, 1] (sp 71 [(2, pp 0), (3, pp 1), (35, bb (!(x_a.SavedUser == x_b.SavedUser)))]) [(0, some q1), (1, some q2)] 2 ?_
 rcases cond_some hh with ⟨hb, hh⟩ | ⟨hb, hh⟩
 · refine cT hb ?_
   refine sy [4] [] (sp 71 [(4, bb false)]) [] 2 ?_
   refine Aw.ret ?_
   refine then_r ?_
   rw [some_some hh]
   exact gvb
 refine cF hb ?_
 refine Aw.xskip (fun _ _ _ hq => then_m hq) ?_
 refine Aw.seq ?_
 refine sy [2, 3, 40] [0, 1] (sp 71 [(2, pp 0), (3, pp 1), (40, bb (!decide (x_a.Cause = x_b.Cause)))]) [(0, some q1), (1, some q2)] 2 ?_
 rcases cond_some hh with ⟨hb, hh⟩ | ⟨hb, hh⟩
 · refine cT hb ?_
   refine sy [4] [] (sp 71 [(4, bb false)]) [] 2 ?_
   refine Aw.ret ?_
   refine then_r ?_
   rw [some_some hh]
   exact gvb
 refine cF hb ?_
 refine Aw.xskip (fun _ _ _ hq => then_m hq) ?_
 refine Aw.seq ?_
 refine sy [2, 3, 45] [0, 1] (sp 71 [(2, pp 0), (3, pp 1), (45, bb (!decide (x_a.Bad = x_b.Bad)))]) [(0, some q1), (1, some q2)] 2 ?_
 rcases cond_some hh with ⟨hb, hh⟩ | ⟨hb, hh⟩
 · refine cT hb ?_
   refine sy [4] [] (sp 71 [(4, bb false)]) [] 2 ?_
   refine Aw.ret ?_
   refine then_r ?_
   rw [some_some hh]
   exact gvb
 refine cF hb ?_
 refine Aw.xskip (fun _ _ _ hq => then_m hq) ?_
 refine Aw.seq ?_
 refine sy [2, 3, 50] [0, 1] (sp 71 [(2, pp 0), (3, pp 1), (50, bb (!decide (x_a.Timer = x_b.Timer)))]) [(0, some q1), (1, some q2)] 2 ?_
 rcases cond_some hh with ⟨hb, hh⟩ | ⟨hb, hh⟩
 · refine cT hb ?_
   refine sy [4] [] (sp 71 [(4, bb false)]) [] 2 ?_
   refine Aw.ret ?_
   refine then_r ?_
   rw [some_some hh]
   exact gvb
 refine cF hb ?_
 refine Aw.xskip (fun _ _ _ hq => then_m hq) ?_
 refine Aw.seq ?_
 refine sy [2, 3, 55] [0, 1] (sp 71 [(2, pp 0), (3, pp 1), (55, bb (!(x_a.Waits == x_b.Waits)))]) [(0, some q1), (1, some q2)] 2 ?_
 rcases cond_some hh with ⟨hb, hh⟩ | ⟨hb, hh⟩
 · refine cT hb ?_
   refine sy [4] [] (sp 71 [(4, bb false)]) [] 2 ?_
   refine Aw.ret ?_
   refine then_r ?_
   rw [some_some hh]
   exact gvb
 refine cF hb ?_
 refine Aw.xskip (fun _ _ _ hq => then_m hq) ?_
 refine Aw.seq ?_
 refine sy [2, 3, 60] [0, 1] (sp 71 [(2, pp 0), (3, pp 1), (60, bb (!(x_a.User == x_b.User)))]) [(0, some q1), (1, some q2)] 2 ?_
 rcases cond_some hh with ⟨hb, hh⟩ | ⟨hb, hh⟩
 · refine cT hb ?_
   refine sy [4] [] (sp 71 [(4, bb false)]) [] 2 ?_
   refine Aw.ret ?_
   refine then_r ?_
   rw [some_some hh]
   exact gvb
 refine cF hb ?_
 refine Aw.xskip (fun _ _ _ hq => then_m hq) ?_
 refine Aw.seq ?_
 refine sy [2, 3, 65] [0, 1] (sp 71 [(2, pp 0), (3, pp 1), (65, bb (!(x_a.On == x_b.On)))]) [(0, some q1), (1, some q2)] 2 ?_
 rcases cond_some hh with ⟨hb, hh⟩ | ⟨hb, hh⟩
 · refine cT hb ?_
   refine sy [4] [] (sp 71 [(4, bb false)]) [] 2 ?_
   refine Aw.ret ?_
   refine then_r ?_
   rw [some_some hh]
   exact gvb
 refine cF hb ?_
 refine Aw.xskip (fun _ _ _ hq => then_m hq) ?_
 refine Aw.seq ?_
 refine sy [70] [] (sp 71 [(70, bb (!(x_a.Stopped == x_b.Stopped)))]) [] 2 ?_
 rcases cond_some hh with ⟨hb, hh⟩ | ⟨hb, hh⟩
 · refine cT hb ?_
   refine sy [4] [] (sp 71 [(4, bb false)]) [] 2 ?_
   refine Aw.ret ?_
   refine then_r ?_
   rw [some_some hh]
   exact gvb
 refine cF hb ?_
 refine Aw.xskip (fun _ _ _ hq => then_m hq) ?_
 refine sy [4] [] (sp 71 [(4, bb true)]) [] 2 ?_
 refine Aw.ret ?_
 rw [some_some hh]
 exact gvb
def Lf84_r0 : List LOper := [oo 4 (.mv (.c (ii 0)))]
def Lf84_r1 : List LOper := [om 5 1, om 6 0, oo 7 (.len (.t 6)), oo 8 (.bin .sub (.t 5) (.t 7)), om 1 8]
def Lf84_r2 : List LOper := [om 9 1, oo 10 (.bin .lss (.t 9) (.c (ii 0)))]
def Lf84_r3 : List LOper := [oo 4 (.mv (.c (ii (-1))))]
def Lf84_r4 : List LOper := [om 11 1, om 4 11]
def Lf84 : LFun := ⟨12, [(.tmp 4)], (.seq (.reg false Lf84_r0) (.seq (.reg false Lf84_r1) (.seq (.seq (.reg false Lf84_r2) (.cond (.t 10) (.seq (.reg false Lf84_r3) .ret) .skip)) (.seq (.reg false Lf84_r4) .ret))))⟩
theorem low_laws_szIntS : lowFun Go.Proofs.Try.prog 84 = some Lf84 := by kernel_rfl
noncomputable def F_laws_szIntS (x_a : List Int) (x_left : Int) : Option Int :=
 cond (decide ((w64 (x_left - (((List.length x_a) : Nat) : Int))) < (0 : Int)))
  (some (-1 : Int))
  (some (w64 (x_left - (((List.length x_a) : Nat) : Int))))
theorem laws_szIntS_fn {x_a : List Int} {x_left : Int} {R_ : Int} (hh : F_laws_szIntS x_a x_left = some R_) : Fn Try.prog 84 [bo (eI .i64) x_a, .int .i64 x_left] (.int .i64 R_) := by
 unfold F_laws_szIntS at hh
 refine Fn.start low_laws_szIntS [0, 1] (E := sp 12 [(0, bo (eI .i64) x_a), (1, ii x_left)]) (by kernel_rfl) (v := ii R_) (Hr := []) (k := 0) (by kernel_rfl) ?_
 refine sy [0, 1] [] (sp 12 [(0, bo (eI .i64) x_a), (1, ii x_left)]) [] 0 ?_
 refine sy [1] [] (sp 12 [(1, ii (w64 (x_left - (((List.length x_a) : Nat) : Int))))]) [] 0 ?_
 refine Aw.seq ?_
 refine sy [1, 10] [] (sp 12 [(1, ii (w64 (x_left - (((List.length x_a) : Nat) : Int)))), (10, bb (decide ((w64 (x_left - (((List.length x_a) : Nat) : Int))) < (0 : Int))))]) [] 0 ?_
 rcases cond_some hh with ⟨hb, hh⟩ | ⟨hb, hh⟩
 · refine cT hb ?_
   refine sy [4] [] (sp 12 [(4, ii (-1))]) [] 0 ?_
   refine Aw.ret ?_
   refine then_r ?_
   rw [some_some hh]
   exact gvi
 refine cF hb ?_
 refine Aw.xskip (fun _ _ _ hq => then_m hq) ?_
 refine sy [4] [] (sp 12 [(4, ii (w64 (x_left - (((List.length x_a) : Nat) : Int))))]) [] 0 ?_
 refine Aw.ret ?_
 rw [some_some hh]
 exact gvi
def Lf94_r0 : List LOper := [oo 2 (.box 71 (.t 0)), oo 4 (.mv (.c (ii 0)))]
def Lf94_r1 : List LOper := [oo 5 (.fadr 0 (.t 2)), oo 6 (.load false 1 (.t 5)), om 7 1, oo 8 (.call 84 [(.t 6), (.t 7)]), om 1 8]
def Lf94_r2 : List LOper := [om 9 1, oo 10 (.bin .lss (.t 9) (.c (ii 0)))]
def Lf94_r3 : List LOper := [oo 4 (.mv (.c (ii (-1))))]
def Lf94_r4 : List LOper := [om 11 1, om 4 11]
def Lf94 : LFun := ⟨12, [(.tmp 4)], (.seq (.reg false Lf94_r0) (.seq (.reg false Lf94_r1) (.seq (.seq (.reg false Lf94_r2) (.cond (.t 10) (.seq (.reg false Lf94_r3) .ret) .skip)) (.seq (.reg false Lf94_r4) .ret))))⟩
theorem low_laws_szCore : lowFun Go.Proofs.Try.prog 94 = some Lf94 := by kernel_rfl
noncomputable def F_laws_szCore (x_a : DCore) (x_left : Int) : Option Int :=
 Option.bind (F_laws_szIntS x_a.Regs x_left) fun v1 =>
 cond (decide (v1 < (0 : Int)))
  (some (-1 : Int))
  (some v1)
theorem laws_szCore_fn {x_a : DCore} {x_left : Int} {R_ : Int} (hh : F_laws_szCore x_a x_left = some R_) : Fn Try.prog 94 [.agg (bo (eI .i64) x_a.Regs :: ru36 x_a []), .int .i64 x_left] (.int .i64 R_) := by
 unfold F_laws_szCore at hh
 refine Fn.start low_laws_szCore [0, 1] (E := sp 12 [(0, .agg (B_36 x_a)), (1, ii x_left)]) (by kernel_rfl) (v := ii R_) (Hr := []) (k := 0) (by kernel_rfl) ?_
 refine Aw.sreg [1, 2] [0] ?_
 let q1 : Root := ⟨71, (bo (eI .i64) x_a.Regs :: ru36 x_a [])⟩
 refine yt (sp 12 [(1, ii x_left), (2, pp 0)]) [(0, some q1)] 1 ?_
 refine Aw.sreg [1] [] (yu 3 [(5, pp 0), (6, bo (eI .i64) x_a.Regs), (7, ii x_left)] [(0, some q1)] 1 ?_)
 obtain ⟨v1, hv1, hh⟩ := bind_some hh
 refine ys (.call 84 [(.t 6), (.t 7)]) (some 8) (oc (laws_szIntS_fn hv1) ?_)
 refine yt (sp 12 [(1, ii v1)]) [] 1 ?_
 refine Aw.seq ?_
 refine sy [1, 10] [] (sp 12 [(1, ii v1), (10, bb (decide (v1 < (0 : Int))))]) [] 1 ?_
 rcases cond_some hh with ⟨hb, hh⟩ | ⟨hb, hh⟩
 · refine cT hb ?_
   refine sy [4] [] (sp 12 [(4, ii (-1))]) [] 1 ?_
   refine Aw.ret ?_
   refine then_r ?_
   rw [some_some hh]
   exact gvi
 refine cF hb ?_
 refine Aw.xskip (fun _ _ _ hq => then_m hq) ?_
 refine sy [4] [] (sp 12 [(4, ii v1)]) [] 1 ?_
 refine Aw.ret ?_
 rw [some_some hh]
 exact gvi
def Lf50_r0 : List LOper := [oo 4 (.mv (.c (ii 0)))]
def Lf50_r1 : List LOper := [oo 5 (.mv (.c (ii 0)))]
def Lf50_r2 : List LOper := [om 6 5, om 7 0, oo 8 (.len (.t 7)), oo 9 (.bin .lss (.t 6) (.t 8))]
def Lf50_r3 : List LOper := [om 12 0, om 13 5, om 14 1, oo 15 (.iadr 1 (.t 12) (.t 13)), ⟨none, (.store 1 (.t 15) (.t 14)), none⟩]
def Lf50_r4 : List LOper := [om 16 1, oo 17 (.bin .add (.t 16) (.c (ii 1))), om 1 17]
def Lf50_r5 : List LOper := [om 10 5, oo 11 (.bin .add (.t 10) (.c (ii 1))), om 5 11]
def Lf50_l6 : LCode := (.seq (.seq (.reg false Lf50_r2) (.cond (.t 9) .skip (.exit 0))) (.seq (.block 1 (.seq (.reg false Lf50_r3) (.reg false Lf50_r4))) (.reg false Lf50_r5)))
def Lf50_r7 : List LOper := [om 18 1, om 4 18]
def Lf50 : LFun := ⟨19, [(.tmp 4)], (.seq (.reg false Lf50_r0) (.seq (.seq (.reg false Lf50_r1) (.block 0 (.loop Lf50_l6))) (.seq (.reg false Lf50_r7) .ret)))⟩
theorem low_laws_markIntS : lowFun Go.Proofs.Try.prog 50 = some Lf50 := by kernel_rfl
noncomputable def F_laws_markIntS_j1  (s1 : Int × (List Int)) : Option ((List Int) × Int) :=
 some (s1.2, s1.1)
noncomputable def F_laws_markIntS_l2  (s2 : (List Int) × Int × Int) : Option (LO ((List Int) × Int × Int) (JO (Int × (List Int)) ((List Int) × Int))) :=
 cond (decide (s2.2.2 < (((List.length s2.1) : Nat) : Int)))
  (grd ((0 : Int) ≤ s2.2.2 ∧ s2.2.2 < (((List.length s2.1) : Nat) : Int)) (some (.next ((List.set s2.1 (Int.toNat s2.2.2) s2.2.1), (w64 (s2.2.1 + (1 : Int))), (w64 (s2.2.2 + (1 : Int)))))))
  (some (.ret (.go (s2.2.1, s2.1))))
noncomputable def F_laws_markIntS (x_a : List Int) (x_k : Int) : Option ((List Int) × Int) :=
 Option.bind (Option.bind (iter (F_laws_markIntS_l2) (x_a, x_k, (0 : Int))) LO.val) fun j1 =>
  JO.run j1 (F_laws_markIntS_j1)
theorem laws_markIntS_fn {x_a : List Int} {x_k : Int} {R_ : (List Int) × Int} (hh : F_laws_markIntS x_a x_k = some R_) : Inl Try.prog 50 [.sref 0 [] 0 (List.length x_a) 1, .int .i64 x_k] [(0, some ⟨3, (fl (eI .i64) x_a)⟩)] 1 (.int .i64 R_.2) [(0, some ⟨3, (fl (eI .i64) R_.1)⟩)] 1 := by
 unfold F_laws_markIntS at hh
 refine Inl.start low_laws_markIntS [0, 1] [0] (E := sp 19 [(0, sw 0 x_a), (1, ii x_k)]) (H1 := [(0, some ⟨3, (fl (eI .i64) x_a)⟩)]) (by kernel_rfl) (by kernel_rfl) ?_
 refine sy [0, 1] [0] (sp 19 [(0, sw 0 x_a), (1, ii x_k)]) [(0, some ⟨3, (fl (eI .i64) x_a)⟩)] 1 ?_
 obtain ⟨j1, hh, hk1⟩ := bind_some hh
 refine Aw.join (S := Int × (List Int)) (fun s1 => sp 19 [(1, ii s1.1)]) (fun s1 => [(0, some ⟨3, (fl (eI .i64) s1.2)⟩)]) 1 (fun s1 => F_laws_markIntS_j1 s1 = some R_) ?_ ?_
 · intro s1 hh
   unfold F_laws_markIntS_j1 at hh
   refine sy [4] [0] (sp 19 [(4, ii s1.1)]) [(0, some ⟨3, (fl (eI .i64) s1.2)⟩)] 1 ?_
   refine Aw.ret ?_
   rw [some_some hh]
   exact gives (r' := ii s1.1) (by kernel_rfl) (Ent.list2 [some 0] rfl rfl (by decide) (rens_1 ren_i) (hq ⟨3, (fl (eI .i64) s1.2)⟩ (rens_same (noRefs_fl nr_eI)) hs_nil))
 intro Q1 hN1 hR1 hE1
 refine sy [0, 1, 5] [0] (sp 19 [(0, sw 0 x_a), (1, ii x_k), (5, ii 0)]) [(0, some ⟨3, (fl (eI .i64) x_a)⟩)] 1 ?_
 refine Aw.block ?_
 obtain ⟨o2, hi2, hk2⟩ := bind_some hh
 refine Aw.iter (fun (s2 : (List Int) × Int × Int) => sp 19 [(0, sw 0 s2.1), (1, ii s2.2.1), (5, ii s2.2.2)]) (fun (s2 : (List Int) × Int × Int) => [(0, some ⟨3, (fl (eI .i64) s2.1)⟩)]) 1 hi2 (Ent.list2 [some 0] rfl rfl (by decide) (rens_sp (by kernel_rfl) (rl_c (u := sw 0 x_a) (by kernel_rfl) ren_sx (rl_c (u := ii x_k) (by kernel_rfl) ren_i (rl_c (u := ii 0) (by kernel_rfl) ren_i rl_n)))) (hq ⟨3, (fl (eI .i64) x_a)⟩ (rens_same (noRefs_fl nr_eI)) hs_nil)) ?_
 intro s2 u2 Q2 hh hN2 hX2 hR2
 unfold F_laws_markIntS_l2 at hh
 refine Aw.seq ?_
 refine sy [0, 1, 5, 9] [0] (sp 19 [(0, sw 0 s2.1), (1, ii s2.2.1), (5, ii s2.2.2), (9, bb (decide (s2.2.2 < (((List.length s2.1) : Nat) : Int))))]) [(0, some ⟨3, (fl (eI .i64) s2.1)⟩)] 1 ?_
 rcases cond_some hh with ⟨hb, hh⟩ | ⟨hb, hh⟩
 · refine cT hb ?_
   refine Aw.xskip (fun _ _ _ hq => then_m hq) ?_
   refine Aw.seq ?_
   refine Aw.block ?_
   refine Aw.sreg [0, 1, 5] [0] ?_
   obtain ⟨hg24, hh⟩ := grd_some hh
   refine yjc 4 [(0 : Int) ≤ s2.2.2 ∧ s2.2.2 < (((List.length s2.1) : Nat) : Int)] (sp 19 [(0, sw 0 s2.1), (1, ii s2.2.1), (5, ii s2.2.2), (9, bb (decide (s2.2.2 < (((List.length s2.1) : Nat) : Int)))), (12, sw 0 s2.1), (13, ii s2.2.2), (14, ii s2.2.1), (15, .ptr 0 [] (0 + (Int.toNat s2.2.2) * 1))]) [(0, some ⟨3, (fl (eI .i64) s2.1)⟩)] 1 (.cons hg24 .nil) ?_
   let q1 : Root := ⟨3, (fl (eI .i64) (List.set s2.1 (Int.toNat s2.2.2) s2.2.1))⟩
   refine ys (.store 1 (.t 15) (.t 14)) none (op_store (c := (eI .i64)) (xs := s2.1) (e := 3) (r := 0) (π := []) (o := 0 + (Int.toNat s2.2.2) * 1) (i := (Int.toNat s2.2.2)) (off := 0) (vs := [ii s2.2.1]) (y := s2.2.1) (H' := [(0, some q1), (0, some ⟨3, (fl (eI .i64) s2.1)⟩)]) len_eI (by kernel_rfl) (by kernel_rfl) (by kernel_rfl) (by kernel_rfl) (by omega) (by omega) (by decide) (by kernel_rfl) (by kernel_rfl) ?_)
   refine yt (sp 19 [(0, sw 0 s2.1), (1, ii s2.2.1), (5, ii s2.2.2)]) [(0, some q1)] 1 ?_
   refine Aw.xreg [0, 1, 5] [0] (fun _ _ _ hq => blk_m (then_m hq)) ?_
   refine yt (sp 19 [(0, sw 0 s2.1), (1, ii (w64 (s2.2.1 + (1 : Int)))), (5, ii s2.2.2)]) [(0, some q1)] 1 ?_
   refine Aw.oreg ?_
   refine ye (sp 19 [(0, sw 0 s2.1), (1, ii (w64 (s2.2.1 + (1 : Int)))), (5, ii (w64 (s2.2.2 + (1 : Int)))), (10, ii s2.2.2), (11, ii (w64 (s2.2.2 + (1 : Int))))]) [(0, some q1)] 1 ?_
   exact hN2 ((List.set s2.1 (Int.toNat s2.2.2) s2.2.1), (w64 (s2.2.1 + (1 : Int))), (w64 (s2.2.2 + (1 : Int)))) _ _ _ (some_some hh) (Ent.list2 [some 0] rfl rfl (by decide) (rens_sp (by kernel_rfl) (rl_c (u := sw 0 s2.1) (by kernel_rfl) ren_sx (rl_c (u := ii (w64 (s2.2.1 + (1 : Int)))) (by kernel_rfl) ren_i (rl_c (u := ii (w64 (s2.2.2 + (1 : Int)))) (by kernel_rfl) ren_i rl_n)))) (hq q1 (rens_same (noRefs_fl nr_eI)) hs_nil))
 refine cF hb ?_
 refine Aw.exit ?_
 refine then_x ?_
 refine hX2 _ _ _ _ _ (some_some hh) ?_
 intro hout
 rw [hout] at hk2
 refine blk_x ?_
 obtain rfl := some_some hk2
 exact hN1 (s2.2.1, s2.1) _ _ _ hk1 (Ent.list2 [some 0] rfl rfl (by decide) (rens_sp (by kernel_rfl) (rl_c (u := ii s2.2.1) (by kernel_rfl) ren_i rl_n)) (hq ⟨3, (fl (eI .i64) s2.1)⟩ (rens_same (noRefs_fl nr_eI)) hs_nil))
def Lf51_r0 : List LOper := [oo 4 (.mv (.c (ii 0)))]
def Lf51_r1 : List LOper := [oo 5 (.mv (.c (ii 0)))]
def Lf51_r2 : List LOper := [om 6 5, om 7 0, oo 8 (.len (.t 7)), oo 9 (.bin .lss (.t 6) (.t 8))]
def Lf51_r3 : List LOper := [om 12 0, om 13 5, oo 14 (.iadr 1 (.t 12) (.t 13)), oo 15 (.load false 1 (.t 14)), om 16 1, oo 17 (.bin .neq (.t 15) (.t 16))]
def Lf51_r4 : List LOper := [oo 4 (.mv (.c (ii (-1))))]
def Lf51_r5 : List LOper := [om 18 1, oo 19 (.bin .add (.t 18) (.c (ii 1))), om 1 19]
def Lf51_r6 : List LOper := [om 10 5, oo 11 (.bin .add (.t 10) (.c (ii 1))), om 5 11]
def Lf51_l7 : LCode := (.seq (.seq (.reg false Lf51_r2) (.cond (.t 9) .skip (.exit 0))) (.seq (.block 1 (.seq (.seq (.reg false Lf51_r3) (.cond (.t 17) (.seq (.reg false Lf51_r4) .ret) .skip)) (.reg false Lf51_r5))) (.reg false Lf51_r6)))
def Lf51_r8 : List LOper := [om 20 1, om 4 20]
def Lf51 : LFun := ⟨21, [(.tmp 4)], (.seq (.reg false Lf51_r0) (.seq (.seq (.reg false Lf51_r1) (.block 0 (.loop Lf51_l7))) (.seq (.reg false Lf51_r8) .ret)))⟩
theorem low_laws_heldIntS : lowFun Go.Proofs.Try.prog 51 = some Lf51 := by kernel_rfl
noncomputable def F_laws_heldIntS_j1  (s1 : Int) : Option Int :=
 some s1
noncomputable def F_laws_heldIntS_l2 (x_a : List Int) (s2 : Int × Int) : Option (LO (Int × Int) (JO Int Int)) :=
 cond (decide (s2.2 < (((List.length x_a) : Nat) : Int)))
  (grd ((0 : Int) ≤ s2.2 ∧ s2.2 < ((List.length x_a : Nat) : Int)) (cond (!decide ((List.getD x_a (Int.toNat s2.2) default) = s2.1))
   (some (.ret (.out (-1 : Int))))
   (some (.next ((w64 (s2.1 + (1 : Int))), (w64 (s2.2 + (1 : Int))))))))
  (some (.ret (.go s2.1)))
noncomputable def F_laws_heldIntS (x_a : List Int) (x_k : Int) : Option Int :=
 Option.bind (Option.bind (iter (F_laws_heldIntS_l2 x_a) (x_k, (0 : Int))) LO.val) fun j1 =>
  JO.run j1 (F_laws_heldIntS_j1)
theorem laws_heldIntS_fn {x_a : List Int} {x_k : Int} {R_ : Int} (hh : F_laws_heldIntS x_a x_k = some R_) : Fn Try.prog 51 [bo (eI .i64) x_a, .int .i64 x_k] (.int .i64 R_) := by
 unfold F_laws_heldIntS at hh
 refine Fn.start low_laws_heldIntS [0, 1] (E := sp 21 [(0, bo (eI .i64) x_a), (1, ii x_k)]) (by kernel_rfl) (v := ii R_) (Hr := []) (k := 0) (by kernel_rfl) ?_
 refine sy [0, 1] [] (sp 21 [(0, bo (eI .i64) x_a), (1, ii x_k)]) [] 0 ?_
 obtain ⟨j1, hh, hk1⟩ := bind_some hh
 refine Aw.join (S := Int) (fun s1 => sp 21 [(1, ii s1)]) (fun s1 => []) 0 (fun s1 => F_laws_heldIntS_j1 s1 = some R_) ?_ ?_
 · intro s1 hh
   unfold F_laws_heldIntS_j1 at hh
   refine sy [4] [] (sp 21 [(4, ii s1)]) [] 0 ?_
   refine Aw.ret ?_
   rw [some_some hh]
   exact gvi
 intro Q1 hN1 hR1 hE1
 refine sy [0, 1, 5] [] (sp 21 [(0, bo (eI .i64) x_a), (1, ii x_k), (5, ii 0)]) [] 0 ?_
 refine Aw.block ?_
 obtain ⟨o2, hi2, hk2⟩ := bind_some hh
 refine Aw.iter (fun (s2 : Int × Int) => sp 21 [(0, bo (eI .i64) x_a), (1, ii s2.1), (5, ii s2.2)]) (fun (s2 : Int × Int) => []) 0 hi2 (Ent.list2 [] rfl rfl (by decide) (rens_sp (by kernel_rfl) (rl_c (u := bo (eI .i64) x_a) (by kernel_rfl) (ren_bor (rens_same (noRefs_fl nr_eI))) (rl_c (u := ii x_k) (by kernel_rfl) ren_i (rl_c (u := ii 0) (by kernel_rfl) ren_i rl_n)))) hs_nil) ?_
 intro s2 u2 Q2 hh hN2 hX2 hR2
 unfold F_laws_heldIntS_l2 at hh
 refine Aw.seq ?_
 refine sy [0, 1, 5, 9] [] (sp 21 [(0, bo (eI .i64) x_a), (1, ii s2.1), (5, ii s2.2), (9, bb (decide (s2.2 < (((List.length x_a) : Nat) : Int))))]) [] 0 ?_
 rcases cond_some hh with ⟨hb, hh⟩ | ⟨hb, hh⟩
 · refine cT hb ?_
   refine Aw.xskip (fun _ _ _ hq => then_m hq) ?_
   refine Aw.seq ?_
   refine Aw.block ?_
   refine Aw.seq ?_
   refine Aw.sreg [0, 1, 5, 17] [] (yj 2  (sp 21 [(0, bo (eI .i64) x_a), (1, ii s2.1), (5, ii s2.2), (9, bb (decide (s2.2 < (((List.length x_a) : Nat) : Int)))), (12, bo (eI .i64) x_a), (13, ii s2.2)]) [] 0 ?_)
   obtain ⟨hg48, hh⟩ := grd_some hh
   refine ys (.iadr 1 (.t 12) (.t 13)) (some 14) (op_iadr (kd := .i64) (c := (eI .i64)) (xs := x_a) len_eI (by decide) (by kernel_rfl) (by kernel_rfl) hg48 ?_)
   refine ys (.load false 1 (.t 14)) (some 15) (op_loadb (c := (eI .i64)) (xs := x_a) (o := Int.toNat s2.2 * 1) (i := (Int.toNat s2.2)) (off := 0) (v := ii (List.getD x_a (Int.toNat s2.2) default)) len_eI (by kernel_rfl) (by omega) (by omega) (by decide) (by kernel_rfl) ?_)
   refine yt (sp 21 [(0, bo (eI .i64) x_a), (1, ii s2.1), (5, ii s2.2), (17, bb (!decide ((List.getD x_a (Int.toNat s2.2) default) = s2.1)))]) [] 0 ?_
   rcases cond_some hh with ⟨hb, hh⟩ | ⟨hb, hh⟩
   · refine cT hb ?_
     refine sy [4] [] (sp 21 [(4, ii (-1))]) [] 0 ?_
     refine Aw.ret ?_
     refine then_r (blk_r (then_r ?_))
     refine hR2 _ _ _ _ (some_some hh) ?_
     intro hout
     rw [hout] at hk2
     refine blk_r ?_
     obtain rfl := some_some hk2
     refine hR1 _ _ _ ?_
     refine ?_
     rw [some_some hk1]
     exact gvi
   refine cF hb ?_
   refine Aw.xskip (fun _ _ _ hq => then_m hq) ?_
   refine Aw.xreg [0, 1, 5] [] (fun _ _ _ hq => blk_m (then_m hq)) ?_
   refine yt (sp 21 [(0, bo (eI .i64) x_a), (1, ii (w64 (s2.1 + (1 : Int)))), (5, ii s2.2)]) [] 0 ?_
   refine Aw.oreg ?_
   refine ye (sp 21 [(0, bo (eI .i64) x_a), (1, ii (w64 (s2.1 + (1 : Int)))), (5, ii (w64 (s2.2 + (1 : Int)))), (10, ii s2.2), (11, ii (w64 (s2.2 + (1 : Int))))]) [] 0 ?_
   exact hN2 ((w64 (s2.1 + (1 : Int))), (w64 (s2.2 + (1 : Int)))) _ _ _ (some_some hh) (Ent.list2 [] rfl rfl (by decide) (rens_sp (by kernel_rfl) (rl_c (u := bo (eI .i64) x_a) (by kernel_rfl) (ren_bor (rens_same (noRefs_fl nr_eI))) (rl_c (u := ii (w64 (s2.1 + (1 : Int)))) (by kernel_rfl) ren_i (rl_c (u := ii (w64 (s2.2 + (1 : Int)))) (by kernel_rfl) ren_i rl_n)))) hs_nil)
 refine cF hb ?_
 refine Aw.exit ?_
 refine then_x ?_
 refine hX2 _ _ _ _ _ (some_some hh) ?_
 intro hout
 rw [hout] at hk2
 refine blk_x ?_
 obtain rfl := some_some hk2
 exact hN1 s2.1 _ _ _ hk1 (Ent.list2 [] rfl rfl (by decide) (rens_sp (by kernel_rfl) (rl_c (u := ii s2.1) (by kernel_rfl) ren_i rl_n)) hs_nil)
end Go.Proofs.Ytbogmfjpabfhpaa
