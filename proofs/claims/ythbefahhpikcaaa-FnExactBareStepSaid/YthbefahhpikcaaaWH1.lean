/- Plain functions of the program, and that it hands back what they say. Made by program. -/
import Derived.Test.YthbefahhpikcaaaWT
import Derived.Test.YthbefahhpikcaaaProg
namespace Go.Proofs.Ythbefahhpikcaaa
open Go.RowKit
set_option maxRecDepth 100000
set_option linter.all false
set_option maxHeartbeats 0

-- 79 loop.example/guesthouse/laws.toIntS
def Lf79_r0 : List LOper := [oo 2 (.mv (.c .nil))]
def Lf79_r1 : List LOper := [om 5 0, oo 6 (.len (.t 5)), oo 7 (.mk 3 1 8 [(.int .i64 0)] (.t 6)), om 3 7]
def Lf79_r2 : List LOper := [oo 4 (.mv (.c (.int .i64 0)))]
def Lf79_r3 : List LOper := [om 8 4, om 9 0, oo 10 (.len (.t 9)), oo 11 (.bin .lss (.t 8) (.t 10))]
def Lf79_r4 : List LOper := [om 14 3, om 15 4, om 16 0, om 17 4, oo 18 (.iadr 1 (.t 16) (.t 17)), oo 19 (.load false 1 (.t 18)), oo 20 (.iadr 1 (.t 14) (.t 15)), ⟨none, (.store 1 (.t 20) (.t 19)), none⟩]
def Lf79_r5 : List LOper := [om 12 4, oo 13 (.bin .add (.t 12) (.c (.int .i64 1))), om 4 13]
def Lf79_l6 : LCode := (.seq (.seq (.reg false Lf79_r3) (.cond (.t 11) .skip (.exit 0))) (.seq (.block 1 (.reg false Lf79_r4)) (.reg false Lf79_r5)))
def Lf79_r7 : List LOper := [om 21 3, om 2 21]
def Lf79 : LFun := ⟨22, [(.tmp 2)], (.seq (.reg false Lf79_r0) (.seq (.reg false Lf79_r1) (.seq (.seq (.reg false Lf79_r2) (.block 0 (.loop Lf79_l6))) (.seq (.reg false Lf79_r7) .ret))))⟩
theorem low_laws_toIntS : lowFun Go.Proofs.Try.prog 79 = some Lf79 := by kernel_rfl
noncomputable def F_laws_toIntS_j1  (s1 : (List Int)) : Option (List Int) :=
  some s1
noncomputable def F_laws_toIntS_l2 (x_a : List Int) (s2 : (List Int) × Int) : Option (LO ((List Int) × Int) (JO (List Int) (List Int))) :=
  cond (decide (s2.2 < (((List.length x_a) : Nat) : Int)))
    (grd ((0 : Int) ≤ s2.2 ∧ s2.2 < ((List.length x_a : Nat) : Int)) (grd ((0 : Int) ≤ s2.2 ∧ s2.2 < (((List.length s2.1) : Nat) : Int)) (some (.next ((List.set s2.1 (Int.toNat s2.2) (List.getD x_a (Int.toNat s2.2) default)), (w64 (s2.2 + (1 : Int))))))))
    (some (.ret (.go s2.1)))
noncomputable def F_laws_toIntS (x_a : List Int) : Option (List Int) :=
  grd ((0 : Int) ≤ (((List.length x_a) : Nat) : Int) ∧ (((List.length x_a) : Nat) : Int) * 8 ≤ 2 ^ 47 ∧ (((List.length x_a) : Nat) : Int) ≤ 2 ^ 47) (Option.bind (Option.bind (iter (F_laws_toIntS_l2 x_a) ((List.replicate (Int.toNat (((List.length x_a) : Nat) : Int)) (0 : Int)), (0 : Int))) LO.val) fun j1 =>
      JO.run j1 (F_laws_toIntS_j1))
theorem laws_toIntS_fn {x_a : List Int} {R_ : (List Int)} (hh : F_laws_toIntS x_a = some R_) : Fn Try.prog 79 [bo (eI .i64) x_a] (.own 3 1 (List.length R_) (fl (eI .i64) R_)) := by
  unfold F_laws_toIntS at hh
  refine Fn.start low_laws_toIntS [0] (E := sp 22 [(0, bo (eI .i64) x_a)]) (by kernel_rfl) (v := .sref 0 [] 0 (List.length R_) 1) (Hr := [(0, some ⟨3, (fl (eI .i64) R_)⟩)]) (k := 1) (by kernel_rfl) ?_
  refine Aw.sreg [0] [] ?_
  refine yt (sp 22 [(0, bo (eI .i64) x_a)]) [] 0 ?_
  refine Aw.sreg [0, 3] [0] ?_
  refine yj 2  (sp 22 [(0, bo (eI .i64) x_a), (5, bo (eI .i64) x_a), (6, .int .i64 (((List.length x_a) : Nat) : Int))]) [] 0 ?_
  obtain ⟨hg50, hh⟩ := grd_some hh
  refine ys (.mk 3 1 8 [(.int .i64 0)] (.t 6)) (some 7) (op_mk (c := (eI .i64)) (d := (0 : Int)) (k := (((List.length x_a) : Nat) : Int)) (by kernel_rfl) hg50 (by kernel_rfl) ?_)
  let q1 : Root := ⟨3, (fl (eI .i64) (List.replicate (Int.toNat (((List.length x_a) : Nat) : Int)) (0 : Int)))⟩
  refine yt (sp 22 [(0, bo (eI .i64) x_a), (3, .sref 0 [] 0 (List.length (List.replicate (Int.toNat (((List.length x_a) : Nat) : Int)) (0 : Int))) 1)]) [(0, some q1)] 1 ?_
  obtain ⟨j1, hh, hk1⟩ := bind_some hh
  refine Aw.join (S := (List Int)) (fun s1 => sp 22 [(3, .sref 0 [] 0 (List.length s1) 1)]) (fun s1 => [(0, some ⟨3, (fl (eI .i64) s1)⟩)]) 1 (fun s1 => F_laws_toIntS_j1 s1 = some R_) ?_ ?_
  · intro s1 hh
    unfold F_laws_toIntS_j1 at hh
    refine Aw.sreg [2] [0] ?_
    refine yt (sp 22 [(2, .sref 0 [] 0 (List.length s1) 1)]) [(0, some ⟨3, (fl (eI .i64) s1)⟩)] 1 ?_
    refine Aw.ret ?_
    rw [some_some hh]
    exact gives (r' := .sref 0 [] 0 (List.length s1) 1) (by kernel_rfl) (Ent.list [some 0] rfl rfl (Nat.zero_le _) (rens_1 ren_sx) (hq ⟨3, (fl (eI .i64) s1)⟩ (rens_same (noRefs_fl nr_eI)) hs_nil))
  intro Q1 hN1 hR1 hE1
  refine Aw.sreg [0, 3, 4] [0] ?_
  refine yt (sp 22 [(0, bo (eI .i64) x_a), (3, .sref 0 [] 0 (List.length (List.replicate (Int.toNat (((List.length x_a) : Nat) : Int)) (0 : Int))) 1), (4, .int .i64 (0 : Int))]) [(0, some q1)] 1 ?_
  refine Aw.block ?_
  obtain ⟨o2, hi2, hk2⟩ := bind_some hh
  refine Aw.iter (fun (s2 : (List Int) × Int) => sp 22 [(0, bo (eI .i64) x_a), (3, .sref 0 [] 0 (List.length s2.1) 1), (4, .int .i64 s2.2)]) (fun (s2 : (List Int) × Int) => [(0, some ⟨3, (fl (eI .i64) s2.1)⟩)]) 1 hi2 (Ent.list2 [some 0] rfl rfl (by decide) (rens_sp (by kernel_rfl) (rl_c (u := bo (eI .i64) x_a) (by kernel_rfl) (ren_bor (rens_same (noRefs_fl nr_eI))) (rl_c (u := .sref 0 [] 0 (List.length (List.replicate (Int.toNat (((List.length x_a) : Nat) : Int)) (0 : Int))) 1) (by kernel_rfl) ren_sx (rl_c (u := .int .i64 (0 : Int)) (by kernel_rfl) ren_i rl_n)))) (hq q1 (rens_same (noRefs_fl nr_eI)) hs_nil)) ?_
  intro s2 u2 Q2 hh hN2 hX2 hR2
  unfold F_laws_toIntS_l2 at hh
  refine Aw.seq ?_
  refine Aw.sreg [0, 3, 4, 11] [0] ?_
  refine yt (sp 22 [(0, bo (eI .i64) x_a), (3, .sref 0 [] 0 (List.length s2.1) 1), (4, .int .i64 s2.2), (11, .bool (decide (s2.2 < (((List.length x_a) : Nat) : Int))))]) [(0, some ⟨3, (fl (eI .i64) s2.1)⟩)] 1 ?_
  rcases cond_some hh with ⟨hb, hh⟩ | ⟨hb, hh⟩
  · refine Aw.condT (by kernel_rfl) hb ?_
    refine Aw.xskip (fun _ _ _ hq => then_m hq) ?_
    refine Aw.seq ?_
    refine Aw.block ?_
    refine Aw.xreg [0, 3, 4] [0] (fun _ _ _ hq => blk_m (then_m hq)) ?_
    refine yj 4  (sp 22 [(0, bo (eI .i64) x_a), (3, .sref 0 [] 0 (List.length s2.1) 1), (4, .int .i64 s2.2), (11, .bool (decide (s2.2 < (((List.length x_a) : Nat) : Int)))), (14, .sref 0 [] 0 (List.length s2.1) 1), (15, .int .i64 s2.2), (16, bo (eI .i64) x_a), (17, .int .i64 s2.2)]) [(0, some ⟨3, (fl (eI .i64) s2.1)⟩)] 1 ?_
    obtain ⟨hg48, hh⟩ := grd_some hh
    refine ys (.iadr 1 (.t 16) (.t 17)) (some 18) (op_iadr (kd := .i64) (c := (eI .i64)) (xs := x_a) len_eI (by decide) (by kernel_rfl) (by kernel_rfl) hg48 ?_)
    refine ys (.load false 1 (.t 18)) (some 19) (op_loadb (c := (eI .i64)) (xs := x_a) (o := Int.toNat s2.2 * 1) (i := (Int.toNat s2.2)) (off := 0) (v := .int .i64 (List.getD x_a (Int.toNat s2.2) default)) len_eI (by kernel_rfl) (by omega) (by omega) (by decide) (by kernel_rfl) ?_)
    obtain ⟨hg49, hh⟩ := grd_some hh
    refine yjc 1 [(0 : Int) ≤ s2.2 ∧ s2.2 < (((List.length s2.1) : Nat) : Int)] (sp 22 [(0, bo (eI .i64) x_a), (3, .sref 0 [] 0 (List.length s2.1) 1), (4, .int .i64 s2.2), (11, .bool (decide (s2.2 < (((List.length x_a) : Nat) : Int)))), (14, .sref 0 [] 0 (List.length s2.1) 1), (15, .int .i64 s2.2), (16, bo (eI .i64) x_a), (17, .int .i64 s2.2), (18, .bptr (fl (eI .i64) x_a) (Int.toNat s2.2 * 1)), (19, .int .i64 (List.getD x_a (Int.toNat s2.2) default)), (20, .ptr 0 [] (0 + (Int.toNat s2.2) * 1))]) [(0, some ⟨3, (fl (eI .i64) s2.1)⟩)] 1 (.cons hg49 .nil) ?_
    let q2 : Root := ⟨3, (fl (eI .i64) (List.set s2.1 (Int.toNat s2.2) (List.getD x_a (Int.toNat s2.2) default)))⟩
    refine ys (.store 1 (.t 20) (.t 19)) none (op_store (c := (eI .i64)) (xs := s2.1) (e := 3) (r := 0) (π := []) (o := 0 + (Int.toNat s2.2) * 1) (i := (Int.toNat s2.2)) (off := 0) (vs := [.int .i64 (List.getD x_a (Int.toNat s2.2) default)]) (y := (List.getD x_a (Int.toNat s2.2) default)) (H' := [(0, some q2), (0, some ⟨3, (fl (eI .i64) s2.1)⟩)]) len_eI (by kernel_rfl) (by kernel_rfl) (by kernel_rfl) (by kernel_rfl) (by omega) (by omega) (by decide) (by kernel_rfl) (by kernel_rfl) ?_)
    refine yt (sp 22 [(0, bo (eI .i64) x_a), (3, .sref 0 [] 0 (List.length s2.1) 1), (4, .int .i64 s2.2)]) [(0, some q2)] 1 ?_
    refine Aw.oreg ?_
    refine ye (sp 22 [(0, bo (eI .i64) x_a), (3, .sref 0 [] 0 (List.length s2.1) 1), (4, .int .i64 (w64 (s2.2 + (1 : Int)))), (12, .int .i64 s2.2), (13, .int .i64 (w64 (s2.2 + (1 : Int))))]) [(0, some q2)] 1 ?_
    exact hN2 ((List.set s2.1 (Int.toNat s2.2) (List.getD x_a (Int.toNat s2.2) default)), (w64 (s2.2 + (1 : Int)))) _ _ _ (some_some hh) (Ent.list2 [some 0] rfl rfl (by decide) (rens_sp (by kernel_rfl) (rl_c (u := bo (eI .i64) x_a) (by kernel_rfl) (ren_bor (rens_same (noRefs_fl nr_eI))) (rl_c (u := .sref 0 [] 0 (List.length s2.1) 1) (by kernel_rfl) ren_sx (rl_c (u := .int .i64 (w64 (s2.2 + (1 : Int)))) (by kernel_rfl) ren_i rl_n)))) (hq q2 (rens_same (noRefs_fl nr_eI)) hs_nil))
  refine Aw.condF (by kernel_rfl) hb ?_
  refine Aw.exit ?_
  refine then_x ?_
  refine hX2 _ _ _ _ _ (some_some hh) ?_
  intro hout
  rw [hout] at hk2
  refine blk_x ?_
  obtain rfl := some_some hk2
  exact hN1 s2.1 _ _ _ hk1 (Ent.list2 [some 0] rfl rfl (by decide) (rens_sp (by kernel_rfl) (rl_c (u := .sref 0 [] 0 (List.length s2.1) 1) (by kernel_rfl) ren_sx rl_n)) (hq ⟨3, (fl (eI .i64) s2.1)⟩ (rens_same (noRefs_fl nr_eI)) hs_nil))

-- 44 loop.example/guesthouse/laws.toCore
def Lf44_r0 : List LOper := [oo 1 (.box 52 (.t 0)), oo 2 (.fresh 39 [.nil, (.int .i64 0), (.int .i64 0), (.int .i64 0), (.int .i64 0), (.bool false), (.int .i64 0), (.int .i64 0), (.int .i64 0), (.bool false), (.bool false), (.bool false), (.bool false)])]
def Lf44_r1 : List LOper := [oo 3 (.fresh 39 [.nil, (.int .i64 0), (.int .i64 0), (.int .i64 0), (.int .i64 0), (.bool false), (.int .i64 0), (.int .i64 0), (.int .i64 0), (.bool false), (.bool false), (.bool false), (.bool false)])]
def Lf44_r2 : List LOper := [oo 4 (.fadr 0 (.t 1)), oo 5 (.load false 1 (.t 4)), oo 6 (.call 79 [(.t 5)]), oo 7 (.fadr 0 (.t 3)), ⟨none, (.store 1 (.t 7) (.t 6)), none⟩]
def Lf44_r3 : List LOper := [oo 8 (.fadr 1 (.t 1)), oo 9 (.load false 1 (.t 8)), oo 10 (.fadr 1 (.t 3)), ⟨none, (.store 1 (.t 10) (.t 9)), none⟩]
def Lf44_r4 : List LOper := [oo 11 (.fadr 2 (.t 1)), oo 12 (.load false 1 (.t 11)), oo 13 (.fadr 2 (.t 3)), ⟨none, (.store 1 (.t 13) (.t 12)), none⟩]
def Lf44_r5 : List LOper := [oo 14 (.fadr 3 (.t 1)), oo 15 (.load false 1 (.t 14)), oo 16 (.fadr 3 (.t 3)), ⟨none, (.store 1 (.t 16) (.t 15)), none⟩]
def Lf44_r6 : List LOper := [oo 17 (.fadr 4 (.t 1)), oo 18 (.load false 1 (.t 17)), oo 19 (.fadr 4 (.t 3)), ⟨none, (.store 1 (.t 19) (.t 18)), none⟩]
def Lf44_r7 : List LOper := [oo 20 (.fadr 5 (.t 1)), oo 21 (.load false 1 (.t 20)), oo 22 (.fadr 5 (.t 3)), ⟨none, (.store 1 (.t 22) (.t 21)), none⟩]
def Lf44_r8 : List LOper := [oo 23 (.fadr 6 (.t 1)), oo 24 (.load false 1 (.t 23)), oo 25 (.fadr 6 (.t 3)), ⟨none, (.store 1 (.t 25) (.t 24)), none⟩]
def Lf44_r9 : List LOper := [oo 26 (.fadr 7 (.t 1)), oo 27 (.load false 1 (.t 26)), oo 28 (.fadr 7 (.t 3)), ⟨none, (.store 1 (.t 28) (.t 27)), none⟩]
def Lf44_r10 : List LOper := [oo 29 (.fadr 8 (.t 1)), oo 30 (.load false 1 (.t 29)), oo 31 (.fadr 8 (.t 3)), ⟨none, (.store 1 (.t 31) (.t 30)), none⟩]
def Lf44_r11 : List LOper := [oo 32 (.fadr 9 (.t 1)), oo 33 (.load false 1 (.t 32)), oo 34 (.fadr 9 (.t 3)), ⟨none, (.store 1 (.t 34) (.t 33)), none⟩]
def Lf44_r12 : List LOper := [oo 35 (.fadr 10 (.t 1)), oo 36 (.load false 1 (.t 35)), oo 37 (.fadr 10 (.t 3)), ⟨none, (.store 1 (.t 37) (.t 36)), none⟩]
def Lf44_r13 : List LOper := [oo 38 (.fadr 11 (.t 1)), oo 39 (.load false 1 (.t 38)), oo 40 (.fadr 11 (.t 3)), ⟨none, (.store 1 (.t 40) (.t 39)), none⟩]
def Lf44_r14 : List LOper := [oo 41 (.fadr 12 (.t 1)), oo 42 (.load false 1 (.t 41)), oo 43 (.fadr 12 (.t 3)), ⟨none, (.store 1 (.t 43) (.t 42)), none⟩]
def Lf44_r15 : List LOper := [oo 44 (.load true 13 (.t 3)), ⟨none, (.store 13 (.t 2) (.t 44)), none⟩]
def Lf44 : LFun := ⟨45, [(.cell 2 true 13)], (.seq (.reg false Lf44_r0) (.seq (.reg false Lf44_r1) (.seq (.reg false Lf44_r2) (.seq (.reg false Lf44_r3) (.seq (.reg false Lf44_r4) (.seq (.reg false Lf44_r5) (.seq (.reg false Lf44_r6) (.seq (.reg false Lf44_r7) (.seq (.reg false Lf44_r8) (.seq (.reg false Lf44_r9) (.seq (.reg false Lf44_r10) (.seq (.reg false Lf44_r11) (.seq (.reg false Lf44_r12) (.seq (.reg false Lf44_r13) (.seq (.reg false Lf44_r14) (.seq (.reg false Lf44_r15) .ret))))))))))))))))⟩
theorem low_laws_toCore : lowFun Go.Proofs.Try.prog 44 = some Lf44 := by kernel_rfl
noncomputable def F_laws_toCore (x_a : DCore) : Option DCore :=
  Option.bind (F_laws_toIntS x_a.Regs) fun v1 =>
  some (DCore.mk v1 x_a.Pc x_a.Root x_a.Vector x_a.Saved x_a.SavedUser x_a.Cause x_a.Bad x_a.Timer x_a.Waits x_a.User x_a.On x_a.Stopped)
theorem laws_toCore_fn {x_a : DCore} {R_ : DCore} (hh : F_laws_toCore x_a = some R_) : Fn Try.prog 44 [.agg (bo (eI .i64) x_a.Regs :: ru39 x_a [])] (.agg (.own 3 1 (List.length R_.Regs) (fl (eI .i64) R_.Regs) :: ru39 R_ [])) := by
  unfold F_laws_toCore at hh
  refine Fn.start low_laws_toCore [0] (E := sp 45 [(0, .agg (B_39 x_a))]) (by kernel_rfl) (v := .agg (.sref 0 [] 0 (List.length R_.Regs) 1 :: ru39 R_ [])) (Hr := [(0, some ⟨3, (fl (eI .i64) R_.Regs)⟩)]) (k := 1) (by kernel_rfl) ?_
  refine Aw.sreg [1, 2] [0, 1] ?_
  let q1 : Root := ⟨52, (bo (eI .i64) x_a.Regs :: ru39 x_a [])⟩
  refine yt (sp 45 [(1, pp 0), (2, pp 1)]) [(0, some q1), (1, some ⟨39, (.nil :: zru39 [])⟩)] 2 ?_
  refine Aw.sreg [1, 2, 3] [0, 1, 2] ?_
  refine yt (sp 45 [(1, pp 0), (2, pp 1), (3, pp 2)]) [(0, some q1), (1, some ⟨39, (.nil :: zru39 [])⟩), (2, some ⟨39, (.nil :: zru39 [])⟩)] 3 ?_
  refine Aw.sreg [1, 2, 3] [0, 1, 2, 3] ?_
  refine yj 2  (sp 45 [(1, pp 0), (2, pp 1), (3, pp 2), (4, pp 0), (5, bo (eI .i64) x_a.Regs)]) [(0, some q1), (1, some ⟨39, (.nil :: zru39 [])⟩), (2, some ⟨39, (.nil :: zru39 [])⟩)] 3 ?_
  obtain ⟨v1, hv1, hh⟩ := bind_some hh
  refine ys (.call 79 [(.t 5)]) (some 6) (op_call (r := .own 3 1 (List.length v1) (fl (eI .i64) v1)) (v := .sref 3 [] 0 (List.length v1) 1) (Hr := [(3, some ⟨3, (fl (eI .i64) v1)⟩)]) (n' := 4) (laws_toIntS_fn hv1) (clz_v (vs := [bo (eI .i64) x_a.Regs]) (by kernel_rfl) (clz_c (clo_same (clean_bor (cleans_fl cl_eI))) clz_n)) (by simp only [AV.noRef, noRefs, Bool.and_self, noRefs_fl nr_eI]) (by simp only [AV.noBor, noBors, Bool.and_self, noBors_fl nb_eI]) (by kernel_rfl) ?_)
  refine yt (sp 45 [(1, pp 0), (2, pp 1), (3, pp 2)]) [(0, some q1), (1, some ⟨39, (.nil :: zru39 [])⟩), (2, some ⟨39, (.sref 3 [] 0 (List.length v1) 1 :: zru39 [])⟩), (3, some ⟨3, (fl (eI .i64) v1)⟩)] 4 ?_
  refine Aw.sreg [1, 2, 3] [0, 1, 2, 3] ?_
  refine yt (sp 45 [(1, pp 0), (2, pp 1), (3, pp 2)]) [(0, some q1), (1, some ⟨39, (.nil :: zru39 [])⟩), (2, some ⟨39, [.sref 3 [] 0 (List.length v1) 1, .int .i64 x_a.Pc, .int .i64 (0 : Int), .int .i64 (0 : Int), .int .i64 (0 : Int), .bool false, .int .i64 (0 : Int), .int .i64 (0 : Int), .int .i64 (0 : Int), .bool false, .bool false, .bool false, .bool false]⟩), (3, some ⟨3, (fl (eI .i64) v1)⟩)] 4 ?_
  refine Aw.sreg [1, 2, 3] [0, 1, 2, 3] ?_
  refine yt (sp 45 [(1, pp 0), (2, pp 1), (3, pp 2)]) [(0, some q1), (1, some ⟨39, (.nil :: zru39 [])⟩), (2, some ⟨39, [.sref 3 [] 0 (List.length v1) 1, .int .i64 x_a.Pc, .int .i64 x_a.Root, .int .i64 (0 : Int), .int .i64 (0 : Int), .bool false, .int .i64 (0 : Int), .int .i64 (0 : Int), .int .i64 (0 : Int), .bool false, .bool false, .bool false, .bool false]⟩), (3, some ⟨3, (fl (eI .i64) v1)⟩)] 4 ?_
  refine Aw.sreg [1, 2, 3] [0, 1, 2, 3] ?_
  refine yt (sp 45 [(1, pp 0), (2, pp 1), (3, pp 2)]) [(0, some q1), (1, some ⟨39, (.nil :: zru39 [])⟩), (2, some ⟨39, [.sref 3 [] 0 (List.length v1) 1, .int .i64 x_a.Pc, .int .i64 x_a.Root, .int .i64 x_a.Vector, .int .i64 (0 : Int), .bool false, .int .i64 (0 : Int), .int .i64 (0 : Int), .int .i64 (0 : Int), .bool false, .bool false, .bool false, .bool false]⟩), (3, some ⟨3, (fl (eI .i64) v1)⟩)] 4 ?_
  refine Aw.sreg [1, 2, 3] [0, 1, 2, 3] ?_
  refine yt (sp 45 [(1, pp 0), (2, pp 1), (3, pp 2)]) [(0, some q1), (1, some ⟨39, (.nil :: zru39 [])⟩), (2, some ⟨39, [.sref 3 [] 0 (List.length v1) 1, .int .i64 x_a.Pc, .int .i64 x_a.Root, .int .i64 x_a.Vector, .int .i64 x_a.Saved, .bool false, .int .i64 (0 : Int), .int .i64 (0 : Int), .int .i64 (0 : Int), .bool false, .bool false, .bool false, .bool false]⟩), (3, some ⟨3, (fl (eI .i64) v1)⟩)] 4 ?_
  refine Aw.sreg [1, 2, 3] [0, 1, 2, 3] ?_
  refine yt (sp 45 [(1, pp 0), (2, pp 1), (3, pp 2)]) [(0, some q1), (1, some ⟨39, (.nil :: zru39 [])⟩), (2, some ⟨39, [.sref 3 [] 0 (List.length v1) 1, .int .i64 x_a.Pc, .int .i64 x_a.Root, .int .i64 x_a.Vector, .int .i64 x_a.Saved, .bool x_a.SavedUser, .int .i64 (0 : Int), .int .i64 (0 : Int), .int .i64 (0 : Int), .bool false, .bool false, .bool false, .bool false]⟩), (3, some ⟨3, (fl (eI .i64) v1)⟩)] 4 ?_
  refine Aw.sreg [1, 2, 3] [0, 1, 2, 3] ?_
  refine yt (sp 45 [(1, pp 0), (2, pp 1), (3, pp 2)]) [(0, some q1), (1, some ⟨39, (.nil :: zru39 [])⟩), (2, some ⟨39, [.sref 3 [] 0 (List.length v1) 1, .int .i64 x_a.Pc, .int .i64 x_a.Root, .int .i64 x_a.Vector, .int .i64 x_a.Saved, .bool x_a.SavedUser, .int .i64 x_a.Cause, .int .i64 (0 : Int), .int .i64 (0 : Int), .bool false, .bool false, .bool false, .bool false]⟩), (3, some ⟨3, (fl (eI .i64) v1)⟩)] 4 ?_
  refine Aw.sreg [1, 2, 3] [0, 1, 2, 3] ?_
  refine yt (sp 45 [(1, pp 0), (2, pp 1), (3, pp 2)]) [(0, some q1), (1, some ⟨39, (.nil :: zru39 [])⟩), (2, some ⟨39, [.sref 3 [] 0 (List.length v1) 1, .int .i64 x_a.Pc, .int .i64 x_a.Root, .int .i64 x_a.Vector, .int .i64 x_a.Saved, .bool x_a.SavedUser, .int .i64 x_a.Cause, .int .i64 x_a.Bad, .int .i64 (0 : Int), .bool false, .bool false, .bool false, .bool false]⟩), (3, some ⟨3, (fl (eI .i64) v1)⟩)] 4 ?_
  refine Aw.sreg [1, 2, 3] [0, 1, 2, 3] ?_
  refine yt (sp 45 [(1, pp 0), (2, pp 1), (3, pp 2)]) [(0, some q1), (1, some ⟨39, (.nil :: zru39 [])⟩), (2, some ⟨39, [.sref 3 [] 0 (List.length v1) 1, .int .i64 x_a.Pc, .int .i64 x_a.Root, .int .i64 x_a.Vector, .int .i64 x_a.Saved, .bool x_a.SavedUser, .int .i64 x_a.Cause, .int .i64 x_a.Bad, .int .i64 x_a.Timer, .bool false, .bool false, .bool false, .bool false]⟩), (3, some ⟨3, (fl (eI .i64) v1)⟩)] 4 ?_
  refine Aw.sreg [1, 2, 3] [0, 1, 2, 3] ?_
  refine yt (sp 45 [(1, pp 0), (2, pp 1), (3, pp 2)]) [(0, some q1), (1, some ⟨39, (.nil :: zru39 [])⟩), (2, some ⟨39, [.sref 3 [] 0 (List.length v1) 1, .int .i64 x_a.Pc, .int .i64 x_a.Root, .int .i64 x_a.Vector, .int .i64 x_a.Saved, .bool x_a.SavedUser, .int .i64 x_a.Cause, .int .i64 x_a.Bad, .int .i64 x_a.Timer, .bool x_a.Waits, .bool false, .bool false, .bool false]⟩), (3, some ⟨3, (fl (eI .i64) v1)⟩)] 4 ?_
  refine Aw.sreg [1, 2, 3] [0, 1, 2, 3] ?_
  refine yt (sp 45 [(1, pp 0), (2, pp 1), (3, pp 2)]) [(0, some q1), (1, some ⟨39, (.nil :: zru39 [])⟩), (2, some ⟨39, [.sref 3 [] 0 (List.length v1) 1, .int .i64 x_a.Pc, .int .i64 x_a.Root, .int .i64 x_a.Vector, .int .i64 x_a.Saved, .bool x_a.SavedUser, .int .i64 x_a.Cause, .int .i64 x_a.Bad, .int .i64 x_a.Timer, .bool x_a.Waits, .bool x_a.User, .bool false, .bool false]⟩), (3, some ⟨3, (fl (eI .i64) v1)⟩)] 4 ?_
  refine Aw.sreg [1, 2, 3] [0, 1, 2, 3] ?_
  refine yt (sp 45 [(1, pp 0), (2, pp 1), (3, pp 2)]) [(0, some q1), (1, some ⟨39, (.nil :: zru39 [])⟩), (2, some ⟨39, [.sref 3 [] 0 (List.length v1) 1, .int .i64 x_a.Pc, .int .i64 x_a.Root, .int .i64 x_a.Vector, .int .i64 x_a.Saved, .bool x_a.SavedUser, .int .i64 x_a.Cause, .int .i64 x_a.Bad, .int .i64 x_a.Timer, .bool x_a.Waits, .bool x_a.User, .bool x_a.On, .bool false]⟩), (3, some ⟨3, (fl (eI .i64) v1)⟩)] 4 ?_
  refine Aw.sreg [2, 3] [1, 2, 3] ?_
  let q2 : Root := ⟨39, (.sref 3 [] 0 (List.length v1) 1 :: ru39 x_a [])⟩
  refine yt (sp 45 [(2, pp 1), (3, pp 2)]) [(1, some ⟨39, (.nil :: zru39 [])⟩), (2, some q2), (3, some ⟨3, (fl (eI .i64) v1)⟩)] 4 ?_
  refine Aw.sreg [2] [1, 3] ?_
  refine yt (sp 45 [(2, pp 1)]) [(1, some q2), (3, some ⟨3, (fl (eI .i64) v1)⟩)] 4 ?_
  refine Aw.ret ?_
  rw [some_some hh]
  exact gives (r' := .agg (.sref 3 [] 0 (List.length v1) 1 :: ru39 x_a [])) (by kernel_rfl) (Ent.list [some 3] rfl rfl (Nat.zero_le _) (rens_1 (ren_agg (rens_c ren_sx (rens_i (rens_i (rens_i (rens_i (rens_b (rens_i (rens_i (rens_i (rens_b (rens_b (rens_b (rens_b rens_n))))))))))))))) (hq ⟨3, (fl (eI .i64) v1)⟩ (rens_same (noRefs_fl nr_eI)) hs_nil))

-- 47 loop.example/guesthouse/laws.toBare
def Lf47_r0 : List LOper := [oo 1 (.box 58 (.t 0)), oo 2 (.fresh 43 [.nil, (.int .i64 0), (.int .i64 0), (.int .i64 0), (.int .i64 0), (.bool false), (.int .i64 0), (.int .i64 0), (.int .i64 0), (.bool false), (.bool false), (.bool false), (.bool false), .nil, .nil, .nil])]
def Lf47_r1 : List LOper := [oo 3 (.fresh 43 [.nil, (.int .i64 0), (.int .i64 0), (.int .i64 0), (.int .i64 0), (.bool false), (.int .i64 0), (.int .i64 0), (.int .i64 0), (.bool false), (.bool false), (.bool false), (.bool false), .nil, .nil, .nil])]
def Lf47_r2 : List LOper := [oo 4 (.fadr 0 (.t 1)), oo 5 (.load true 13 (.t 4)), oo 6 (.call 44 [(.t 5)]), oo 7 (.fadr 0 (.t 3)), ⟨none, (.store 13 (.t 7) (.t 6)), none⟩]
def Lf47_r3 : List LOper := [oo 8 (.fadr 13 (.t 1)), oo 9 (.load false 1 (.t 8)), oo 10 (.call 79 [(.t 9)]), oo 11 (.fadr 13 (.t 3)), ⟨none, (.store 1 (.t 11) (.t 10)), none⟩]
def Lf47_r4 : List LOper := [oo 12 (.fadr 14 (.t 1)), oo 13 (.load false 1 (.t 12)), oo 14 (.call 79 [(.t 13)]), oo 15 (.fadr 14 (.t 3)), ⟨none, (.store 1 (.t 15) (.t 14)), none⟩]
def Lf47_r5 : List LOper := [oo 16 (.fadr 15 (.t 1)), oo 17 (.load false 1 (.t 16)), oo 18 (.call 79 [(.t 17)]), oo 19 (.fadr 15 (.t 3)), ⟨none, (.store 1 (.t 19) (.t 18)), none⟩]
def Lf47_r6 : List LOper := [oo 20 (.load true 16 (.t 3)), ⟨none, (.store 16 (.t 2) (.t 20)), none⟩]
def Lf47 : LFun := ⟨21, [(.cell 2 true 16)], (.seq (.reg false Lf47_r0) (.seq (.reg false Lf47_r1) (.seq (.reg false Lf47_r2) (.seq (.reg false Lf47_r3) (.seq (.reg false Lf47_r4) (.seq (.reg false Lf47_r5) (.seq (.reg false Lf47_r6) .ret)))))))⟩
theorem low_laws_toBare : lowFun Go.Proofs.Try.prog 47 = some Lf47 := by kernel_rfl
noncomputable def F_laws_toBare (x_a : DBare) : Option DBare :=
  Option.bind (F_laws_toCore x_a.C) fun v1 =>
  Option.bind (F_laws_toIntS x_a.Mem) fun v2 =>
  Option.bind (F_laws_toIntS x_a.In) fun v3 =>
  Option.bind (F_laws_toIntS x_a.Out) fun v4 =>
  some (DBare.mk v1 v2 v3 v4)
theorem laws_toBare_fn {x_a : DBare} {R_ : DBare} (hh : F_laws_toBare x_a = some R_) : Fn Try.prog 47 [.agg (bo (eI .i64) x_a.C.Regs :: ru39 x_a.C [bo (eI .i64) x_a.Mem, bo (eI .i64) x_a.In, bo (eI .i64) x_a.Out])] (.agg (.own 3 1 (List.length R_.C.Regs) (fl (eI .i64) R_.C.Regs) :: ru39 R_.C [.own 3 1 (List.length R_.Mem) (fl (eI .i64) R_.Mem), .own 3 1 (List.length R_.In) (fl (eI .i64) R_.In), .own 3 1 (List.length R_.Out) (fl (eI .i64) R_.Out)])) := by
  unfold F_laws_toBare at hh
  refine Fn.start low_laws_toBare [0] (E := sp 21 [(0, .agg (B_43 x_a))]) (by kernel_rfl) (v := .agg (.sref 0 [] 0 (List.length R_.C.Regs) 1 :: ru39 R_.C [.sref 1 [] 0 (List.length R_.Mem) 1, .sref 2 [] 0 (List.length R_.In) 1, .sref 3 [] 0 (List.length R_.Out) 1])) (Hr := [(3, some ⟨3, (fl (eI .i64) R_.Out)⟩), (2, some ⟨3, (fl (eI .i64) R_.In)⟩), (1, some ⟨3, (fl (eI .i64) R_.Mem)⟩), (0, some ⟨3, (fl (eI .i64) R_.C.Regs)⟩)]) (k := 4) (by kernel_rfl) ?_
  refine Aw.sreg [1, 2] [0, 1] ?_
  let q1 : Root := ⟨58, (bo (eI .i64) x_a.C.Regs :: ru39 x_a.C [bo (eI .i64) x_a.Mem, bo (eI .i64) x_a.In, bo (eI .i64) x_a.Out])⟩
  let q2 : Root := ⟨43, (.nil :: zru39 [.nil, .nil, .nil])⟩
  refine yt (sp 21 [(1, pp 0), (2, pp 1)]) [(0, some q1), (1, some q2)] 2 ?_
  refine Aw.sreg [1, 2, 3] [0, 1, 2] ?_
  refine yt (sp 21 [(1, pp 0), (2, pp 1), (3, pp 2)]) [(0, some q1), (1, some q2), (2, some q2)] 3 ?_
  refine Aw.sreg [1, 2, 3] [0, 1, 2, 3] ?_
  refine yj 2  (sp 21 [(1, pp 0), (2, pp 1), (3, pp 2), (4, pp 0), (5, .agg (B_39 x_a.C))]) [(0, some q1), (1, some q2), (2, some q2)] 3 ?_
  obtain ⟨v1, hv1, hh⟩ := bind_some hh
  let q3 : Root := ⟨3, (fl (eI .i64) v1.Regs)⟩
  refine ys (.call 44 [(.t 5)]) (some 6) (op_call (r := .agg (.own 3 1 (List.length v1.Regs) (fl (eI .i64) v1.Regs) :: ru39 v1 [])) (v := .agg (.sref 3 [] 0 (List.length v1.Regs) 1 :: ru39 v1 [])) (Hr := [(3, some q3)]) (n' := 4) (laws_toCore_fn hv1) (clz_v (vs := [.agg (B_39 x_a.C)]) (by kernel_rfl) (clz_c (clo_same (clean_agg (cl_B_39 _))) clz_n)) (by simp only [ru39, AV.noRef, noRefs, Bool.and_self, noRefs_fl nr_eI]) (by simp only [ru39, AV.noBor, noBors, Bool.and_self, noBors_fl nb_eI]) (by kernel_rfl) ?_)
  let q4 : Root := ⟨43, (.sref 3 [] 0 (List.length v1.Regs) 1 :: ru39 v1 [.nil, .nil, .nil])⟩
  refine yt (sp 21 [(1, pp 0), (2, pp 1), (3, pp 2)]) [(0, some q1), (1, some q2), (2, some q4), (3, some q3)] 4 ?_
  refine Aw.sreg [1, 2, 3] [0, 1, 2, 3, 4] ?_
  refine yj 2  (sp 21 [(1, pp 0), (2, pp 1), (3, pp 2), (8, .ptr 0 [] 13), (9, bo (eI .i64) x_a.Mem)]) [(0, some q1), (1, some q2), (2, some q4), (3, some q3)] 4 ?_
  obtain ⟨v2, hv2, hh⟩ := bind_some hh
  refine ys (.call 79 [(.t 9)]) (some 10) (op_call (r := .own 3 1 (List.length v2) (fl (eI .i64) v2)) (v := .sref 4 [] 0 (List.length v2) 1) (Hr := [(4, some ⟨3, (fl (eI .i64) v2)⟩)]) (n' := 5) (laws_toIntS_fn hv2) (clz_v (vs := [bo (eI .i64) x_a.Mem]) (by kernel_rfl) (clz_c (clo_same (clean_bor (cleans_fl cl_eI))) clz_n)) (by simp only [AV.noRef, noRefs, Bool.and_self, noRefs_fl nr_eI]) (by simp only [AV.noBor, noBors, Bool.and_self, noBors_fl nb_eI]) (by kernel_rfl) ?_)
  let q5 : Root := ⟨43, (.sref 3 [] 0 (List.length v1.Regs) 1 :: ru39 v1 [.sref 4 [] 0 (List.length v2) 1, .nil, .nil])⟩
  refine yt (sp 21 [(1, pp 0), (2, pp 1), (3, pp 2)]) [(0, some q1), (1, some q2), (2, some q5), (3, some q3), (4, some ⟨3, (fl (eI .i64) v2)⟩)] 5 ?_
  refine Aw.sreg [1, 2, 3] [0, 1, 2, 3, 4, 5] ?_
  refine yj 2  (sp 21 [(1, pp 0), (2, pp 1), (3, pp 2), (12, .ptr 0 [] 14), (13, bo (eI .i64) x_a.In)]) [(0, some q1), (1, some q2), (2, some q5), (3, some q3), (4, some ⟨3, (fl (eI .i64) v2)⟩)] 5 ?_
  obtain ⟨v3, hv3, hh⟩ := bind_some hh
  refine ys (.call 79 [(.t 13)]) (some 14) (op_call (r := .own 3 1 (List.length v3) (fl (eI .i64) v3)) (v := .sref 5 [] 0 (List.length v3) 1) (Hr := [(5, some ⟨3, (fl (eI .i64) v3)⟩)]) (n' := 6) (laws_toIntS_fn hv3) (clz_v (vs := [bo (eI .i64) x_a.In]) (by kernel_rfl) (clz_c (clo_same (clean_bor (cleans_fl cl_eI))) clz_n)) (by simp only [AV.noRef, noRefs, Bool.and_self, noRefs_fl nr_eI]) (by simp only [AV.noBor, noBors, Bool.and_self, noBors_fl nb_eI]) (by kernel_rfl) ?_)
  let q6 : Root := ⟨43, (.sref 3 [] 0 (List.length v1.Regs) 1 :: ru39 v1 [.sref 4 [] 0 (List.length v2) 1, .sref 5 [] 0 (List.length v3) 1, .nil])⟩
  refine yt (sp 21 [(1, pp 0), (2, pp 1), (3, pp 2)]) [(0, some q1), (1, some q2), (2, some q6), (3, some q3), (4, some ⟨3, (fl (eI .i64) v2)⟩), (5, some ⟨3, (fl (eI .i64) v3)⟩)] 6 ?_
  refine Aw.sreg [2, 3] [1, 2, 3, 4, 5, 6] ?_
  refine yj 2  (sp 21 [(1, pp 0), (2, pp 1), (3, pp 2), (16, .ptr 0 [] 15), (17, bo (eI .i64) x_a.Out)]) [(0, some q1), (1, some q2), (2, some q6), (3, some q3), (4, some ⟨3, (fl (eI .i64) v2)⟩), (5, some ⟨3, (fl (eI .i64) v3)⟩)] 6 ?_
  obtain ⟨v4, hv4, hh⟩ := bind_some hh
  refine ys (.call 79 [(.t 17)]) (some 18) (op_call (r := .own 3 1 (List.length v4) (fl (eI .i64) v4)) (v := .sref 6 [] 0 (List.length v4) 1) (Hr := [(6, some ⟨3, (fl (eI .i64) v4)⟩)]) (n' := 7) (laws_toIntS_fn hv4) (clz_v (vs := [bo (eI .i64) x_a.Out]) (by kernel_rfl) (clz_c (clo_same (clean_bor (cleans_fl cl_eI))) clz_n)) (by simp only [AV.noRef, noRefs, Bool.and_self, noRefs_fl nr_eI]) (by simp only [AV.noBor, noBors, Bool.and_self, noBors_fl nb_eI]) (by kernel_rfl) ?_)
  let q7 : Root := ⟨43, (.sref 3 [] 0 (List.length v1.Regs) 1 :: ru39 v1 [.sref 4 [] 0 (List.length v2) 1, .sref 5 [] 0 (List.length v3) 1, .sref 6 [] 0 (List.length v4) 1])⟩
  refine yt (sp 21 [(2, pp 1), (3, pp 2)]) [(1, some q2), (2, some q7), (3, some q3), (4, some ⟨3, (fl (eI .i64) v2)⟩), (5, some ⟨3, (fl (eI .i64) v3)⟩), (6, some ⟨3, (fl (eI .i64) v4)⟩)] 7 ?_
  refine Aw.sreg [2] [1, 3, 4, 5, 6] ?_
  refine yt (sp 21 [(2, pp 1)]) [(1, some q7), (3, some q3), (4, some ⟨3, (fl (eI .i64) v2)⟩), (5, some ⟨3, (fl (eI .i64) v3)⟩), (6, some ⟨3, (fl (eI .i64) v4)⟩)] 7 ?_
  refine Aw.ret ?_
  rw [some_some hh]
  exact gives (r' := .agg (.sref 3 [] 0 (List.length v1.Regs) 1 :: ru39 v1 [.sref 4 [] 0 (List.length v2) 1, .sref 5 [] 0 (List.length v3) 1, .sref 6 [] 0 (List.length v4) 1])) (by kernel_rfl) (Ent.list [some 3, some 4, some 5, some 6] rfl rfl (Nat.zero_le _) (rens_1 (ren_agg (rens_c ren_sx (rens_i (rens_i (rens_i (rens_i (rens_b (rens_i (rens_i (rens_i (rens_b (rens_b (rens_b (rens_b (rens_c ren_sx (rens_c ren_sx (rens_c ren_sx rens_n)))))))))))))))))) (hq ⟨3, (fl (eI .i64) v4)⟩ (rens_same (noRefs_fl nr_eI)) (hq ⟨3, (fl (eI .i64) v3)⟩ (rens_same (noRefs_fl nr_eI)) (hq ⟨3, (fl (eI .i64) v2)⟩ (rens_same (noRefs_fl nr_eI)) (hq q3 (rens_same (noRefs_fl nr_eI)) hs_nil)))))

-- 80 loop.example/guesthouse/laws.eqIntS
def Lf80_r0 : List LOper := [oo 4 (.mv (.c (.bool false)))]
def Lf80_r1 : List LOper := [om 6 0, oo 7 (.len (.t 6)), om 8 1, oo 9 (.len (.t 8)), oo 10 (.bin .neq (.t 7) (.t 9))]
def Lf80_r2 : List LOper := [oo 4 (.mv (.c (.bool false)))]
def Lf80_r3 : List LOper := [oo 5 (.mv (.c (.int .i64 0)))]
def Lf80_r4 : List LOper := [om 11 5, om 12 0, oo 13 (.len (.t 12)), oo 14 (.bin .lss (.t 11) (.t 13))]
def Lf80_r5 : List LOper := [om 17 0, om 18 5, oo 19 (.iadr 1 (.t 17) (.t 18)), oo 20 (.load false 1 (.t 19)), om 21 1, om 22 5, oo 23 (.iadr 1 (.t 21) (.t 22)), oo 24 (.load false 1 (.t 23)), oo 25 (.bin .neq (.t 20) (.t 24))]
def Lf80_r6 : List LOper := [oo 4 (.mv (.c (.bool false)))]
def Lf80_r7 : List LOper := [om 15 5, oo 16 (.bin .add (.t 15) (.c (.int .i64 1))), om 5 16]
def Lf80_l8 : LCode := (.seq (.seq (.reg false Lf80_r4) (.cond (.t 14) .skip (.exit 0))) (.seq (.block 1 (.seq (.reg true Lf80_r5) (.cond (.t 25) (.seq (.reg false Lf80_r6) .ret) .skip))) (.reg false Lf80_r7)))
def Lf80_r9 : List LOper := [oo 4 (.mv (.c (.bool true)))]
def Lf80 : LFun := ⟨26, [(.tmp 4)], (.seq (.reg false Lf80_r0) (.seq (.seq (.reg false Lf80_r1) (.cond (.t 10) (.seq (.reg false Lf80_r2) .ret) .skip)) (.seq (.seq (.reg false Lf80_r3) (.block 0 (.loop Lf80_l8))) (.seq (.reg false Lf80_r9) .ret))))⟩
theorem low_laws_eqIntS : lowFun Go.Proofs.Try.prog 80 = some Lf80 := by kernel_rfl
noncomputable def F_laws_eqIntS_j1  (s1 : Unit) : Option Bool :=
  some true
noncomputable def F_laws_eqIntS_l2 (x_a : List Int) (x_b : List Int) (s2 : Int) : Option (LO Int (JO Unit Bool)) :=
  cond (decide (s2 < (((List.length x_a) : Nat) : Int)))
    (grd ((0 : Int) ≤ s2 ∧ s2 < ((List.length x_a : Nat) : Int)) (grd ((0 : Int) ≤ s2 ∧ s2 < ((List.length x_b : Nat) : Int)) (cond (!decide ((List.getD x_a (Int.toNat s2) default) = (List.getD x_b (Int.toNat s2) default)))
          (some (.ret (.out false)))
          (some (.next (w64 (s2 + (1 : Int))))))))
    (some (.ret (.go ())))
noncomputable def F_laws_eqIntS (x_a : List Int) (x_b : List Int) : Option Bool :=
  cond (!decide ((((List.length x_a) : Nat) : Int) = (((List.length x_b) : Nat) : Int)))
    (some false)
    (Option.bind (Option.bind (iter (F_laws_eqIntS_l2 x_a x_b) (0 : Int)) LO.val) fun j1 =>
      JO.run j1 (F_laws_eqIntS_j1))
theorem laws_eqIntS_fn {x_a : List Int} {x_b : List Int} {R_ : Bool} (hh : F_laws_eqIntS x_a x_b = some R_) : Fn Try.prog 80 [bo (eI .i64) x_a, bo (eI .i64) x_b] (.bool R_) := by
  unfold F_laws_eqIntS at hh
  refine Fn.start low_laws_eqIntS [0, 1] (E := sp 26 [(0, bo (eI .i64) x_a), (1, bo (eI .i64) x_b)]) (by kernel_rfl) (v := .bool R_) (Hr := []) (k := 0) (by kernel_rfl) ?_
  refine Aw.sreg [0, 1] [] ?_
  refine yt (sp 26 [(0, bo (eI .i64) x_a), (1, bo (eI .i64) x_b)]) [] 0 ?_
  refine Aw.seq ?_
  refine Aw.sreg [0, 1, 10] [] ?_
  refine yt (sp 26 [(0, bo (eI .i64) x_a), (1, bo (eI .i64) x_b), (10, .bool (!decide ((((List.length x_a) : Nat) : Int) = (((List.length x_b) : Nat) : Int))))]) [] 0 ?_
  rcases cond_some hh with ⟨hb, hh⟩ | ⟨hb, hh⟩
  · refine Aw.condT (by kernel_rfl) hb ?_
    refine Aw.sreg [4] [] ?_
    refine yt (sp 26 [(4, .bool false)]) [] 0 ?_
    refine Aw.ret ?_
    refine then_r ?_
    rw [some_some hh]
    exact gvb
  refine Aw.condF (by kernel_rfl) hb ?_
  refine Aw.xskip (fun _ _ _ hq => then_m hq) ?_
  obtain ⟨j1, hh, hk1⟩ := bind_some hh
  refine Aw.join (S := Unit) (fun s1 => sp 26 []) (fun s1 => []) 0 (fun s1 => F_laws_eqIntS_j1 s1 = some R_) ?_ ?_
  · intro s1 hh
    unfold F_laws_eqIntS_j1 at hh
    refine Aw.sreg [4] [] ?_
    refine yt (sp 26 [(4, .bool true)]) [] 0 ?_
    refine Aw.ret ?_
    rw [some_some hh]
    exact gvb
  intro Q1 hN1 hR1 hE1
  refine Aw.sreg [0, 1, 5] [] ?_
  refine yt (sp 26 [(0, bo (eI .i64) x_a), (1, bo (eI .i64) x_b), (5, .int .i64 (0 : Int))]) [] 0 ?_
  refine Aw.block ?_
  obtain ⟨o2, hi2, hk2⟩ := bind_some hh
  refine Aw.iter (fun (s2 : Int) => sp 26 [(0, bo (eI .i64) x_a), (1, bo (eI .i64) x_b), (5, .int .i64 s2)]) (fun (s2 : Int) => []) 0 hi2 (Ent.list2 [] rfl rfl (by decide) (rens_sp (by kernel_rfl) (rl_c (u := bo (eI .i64) x_a) (by kernel_rfl) (ren_bor (rens_same (noRefs_fl nr_eI))) (rl_c (u := bo (eI .i64) x_b) (by kernel_rfl) (ren_bor (rens_same (noRefs_fl nr_eI))) (rl_c (u := .int .i64 (0 : Int)) (by kernel_rfl) ren_i rl_n)))) hs_nil) ?_
  intro s2 u2 Q2 hh hN2 hX2 hR2
  unfold F_laws_eqIntS_l2 at hh
  refine Aw.seq ?_
  refine Aw.sreg [0, 1, 5, 14] [] ?_
  refine yt (sp 26 [(0, bo (eI .i64) x_a), (1, bo (eI .i64) x_b), (5, .int .i64 s2), (14, .bool (decide (s2 < (((List.length x_a) : Nat) : Int))))]) [] 0 ?_
  rcases cond_some hh with ⟨hb, hh⟩ | ⟨hb, hh⟩
  · refine Aw.condT (by kernel_rfl) hb ?_
    refine Aw.xskip (fun _ _ _ hq => then_m hq) ?_
    refine Aw.seq ?_
    refine Aw.block ?_
    refine Aw.sregq [0, 1, 5, 25] ?_
    refine qc (cs := []) (E' := (sp 26 [(0, bo (eI .i64) x_a), (1, bo (eI .i64) x_b), (5, .int .i64 s2), (14, .bool (decide (s2 < (((List.length x_a) : Nat) : Int)))), (17, bo (eI .i64) x_a), (18, .int .i64 s2)])) (pre := (List.take 2 Lf80_r5)) (L' := (List.drop 2 Lf80_r5)) (by kernel_rfl) (fun K => by kernel_rfl) .nil ?_
    obtain ⟨hg47, hh⟩ := grd_some hh
    refine qs (.iadr 1 (.t 17) (.t 18)) (some 19) (yq_q rfl (op_iadr (kd := .i64) (c := (eI .i64)) (xs := x_a) len_eI (by decide) (by kernel_rfl) (by kernel_rfl) hg47 ?_))
    refine qs (.load false 1 (.t 19)) (some 20) (yq_q rfl (op_loadb (c := (eI .i64)) (xs := x_a) (o := Int.toNat s2 * 1) (i := (Int.toNat s2)) (off := 0) (v := .int .i64 (List.getD x_a (Int.toNat s2) default)) len_eI (by kernel_rfl) (by omega) (by omega) (by decide) (by kernel_rfl) ?_))
    refine qc (cs := []) (E' := (sp 26 [(0, bo (eI .i64) x_a), (1, bo (eI .i64) x_b), (5, .int .i64 s2), (14, .bool (decide (s2 < (((List.length x_a) : Nat) : Int)))), (17, bo (eI .i64) x_a), (18, .int .i64 s2), (19, .bptr (fl (eI .i64) x_a) (Int.toNat s2 * 1)), (20, .int .i64 (List.getD x_a (Int.toNat s2) default)), (21, bo (eI .i64) x_b), (22, .int .i64 s2)])) (pre := (List.take 2 (List.drop 4 Lf80_r5))) (L' := (List.drop 6 Lf80_r5)) (by kernel_rfl) (fun K => by kernel_rfl) .nil ?_
    obtain ⟨hg48, hh⟩ := grd_some hh
    refine qs (.iadr 1 (.t 21) (.t 22)) (some 23) (yq_q rfl (op_iadr (kd := .i64) (c := (eI .i64)) (xs := x_b) len_eI (by decide) (by kernel_rfl) (by kernel_rfl) hg48 ?_))
    refine qs (.load false 1 (.t 23)) (some 24) (yq_q rfl (op_loadb (c := (eI .i64)) (xs := x_b) (o := Int.toNat s2 * 1) (i := (Int.toNat s2)) (off := 0) (v := .int .i64 (List.getD x_b (Int.toNat s2) default)) len_eI (by kernel_rfl) (by omega) (by omega) (by decide) (by kernel_rfl) ?_))
    refine qct (cs := []) (E' := (sp 26 [(0, bo (eI .i64) x_a), (1, bo (eI .i64) x_b), (5, .int .i64 s2), (25, .bool (!decide ((List.getD x_a (Int.toNat s2) default) = (List.getD x_b (Int.toNat s2) default))))])) (fun K => by kernel_rfl) .nil ?_
    rcases cond_some hh with ⟨hb, hh⟩ | ⟨hb, hh⟩
    · refine Aw.condT (by kernel_rfl) hb ?_
      refine Aw.sreg [4] [] ?_
      refine yt (sp 26 [(4, .bool false)]) [] 0 ?_
      refine Aw.ret ?_
      refine blk_r (then_r ?_)
      refine hR2 _ _ _ _ (some_some hh) ?_
      intro hout
      rw [hout] at hk2
      refine blk_r ?_
      obtain rfl := some_some hk2
      refine hR1 _ _ _ ?_
      refine ?_
      rw [some_some hk1]
      exact gvb
    refine Aw.condF (by kernel_rfl) hb ?_
    refine Aw.xskip (fun _ _ _ hq => blk_m (then_m hq)) ?_
    refine Aw.oreg ?_
    refine ye (sp 26 [(0, bo (eI .i64) x_a), (1, bo (eI .i64) x_b), (5, .int .i64 (w64 (s2 + (1 : Int)))), (15, .int .i64 s2), (16, .int .i64 (w64 (s2 + (1 : Int)))), (25, .bool (!decide ((List.getD x_a (Int.toNat s2) default) = (List.getD x_b (Int.toNat s2) default))))]) [] 0 ?_
    exact hN2 (w64 (s2 + (1 : Int))) _ _ _ (some_some hh) (Ent.list2 [] rfl rfl (by decide) (rens_sp (by kernel_rfl) (rl_c (u := bo (eI .i64) x_a) (by kernel_rfl) (ren_bor (rens_same (noRefs_fl nr_eI))) (rl_c (u := bo (eI .i64) x_b) (by kernel_rfl) (ren_bor (rens_same (noRefs_fl nr_eI))) (rl_c (u := .int .i64 (w64 (s2 + (1 : Int)))) (by kernel_rfl) ren_i rl_n)))) hs_nil)
  refine Aw.condF (by kernel_rfl) hb ?_
  refine Aw.exit ?_
  refine then_x ?_
  refine hX2 _ _ _ _ _ (some_some hh) ?_
  intro hout
  rw [hout] at hk2
  refine blk_x ?_
  obtain rfl := some_some hk2
  exact hN1 () _ _ _ hk1 (Ent.list2 [] rfl rfl (by decide) (rens_sp (by kernel_rfl) rl_n) hs_nil)

-- 45 loop.example/guesthouse/laws.eqCore
def Lf45_r0 : List LOper := [oo 2 (.box 39 (.t 0)), oo 3 (.box 39 (.t 1)), oo 4 (.mv (.c (.bool false)))]
def Lf45_r1 : List LOper := [oo 5 (.fadr 0 (.t 2)), oo 6 (.load false 1 (.t 5)), oo 7 (.fadr 0 (.t 3)), oo 8 (.load false 1 (.t 7)), oo 9 (.call 80 [(.t 6), (.t 8)]), oo 10 (.un .not (.t 9))]
def Lf45_r2 : List LOper := [oo 4 (.mv (.c (.bool false)))]
def Lf45_r3 : List LOper := [oo 11 (.fadr 1 (.t 2)), oo 12 (.load false 1 (.t 11)), oo 13 (.fadr 1 (.t 3)), oo 14 (.load false 1 (.t 13)), oo 15 (.bin .neq (.t 12) (.t 14))]
def Lf45_r4 : List LOper := [oo 4 (.mv (.c (.bool false)))]
def Lf45_r5 : List LOper := [oo 16 (.fadr 2 (.t 2)), oo 17 (.load false 1 (.t 16)), oo 18 (.fadr 2 (.t 3)), oo 19 (.load false 1 (.t 18)), oo 20 (.bin .neq (.t 17) (.t 19))]
def Lf45_r6 : List LOper := [oo 4 (.mv (.c (.bool false)))]
def Lf45_r7 : List LOper := [oo 21 (.fadr 3 (.t 2)), oo 22 (.load false 1 (.t 21)), oo 23 (.fadr 3 (.t 3)), oo 24 (.load false 1 (.t 23)), oo 25 (.bin .neq (.t 22) (.t 24))]
def Lf45_r8 : List LOper := [oo 4 (.mv (.c (.bool false)))]
def Lf45_r9 : List LOper := [oo 26 (.fadr 4 (.t 2)), oo 27 (.load false 1 (.t 26)), oo 28 (.fadr 4 (.t 3)), oo 29 (.load false 1 (.t 28)), oo 30 (.bin .neq (.t 27) (.t 29))]
def Lf45_r10 : List LOper := [oo 4 (.mv (.c (.bool false)))]
def Lf45_r11 : List LOper := [oo 31 (.fadr 5 (.t 2)), oo 32 (.load false 1 (.t 31)), oo 33 (.fadr 5 (.t 3)), oo 34 (.load false 1 (.t 33)), oo 35 (.binb true (.t 32) (.t 34))]
def Lf45_r12 : List LOper := [oo 4 (.mv (.c (.bool false)))]
def Lf45_r13 : List LOper := [oo 36 (.fadr 6 (.t 2)), oo 37 (.load false 1 (.t 36)), oo 38 (.fadr 6 (.t 3)), oo 39 (.load false 1 (.t 38)), oo 40 (.bin .neq (.t 37) (.t 39))]
def Lf45_r14 : List LOper := [oo 4 (.mv (.c (.bool false)))]
def Lf45_r15 : List LOper := [oo 41 (.fadr 7 (.t 2)), oo 42 (.load false 1 (.t 41)), oo 43 (.fadr 7 (.t 3)), oo 44 (.load false 1 (.t 43)), oo 45 (.bin .neq (.t 42) (.t 44))]
def Lf45_r16 : List LOper := [oo 4 (.mv (.c (.bool false)))]
def Lf45_r17 : List LOper := [oo 46 (.fadr 8 (.t 2)), oo 47 (.load false 1 (.t 46)), oo 48 (.fadr 8 (.t 3)), oo 49 (.load false 1 (.t 48)), oo 50 (.bin .neq (.t 47) (.t 49))]
def Lf45_r18 : List LOper := [oo 4 (.mv (.c (.bool false)))]
def Lf45_r19 : List LOper := [oo 51 (.fadr 9 (.t 2)), oo 52 (.load false 1 (.t 51)), oo 53 (.fadr 9 (.t 3)), oo 54 (.load false 1 (.t 53)), oo 55 (.binb true (.t 52) (.t 54))]
def Lf45_r20 : List LOper := [oo 4 (.mv (.c (.bool false)))]
def Lf45_r21 : List LOper := [oo 56 (.fadr 10 (.t 2)), oo 57 (.load false 1 (.t 56)), oo 58 (.fadr 10 (.t 3)), oo 59 (.load false 1 (.t 58)), oo 60 (.binb true (.t 57) (.t 59))]
def Lf45_r22 : List LOper := [oo 4 (.mv (.c (.bool false)))]
def Lf45_r23 : List LOper := [oo 61 (.fadr 11 (.t 2)), oo 62 (.load false 1 (.t 61)), oo 63 (.fadr 11 (.t 3)), oo 64 (.load false 1 (.t 63)), oo 65 (.binb true (.t 62) (.t 64))]
def Lf45_r24 : List LOper := [oo 4 (.mv (.c (.bool false)))]
def Lf45_r25 : List LOper := [oo 66 (.fadr 12 (.t 2)), oo 67 (.load false 1 (.t 66)), oo 68 (.fadr 12 (.t 3)), oo 69 (.load false 1 (.t 68)), oo 70 (.binb true (.t 67) (.t 69))]
def Lf45_r26 : List LOper := [oo 4 (.mv (.c (.bool false)))]
def Lf45_r27 : List LOper := [oo 4 (.mv (.c (.bool true)))]
def Lf45 : LFun := ⟨71, [(.tmp 4)], (.seq (.reg false Lf45_r0) (.seq (.seq (.reg false Lf45_r1) (.cond (.t 10) (.seq (.reg false Lf45_r2) .ret) .skip)) (.seq (.seq (.reg false Lf45_r3) (.cond (.t 15) (.seq (.reg false Lf45_r4) .ret) .skip)) (.seq (.seq (.reg false Lf45_r5) (.cond (.t 20) (.seq (.reg false Lf45_r6) .ret) .skip)) (.seq (.seq (.reg false Lf45_r7) (.cond (.t 25) (.seq (.reg false Lf45_r8) .ret) .skip)) (.seq (.seq (.reg false Lf45_r9) (.cond (.t 30) (.seq (.reg false Lf45_r10) .ret) .skip)) (.seq (.seq (.reg false Lf45_r11) (.cond (.t 35) (.seq (.reg false Lf45_r12) .ret) .skip)) (.seq (.seq (.reg false Lf45_r13) (.cond (.t 40) (.seq (.reg false Lf45_r14) .ret) .skip)) (.seq (.seq (.reg false Lf45_r15) (.cond (.t 45) (.seq (.reg false Lf45_r16) .ret) .skip)) (.seq (.seq (.reg false Lf45_r17) (.cond (.t 50) (.seq (.reg false Lf45_r18) .ret) .skip)) (.seq (.seq (.reg false Lf45_r19) (.cond (.t 55) (.seq (.reg false Lf45_r20) .ret) .skip)) (.seq (.seq (.reg false Lf45_r21) (.cond (.t 60) (.seq (.reg false Lf45_r22) .ret) .skip)) (.seq (.seq (.reg false Lf45_r23) (.cond (.t 65) (.seq (.reg false Lf45_r24) .ret) .skip)) (.seq (.seq (.reg false Lf45_r25) (.cond (.t 70) (.seq (.reg false Lf45_r26) .ret) .skip)) (.seq (.reg false Lf45_r27) .ret)))))))))))))))⟩
theorem low_laws_eqCore : lowFun Go.Proofs.Try.prog 45 = some Lf45 := by kernel_rfl
noncomputable def F_laws_eqCore (x_a : DCore) (x_b : DCore) : Option Bool :=
  Option.bind (F_laws_eqIntS x_a.Regs x_b.Regs) fun v1 =>
  cond (!v1)
    (some false)
    (cond (!decide (x_a.Pc = x_b.Pc))
      (some false)
      (cond (!decide (x_a.Root = x_b.Root))
        (some false)
        (cond (!decide (x_a.Vector = x_b.Vector))
          (some false)
          (cond (!decide (x_a.Saved = x_b.Saved))
            (some false)
            (cond (!(x_a.SavedUser == x_b.SavedUser))
              (some false)
              (cond (!decide (x_a.Cause = x_b.Cause))
                (some false)
                (cond (!decide (x_a.Bad = x_b.Bad))
                  (some false)
                  (cond (!decide (x_a.Timer = x_b.Timer))
                    (some false)
                    (cond (!(x_a.Waits == x_b.Waits))
                      (some false)
                      (cond (!(x_a.User == x_b.User))
                        (some false)
                        (cond (!(x_a.On == x_b.On))
                          (some false)
                          (cond (!(x_a.Stopped == x_b.Stopped))
                            (some false)
                            (some true)))))))))))))
theorem laws_eqCore_fn {x_a : DCore} {x_b : DCore} {R_ : Bool} (hh : F_laws_eqCore x_a x_b = some R_) : Fn Try.prog 45 [.agg (bo (eI .i64) x_a.Regs :: ru39 x_a []), .agg (bo (eI .i64) x_b.Regs :: ru39 x_b [])] (.bool R_) := by
  unfold F_laws_eqCore at hh
  refine Fn.start low_laws_eqCore [0, 1] (E := sp 71 [(0, .agg (B_39 x_a)), (1, .agg (B_39 x_b))]) (by kernel_rfl) (v := .bool R_) (Hr := []) (k := 0) (by kernel_rfl) ?_
  refine Aw.sreg [2, 3] [0, 1] ?_
  let q1 : Root := ⟨39, (bo (eI .i64) x_a.Regs :: ru39 x_a [])⟩
  let q2 : Root := ⟨39, (bo (eI .i64) x_b.Regs :: ru39 x_b [])⟩
  refine yt (sp 71 [(2, pp 0), (3, pp 1)]) [(0, some q1), (1, some q2)] 2 ?_
  refine Aw.seq ?_
  refine Aw.sreg [2, 3, 10] [0, 1] ?_
  refine yj 4  (sp 71 [(2, pp 0), (3, pp 1), (5, pp 0), (6, bo (eI .i64) x_a.Regs), (7, pp 1), (8, bo (eI .i64) x_b.Regs)]) [(0, some q1), (1, some q2)] 2 ?_
  obtain ⟨v1, hv1, hh⟩ := bind_some hh
  refine ys (.call 80 [(.t 6), (.t 8)]) (some 9) (oc (laws_eqIntS_fn hv1) ?_)
  refine yt (sp 71 [(2, pp 0), (3, pp 1), (10, .bool (!v1))]) [(0, some q1), (1, some q2)] 2 ?_
  rcases cond_some hh with ⟨hb, hh⟩ | ⟨hb, hh⟩
  · refine Aw.condT (by kernel_rfl) hb ?_
    refine Aw.sreg [4] [] ?_
    refine yt (sp 71 [(4, .bool false)]) [] 2 ?_
    refine Aw.ret ?_
    refine then_r ?_
    rw [some_some hh]
    exact gvb
  refine Aw.condF (by kernel_rfl) hb ?_
  refine Aw.xskip (fun _ _ _ hq => then_m hq) ?_
  refine Aw.seq ?_
  refine Aw.sreg [2, 3, 15] [0, 1] ?_
  refine yt (sp 71 [(2, pp 0), (3, pp 1), (15, .bool (!decide (x_a.Pc = x_b.Pc)))]) [(0, some q1), (1, some q2)] 2 ?_
  rcases cond_some hh with ⟨hb, hh⟩ | ⟨hb, hh⟩
  · refine Aw.condT (by kernel_rfl) hb ?_
    refine Aw.sreg [4] [] ?_
    refine yt (sp 71 [(4, .bool false)]) [] 2 ?_
    refine Aw.ret ?_
    refine then_r ?_
    rw [some_some hh]
    exact gvb
  refine Aw.condF (by kernel_rfl) hb ?_
  refine Aw.xskip (fun _ _ _ hq => then_m hq) ?_
  refine Aw.seq ?_
  refine Aw.sreg [2, 3, 20] [0, 1] ?_
  refine yt (sp 71 [(2, pp 0), (3, pp 1), (20, .bool (!decide (x_a.Root = x_b.Root)))]) [(0, some q1), (1, some q2)] 2 ?_
  rcases cond_some hh with ⟨hb, hh⟩ | ⟨hb, hh⟩
  · refine Aw.condT (by kernel_rfl) hb ?_
    refine Aw.sreg [4] [] ?_
    refine yt (sp 71 [(4, .bool false)]) [] 2 ?_
    refine Aw.ret ?_
    refine then_r ?_
    rw [some_some hh]
    exact gvb
  refine Aw.condF (by kernel_rfl) hb ?_
  refine Aw.xskip (fun _ _ _ hq => then_m hq) ?_
  refine Aw.seq ?_
  refine Aw.sreg [2, 3, 25] [0, 1] ?_
  refine yt (sp 71 [(2, pp 0), (3, pp 1), (25, .bool (!decide (x_a.Vector = x_b.Vector)))]) [(0, some q1), (1, some q2)] 2 ?_
  rcases cond_some hh with ⟨hb, hh⟩ | ⟨hb, hh⟩
  · refine Aw.condT (by kernel_rfl) hb ?_
    refine Aw.sreg [4] [] ?_
    refine yt (sp 71 [(4, .bool false)]) [] 2 ?_
    refine Aw.ret ?_
    refine then_r ?_
    rw [some_some hh]
    exact gvb
  refine Aw.condF (by kernel_rfl) hb ?_
  refine Aw.xskip (fun _ _ _ hq => then_m hq) ?_
  refine Aw.seq ?_
  refine Aw.sreg [2, 3, 30] [0, 1] ?_
  refine yt (sp 71 [(2, pp 0), (3, pp 1), (30, .bool (!decide (x_a.Saved = x_b.Saved)))]) [(0, some q1), (1, some q2)] 2 ?_
  rcases cond_some hh with ⟨hb, hh⟩ | ⟨hb, hh⟩
  · refine Aw.condT (by kernel_rfl) hb ?_
    refine Aw.sreg [4] [] ?_
    refine yt (sp 71 [(4, .bool false)]) [] 2 ?_
    refine Aw.ret ?_
    refine then_r ?_
    rw [some_some hh]
    exact gvb
  refine Aw.condF (by kernel_rfl) hb ?_
  refine Aw.xskip (fun _ _ _ hq => then_m hq) ?_
  refine Aw.seq ?_
  refine Aw.sreg [2, 3, 35] [0, 1] ?_
  refine yt (sp 71 [(2, pp 0), (3, pp 1), (35, .bool (!(x_a.SavedUser == x_b.SavedUser)))]) [(0, some q1), (1, some q2)] 2 ?_
  rcases cond_some hh with ⟨hb, hh⟩ | ⟨hb, hh⟩
  · refine Aw.condT (by kernel_rfl) hb ?_
    refine Aw.sreg [4] [] ?_
    refine yt (sp 71 [(4, .bool false)]) [] 2 ?_
    refine Aw.ret ?_
    refine then_r ?_
    rw [some_some hh]
    exact gvb
  refine Aw.condF (by kernel_rfl) hb ?_
  refine Aw.xskip (fun _ _ _ hq => then_m hq) ?_
  refine Aw.seq ?_
  refine Aw.sreg [2, 3, 40] [0, 1] ?_
  refine yt (sp 71 [(2, pp 0), (3, pp 1), (40, .bool (!decide (x_a.Cause = x_b.Cause)))]) [(0, some q1), (1, some q2)] 2 ?_
  rcases cond_some hh with ⟨hb, hh⟩ | ⟨hb, hh⟩
  · refine Aw.condT (by kernel_rfl) hb ?_
    refine Aw.sreg [4] [] ?_
    refine yt (sp 71 [(4, .bool false)]) [] 2 ?_
    refine Aw.ret ?_
    refine then_r ?_
    rw [some_some hh]
    exact gvb
  refine Aw.condF (by kernel_rfl) hb ?_
  refine Aw.xskip (fun _ _ _ hq => then_m hq) ?_
  refine Aw.seq ?_
  refine Aw.sreg [2, 3, 45] [0, 1] ?_
  refine yt (sp 71 [(2, pp 0), (3, pp 1), (45, .bool (!decide (x_a.Bad = x_b.Bad)))]) [(0, some q1), (1, some q2)] 2 ?_
  rcases cond_some hh with ⟨hb, hh⟩ | ⟨hb, hh⟩
  · refine Aw.condT (by kernel_rfl) hb ?_
    refine Aw.sreg [4] [] ?_
    refine yt (sp 71 [(4, .bool false)]) [] 2 ?_
    refine Aw.ret ?_
    refine then_r ?_
    rw [some_some hh]
    exact gvb
  refine Aw.condF (by kernel_rfl) hb ?_
  refine Aw.xskip (fun _ _ _ hq => then_m hq) ?_
  refine Aw.seq ?_
  refine Aw.sreg [2, 3, 50] [0, 1] ?_
  refine yt (sp 71 [(2, pp 0), (3, pp 1), (50, .bool (!decide (x_a.Timer = x_b.Timer)))]) [(0, some q1), (1, some q2)] 2 ?_
  rcases cond_some hh with ⟨hb, hh⟩ | ⟨hb, hh⟩
  · refine Aw.condT (by kernel_rfl) hb ?_
    refine Aw.sreg [4] [] ?_
    refine yt (sp 71 [(4, .bool false)]) [] 2 ?_
    refine Aw.ret ?_
    refine then_r ?_
    rw [some_some hh]
    exact gvb
  refine Aw.condF (by kernel_rfl) hb ?_
  refine Aw.xskip (fun _ _ _ hq => then_m hq) ?_
  refine Aw.seq ?_
  refine Aw.sreg [2, 3, 55] [0, 1] ?_
  refine yt (sp 71 [(2, pp 0), (3, pp 1), (55, .bool (!(x_a.Waits == x_b.Waits)))]) [(0, some q1), (1, some q2)] 2 ?_
  rcases cond_some hh with ⟨hb, hh⟩ | ⟨hb, hh⟩
  · refine Aw.condT (by kernel_rfl) hb ?_
    refine Aw.sreg [4] [] ?_
    refine yt (sp 71 [(4, .bool false)]) [] 2 ?_
    refine Aw.ret ?_
    refine then_r ?_
    rw [some_some hh]
    exact gvb
  refine Aw.condF (by kernel_rfl) hb ?_
  refine Aw.xskip (fun _ _ _ hq => then_m hq) ?_
  refine Aw.seq ?_
  refine Aw.sreg [2, 3, 60] [0, 1] ?_
  refine yt (sp 71 [(2, pp 0), (3, pp 1), (60, .bool (!(x_a.User == x_b.User)))]) [(0, some q1), (1, some q2)] 2 ?_
  rcases cond_some hh with ⟨hb, hh⟩ | ⟨hb, hh⟩
  · refine Aw.condT (by kernel_rfl) hb ?_
    refine Aw.sreg [4] [] ?_
    refine yt (sp 71 [(4, .bool false)]) [] 2 ?_
    refine Aw.ret ?_
    refine then_r ?_
    rw [some_some hh]
    exact gvb
  refine Aw.condF (by kernel_rfl) hb ?_
  refine Aw.xskip (fun _ _ _ hq => then_m hq) ?_
  refine Aw.seq ?_
  refine Aw.sreg [2, 3, 65] [0, 1] ?_
  refine yt (sp 71 [(2, pp 0), (3, pp 1), (65, .bool (!(x_a.On == x_b.On)))]) [(0, some q1), (1, some q2)] 2 ?_
  rcases cond_some hh with ⟨hb, hh⟩ | ⟨hb, hh⟩
  · refine Aw.condT (by kernel_rfl) hb ?_
    refine Aw.sreg [4] [] ?_
    refine yt (sp 71 [(4, .bool false)]) [] 2 ?_
    refine Aw.ret ?_
    refine then_r ?_
    rw [some_some hh]
    exact gvb
  refine Aw.condF (by kernel_rfl) hb ?_
  refine Aw.xskip (fun _ _ _ hq => then_m hq) ?_
  refine Aw.seq ?_
  refine Aw.sreg [70] [] ?_
  refine yt (sp 71 [(70, .bool (!(x_a.Stopped == x_b.Stopped)))]) [] 2 ?_
  rcases cond_some hh with ⟨hb, hh⟩ | ⟨hb, hh⟩
  · refine Aw.condT (by kernel_rfl) hb ?_
    refine Aw.sreg [4] [] ?_
    refine yt (sp 71 [(4, .bool false)]) [] 2 ?_
    refine Aw.ret ?_
    refine then_r ?_
    rw [some_some hh]
    exact gvb
  refine Aw.condF (by kernel_rfl) hb ?_
  refine Aw.xskip (fun _ _ _ hq => then_m hq) ?_
  refine Aw.sreg [4] [] ?_
  refine yt (sp 71 [(4, .bool true)]) [] 2 ?_
  refine Aw.ret ?_
  rw [some_some hh]
  exact gvb

-- 48 loop.example/guesthouse/laws.eqBare
def Lf48_r0 : List LOper := [oo 2 (.box 43 (.t 0)), oo 3 (.box 43 (.t 1)), oo 4 (.mv (.c (.bool false)))]
def Lf48_r1 : List LOper := [oo 5 (.fadr 0 (.t 2)), oo 6 (.load true 13 (.t 5)), oo 7 (.fadr 0 (.t 3)), oo 8 (.load true 13 (.t 7)), oo 9 (.call 45 [(.t 6), (.t 8)]), oo 10 (.un .not (.t 9))]
def Lf48_r2 : List LOper := [oo 4 (.mv (.c (.bool false)))]
def Lf48_r3 : List LOper := [oo 11 (.fadr 13 (.t 2)), oo 12 (.load false 1 (.t 11)), oo 13 (.fadr 13 (.t 3)), oo 14 (.load false 1 (.t 13)), oo 15 (.call 80 [(.t 12), (.t 14)]), oo 16 (.un .not (.t 15))]
def Lf48_r4 : List LOper := [oo 4 (.mv (.c (.bool false)))]
def Lf48_r5 : List LOper := [oo 17 (.fadr 14 (.t 2)), oo 18 (.load false 1 (.t 17)), oo 19 (.fadr 14 (.t 3)), oo 20 (.load false 1 (.t 19)), oo 21 (.call 80 [(.t 18), (.t 20)]), oo 22 (.un .not (.t 21))]
def Lf48_r6 : List LOper := [oo 4 (.mv (.c (.bool false)))]
def Lf48_r7 : List LOper := [oo 23 (.fadr 15 (.t 2)), oo 24 (.load false 1 (.t 23)), oo 25 (.fadr 15 (.t 3)), oo 26 (.load false 1 (.t 25)), oo 27 (.call 80 [(.t 24), (.t 26)]), oo 28 (.un .not (.t 27))]
def Lf48_r8 : List LOper := [oo 4 (.mv (.c (.bool false)))]
def Lf48_r9 : List LOper := [oo 4 (.mv (.c (.bool true)))]
def Lf48 : LFun := ⟨29, [(.tmp 4)], (.seq (.reg false Lf48_r0) (.seq (.seq (.reg false Lf48_r1) (.cond (.t 10) (.seq (.reg false Lf48_r2) .ret) .skip)) (.seq (.seq (.reg false Lf48_r3) (.cond (.t 16) (.seq (.reg false Lf48_r4) .ret) .skip)) (.seq (.seq (.reg false Lf48_r5) (.cond (.t 22) (.seq (.reg false Lf48_r6) .ret) .skip)) (.seq (.seq (.reg false Lf48_r7) (.cond (.t 28) (.seq (.reg false Lf48_r8) .ret) .skip)) (.seq (.reg false Lf48_r9) .ret))))))⟩
theorem low_laws_eqBare : lowFun Go.Proofs.Try.prog 48 = some Lf48 := by kernel_rfl
noncomputable def F_laws_eqBare (x_a : DBare) (x_b : DBare) : Option Bool :=
  Option.bind (F_laws_eqCore x_a.C x_b.C) fun v1 =>
  cond (!v1)
    (some false)
    (Option.bind (F_laws_eqIntS x_a.Mem x_b.Mem) fun v2 =>
    cond (!v2)
      (some false)
      (Option.bind (F_laws_eqIntS x_a.In x_b.In) fun v3 =>
      cond (!v3)
        (some false)
        (Option.bind (F_laws_eqIntS x_a.Out x_b.Out) fun v4 =>
        cond (!v4)
          (some false)
          (some true))))
theorem laws_eqBare_fn {x_a : DBare} {x_b : DBare} {R_ : Bool} (hh : F_laws_eqBare x_a x_b = some R_) : Fn Try.prog 48 [.agg (bo (eI .i64) x_a.C.Regs :: ru39 x_a.C [bo (eI .i64) x_a.Mem, bo (eI .i64) x_a.In, bo (eI .i64) x_a.Out]), .agg (bo (eI .i64) x_b.C.Regs :: ru39 x_b.C [bo (eI .i64) x_b.Mem, bo (eI .i64) x_b.In, bo (eI .i64) x_b.Out])] (.bool R_) := by
  unfold F_laws_eqBare at hh
  refine Fn.start low_laws_eqBare [0, 1] (E := sp 29 [(0, .agg (B_43 x_a)), (1, .agg (B_43 x_b))]) (by kernel_rfl) (v := .bool R_) (Hr := []) (k := 0) (by kernel_rfl) ?_
  refine Aw.sreg [2, 3] [0, 1] ?_
  let q1 : Root := ⟨43, (bo (eI .i64) x_a.C.Regs :: ru39 x_a.C [bo (eI .i64) x_a.Mem, bo (eI .i64) x_a.In, bo (eI .i64) x_a.Out])⟩
  let q2 : Root := ⟨43, (bo (eI .i64) x_b.C.Regs :: ru39 x_b.C [bo (eI .i64) x_b.Mem, bo (eI .i64) x_b.In, bo (eI .i64) x_b.Out])⟩
  refine yt (sp 29 [(2, pp 0), (3, pp 1)]) [(0, some q1), (1, some q2)] 2 ?_
  refine Aw.seq ?_
  refine Aw.sreg [2, 3, 10] [0, 1] ?_
  refine yj 4  (sp 29 [(2, pp 0), (3, pp 1), (5, pp 0), (6, .agg (B_39 x_a.C)), (7, pp 1), (8, .agg (B_39 x_b.C))]) [(0, some q1), (1, some q2)] 2 ?_
  obtain ⟨v1, hv1, hh⟩ := bind_some hh
  refine ys (.call 45 [(.t 6), (.t 8)]) (some 9) (op_call (r := .bool v1) (v := .bool v1) (Hr := []) (n' := 2) (laws_eqCore_fn hv1) (clz_v (vs := [.agg (B_39 x_a.C), .agg (B_39 x_b.C)]) (by kernel_rfl) (clz_c (clo_same (clean_agg (cl_B_39 _))) (clz_c (clo_same (clean_agg (cl_B_39 _))) clz_n))) rfl rfl (by kernel_rfl) ?_)
  refine yt (sp 29 [(2, pp 0), (3, pp 1), (10, .bool (!v1))]) [(0, some q1), (1, some q2)] 2 ?_
  rcases cond_some hh with ⟨hb, hh⟩ | ⟨hb, hh⟩
  · refine Aw.condT (by kernel_rfl) hb ?_
    refine Aw.sreg [4] [] ?_
    refine yt (sp 29 [(4, .bool false)]) [] 2 ?_
    refine Aw.ret ?_
    refine then_r ?_
    rw [some_some hh]
    exact gvb
  refine Aw.condF (by kernel_rfl) hb ?_
  refine Aw.xskip (fun _ _ _ hq => then_m hq) ?_
  refine Aw.seq ?_
  refine Aw.sreg [2, 3, 16] [0, 1] ?_
  refine yj 4  (sp 29 [(2, pp 0), (3, pp 1), (10, .bool (!v1)), (11, .ptr 0 [] 13), (12, bo (eI .i64) x_a.Mem), (13, .ptr 1 [] 13), (14, bo (eI .i64) x_b.Mem)]) [(0, some q1), (1, some q2)] 2 ?_
  obtain ⟨v2, hv2, hh⟩ := bind_some hh
  refine ys (.call 80 [(.t 12), (.t 14)]) (some 15) (oc (laws_eqIntS_fn hv2) ?_)
  refine yt (sp 29 [(2, pp 0), (3, pp 1), (16, .bool (!v2))]) [(0, some q1), (1, some q2)] 2 ?_
  rcases cond_some hh with ⟨hb, hh⟩ | ⟨hb, hh⟩
  · refine Aw.condT (by kernel_rfl) hb ?_
    refine Aw.sreg [4] [] ?_
    refine yt (sp 29 [(4, .bool false)]) [] 2 ?_
    refine Aw.ret ?_
    refine then_r ?_
    rw [some_some hh]
    exact gvb
  refine Aw.condF (by kernel_rfl) hb ?_
  refine Aw.xskip (fun _ _ _ hq => then_m hq) ?_
  refine Aw.seq ?_
  refine Aw.sreg [2, 3, 22] [0, 1] ?_
  refine yj 4  (sp 29 [(2, pp 0), (3, pp 1), (16, .bool (!v2)), (17, .ptr 0 [] 14), (18, bo (eI .i64) x_a.In), (19, .ptr 1 [] 14), (20, bo (eI .i64) x_b.In)]) [(0, some q1), (1, some q2)] 2 ?_
  obtain ⟨v3, hv3, hh⟩ := bind_some hh
  refine ys (.call 80 [(.t 18), (.t 20)]) (some 21) (oc (laws_eqIntS_fn hv3) ?_)
  refine yt (sp 29 [(2, pp 0), (3, pp 1), (22, .bool (!v3))]) [(0, some q1), (1, some q2)] 2 ?_
  rcases cond_some hh with ⟨hb, hh⟩ | ⟨hb, hh⟩
  · refine Aw.condT (by kernel_rfl) hb ?_
    refine Aw.sreg [4] [] ?_
    refine yt (sp 29 [(4, .bool false)]) [] 2 ?_
    refine Aw.ret ?_
    refine then_r ?_
    rw [some_some hh]
    exact gvb
  refine Aw.condF (by kernel_rfl) hb ?_
  refine Aw.xskip (fun _ _ _ hq => then_m hq) ?_
  refine Aw.seq ?_
  refine Aw.sreg [28] [] ?_
  refine yj 4  (sp 29 [(2, pp 0), (3, pp 1), (22, .bool (!v3)), (23, .ptr 0 [] 15), (24, bo (eI .i64) x_a.Out), (25, .ptr 1 [] 15), (26, bo (eI .i64) x_b.Out)]) [(0, some q1), (1, some q2)] 2 ?_
  obtain ⟨v4, hv4, hh⟩ := bind_some hh
  refine ys (.call 80 [(.t 24), (.t 26)]) (some 27) (oc (laws_eqIntS_fn hv4) ?_)
  refine yt (sp 29 [(28, .bool (!v4))]) [] 2 ?_
  rcases cond_some hh with ⟨hb, hh⟩ | ⟨hb, hh⟩
  · refine Aw.condT (by kernel_rfl) hb ?_
    refine Aw.sreg [4] [] ?_
    refine yt (sp 29 [(4, .bool false)]) [] 2 ?_
    refine Aw.ret ?_
    refine then_r ?_
    rw [some_some hh]
    exact gvb
  refine Aw.condF (by kernel_rfl) hb ?_
  refine Aw.xskip (fun _ _ _ hq => then_m hq) ?_
  refine Aw.sreg [4] [] ?_
  refine yt (sp 29 [(4, .bool true)]) [] 2 ?_
  refine Aw.ret ?_
  rw [some_some hh]
  exact gvb

-- 78 loop.example/guesthouse/laws.szIntS
def Lf78_r0 : List LOper := [oo 4 (.mv (.c (.int .i64 0)))]
def Lf78_r1 : List LOper := [om 5 1, om 6 0, oo 7 (.len (.t 6)), oo 8 (.bin .sub (.t 5) (.t 7)), om 1 8]
def Lf78_r2 : List LOper := [om 9 1, oo 10 (.bin .lss (.t 9) (.c (.int .i64 0)))]
def Lf78_r3 : List LOper := [oo 4 (.mv (.c (.int .i64 (-1))))]
def Lf78_r4 : List LOper := [om 11 1, om 4 11]
def Lf78 : LFun := ⟨12, [(.tmp 4)], (.seq (.reg false Lf78_r0) (.seq (.reg false Lf78_r1) (.seq (.seq (.reg false Lf78_r2) (.cond (.t 10) (.seq (.reg false Lf78_r3) .ret) .skip)) (.seq (.reg false Lf78_r4) .ret))))⟩
theorem low_laws_szIntS : lowFun Go.Proofs.Try.prog 78 = some Lf78 := by kernel_rfl
noncomputable def F_laws_szIntS (x_a : List Int) (x_left : Int) : Option Int :=
  cond (decide ((w64 (x_left - (((List.length x_a) : Nat) : Int))) < (0 : Int)))
    (some (-1 : Int))
    (some (w64 (x_left - (((List.length x_a) : Nat) : Int))))
theorem laws_szIntS_fn {x_a : List Int} {x_left : Int} {R_ : Int} (hh : F_laws_szIntS x_a x_left = some R_) : Fn Try.prog 78 [bo (eI .i64) x_a, .int .i64 x_left] (.int .i64 R_) := by
  unfold F_laws_szIntS at hh
  refine Fn.start low_laws_szIntS [0, 1] (E := sp 12 [(0, bo (eI .i64) x_a), (1, .int .i64 x_left)]) (by kernel_rfl) (v := .int .i64 R_) (Hr := []) (k := 0) (by kernel_rfl) ?_
  refine Aw.sreg [0, 1] [] ?_
  refine yt (sp 12 [(0, bo (eI .i64) x_a), (1, .int .i64 x_left)]) [] 0 ?_
  refine Aw.sreg [1] [] ?_
  refine yt (sp 12 [(1, .int .i64 (w64 (x_left - (((List.length x_a) : Nat) : Int))))]) [] 0 ?_
  refine Aw.seq ?_
  refine Aw.sreg [1, 10] [] ?_
  refine yt (sp 12 [(1, .int .i64 (w64 (x_left - (((List.length x_a) : Nat) : Int)))), (10, .bool (decide ((w64 (x_left - (((List.length x_a) : Nat) : Int))) < (0 : Int))))]) [] 0 ?_
  rcases cond_some hh with ⟨hb, hh⟩ | ⟨hb, hh⟩
  · refine Aw.condT (by kernel_rfl) hb ?_
    refine Aw.sreg [4] [] ?_
    refine yt (sp 12 [(4, .int .i64 (-1 : Int))]) [] 0 ?_
    refine Aw.ret ?_
    refine then_r ?_
    rw [some_some hh]
    exact gvi
  refine Aw.condF (by kernel_rfl) hb ?_
  refine Aw.xskip (fun _ _ _ hq => then_m hq) ?_
  refine Aw.sreg [4] [] ?_
  refine yt (sp 12 [(4, .int .i64 (w64 (x_left - (((List.length x_a) : Nat) : Int))))]) [] 0 ?_
  refine Aw.ret ?_
  rw [some_some hh]
  exact gvi

-- 43 loop.example/guesthouse/laws.szCore
def Lf43_r0 : List LOper := [oo 2 (.box 52 (.t 0)), oo 4 (.mv (.c (.int .i64 0)))]
def Lf43_r1 : List LOper := [oo 5 (.fadr 0 (.t 2)), oo 6 (.load false 1 (.t 5)), om 7 1, oo 8 (.call 78 [(.t 6), (.t 7)]), om 1 8]
def Lf43_r2 : List LOper := [om 9 1, oo 10 (.bin .lss (.t 9) (.c (.int .i64 0)))]
def Lf43_r3 : List LOper := [oo 4 (.mv (.c (.int .i64 (-1))))]
def Lf43_r4 : List LOper := [om 11 1, om 4 11]
def Lf43 : LFun := ⟨12, [(.tmp 4)], (.seq (.reg false Lf43_r0) (.seq (.reg false Lf43_r1) (.seq (.seq (.reg false Lf43_r2) (.cond (.t 10) (.seq (.reg false Lf43_r3) .ret) .skip)) (.seq (.reg false Lf43_r4) .ret))))⟩
theorem low_laws_szCore : lowFun Go.Proofs.Try.prog 43 = some Lf43 := by kernel_rfl
noncomputable def F_laws_szCore (x_a : DCore) (x_left : Int) : Option Int :=
  Option.bind (F_laws_szIntS x_a.Regs x_left) fun v1 =>
  cond (decide (v1 < (0 : Int)))
    (some (-1 : Int))
    (some v1)
theorem laws_szCore_fn {x_a : DCore} {x_left : Int} {R_ : Int} (hh : F_laws_szCore x_a x_left = some R_) : Fn Try.prog 43 [.agg (bo (eI .i64) x_a.Regs :: ru39 x_a []), .int .i64 x_left] (.int .i64 R_) := by
  unfold F_laws_szCore at hh
  refine Fn.start low_laws_szCore [0, 1] (E := sp 12 [(0, .agg (B_39 x_a)), (1, .int .i64 x_left)]) (by kernel_rfl) (v := .int .i64 R_) (Hr := []) (k := 0) (by kernel_rfl) ?_
  refine Aw.sreg [1, 2] [0] ?_
  let q1 : Root := ⟨52, (bo (eI .i64) x_a.Regs :: ru39 x_a [])⟩
  refine yt (sp 12 [(1, .int .i64 x_left), (2, pp 0)]) [(0, some q1)] 1 ?_
  refine Aw.sreg [1] [] ?_
  refine yj 3  (sp 12 [(1, .int .i64 x_left), (2, pp 0), (5, pp 0), (6, bo (eI .i64) x_a.Regs), (7, .int .i64 x_left)]) [(0, some q1)] 1 ?_
  obtain ⟨v1, hv1, hh⟩ := bind_some hh
  refine ys (.call 78 [(.t 6), (.t 7)]) (some 8) (oc (laws_szIntS_fn hv1) ?_)
  refine yt (sp 12 [(1, .int .i64 v1)]) [] 1 ?_
  refine Aw.seq ?_
  refine Aw.sreg [1, 10] [] ?_
  refine yt (sp 12 [(1, .int .i64 v1), (10, .bool (decide (v1 < (0 : Int))))]) [] 1 ?_
  rcases cond_some hh with ⟨hb, hh⟩ | ⟨hb, hh⟩
  · refine Aw.condT (by kernel_rfl) hb ?_
    refine Aw.sreg [4] [] ?_
    refine yt (sp 12 [(4, .int .i64 (-1 : Int))]) [] 1 ?_
    refine Aw.ret ?_
    refine then_r ?_
    rw [some_some hh]
    exact gvi
  refine Aw.condF (by kernel_rfl) hb ?_
  refine Aw.xskip (fun _ _ _ hq => then_m hq) ?_
  refine Aw.sreg [4] [] ?_
  refine yt (sp 12 [(4, .int .i64 v1)]) [] 1 ?_
  refine Aw.ret ?_
  rw [some_some hh]
  exact gvi

-- 46 loop.example/guesthouse/laws.szBare
def Lf46_r0 : List LOper := [oo 2 (.box 58 (.t 0)), oo 4 (.mv (.c (.int .i64 0)))]
def Lf46_r1 : List LOper := [oo 5 (.fadr 0 (.t 2)), oo 6 (.load true 13 (.t 5)), om 7 1, oo 8 (.call 43 [(.t 6), (.t 7)]), om 1 8]
def Lf46_r2 : List LOper := [om 9 1, oo 10 (.bin .lss (.t 9) (.c (.int .i64 0)))]
def Lf46_r3 : List LOper := [oo 4 (.mv (.c (.int .i64 (-1))))]
def Lf46_r4 : List LOper := [oo 11 (.fadr 13 (.t 2)), oo 12 (.load false 1 (.t 11)), om 13 1, oo 14 (.call 78 [(.t 12), (.t 13)]), om 1 14]
def Lf46_r5 : List LOper := [om 15 1, oo 16 (.bin .lss (.t 15) (.c (.int .i64 0)))]
def Lf46_r6 : List LOper := [oo 4 (.mv (.c (.int .i64 (-1))))]
def Lf46_r7 : List LOper := [oo 17 (.fadr 14 (.t 2)), oo 18 (.load false 1 (.t 17)), om 19 1, oo 20 (.call 78 [(.t 18), (.t 19)]), om 1 20]
def Lf46_r8 : List LOper := [om 21 1, oo 22 (.bin .lss (.t 21) (.c (.int .i64 0)))]
def Lf46_r9 : List LOper := [oo 4 (.mv (.c (.int .i64 (-1))))]
def Lf46_r10 : List LOper := [oo 23 (.fadr 15 (.t 2)), oo 24 (.load false 1 (.t 23)), om 25 1, oo 26 (.call 78 [(.t 24), (.t 25)]), om 1 26]
def Lf46_r11 : List LOper := [om 27 1, oo 28 (.bin .lss (.t 27) (.c (.int .i64 0)))]
def Lf46_r12 : List LOper := [oo 4 (.mv (.c (.int .i64 (-1))))]
def Lf46_r13 : List LOper := [om 29 1, om 4 29]
def Lf46 : LFun := ⟨30, [(.tmp 4)], (.seq (.reg false Lf46_r0) (.seq (.reg false Lf46_r1) (.seq (.seq (.reg false Lf46_r2) (.cond (.t 10) (.seq (.reg false Lf46_r3) .ret) .skip)) (.seq (.reg false Lf46_r4) (.seq (.seq (.reg false Lf46_r5) (.cond (.t 16) (.seq (.reg false Lf46_r6) .ret) .skip)) (.seq (.reg false Lf46_r7) (.seq (.seq (.reg false Lf46_r8) (.cond (.t 22) (.seq (.reg false Lf46_r9) .ret) .skip)) (.seq (.reg false Lf46_r10) (.seq (.seq (.reg false Lf46_r11) (.cond (.t 28) (.seq (.reg false Lf46_r12) .ret) .skip)) (.seq (.reg false Lf46_r13) .ret))))))))))⟩
theorem low_laws_szBare : lowFun Go.Proofs.Try.prog 46 = some Lf46 := by kernel_rfl
noncomputable def F_laws_szBare (x_a : DBare) (x_left : Int) : Option Int :=
  Option.bind (F_laws_szCore x_a.C x_left) fun v1 =>
  cond (decide (v1 < (0 : Int)))
    (some (-1 : Int))
    (Option.bind (F_laws_szIntS x_a.Mem v1) fun v2 =>
    cond (decide (v2 < (0 : Int)))
      (some (-1 : Int))
      (Option.bind (F_laws_szIntS x_a.In v2) fun v3 =>
      cond (decide (v3 < (0 : Int)))
        (some (-1 : Int))
        (Option.bind (F_laws_szIntS x_a.Out v3) fun v4 =>
        cond (decide (v4 < (0 : Int)))
          (some (-1 : Int))
          (some v4))))
theorem laws_szBare_fn {x_a : DBare} {x_left : Int} {R_ : Int} (hh : F_laws_szBare x_a x_left = some R_) : Fn Try.prog 46 [.agg (bo (eI .i64) x_a.C.Regs :: ru39 x_a.C [bo (eI .i64) x_a.Mem, bo (eI .i64) x_a.In, bo (eI .i64) x_a.Out]), .int .i64 x_left] (.int .i64 R_) := by
  unfold F_laws_szBare at hh
  refine Fn.start low_laws_szBare [0, 1] (E := sp 30 [(0, .agg (B_43 x_a)), (1, .int .i64 x_left)]) (by kernel_rfl) (v := .int .i64 R_) (Hr := []) (k := 0) (by kernel_rfl) ?_
  refine Aw.sreg [1, 2] [0] ?_
  let q1 : Root := ⟨58, (bo (eI .i64) x_a.C.Regs :: ru39 x_a.C [bo (eI .i64) x_a.Mem, bo (eI .i64) x_a.In, bo (eI .i64) x_a.Out])⟩
  refine yt (sp 30 [(1, .int .i64 x_left), (2, pp 0)]) [(0, some q1)] 1 ?_
  refine Aw.sreg [1, 2] [0] ?_
  refine yj 3  (sp 30 [(1, .int .i64 x_left), (2, pp 0), (5, pp 0), (6, .agg (B_39 x_a.C)), (7, .int .i64 x_left)]) [(0, some q1)] 1 ?_
  obtain ⟨v1, hv1, hh⟩ := bind_some hh
  refine ys (.call 43 [(.t 6), (.t 7)]) (some 8) (op_call (r := .int .i64 v1) (v := .int .i64 v1) (Hr := []) (n' := 1) (laws_szCore_fn hv1) (clz_v (vs := [.agg (B_39 x_a.C), .int .i64 x_left]) (by kernel_rfl) (clz_c (clo_same (clean_agg (cl_B_39 _))) (cz1 clz_n))) rfl rfl (by kernel_rfl) ?_)
  refine yt (sp 30 [(1, .int .i64 v1), (2, pp 0)]) [(0, some q1)] 1 ?_
  refine Aw.seq ?_
  refine Aw.sreg [1, 2, 10] [0] ?_
  refine yt (sp 30 [(1, .int .i64 v1), (2, pp 0), (10, .bool (decide (v1 < (0 : Int))))]) [(0, some q1)] 1 ?_
  rcases cond_some hh with ⟨hb, hh⟩ | ⟨hb, hh⟩
  · refine Aw.condT (by kernel_rfl) hb ?_
    refine Aw.sreg [4] [] ?_
    refine yt (sp 30 [(4, .int .i64 (-1 : Int))]) [] 1 ?_
    refine Aw.ret ?_
    refine then_r ?_
    rw [some_some hh]
    exact gvi
  refine Aw.condF (by kernel_rfl) hb ?_
  refine Aw.xskip (fun _ _ _ hq => then_m hq) ?_
  refine Aw.sreg [1, 2] [0] ?_
  refine yj 3  (sp 30 [(1, .int .i64 v1), (2, pp 0), (10, .bool (decide (v1 < (0 : Int)))), (11, .ptr 0 [] 13), (12, bo (eI .i64) x_a.Mem), (13, .int .i64 v1)]) [(0, some q1)] 1 ?_
  obtain ⟨v2, hv2, hh⟩ := bind_some hh
  refine ys (.call 78 [(.t 12), (.t 13)]) (some 14) (oc (laws_szIntS_fn hv2) ?_)
  refine yt (sp 30 [(1, .int .i64 v2), (2, pp 0)]) [(0, some q1)] 1 ?_
  refine Aw.seq ?_
  refine Aw.sreg [1, 2, 16] [0] ?_
  refine yt (sp 30 [(1, .int .i64 v2), (2, pp 0), (16, .bool (decide (v2 < (0 : Int))))]) [(0, some q1)] 1 ?_
  rcases cond_some hh with ⟨hb, hh⟩ | ⟨hb, hh⟩
  · refine Aw.condT (by kernel_rfl) hb ?_
    refine Aw.sreg [4] [] ?_
    refine yt (sp 30 [(4, .int .i64 (-1 : Int))]) [] 1 ?_
    refine Aw.ret ?_
    refine then_r ?_
    rw [some_some hh]
    exact gvi
  refine Aw.condF (by kernel_rfl) hb ?_
  refine Aw.xskip (fun _ _ _ hq => then_m hq) ?_
  refine Aw.sreg [1, 2] [0] ?_
  refine yj 3  (sp 30 [(1, .int .i64 v2), (2, pp 0), (16, .bool (decide (v2 < (0 : Int)))), (17, .ptr 0 [] 14), (18, bo (eI .i64) x_a.In), (19, .int .i64 v2)]) [(0, some q1)] 1 ?_
  obtain ⟨v3, hv3, hh⟩ := bind_some hh
  refine ys (.call 78 [(.t 18), (.t 19)]) (some 20) (oc (laws_szIntS_fn hv3) ?_)
  refine yt (sp 30 [(1, .int .i64 v3), (2, pp 0)]) [(0, some q1)] 1 ?_
  refine Aw.seq ?_
  refine Aw.sreg [1, 2, 22] [0] ?_
  refine yt (sp 30 [(1, .int .i64 v3), (2, pp 0), (22, .bool (decide (v3 < (0 : Int))))]) [(0, some q1)] 1 ?_
  rcases cond_some hh with ⟨hb, hh⟩ | ⟨hb, hh⟩
  · refine Aw.condT (by kernel_rfl) hb ?_
    refine Aw.sreg [4] [] ?_
    refine yt (sp 30 [(4, .int .i64 (-1 : Int))]) [] 1 ?_
    refine Aw.ret ?_
    refine then_r ?_
    rw [some_some hh]
    exact gvi
  refine Aw.condF (by kernel_rfl) hb ?_
  refine Aw.xskip (fun _ _ _ hq => then_m hq) ?_
  refine Aw.sreg [1] [] ?_
  refine yj 3  (sp 30 [(1, .int .i64 v3), (2, pp 0), (22, .bool (decide (v3 < (0 : Int)))), (23, .ptr 0 [] 15), (24, bo (eI .i64) x_a.Out), (25, .int .i64 v3)]) [(0, some q1)] 1 ?_
  obtain ⟨v4, hv4, hh⟩ := bind_some hh
  refine ys (.call 78 [(.t 24), (.t 25)]) (some 26) (oc (laws_szIntS_fn hv4) ?_)
  refine yt (sp 30 [(1, .int .i64 v4)]) [] 1 ?_
  refine Aw.seq ?_
  refine Aw.sreg [1, 28] [] ?_
  refine yt (sp 30 [(1, .int .i64 v4), (28, .bool (decide (v4 < (0 : Int))))]) [] 1 ?_
  rcases cond_some hh with ⟨hb, hh⟩ | ⟨hb, hh⟩
  · refine Aw.condT (by kernel_rfl) hb ?_
    refine Aw.sreg [4] [] ?_
    refine yt (sp 30 [(4, .int .i64 (-1 : Int))]) [] 1 ?_
    refine Aw.ret ?_
    refine then_r ?_
    rw [some_some hh]
    exact gvi
  refine Aw.condF (by kernel_rfl) hb ?_
  refine Aw.xskip (fun _ _ _ hq => then_m hq) ?_
  refine Aw.sreg [4] [] ?_
  refine yt (sp 30 [(4, .int .i64 v4)]) [] 1 ?_
  refine Aw.ret ?_
  rw [some_some hh]
  exact gvi

-- 82 loop.example/guesthouse/laws.markIntS
def Lf82_r0 : List LOper := [oo 4 (.mv (.c (.int .i64 0)))]
def Lf82_r1 : List LOper := [oo 5 (.mv (.c (.int .i64 0)))]
def Lf82_r2 : List LOper := [om 6 5, om 7 0, oo 8 (.len (.t 7)), oo 9 (.bin .lss (.t 6) (.t 8))]
def Lf82_r3 : List LOper := [om 12 0, om 13 5, om 14 1, oo 15 (.iadr 1 (.t 12) (.t 13)), ⟨none, (.store 1 (.t 15) (.t 14)), none⟩]
def Lf82_r4 : List LOper := [om 16 1, oo 17 (.bin .add (.t 16) (.c (.int .i64 1))), om 1 17]
def Lf82_r5 : List LOper := [om 10 5, oo 11 (.bin .add (.t 10) (.c (.int .i64 1))), om 5 11]
def Lf82_l6 : LCode := (.seq (.seq (.reg false Lf82_r2) (.cond (.t 9) .skip (.exit 0))) (.seq (.block 1 (.seq (.reg false Lf82_r3) (.reg false Lf82_r4))) (.reg false Lf82_r5)))
def Lf82_r7 : List LOper := [om 18 1, om 4 18]
def Lf82 : LFun := ⟨19, [(.tmp 4)], (.seq (.reg false Lf82_r0) (.seq (.seq (.reg false Lf82_r1) (.block 0 (.loop Lf82_l6))) (.seq (.reg false Lf82_r7) .ret)))⟩
theorem low_laws_markIntS : lowFun Go.Proofs.Try.prog 82 = some Lf82 := by kernel_rfl
noncomputable def F_laws_markIntS_j1  (s1 : Int × (List Int)) : Option ((List Int) × Int) :=
  some (s1.2, s1.1)
noncomputable def F_laws_markIntS_l2  (s2 : (List Int) × Int × Int) : Option (LO ((List Int) × Int × Int) (JO (Int × (List Int)) ((List Int) × Int))) :=
  cond (decide (s2.2.2 < (((List.length s2.1) : Nat) : Int)))
    (grd ((0 : Int) ≤ s2.2.2 ∧ s2.2.2 < (((List.length s2.1) : Nat) : Int)) (some (.next ((List.set s2.1 (Int.toNat s2.2.2) s2.2.1), (w64 (s2.2.1 + (1 : Int))), (w64 (s2.2.2 + (1 : Int)))))))
    (some (.ret (.go (s2.2.1, s2.1))))
noncomputable def F_laws_markIntS (x_a : List Int) (x_k : Int) : Option ((List Int) × Int) :=
  Option.bind (Option.bind (iter (F_laws_markIntS_l2) (x_a, x_k, (0 : Int))) LO.val) fun j1 =>
    JO.run j1 (F_laws_markIntS_j1)
theorem laws_markIntS_fn {x_a : List Int} {x_k : Int} {R_ : (List Int) × Int} (hh : F_laws_markIntS x_a x_k = some R_) : Inl Try.prog 82 [.sref 0 [] 0 (List.length x_a) 1, .int .i64 x_k] [(0, some ⟨3, (fl (eI .i64) x_a)⟩)] 1 (.int .i64 R_.2) [(0, some ⟨3, (fl (eI .i64) R_.1)⟩)] 1 := by
  unfold F_laws_markIntS at hh
  refine Inl.start low_laws_markIntS [0, 1] [0] (E := sp 19 [(0, .sref 0 [] 0 (List.length x_a) 1), (1, .int .i64 x_k)]) (H1 := [(0, some ⟨3, (fl (eI .i64) x_a)⟩)]) (by kernel_rfl) (by kernel_rfl) ?_
  refine Aw.sreg [0, 1] [0] ?_
  refine yt (sp 19 [(0, .sref 0 [] 0 (List.length x_a) 1), (1, .int .i64 x_k)]) [(0, some ⟨3, (fl (eI .i64) x_a)⟩)] 1 ?_
  obtain ⟨j1, hh, hk1⟩ := bind_some hh
  refine Aw.join (S := Int × (List Int)) (fun s1 => sp 19 [(1, .int .i64 s1.1)]) (fun s1 => [(0, some ⟨3, (fl (eI .i64) s1.2)⟩)]) 1 (fun s1 => F_laws_markIntS_j1 s1 = some R_) ?_ ?_
  · intro s1 hh
    unfold F_laws_markIntS_j1 at hh
    refine Aw.sreg [4] [0] ?_
    refine yt (sp 19 [(4, .int .i64 s1.1)]) [(0, some ⟨3, (fl (eI .i64) s1.2)⟩)] 1 ?_
    refine Aw.ret ?_
    rw [some_some hh]
    exact gives (r' := .int .i64 s1.1) (by kernel_rfl) (Ent.list2 [some 0] rfl rfl (by decide) (rens_1 ren_i) (hq ⟨3, (fl (eI .i64) s1.2)⟩ (rens_same (noRefs_fl nr_eI)) hs_nil))
  intro Q1 hN1 hR1 hE1
  refine Aw.sreg [0, 1, 5] [0] ?_
  refine yt (sp 19 [(0, .sref 0 [] 0 (List.length x_a) 1), (1, .int .i64 x_k), (5, .int .i64 (0 : Int))]) [(0, some ⟨3, (fl (eI .i64) x_a)⟩)] 1 ?_
  refine Aw.block ?_
  obtain ⟨o2, hi2, hk2⟩ := bind_some hh
  refine Aw.iter (fun (s2 : (List Int) × Int × Int) => sp 19 [(0, .sref 0 [] 0 (List.length s2.1) 1), (1, .int .i64 s2.2.1), (5, .int .i64 s2.2.2)]) (fun (s2 : (List Int) × Int × Int) => [(0, some ⟨3, (fl (eI .i64) s2.1)⟩)]) 1 hi2 (Ent.list2 [some 0] rfl rfl (by decide) (rens_sp (by kernel_rfl) (rl_c (u := .sref 0 [] 0 (List.length x_a) 1) (by kernel_rfl) ren_sx (rl_c (u := .int .i64 x_k) (by kernel_rfl) ren_i (rl_c (u := .int .i64 (0 : Int)) (by kernel_rfl) ren_i rl_n)))) (hq ⟨3, (fl (eI .i64) x_a)⟩ (rens_same (noRefs_fl nr_eI)) hs_nil)) ?_
  intro s2 u2 Q2 hh hN2 hX2 hR2
  unfold F_laws_markIntS_l2 at hh
  refine Aw.seq ?_
  refine Aw.sreg [0, 1, 5, 9] [0] ?_
  refine yt (sp 19 [(0, .sref 0 [] 0 (List.length s2.1) 1), (1, .int .i64 s2.2.1), (5, .int .i64 s2.2.2), (9, .bool (decide (s2.2.2 < (((List.length s2.1) : Nat) : Int))))]) [(0, some ⟨3, (fl (eI .i64) s2.1)⟩)] 1 ?_
  rcases cond_some hh with ⟨hb, hh⟩ | ⟨hb, hh⟩
  · refine Aw.condT (by kernel_rfl) hb ?_
    refine Aw.xskip (fun _ _ _ hq => then_m hq) ?_
    refine Aw.seq ?_
    refine Aw.block ?_
    refine Aw.sreg [0, 1, 5] [0] ?_
    obtain ⟨hg24, hh⟩ := grd_some hh
    refine yjc 4 [(0 : Int) ≤ s2.2.2 ∧ s2.2.2 < (((List.length s2.1) : Nat) : Int)] (sp 19 [(0, .sref 0 [] 0 (List.length s2.1) 1), (1, .int .i64 s2.2.1), (5, .int .i64 s2.2.2), (9, .bool (decide (s2.2.2 < (((List.length s2.1) : Nat) : Int)))), (12, .sref 0 [] 0 (List.length s2.1) 1), (13, .int .i64 s2.2.2), (14, .int .i64 s2.2.1), (15, .ptr 0 [] (0 + (Int.toNat s2.2.2) * 1))]) [(0, some ⟨3, (fl (eI .i64) s2.1)⟩)] 1 (.cons hg24 .nil) ?_
    let q1 : Root := ⟨3, (fl (eI .i64) (List.set s2.1 (Int.toNat s2.2.2) s2.2.1))⟩
    refine ys (.store 1 (.t 15) (.t 14)) none (op_store (c := (eI .i64)) (xs := s2.1) (e := 3) (r := 0) (π := []) (o := 0 + (Int.toNat s2.2.2) * 1) (i := (Int.toNat s2.2.2)) (off := 0) (vs := [.int .i64 s2.2.1]) (y := s2.2.1) (H' := [(0, some q1), (0, some ⟨3, (fl (eI .i64) s2.1)⟩)]) len_eI (by kernel_rfl) (by kernel_rfl) (by kernel_rfl) (by kernel_rfl) (by omega) (by omega) (by decide) (by kernel_rfl) (by kernel_rfl) ?_)
    refine yt (sp 19 [(0, .sref 0 [] 0 (List.length s2.1) 1), (1, .int .i64 s2.2.1), (5, .int .i64 s2.2.2)]) [(0, some q1)] 1 ?_
    refine Aw.xreg [0, 1, 5] [0] (fun _ _ _ hq => blk_m (then_m hq)) ?_
    refine yt (sp 19 [(0, .sref 0 [] 0 (List.length s2.1) 1), (1, .int .i64 (w64 (s2.2.1 + (1 : Int)))), (5, .int .i64 s2.2.2)]) [(0, some q1)] 1 ?_
    refine Aw.oreg ?_
    refine ye (sp 19 [(0, .sref 0 [] 0 (List.length s2.1) 1), (1, .int .i64 (w64 (s2.2.1 + (1 : Int)))), (5, .int .i64 (w64 (s2.2.2 + (1 : Int)))), (10, .int .i64 s2.2.2), (11, .int .i64 (w64 (s2.2.2 + (1 : Int))))]) [(0, some q1)] 1 ?_
    exact hN2 ((List.set s2.1 (Int.toNat s2.2.2) s2.2.1), (w64 (s2.2.1 + (1 : Int))), (w64 (s2.2.2 + (1 : Int)))) _ _ _ (some_some hh) (Ent.list2 [some 0] rfl rfl (by decide) (rens_sp (by kernel_rfl) (rl_c (u := .sref 0 [] 0 (List.length s2.1) 1) (by kernel_rfl) ren_sx (rl_c (u := .int .i64 (w64 (s2.2.1 + (1 : Int)))) (by kernel_rfl) ren_i (rl_c (u := .int .i64 (w64 (s2.2.2 + (1 : Int)))) (by kernel_rfl) ren_i rl_n)))) (hq q1 (rens_same (noRefs_fl nr_eI)) hs_nil))
  refine Aw.condF (by kernel_rfl) hb ?_
  refine Aw.exit ?_
  refine then_x ?_
  refine hX2 _ _ _ _ _ (some_some hh) ?_
  intro hout
  rw [hout] at hk2
  refine blk_x ?_
  obtain rfl := some_some hk2
  exact hN1 (s2.2.1, s2.1) _ _ _ hk1 (Ent.list2 [some 0] rfl rfl (by decide) (rens_sp (by kernel_rfl) (rl_c (u := .int .i64 s2.2.1) (by kernel_rfl) ren_i rl_n)) (hq ⟨3, (fl (eI .i64) s2.1)⟩ (rens_same (noRefs_fl nr_eI)) hs_nil))

-- 81 loop.example/guesthouse/laws.markCore
def Lf81_r0 : List LOper := [oo 2 (.box 39 (.t 0)), oo 4 (.mv (.c (.int .i64 0)))]
def Lf81_r1 : List LOper := [oo 5 (.fadr 0 (.t 2)), oo 6 (.load false 1 (.t 5)), om 7 1, oo 8 (.call 82 [(.t 6), (.t 7)]), om 1 8]
def Lf81_r2 : List LOper := [om 9 1, om 4 9]
def Lf81 : LFun := ⟨10, [(.tmp 4)], (.seq (.reg false Lf81_r0) (.seq (.reg false Lf81_r1) (.seq (.reg false Lf81_r2) .ret)))⟩
theorem low_laws_markCore : lowFun Go.Proofs.Try.prog 81 = some Lf81 := by kernel_rfl
noncomputable def F_laws_markCore (x_a : DCore) (x_k : Int) : Option ((List Int) × Int) :=
  Option.bind (F_laws_markIntS x_a.Regs x_k) fun v1 =>
  grd (List.length v1.1 = (List.length x_a.Regs)) (some (v1.1, v1.2))
theorem laws_markCore_fn {x_a : DCore} {x_k : Int} {R_ : (List Int) × Int} (hh : F_laws_markCore x_a x_k = some R_) : Inl Try.prog 81 [.agg (.sref 0 [] 0 (List.length x_a.Regs) 1 :: ru39 x_a []), .int .i64 x_k] [(0, some ⟨3, (fl (eI .i64) x_a.Regs)⟩)] 1 (.int .i64 R_.2) [(0, some ⟨3, (fl (eI .i64) R_.1)⟩)] 1 := by
  unfold F_laws_markCore at hh
  let q1 : Root := ⟨3, (fl (eI .i64) x_a.Regs)⟩
  refine Inl.start low_laws_markCore [0, 1] [0] (E := sp 10 [(0, .agg (.sref 0 [] 0 (List.length x_a.Regs) 1 :: ru39 x_a [])), (1, .int .i64 x_k)]) (H1 := [(0, some q1)]) (by kernel_rfl) (by kernel_rfl) ?_
  refine Aw.sreg [1, 2] [0, 1] ?_
  let q2 : Root := ⟨39, (.sref 0 [] 0 (List.length x_a.Regs) 1 :: ru39 x_a [])⟩
  refine yt (sp 10 [(1, .int .i64 x_k), (2, pp 1)]) [(0, some q1), (1, some q2)] 2 ?_
  refine Aw.sreg [1] [0] ?_
  refine yj 3  (sp 10 [(1, .int .i64 x_k), (2, pp 1), (5, pp 1), (6, .sref 0 [] 0 (List.length x_a.Regs) 1), (7, .int .i64 x_k)]) [(0, some q1), (1, some q2)] 2 ?_
  obtain ⟨v1, hv1, hh⟩ := bind_some hh
  obtain ⟨hg2, hh⟩ := grd_some hh
  refine ys (.call 82 [(.t 6), (.t 7)]) (some 8) (op_callf (v' := .int .i64 v1.2) (Hp' := [(0, some ⟨3, (fl (eI .i64) v1.1)⟩)]) (n' := 2) [0] (laws_markIntS_fn hv1) (args' := [.sref 0 [] 0 (List.length x_a.Regs) 1, .int .i64 x_k]) (by kernel_rfl) rfl rfl rfl (rens_c ren_sx (rens_i rens_n)) rfl (hq q1 (rens_same (noRefs_fl nr_eI)) hs_nil) ren_i rfl (hq ⟨3, (fl (eI .i64) v1.1)⟩ (rens_same (noRefs_fl nr_eI)) hs_nil) rfl ?_)
  refine yt (sp 10 [(1, .int .i64 v1.2)]) [(0, some ⟨3, (fl (eI .i64) v1.1)⟩)] 2 ?_
  refine Aw.sreg [4] [0] ?_
  refine yt (sp 10 [(4, .int .i64 v1.2)]) [(0, some ⟨3, (fl (eI .i64) v1.1)⟩)] 2 ?_
  refine Aw.ret ?_
  rw [some_some hh]
  exact gives (r' := .int .i64 v1.2) (by kernel_rfl) (Ent.list2 [some 0] rfl rfl (by decide) (rens_1 ren_i) (hq ⟨3, (fl (eI .i64) v1.1)⟩ (rens_same (noRefs_fl nr_eI)) hs_nil))

-- 49 loop.example/guesthouse/laws.markBare
def Lf49_r0 : List LOper := [oo 2 (.box 43 (.t 0)), oo 4 (.mv (.c (.int .i64 0)))]
def Lf49_r1 : List LOper := [oo 5 (.fadr 0 (.t 2)), oo 6 (.load true 13 (.t 5)), om 7 1, oo 8 (.call 81 [(.t 6), (.t 7)]), om 1 8]
def Lf49_r2 : List LOper := [oo 9 (.fadr 13 (.t 2)), oo 10 (.load false 1 (.t 9)), om 11 1, oo 12 (.call 82 [(.t 10), (.t 11)]), om 1 12]
def Lf49_r3 : List LOper := [oo 13 (.fadr 14 (.t 2)), oo 14 (.load false 1 (.t 13)), om 15 1, oo 16 (.call 82 [(.t 14), (.t 15)]), om 1 16]
def Lf49_r4 : List LOper := [oo 17 (.fadr 15 (.t 2)), oo 18 (.load false 1 (.t 17)), om 19 1, oo 20 (.call 82 [(.t 18), (.t 19)]), om 1 20]
def Lf49_r5 : List LOper := [om 21 1, om 4 21]
def Lf49 : LFun := ⟨22, [(.tmp 4)], (.seq (.reg false Lf49_r0) (.seq (.reg false Lf49_r1) (.seq (.reg false Lf49_r2) (.seq (.reg false Lf49_r3) (.seq (.reg false Lf49_r4) (.seq (.reg false Lf49_r5) .ret))))))⟩
theorem low_laws_markBare : lowFun Go.Proofs.Try.prog 49 = some Lf49 := by kernel_rfl
noncomputable def F_laws_markBare (x_a : DBare) (x_k : Int) : Option ((List Int) × (List Int) × (List Int) × (List Int) × Int) :=
  Option.bind (F_laws_markCore x_a.C x_k) fun v1 =>
  grd (List.length v1.1 = (List.length x_a.C.Regs)) (Option.bind (F_laws_markIntS x_a.Mem v1.2) fun v2 =>
    grd (List.length v2.1 = (List.length x_a.Mem)) (Option.bind (F_laws_markIntS x_a.In v2.2) fun v3 =>
      grd (List.length v3.1 = (List.length x_a.In)) (Option.bind (F_laws_markIntS x_a.Out v3.2) fun v4 =>
        grd (List.length v4.1 = (List.length x_a.Out)) (some (v1.1, v2.1, v3.1, v4.1, v4.2)))))
theorem laws_markBare_fn {x_a : DBare} {x_k : Int} {R_ : (List Int) × (List Int) × (List Int) × (List Int) × Int} (hh : F_laws_markBare x_a x_k = some R_) : Inl Try.prog 49 [.agg (.sref 0 [] 0 (List.length x_a.C.Regs) 1 :: ru39 x_a.C [.sref 1 [] 0 (List.length x_a.Mem) 1, .sref 2 [] 0 (List.length x_a.In) 1, .sref 3 [] 0 (List.length x_a.Out) 1]), .int .i64 x_k] [(3, some ⟨3, (fl (eI .i64) x_a.Out)⟩), (2, some ⟨3, (fl (eI .i64) x_a.In)⟩), (1, some ⟨3, (fl (eI .i64) x_a.Mem)⟩), (0, some ⟨3, (fl (eI .i64) x_a.C.Regs)⟩)] 4 (.int .i64 R_.2.2.2.2) [(0, some ⟨3, (fl (eI .i64) R_.1)⟩), (1, some ⟨3, (fl (eI .i64) R_.2.1)⟩), (2, some ⟨3, (fl (eI .i64) R_.2.2.1)⟩), (3, some ⟨3, (fl (eI .i64) R_.2.2.2.1)⟩)] 4 := by
  unfold F_laws_markBare at hh
  let q1 : Root := ⟨3, (fl (eI .i64) x_a.C.Regs)⟩
  let q2 : Root := ⟨3, (fl (eI .i64) x_a.Mem)⟩
  let q3 : Root := ⟨3, (fl (eI .i64) x_a.In)⟩
  let q4 : Root := ⟨3, (fl (eI .i64) x_a.Out)⟩
  refine Inl.start low_laws_markBare [0, 1] [0, 1, 2, 3] (E := sp 22 [(0, .agg (.sref 0 [] 0 (List.length x_a.C.Regs) 1 :: ru39 x_a.C [.sref 1 [] 0 (List.length x_a.Mem) 1, .sref 2 [] 0 (List.length x_a.In) 1, .sref 3 [] 0 (List.length x_a.Out) 1])), (1, .int .i64 x_k)]) (H1 := [(0, some q1), (1, some q2), (2, some q3), (3, some q4)]) (by kernel_rfl) (by kernel_rfl) ?_
  refine Aw.sreg [1, 2] [0, 1, 2, 3, 4] ?_
  let q5 : Root := ⟨43, (.sref 0 [] 0 (List.length x_a.C.Regs) 1 :: ru39 x_a.C [.sref 1 [] 0 (List.length x_a.Mem) 1, .sref 2 [] 0 (List.length x_a.In) 1, .sref 3 [] 0 (List.length x_a.Out) 1])⟩
  refine yt (sp 22 [(1, .int .i64 x_k), (2, pp 4)]) [(0, some q1), (1, some q2), (2, some q3), (3, some q4), (4, some q5)] 5 ?_
  refine Aw.sreg [1, 2] [0, 1, 2, 3, 4] ?_
  refine yj 3  (sp 22 [(1, .int .i64 x_k), (2, pp 4), (5, pp 4), (6, .agg (.sref 0 [] 0 (List.length x_a.C.Regs) 1 :: ru39 x_a.C [])), (7, .int .i64 x_k)]) [(0, some q1), (1, some q2), (2, some q3), (3, some q4), (4, some q5)] 5 ?_
  obtain ⟨v1, hv1, hh⟩ := bind_some hh
  obtain ⟨hg2, hh⟩ := grd_some hh
  refine ys (.call 81 [(.t 6), (.t 7)]) (some 8) (op_callf (v' := .int .i64 v1.2) (Hp' := [(0, some ⟨3, (fl (eI .i64) v1.1)⟩)]) (n' := 5) [0] (laws_markCore_fn hv1) (args' := [.agg (.sref 0 [] 0 (List.length x_a.C.Regs) 1 :: ru39 x_a.C []), .int .i64 x_k]) (by kernel_rfl) rfl rfl rfl (rens_c (ren_agg (rens_c ren_sx (rens_i (rens_i (rens_i (rens_i (rens_b (rens_i (rens_i (rens_i (rens_b (rens_b (rens_b (rens_b rens_n)))))))))))))) (rens_i rens_n)) rfl (hq q1 (rens_same (noRefs_fl nr_eI)) hs_nil) ren_i rfl (hq ⟨3, (fl (eI .i64) v1.1)⟩ (rens_same (noRefs_fl nr_eI)) hs_nil) rfl ?_)
  refine yt (sp 22 [(1, .int .i64 v1.2), (2, pp 4)]) [(0, some ⟨3, (fl (eI .i64) v1.1)⟩), (1, some q2), (2, some q3), (3, some q4), (4, some q5)] 5 ?_
  refine Aw.sreg [1, 2] [0, 1, 2, 3, 4] ?_
  refine yj 3  (sp 22 [(1, .int .i64 v1.2), (2, pp 4), (9, .ptr 4 [] 13), (10, .sref 1 [] 0 (List.length x_a.Mem) 1), (11, .int .i64 v1.2)]) [(0, some ⟨3, (fl (eI .i64) v1.1)⟩), (1, some q2), (2, some q3), (3, some q4), (4, some q5)] 5 ?_
  obtain ⟨v2, hv2, hh⟩ := bind_some hh
  obtain ⟨hg4, hh⟩ := grd_some hh
  refine ys (.call 82 [(.t 10), (.t 11)]) (some 12) (op_callf (v' := .int .i64 v2.2) (Hp' := [(1, some ⟨3, (fl (eI .i64) v2.1)⟩)]) (n' := 5) [1] (laws_markIntS_fn hv2) (args' := [.sref 1 [] 0 (List.length x_a.Mem) 1, .int .i64 v1.2]) (by kernel_rfl) rfl rfl rfl (rens_c ren_sx (rens_i rens_n)) rfl (hq q2 (rens_same (noRefs_fl nr_eI)) hs_nil) ren_i rfl (hq ⟨3, (fl (eI .i64) v2.1)⟩ (rens_same (noRefs_fl nr_eI)) hs_nil) rfl ?_)
  refine yt (sp 22 [(1, .int .i64 v2.2), (2, pp 4)]) [(0, some ⟨3, (fl (eI .i64) v1.1)⟩), (1, some ⟨3, (fl (eI .i64) v2.1)⟩), (2, some q3), (3, some q4), (4, some q5)] 5 ?_
  refine Aw.sreg [1, 2] [0, 1, 2, 3, 4] ?_
  refine yj 3  (sp 22 [(1, .int .i64 v2.2), (2, pp 4), (13, .ptr 4 [] 14), (14, .sref 2 [] 0 (List.length x_a.In) 1), (15, .int .i64 v2.2)]) [(0, some ⟨3, (fl (eI .i64) v1.1)⟩), (1, some ⟨3, (fl (eI .i64) v2.1)⟩), (2, some q3), (3, some q4), (4, some q5)] 5 ?_
  obtain ⟨v3, hv3, hh⟩ := bind_some hh
  obtain ⟨hg6, hh⟩ := grd_some hh
  refine ys (.call 82 [(.t 14), (.t 15)]) (some 16) (op_callf (v' := .int .i64 v3.2) (Hp' := [(2, some ⟨3, (fl (eI .i64) v3.1)⟩)]) (n' := 5) [2] (laws_markIntS_fn hv3) (args' := [.sref 2 [] 0 (List.length x_a.In) 1, .int .i64 v2.2]) (by kernel_rfl) rfl rfl rfl (rens_c ren_sx (rens_i rens_n)) rfl (hq q3 (rens_same (noRefs_fl nr_eI)) hs_nil) ren_i rfl (hq ⟨3, (fl (eI .i64) v3.1)⟩ (rens_same (noRefs_fl nr_eI)) hs_nil) rfl ?_)
  refine yt (sp 22 [(1, .int .i64 v3.2), (2, pp 4)]) [(0, some ⟨3, (fl (eI .i64) v1.1)⟩), (1, some ⟨3, (fl (eI .i64) v2.1)⟩), (2, some ⟨3, (fl (eI .i64) v3.1)⟩), (3, some q4), (4, some q5)] 5 ?_
  refine Aw.sreg [1] [0, 1, 2, 3] ?_
  refine yj 3  (sp 22 [(1, .int .i64 v3.2), (2, pp 4), (17, .ptr 4 [] 15), (18, .sref 3 [] 0 (List.length x_a.Out) 1), (19, .int .i64 v3.2)]) [(0, some ⟨3, (fl (eI .i64) v1.1)⟩), (1, some ⟨3, (fl (eI .i64) v2.1)⟩), (2, some ⟨3, (fl (eI .i64) v3.1)⟩), (3, some q4), (4, some q5)] 5 ?_
  obtain ⟨v4, hv4, hh⟩ := bind_some hh
  obtain ⟨hg8, hh⟩ := grd_some hh
  refine ys (.call 82 [(.t 18), (.t 19)]) (some 20) (op_callf (v' := .int .i64 v4.2) (Hp' := [(3, some ⟨3, (fl (eI .i64) v4.1)⟩)]) (n' := 5) [3] (laws_markIntS_fn hv4) (args' := [.sref 3 [] 0 (List.length x_a.Out) 1, .int .i64 v3.2]) (by kernel_rfl) rfl rfl rfl (rens_c ren_sx (rens_i rens_n)) rfl (hq q4 (rens_same (noRefs_fl nr_eI)) hs_nil) ren_i rfl (hq ⟨3, (fl (eI .i64) v4.1)⟩ (rens_same (noRefs_fl nr_eI)) hs_nil) rfl ?_)
  refine yt (sp 22 [(1, .int .i64 v4.2)]) [(0, some ⟨3, (fl (eI .i64) v1.1)⟩), (1, some ⟨3, (fl (eI .i64) v2.1)⟩), (2, some ⟨3, (fl (eI .i64) v3.1)⟩), (3, some ⟨3, (fl (eI .i64) v4.1)⟩)] 5 ?_
  refine Aw.sreg [4] [0, 1, 2, 3] ?_
  refine yt (sp 22 [(4, .int .i64 v4.2)]) [(0, some ⟨3, (fl (eI .i64) v1.1)⟩), (1, some ⟨3, (fl (eI .i64) v2.1)⟩), (2, some ⟨3, (fl (eI .i64) v3.1)⟩), (3, some ⟨3, (fl (eI .i64) v4.1)⟩)] 5 ?_
  refine Aw.ret ?_
  rw [some_some hh]
  exact gives (r' := .int .i64 v4.2) (by kernel_rfl) (Ent.list2 [some 0, some 1, some 2, some 3] rfl rfl (by decide) (rens_1 ren_i) (hq ⟨3, (fl (eI .i64) v1.1)⟩ (rens_same (noRefs_fl nr_eI)) (hq ⟨3, (fl (eI .i64) v2.1)⟩ (rens_same (noRefs_fl nr_eI)) (hq ⟨3, (fl (eI .i64) v3.1)⟩ (rens_same (noRefs_fl nr_eI)) (hq ⟨3, (fl (eI .i64) v4.1)⟩ (rens_same (noRefs_fl nr_eI)) hs_nil)))))

-- 84 loop.example/guesthouse/laws.heldIntS
def Lf84_r0 : List LOper := [oo 4 (.mv (.c (.int .i64 0)))]
def Lf84_r1 : List LOper := [oo 5 (.mv (.c (.int .i64 0)))]
def Lf84_r2 : List LOper := [om 6 5, om 7 0, oo 8 (.len (.t 7)), oo 9 (.bin .lss (.t 6) (.t 8))]
def Lf84_r3 : List LOper := [om 12 0, om 13 5, oo 14 (.iadr 1 (.t 12) (.t 13)), oo 15 (.load false 1 (.t 14)), om 16 1, oo 17 (.bin .neq (.t 15) (.t 16))]
def Lf84_r4 : List LOper := [oo 4 (.mv (.c (.int .i64 (-1))))]
def Lf84_r5 : List LOper := [om 18 1, oo 19 (.bin .add (.t 18) (.c (.int .i64 1))), om 1 19]
def Lf84_r6 : List LOper := [om 10 5, oo 11 (.bin .add (.t 10) (.c (.int .i64 1))), om 5 11]
def Lf84_l7 : LCode := (.seq (.seq (.reg false Lf84_r2) (.cond (.t 9) .skip (.exit 0))) (.seq (.block 1 (.seq (.seq (.reg false Lf84_r3) (.cond (.t 17) (.seq (.reg false Lf84_r4) .ret) .skip)) (.reg false Lf84_r5))) (.reg false Lf84_r6)))
def Lf84_r8 : List LOper := [om 20 1, om 4 20]
def Lf84 : LFun := ⟨21, [(.tmp 4)], (.seq (.reg false Lf84_r0) (.seq (.seq (.reg false Lf84_r1) (.block 0 (.loop Lf84_l7))) (.seq (.reg false Lf84_r8) .ret)))⟩
theorem low_laws_heldIntS : lowFun Go.Proofs.Try.prog 84 = some Lf84 := by kernel_rfl
noncomputable def F_laws_heldIntS_j1  (s1 : Int) : Option Int :=
  some s1
noncomputable def F_laws_heldIntS_l2 (x_a : List Int) (s2 : Int × Int) : Option (LO (Int × Int) (JO Int Int)) :=
  cond (decide (s2.2 < (((List.length x_a) : Nat) : Int)))
    (grd ((0 : Int) ≤ s2.2 ∧ s2.2 < ((List.length x_a : Nat) : Int)) (cond (!decide ((List.getD x_a (Int.toNat s2.2) default) = s2.1))
        (some (.ret (.out (-1 : Int))))
        (some (.next ((w64 (s2.1 + (1 : Int))), (w64 (s2.2 + (1 : Int))))))))
    (some (.ret (.go s2.1)))
noncomputable def F_laws_heldIntS (x_a : List Int) (x_k : Int) : Option Int :=
  Option.bind (Option.bind (iter (F_laws_heldIntS_l2 x_a) (x_k, (0 : Int))) LO.val) fun j1 =>
    JO.run j1 (F_laws_heldIntS_j1)
theorem laws_heldIntS_fn {x_a : List Int} {x_k : Int} {R_ : Int} (hh : F_laws_heldIntS x_a x_k = some R_) : Fn Try.prog 84 [bo (eI .i64) x_a, .int .i64 x_k] (.int .i64 R_) := by
  unfold F_laws_heldIntS at hh
  refine Fn.start low_laws_heldIntS [0, 1] (E := sp 21 [(0, bo (eI .i64) x_a), (1, .int .i64 x_k)]) (by kernel_rfl) (v := .int .i64 R_) (Hr := []) (k := 0) (by kernel_rfl) ?_
  refine Aw.sreg [0, 1] [] ?_
  refine yt (sp 21 [(0, bo (eI .i64) x_a), (1, .int .i64 x_k)]) [] 0 ?_
  obtain ⟨j1, hh, hk1⟩ := bind_some hh
  refine Aw.join (S := Int) (fun s1 => sp 21 [(1, .int .i64 s1)]) (fun s1 => []) 0 (fun s1 => F_laws_heldIntS_j1 s1 = some R_) ?_ ?_
  · intro s1 hh
    unfold F_laws_heldIntS_j1 at hh
    refine Aw.sreg [4] [] ?_
    refine yt (sp 21 [(4, .int .i64 s1)]) [] 0 ?_
    refine Aw.ret ?_
    rw [some_some hh]
    exact gvi
  intro Q1 hN1 hR1 hE1
  refine Aw.sreg [0, 1, 5] [] ?_
  refine yt (sp 21 [(0, bo (eI .i64) x_a), (1, .int .i64 x_k), (5, .int .i64 (0 : Int))]) [] 0 ?_
  refine Aw.block ?_
  obtain ⟨o2, hi2, hk2⟩ := bind_some hh
  refine Aw.iter (fun (s2 : Int × Int) => sp 21 [(0, bo (eI .i64) x_a), (1, .int .i64 s2.1), (5, .int .i64 s2.2)]) (fun (s2 : Int × Int) => []) 0 hi2 (Ent.list2 [] rfl rfl (by decide) (rens_sp (by kernel_rfl) (rl_c (u := bo (eI .i64) x_a) (by kernel_rfl) (ren_bor (rens_same (noRefs_fl nr_eI))) (rl_c (u := .int .i64 x_k) (by kernel_rfl) ren_i (rl_c (u := .int .i64 (0 : Int)) (by kernel_rfl) ren_i rl_n)))) hs_nil) ?_
  intro s2 u2 Q2 hh hN2 hX2 hR2
  unfold F_laws_heldIntS_l2 at hh
  refine Aw.seq ?_
  refine Aw.sreg [0, 1, 5, 9] [] ?_
  refine yt (sp 21 [(0, bo (eI .i64) x_a), (1, .int .i64 s2.1), (5, .int .i64 s2.2), (9, .bool (decide (s2.2 < (((List.length x_a) : Nat) : Int))))]) [] 0 ?_
  rcases cond_some hh with ⟨hb, hh⟩ | ⟨hb, hh⟩
  · refine Aw.condT (by kernel_rfl) hb ?_
    refine Aw.xskip (fun _ _ _ hq => then_m hq) ?_
    refine Aw.seq ?_
    refine Aw.block ?_
    refine Aw.seq ?_
    refine Aw.sreg [0, 1, 5, 17] [] ?_
    refine yj 2  (sp 21 [(0, bo (eI .i64) x_a), (1, .int .i64 s2.1), (5, .int .i64 s2.2), (9, .bool (decide (s2.2 < (((List.length x_a) : Nat) : Int)))), (12, bo (eI .i64) x_a), (13, .int .i64 s2.2)]) [] 0 ?_
    obtain ⟨hg48, hh⟩ := grd_some hh
    refine ys (.iadr 1 (.t 12) (.t 13)) (some 14) (op_iadr (kd := .i64) (c := (eI .i64)) (xs := x_a) len_eI (by decide) (by kernel_rfl) (by kernel_rfl) hg48 ?_)
    refine ys (.load false 1 (.t 14)) (some 15) (op_loadb (c := (eI .i64)) (xs := x_a) (o := Int.toNat s2.2 * 1) (i := (Int.toNat s2.2)) (off := 0) (v := .int .i64 (List.getD x_a (Int.toNat s2.2) default)) len_eI (by kernel_rfl) (by omega) (by omega) (by decide) (by kernel_rfl) ?_)
    refine yt (sp 21 [(0, bo (eI .i64) x_a), (1, .int .i64 s2.1), (5, .int .i64 s2.2), (17, .bool (!decide ((List.getD x_a (Int.toNat s2.2) default) = s2.1)))]) [] 0 ?_
    rcases cond_some hh with ⟨hb, hh⟩ | ⟨hb, hh⟩
    · refine Aw.condT (by kernel_rfl) hb ?_
      refine Aw.sreg [4] [] ?_
      refine yt (sp 21 [(4, .int .i64 (-1 : Int))]) [] 0 ?_
      refine Aw.ret ?_
      refine then_r (blk_r (then_r ?_))
      refine hR2 _ _ _ _ (some_some hh) ?_
      intro hout
      rw [hout] at hk2
      refine blk_r ?_
      obtain rfl := some_some hk2
      refine hR1 _ _ _ ?_
      refine ?_
      rw [some_some hk1]
      exact gvi
    refine Aw.condF (by kernel_rfl) hb ?_
    refine Aw.xskip (fun _ _ _ hq => then_m hq) ?_
    refine Aw.xreg [0, 1, 5] [] (fun _ _ _ hq => blk_m (then_m hq)) ?_
    refine yt (sp 21 [(0, bo (eI .i64) x_a), (1, .int .i64 (w64 (s2.1 + (1 : Int)))), (5, .int .i64 s2.2)]) [] 0 ?_
    refine Aw.oreg ?_
    refine ye (sp 21 [(0, bo (eI .i64) x_a), (1, .int .i64 (w64 (s2.1 + (1 : Int)))), (5, .int .i64 (w64 (s2.2 + (1 : Int)))), (10, .int .i64 s2.2), (11, .int .i64 (w64 (s2.2 + (1 : Int))))]) [] 0 ?_
    exact hN2 ((w64 (s2.1 + (1 : Int))), (w64 (s2.2 + (1 : Int)))) _ _ _ (some_some hh) (Ent.list2 [] rfl rfl (by decide) (rens_sp (by kernel_rfl) (rl_c (u := bo (eI .i64) x_a) (by kernel_rfl) (ren_bor (rens_same (noRefs_fl nr_eI))) (rl_c (u := .int .i64 (w64 (s2.1 + (1 : Int)))) (by kernel_rfl) ren_i (rl_c (u := .int .i64 (w64 (s2.2 + (1 : Int)))) (by kernel_rfl) ren_i rl_n)))) hs_nil)
  refine Aw.condF (by kernel_rfl) hb ?_
  refine Aw.exit ?_
  refine then_x ?_
  refine hX2 _ _ _ _ _ (some_some hh) ?_
  intro hout
  rw [hout] at hk2
  refine blk_x ?_
  obtain rfl := some_some hk2
  exact hN1 s2.1 _ _ _ hk1 (Ent.list2 [] rfl rfl (by decide) (rens_sp (by kernel_rfl) (rl_c (u := .int .i64 s2.1) (by kernel_rfl) ren_i rl_n)) hs_nil)

-- 83 loop.example/guesthouse/laws.heldCore
def Lf83_r0 : List LOper := [oo 2 (.box 39 (.t 0)), oo 4 (.mv (.c (.int .i64 0)))]
def Lf83_r1 : List LOper := [oo 5 (.fadr 0 (.t 2)), oo 6 (.load false 1 (.t 5)), om 7 1, oo 8 (.call 84 [(.t 6), (.t 7)]), om 1 8]
def Lf83_r2 : List LOper := [om 9 1, oo 10 (.bin .lss (.t 9) (.c (.int .i64 0)))]
def Lf83_r3 : List LOper := [oo 4 (.mv (.c (.int .i64 (-1))))]
def Lf83_r4 : List LOper := [om 11 1, om 4 11]
def Lf83 : LFun := ⟨12, [(.tmp 4)], (.seq (.reg false Lf83_r0) (.seq (.reg false Lf83_r1) (.seq (.seq (.reg false Lf83_r2) (.cond (.t 10) (.seq (.reg false Lf83_r3) .ret) .skip)) (.seq (.reg false Lf83_r4) .ret))))⟩
theorem low_laws_heldCore : lowFun Go.Proofs.Try.prog 83 = some Lf83 := by kernel_rfl
noncomputable def F_laws_heldCore (x_a : DCore) (x_k : Int) : Option Int :=
  Option.bind (F_laws_heldIntS x_a.Regs x_k) fun v1 =>
  cond (decide (v1 < (0 : Int)))
    (some (-1 : Int))
    (some v1)
theorem laws_heldCore_fn {x_a : DCore} {x_k : Int} {R_ : Int} (hh : F_laws_heldCore x_a x_k = some R_) : Fn Try.prog 83 [.agg (bo (eI .i64) x_a.Regs :: ru39 x_a []), .int .i64 x_k] (.int .i64 R_) := by
  unfold F_laws_heldCore at hh
  refine Fn.start low_laws_heldCore [0, 1] (E := sp 12 [(0, .agg (B_39 x_a)), (1, .int .i64 x_k)]) (by kernel_rfl) (v := .int .i64 R_) (Hr := []) (k := 0) (by kernel_rfl) ?_
  refine Aw.sreg [1, 2] [0] ?_
  let q1 : Root := ⟨39, (bo (eI .i64) x_a.Regs :: ru39 x_a [])⟩
  refine yt (sp 12 [(1, .int .i64 x_k), (2, pp 0)]) [(0, some q1)] 1 ?_
  refine Aw.sreg [1] [] ?_
  refine yj 3  (sp 12 [(1, .int .i64 x_k), (2, pp 0), (5, pp 0), (6, bo (eI .i64) x_a.Regs), (7, .int .i64 x_k)]) [(0, some q1)] 1 ?_
  obtain ⟨v1, hv1, hh⟩ := bind_some hh
  refine ys (.call 84 [(.t 6), (.t 7)]) (some 8) (oc (laws_heldIntS_fn hv1) ?_)
  refine yt (sp 12 [(1, .int .i64 v1)]) [] 1 ?_
  refine Aw.seq ?_
  refine Aw.sreg [1, 10] [] ?_
  refine yt (sp 12 [(1, .int .i64 v1), (10, .bool (decide (v1 < (0 : Int))))]) [] 1 ?_
  rcases cond_some hh with ⟨hb, hh⟩ | ⟨hb, hh⟩
  · refine Aw.condT (by kernel_rfl) hb ?_
    refine Aw.sreg [4] [] ?_
    refine yt (sp 12 [(4, .int .i64 (-1 : Int))]) [] 1 ?_
    refine Aw.ret ?_
    refine then_r ?_
    rw [some_some hh]
    exact gvi
  refine Aw.condF (by kernel_rfl) hb ?_
  refine Aw.xskip (fun _ _ _ hq => then_m hq) ?_
  refine Aw.sreg [4] [] ?_
  refine yt (sp 12 [(4, .int .i64 v1)]) [] 1 ?_
  refine Aw.ret ?_
  rw [some_some hh]
  exact gvi

-- 50 loop.example/guesthouse/laws.heldBare
def Lf50_r0 : List LOper := [oo 2 (.box 43 (.t 0)), oo 4 (.mv (.c (.int .i64 0)))]
def Lf50_r1 : List LOper := [oo 5 (.fadr 0 (.t 2)), oo 6 (.load true 13 (.t 5)), om 7 1, oo 8 (.call 83 [(.t 6), (.t 7)]), om 1 8]
def Lf50_r2 : List LOper := [om 9 1, oo 10 (.bin .lss (.t 9) (.c (.int .i64 0)))]
def Lf50_r3 : List LOper := [oo 4 (.mv (.c (.int .i64 (-1))))]
def Lf50_r4 : List LOper := [oo 11 (.fadr 13 (.t 2)), oo 12 (.load false 1 (.t 11)), om 13 1, oo 14 (.call 84 [(.t 12), (.t 13)]), om 1 14]
def Lf50_r5 : List LOper := [om 15 1, oo 16 (.bin .lss (.t 15) (.c (.int .i64 0)))]
def Lf50_r6 : List LOper := [oo 4 (.mv (.c (.int .i64 (-1))))]
def Lf50_r7 : List LOper := [oo 17 (.fadr 14 (.t 2)), oo 18 (.load false 1 (.t 17)), om 19 1, oo 20 (.call 84 [(.t 18), (.t 19)]), om 1 20]
def Lf50_r8 : List LOper := [om 21 1, oo 22 (.bin .lss (.t 21) (.c (.int .i64 0)))]
def Lf50_r9 : List LOper := [oo 4 (.mv (.c (.int .i64 (-1))))]
def Lf50_r10 : List LOper := [oo 23 (.fadr 15 (.t 2)), oo 24 (.load false 1 (.t 23)), om 25 1, oo 26 (.call 84 [(.t 24), (.t 25)]), om 1 26]
def Lf50_r11 : List LOper := [om 27 1, oo 28 (.bin .lss (.t 27) (.c (.int .i64 0)))]
def Lf50_r12 : List LOper := [oo 4 (.mv (.c (.int .i64 (-1))))]
def Lf50_r13 : List LOper := [om 29 1, om 4 29]
def Lf50 : LFun := ⟨30, [(.tmp 4)], (.seq (.reg false Lf50_r0) (.seq (.reg false Lf50_r1) (.seq (.seq (.reg false Lf50_r2) (.cond (.t 10) (.seq (.reg false Lf50_r3) .ret) .skip)) (.seq (.reg false Lf50_r4) (.seq (.seq (.reg false Lf50_r5) (.cond (.t 16) (.seq (.reg false Lf50_r6) .ret) .skip)) (.seq (.reg false Lf50_r7) (.seq (.seq (.reg false Lf50_r8) (.cond (.t 22) (.seq (.reg false Lf50_r9) .ret) .skip)) (.seq (.reg false Lf50_r10) (.seq (.seq (.reg false Lf50_r11) (.cond (.t 28) (.seq (.reg false Lf50_r12) .ret) .skip)) (.seq (.reg false Lf50_r13) .ret))))))))))⟩
theorem low_laws_heldBare : lowFun Go.Proofs.Try.prog 50 = some Lf50 := by kernel_rfl
noncomputable def F_laws_heldBare (x_a : DBare) (x_k : Int) : Option Int :=
  Option.bind (F_laws_heldCore x_a.C x_k) fun v1 =>
  cond (decide (v1 < (0 : Int)))
    (some (-1 : Int))
    (Option.bind (F_laws_heldIntS x_a.Mem v1) fun v2 =>
    cond (decide (v2 < (0 : Int)))
      (some (-1 : Int))
      (Option.bind (F_laws_heldIntS x_a.In v2) fun v3 =>
      cond (decide (v3 < (0 : Int)))
        (some (-1 : Int))
        (Option.bind (F_laws_heldIntS x_a.Out v3) fun v4 =>
        cond (decide (v4 < (0 : Int)))
          (some (-1 : Int))
          (some v4))))
theorem laws_heldBare_fn {x_a : DBare} {x_k : Int} {R_ : Int} (hh : F_laws_heldBare x_a x_k = some R_) : Fn Try.prog 50 [.agg (bo (eI .i64) x_a.C.Regs :: ru39 x_a.C [bo (eI .i64) x_a.Mem, bo (eI .i64) x_a.In, bo (eI .i64) x_a.Out]), .int .i64 x_k] (.int .i64 R_) := by
  unfold F_laws_heldBare at hh
  refine Fn.start low_laws_heldBare [0, 1] (E := sp 30 [(0, .agg (B_43 x_a)), (1, .int .i64 x_k)]) (by kernel_rfl) (v := .int .i64 R_) (Hr := []) (k := 0) (by kernel_rfl) ?_
  refine Aw.sreg [1, 2] [0] ?_
  let q1 : Root := ⟨43, (bo (eI .i64) x_a.C.Regs :: ru39 x_a.C [bo (eI .i64) x_a.Mem, bo (eI .i64) x_a.In, bo (eI .i64) x_a.Out])⟩
  refine yt (sp 30 [(1, .int .i64 x_k), (2, pp 0)]) [(0, some q1)] 1 ?_
  refine Aw.sreg [1, 2] [0] ?_
  refine yj 3  (sp 30 [(1, .int .i64 x_k), (2, pp 0), (5, pp 0), (6, .agg (B_39 x_a.C)), (7, .int .i64 x_k)]) [(0, some q1)] 1 ?_
  obtain ⟨v1, hv1, hh⟩ := bind_some hh
  refine ys (.call 83 [(.t 6), (.t 7)]) (some 8) (op_call (r := .int .i64 v1) (v := .int .i64 v1) (Hr := []) (n' := 1) (laws_heldCore_fn hv1) (clz_v (vs := [.agg (B_39 x_a.C), .int .i64 x_k]) (by kernel_rfl) (clz_c (clo_same (clean_agg (cl_B_39 _))) (cz1 clz_n))) rfl rfl (by kernel_rfl) ?_)
  refine yt (sp 30 [(1, .int .i64 v1), (2, pp 0)]) [(0, some q1)] 1 ?_
  refine Aw.seq ?_
  refine Aw.sreg [1, 2, 10] [0] ?_
  refine yt (sp 30 [(1, .int .i64 v1), (2, pp 0), (10, .bool (decide (v1 < (0 : Int))))]) [(0, some q1)] 1 ?_
  rcases cond_some hh with ⟨hb, hh⟩ | ⟨hb, hh⟩
  · refine Aw.condT (by kernel_rfl) hb ?_
    refine Aw.sreg [4] [] ?_
    refine yt (sp 30 [(4, .int .i64 (-1 : Int))]) [] 1 ?_
    refine Aw.ret ?_
    refine then_r ?_
    rw [some_some hh]
    exact gvi
  refine Aw.condF (by kernel_rfl) hb ?_
  refine Aw.xskip (fun _ _ _ hq => then_m hq) ?_
  refine Aw.sreg [1, 2] [0] ?_
  refine yj 3  (sp 30 [(1, .int .i64 v1), (2, pp 0), (10, .bool (decide (v1 < (0 : Int)))), (11, .ptr 0 [] 13), (12, bo (eI .i64) x_a.Mem), (13, .int .i64 v1)]) [(0, some q1)] 1 ?_
  obtain ⟨v2, hv2, hh⟩ := bind_some hh
  refine ys (.call 84 [(.t 12), (.t 13)]) (some 14) (oc (laws_heldIntS_fn hv2) ?_)
  refine yt (sp 30 [(1, .int .i64 v2), (2, pp 0)]) [(0, some q1)] 1 ?_
  refine Aw.seq ?_
  refine Aw.sreg [1, 2, 16] [0] ?_
  refine yt (sp 30 [(1, .int .i64 v2), (2, pp 0), (16, .bool (decide (v2 < (0 : Int))))]) [(0, some q1)] 1 ?_
  rcases cond_some hh with ⟨hb, hh⟩ | ⟨hb, hh⟩
  · refine Aw.condT (by kernel_rfl) hb ?_
    refine Aw.sreg [4] [] ?_
    refine yt (sp 30 [(4, .int .i64 (-1 : Int))]) [] 1 ?_
    refine Aw.ret ?_
    refine then_r ?_
    rw [some_some hh]
    exact gvi
  refine Aw.condF (by kernel_rfl) hb ?_
  refine Aw.xskip (fun _ _ _ hq => then_m hq) ?_
  refine Aw.sreg [1, 2] [0] ?_
  refine yj 3  (sp 30 [(1, .int .i64 v2), (2, pp 0), (16, .bool (decide (v2 < (0 : Int)))), (17, .ptr 0 [] 14), (18, bo (eI .i64) x_a.In), (19, .int .i64 v2)]) [(0, some q1)] 1 ?_
  obtain ⟨v3, hv3, hh⟩ := bind_some hh
  refine ys (.call 84 [(.t 18), (.t 19)]) (some 20) (oc (laws_heldIntS_fn hv3) ?_)
  refine yt (sp 30 [(1, .int .i64 v3), (2, pp 0)]) [(0, some q1)] 1 ?_
  refine Aw.seq ?_
  refine Aw.sreg [1, 2, 22] [0] ?_
  refine yt (sp 30 [(1, .int .i64 v3), (2, pp 0), (22, .bool (decide (v3 < (0 : Int))))]) [(0, some q1)] 1 ?_
  rcases cond_some hh with ⟨hb, hh⟩ | ⟨hb, hh⟩
  · refine Aw.condT (by kernel_rfl) hb ?_
    refine Aw.sreg [4] [] ?_
    refine yt (sp 30 [(4, .int .i64 (-1 : Int))]) [] 1 ?_
    refine Aw.ret ?_
    refine then_r ?_
    rw [some_some hh]
    exact gvi
  refine Aw.condF (by kernel_rfl) hb ?_
  refine Aw.xskip (fun _ _ _ hq => then_m hq) ?_
  refine Aw.sreg [1] [] ?_
  refine yj 3  (sp 30 [(1, .int .i64 v3), (2, pp 0), (22, .bool (decide (v3 < (0 : Int)))), (23, .ptr 0 [] 15), (24, bo (eI .i64) x_a.Out), (25, .int .i64 v3)]) [(0, some q1)] 1 ?_
  obtain ⟨v4, hv4, hh⟩ := bind_some hh
  refine ys (.call 84 [(.t 24), (.t 25)]) (some 26) (oc (laws_heldIntS_fn hv4) ?_)
  refine yt (sp 30 [(1, .int .i64 v4)]) [] 1 ?_
  refine Aw.seq ?_
  refine Aw.sreg [1, 28] [] ?_
  refine yt (sp 30 [(1, .int .i64 v4), (28, .bool (decide (v4 < (0 : Int))))]) [] 1 ?_
  rcases cond_some hh with ⟨hb, hh⟩ | ⟨hb, hh⟩
  · refine Aw.condT (by kernel_rfl) hb ?_
    refine Aw.sreg [4] [] ?_
    refine yt (sp 30 [(4, .int .i64 (-1 : Int))]) [] 1 ?_
    refine Aw.ret ?_
    refine then_r ?_
    rw [some_some hh]
    exact gvi
  refine Aw.condF (by kernel_rfl) hb ?_
  refine Aw.xskip (fun _ _ _ hq => then_m hq) ?_
  refine Aw.sreg [4] [] ?_
  refine yt (sp 30 [(4, .int .i64 v4)]) [] 1 ?_
  refine Aw.ret ?_
  rw [some_some hh]
  exact gvi

end Go.Proofs.Ythbefahhpikcaaa
