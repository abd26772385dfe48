/- Plain functions of the program, and that it hands back what they say. Made by program. -/
import Derived.Test.YthbefahhpikcaaaWT
import Derived.Test.YthbefahhpikcaaaProg
import Derived.Test.YthbefahhpikcaaaWE1
namespace Go.Proofs.Ythbefahhpikcaaa
open Go.RowKit
set_option maxRecDepth 100000
set_option linter.all false
set_option maxHeartbeats 0

-- 53 loop.example/guesthouse/impl.wordsOk
def L_impl_wordsOk_r0 : List LOper := [⟨(some 2), (.mv (.c (.bool false))), none⟩]
def L_impl_wordsOk_r1 : List LOper := [⟨(some 5), (.mv (.t 0)), none⟩, ⟨(some 6), (.len (.t 5)), none⟩, ⟨(some 7), (.mv (.c (.int .i64 0))), none⟩]
def L_impl_wordsOk_r2 : List LOper := [⟨(some 8), (.bin .lss (.t 7) (.t 6)), none⟩]
def L_impl_wordsOk_r3 : List LOper := [⟨(some 9), (.iadr 1 (.t 5) (.t 7)), none⟩, ⟨(some 10), (.load false 1 (.t 9)), none⟩, ⟨(some 4), (.mv (.t 10)), none⟩]
def L_impl_wordsOk_r4 : List LOper := [⟨(some 11), (.mv (.t 4)), none⟩, ⟨(some 12), (.call 25 [(.t 11)]), none⟩, ⟨(some 13), (.un .not (.t 12)), none⟩]
def L_impl_wordsOk_r5 : List LOper := [⟨(some 2), (.mv (.c (.bool false))), none⟩]
def L_impl_wordsOk_r6 : List LOper := [⟨(some 14), (.bin .add (.t 7) (.c (.int .i64 1))), none⟩, ⟨(some 7), (.mv (.t 14)), none⟩]
def L_impl_wordsOk_l7 : LCode := (.seq (.reg false L_impl_wordsOk_r2) (.seq (.cond (.t 8) .skip (.exit 0)) (.seq (.block 1 (.seq (.reg false L_impl_wordsOk_r3) (.seq (.reg false L_impl_wordsOk_r4) (.cond (.t 13) (.seq (.reg false L_impl_wordsOk_r5) .ret) .skip)))) (.reg false L_impl_wordsOk_r6))))
def L_impl_wordsOk_r8 : List LOper := [⟨(some 2), (.mv (.c (.bool true))), none⟩]
def L_impl_wordsOk : LFun := ⟨15, [(.tmp 2)], (.seq (.reg false L_impl_wordsOk_r0) (.seq (.seq (.reg false L_impl_wordsOk_r1) (.block 0 (.loop L_impl_wordsOk_l7))) (.seq (.reg false L_impl_wordsOk_r8) .ret)))⟩
theorem low_impl_wordsOk : lowFun Go.Proofs.Try.prog 53 = some L_impl_wordsOk := by kernel_rfl
noncomputable def F_impl_wordsOk_j1  (s1 : Unit) : Option Bool :=
  some true
noncomputable def F_impl_wordsOk_l2 (x_list : List Int) (s2 : Int) : Option (LO Int (JO Unit Bool)) :=
  cond (decide (s2 < (((List.length x_list) : Nat) : Int)))
    (grd ((0 : Int) ≤ s2 ∧ s2 < ((List.length x_list : Nat) : Int)) (Option.bind (F_impl_WordOk (List.getD x_list (Int.toNat s2) default)) fun v3 =>
      cond (!v3)
        (some (.ret (.out false)))
        (some (.next (w64 (s2 + (1 : Int)))))))
    (some (.ret (.go ())))
noncomputable def F_impl_wordsOk (x_list : List Int) : Option Bool :=
  Option.bind (Option.bind (iter (F_impl_wordsOk_l2 x_list) (0 : Int)) LO.val) fun j1 =>
    JO.run j1 (F_impl_wordsOk_j1)
theorem impl_wordsOk_fn {x_list : List Int} {R_ : Bool} (hh : F_impl_wordsOk x_list = some R_) : Fn Try.prog 53 [bo (eI .i64) x_list] (.bool R_) := by
  unfold F_impl_wordsOk at hh
  refine Fn.start low_impl_wordsOk [0] (E := sp 15 [(0, bo (eI .i64) x_list)]) (by kernel_rfl) (v := .bool R_) (Hr := []) (k := 0) (by kernel_rfl) ?_
  refine Aw.sreg [0] [] ?_
  refine yct (cs := []) (E' := (sp 15 [(0, bo (eI .i64) x_list)])) (H' := []) (n' := 0) (fun K => by kernel_rfl) .nil ?_
  obtain ⟨j1, hh, hk1⟩ := bind_some hh
  refine Aw.join (S := Unit) (fun s1 => sp 15 []) (fun s1 => []) 0 (fun s1 => F_impl_wordsOk_j1 s1 = some R_) ?_ ?_
  · intro s1 hh
    unfold F_impl_wordsOk_j1 at hh
    refine Aw.sreg [2] [] ?_
    refine yct (cs := []) (E' := (sp 15 [(2, .bool true)])) (H' := []) (n' := 0) (fun K => by kernel_rfl) .nil ?_
    refine Aw.ret ?_
    rw [some_some hh]
    exact gives (r' := .bool true) (by kernel_rfl) (Ent.list [] rfl rfl (Nat.zero_le _) (rens_1 ren_b) hs_nil)
  · intro Q1 hN1 hR1 hE1
    refine Aw.sreg [5, 6, 7] [] ?_
    refine yct (cs := []) (E' := (sp 15 [(5, bo (eI .i64) x_list), (6, .int .i64 (((List.length x_list) : Nat) : Int)), (7, .int .i64 (0 : Int))])) (H' := []) (n' := 0) (fun K => by kernel_rfl) .nil ?_
    refine Aw.block ?_
    obtain ⟨o2, hi2, hk2⟩ := bind_some hh
    refine Aw.iter (fun (s2 : Int) => sp 15 [(5, bo (eI .i64) x_list), (6, .int .i64 (((List.length x_list) : Nat) : Int)), (7, .int .i64 s2)]) (fun (s2 : Int) => []) 0 hi2 (Ent.list2 [] rfl rfl (by decide) (rens_sp (by kernel_rfl) (rl_c (u := bo (eI .i64) x_list) (by kernel_rfl) (ren_bor (rens_same (noRefs_fl nr_eI))) (rl_c (u := .int .i64 (((List.length x_list) : Nat) : Int)) (by kernel_rfl) ren_i (rl_c (u := .int .i64 (0 : Int)) (by kernel_rfl) ren_i rl_n)))) hs_nil) ?_
    intro s2 u2 Q2 hh hN2 hX2 hR2
    unfold F_impl_wordsOk_l2 at hh
    refine Aw.sreg [5, 6, 7, 8] [] ?_
    refine yct (cs := []) (E' := (sp 15 [(5, bo (eI .i64) x_list), (6, .int .i64 (((List.length x_list) : Nat) : Int)), (7, .int .i64 s2), (8, .bool (decide (s2 < (((List.length x_list) : Nat) : Int))))])) (H' := []) (n' := 0) (fun K => by kernel_rfl) .nil ?_
    refine Aw.seq ?_
    rcases cond_some hh with ⟨hb, hh⟩ | ⟨hb, hh⟩
    · refine Aw.condT (by kernel_rfl) hb ?_
      refine Aw.xskip (fun _ _ _ hq => then_m hq) ?_
      refine Aw.seq ?_
      refine Aw.block ?_
      refine Aw.sreg [4, 5, 6, 7] [] ?_
      obtain ⟨hg24, hh⟩ := grd_some hh
      refine yso (op := (.iadr 1 (.t 5) (.t 7))) (d := (some 9)) (os := (List.drop 1 L_impl_wordsOk_r3)) (by kernel_rfl) (op_iadr (kd := .i64) (c := (eI .i64)) (xs := x_list) len_eI (by decide) (by kernel_rfl) (by kernel_rfl) hg24 ?_)
      refine yso (op := (.load false 1 (.t 9))) (d := (some 10)) (os := (List.drop 2 L_impl_wordsOk_r3)) (by kernel_rfl) (op_loadb (c := (eI .i64)) (xs := x_list) (o := Int.toNat s2 * 1) (i := (Int.toNat s2)) (off := 0) (v := .int .i64 (List.getD x_list (Int.toNat s2) default)) len_eI (by kernel_rfl) (by omega) (by omega) (by decide) (by kernel_rfl) ?_)
      refine yct (cs := []) (E' := (sp 15 [(4, .int .i64 (List.getD x_list (Int.toNat s2) default)), (5, bo (eI .i64) x_list), (6, .int .i64 (((List.length x_list) : Nat) : Int)), (7, .int .i64 s2)])) (H' := []) (n' := 0) (fun K => by kernel_rfl) .nil ?_
      refine Aw.sreg [5, 6, 7, 13] [] ?_
      refine yc (cs := []) (E' := (sp 15 [(4, .int .i64 (List.getD x_list (Int.toNat s2) default)), (5, bo (eI .i64) x_list), (6, .int .i64 (((List.length x_list) : Nat) : Int)), (7, .int .i64 s2), (11, .int .i64 (List.getD x_list (Int.toNat s2) default))])) (H' := []) (n' := 0) (pre := (List.take 1 L_impl_wordsOk_r4)) (L' := (List.drop 1 L_impl_wordsOk_r4)) (by kernel_rfl) (fun K => by kernel_rfl) .nil ?_
      obtain ⟨v3, hv3, hh⟩ := bind_some hh
      refine yso (op := (.call 25 [(.t 11)])) (d := (some 12)) (os := (List.drop 2 L_impl_wordsOk_r4)) (by kernel_rfl) (op_call (r := .bool v3) (v := .bool v3) (Hr := []) (n' := 0) (impl_WordOk_fn hv3) (clz_v (vs := [.int .i64 (List.getD x_list (Int.toNat s2) default)]) (by kernel_rfl) (clz_c (clo_same rfl) clz_n)) rfl rfl (by kernel_rfl) ?_)
      refine yct (cs := []) (E' := (sp 15 [(5, bo (eI .i64) x_list), (6, .int .i64 (((List.length x_list) : Nat) : Int)), (7, .int .i64 s2), (13, .bool (!v3))])) (H' := []) (n' := 0) (fun K => by kernel_rfl) .nil ?_
      rcases cond_some hh with ⟨hb, hh⟩ | ⟨hb, hh⟩
      · refine Aw.condT (by kernel_rfl) hb ?_
        refine Aw.sreg [2] [] ?_
        refine yct (cs := []) (E' := (sp 15 [(2, .bool false)])) (H' := []) (n' := 0) (fun K => by kernel_rfl) .nil ?_
        refine Aw.ret ?_
        refine blk_r (then_r ?_)
        refine hR2 _ _ _ _ (some_some hh) ?_
        intro hout
        rw [hout] at hk2
        refine blk_r ?_
        obtain rfl := some_some hk2
        refine hR1 _ _ _ ?_
        refine ?_
        rw [some_some hk1]
        exact gives (r' := .bool false) (by kernel_rfl) (Ent.list [] rfl rfl (Nat.zero_le _) (rens_1 ren_b) hs_nil)
      · refine Aw.condF (by kernel_rfl) hb ?_
        refine Aw.xskip (fun _ _ _ hq => blk_m (then_m hq)) ?_
        refine Aw.oreg ?_
        refine yce (cs := []) (E' := (sp 15 [(5, bo (eI .i64) x_list), (6, .int .i64 (((List.length x_list) : Nat) : Int)), (7, .int .i64 (w64 (s2 + (1 : Int)))), (13, .bool (!v3)), (14, .int .i64 (w64 (s2 + (1 : Int))))])) (H' := []) (n' := 0) (fun K => by kernel_rfl) .nil ?_
        exact hN2 (w64 (s2 + (1 : Int))) _ _ _ (some_some hh) (Ent.list2 [] rfl rfl (by decide) (rens_sp (by kernel_rfl) (rl_c (u := bo (eI .i64) x_list) (by kernel_rfl) (ren_bor (rens_same (noRefs_fl nr_eI))) (rl_c (u := .int .i64 (((List.length x_list) : Nat) : Int)) (by kernel_rfl) ren_i (rl_c (u := .int .i64 (w64 (s2 + (1 : Int)))) (by kernel_rfl) ren_i rl_n)))) hs_nil)
    · refine Aw.condF (by kernel_rfl) hb ?_
      refine Aw.exit ?_
      refine then_x ?_
      refine hX2 _ _ _ _ _ (some_some hh) ?_
      intro hout
      rw [hout] at hk2
      refine blk_x ?_
      obtain rfl := some_some hk2
      exact hN1 () _ _ _ hk1 (Ent.list2 [] rfl rfl (by decide) (rens_sp (by kernel_rfl) rl_n) hs_nil)

-- 16 loop.example/guesthouse/impl.MemOk
def L_impl_MemOk_r0 : List LOper := [⟨(some 2), (.mv (.c (.bool false))), none⟩]
def L_impl_MemOk_r1 : List LOper := [⟨(some 3), (.mv (.t 0)), none⟩, ⟨(some 4), (.len (.t 3)), none⟩, ⟨(some 5), (.bin .eql (.t 4) (.c (.int .i64 64))), none⟩, ⟨(some 6), (.mv (.t 5)), none⟩, ⟨(some 7), (.mv (.t 0)), (some (6, true))⟩, ⟨(some 8), (.call 53 [(.t 7)]), (some (6, true))⟩, ⟨(some 9), (.pick (.t 6) (.t 8) (.c (.bool false))), none⟩, ⟨(some 2), (.mv (.t 9)), none⟩]
def L_impl_MemOk : LFun := ⟨10, [(.tmp 2)], (.seq (.reg false L_impl_MemOk_r0) (.seq (.reg false L_impl_MemOk_r1) .ret))⟩
theorem low_impl_MemOk : lowFun Go.Proofs.Try.prog 16 = some L_impl_MemOk := by kernel_rfl
noncomputable def F_impl_MemOk (x_mem : List Int) : Option Bool :=
  cond (decide ((((List.length x_mem) : Nat) : Int) = (64 : Int)))
    (Option.bind (F_impl_wordsOk x_mem) fun v1 =>
    some v1)
    (some false)
theorem impl_MemOk_fn {x_mem : List Int} {R_ : Bool} (hh : F_impl_MemOk x_mem = some R_) : Fn Try.prog 16 [bo (eI .i64) x_mem] (.bool R_) := by
  unfold F_impl_MemOk at hh
  refine Fn.start low_impl_MemOk [0] (E := sp 10 [(0, bo (eI .i64) x_mem)]) (by kernel_rfl) (v := .bool R_) (Hr := []) (k := 0) (by kernel_rfl) ?_
  refine Aw.sreg [0] [] ?_
  refine yct (cs := []) (E' := (sp 10 [(0, bo (eI .i64) x_mem)])) (H' := []) (n' := 0) (fun K => by kernel_rfl) .nil ?_
  refine Aw.sreg [2] [] ?_
  refine yc (cs := []) (E' := (sp 10 [(0, bo (eI .i64) x_mem), (3, bo (eI .i64) x_mem), (4, .int .i64 (((List.length x_mem) : Nat) : Int)), (5, .bool (decide ((((List.length x_mem) : Nat) : Int) = (64 : Int)))), (6, .bool (decide ((((List.length x_mem) : Nat) : Int) = (64 : Int))))])) (H' := []) (n' := 0) (pre := (List.take 4 L_impl_MemOk_r1)) (L' := (List.drop 4 L_impl_MemOk_r1)) (by kernel_rfl) (fun K => by kernel_rfl) .nil ?_
  rcases cond_some hh with ⟨hb, hh⟩ | ⟨hb, hh⟩
  · refine ybs (t := 5) hb (by kernel_rfl) ?_
    refine ybs (t := 6) hb (by kernel_rfl) ?_
    refine yc (cs := []) (E' := (sp 10 [(0, bo (eI .i64) x_mem), (3, bo (eI .i64) x_mem), (4, .int .i64 (((List.length x_mem) : Nat) : Int)), (5, .bool true), (6, .bool true), (7, bo (eI .i64) x_mem)])) (H' := []) (n' := 0) (pre := (List.take 1 (List.drop 4 L_impl_MemOk_r1))) (L' := (List.drop 5 L_impl_MemOk_r1)) (by kernel_rfl) (fun K => by kernel_rfl) .nil ?_
    obtain ⟨v1, hv1, hh⟩ := bind_some hh
    refine ysg (op := (.call 53 [(.t 7)])) (d := (some 8)) (t := 6) (want := true) (os := (List.drop 6 L_impl_MemOk_r1)) (by kernel_rfl) (by kernel_rfl) (op_call (r := .bool v1) (v := .bool v1) (Hr := []) (n' := 0) (impl_wordsOk_fn hv1) (clz_v (vs := [bo (eI .i64) x_mem]) (by kernel_rfl) (clz_c (clo_same (clean_bor (cleans_fl cl_eI))) clz_n)) rfl rfl (by kernel_rfl) ?_)
    refine yct (cs := []) (E' := (sp 10 [(2, .bool v1)])) (H' := []) (n' := 0) (fun K => by kernel_rfl) .nil ?_
    refine Aw.ret ?_
    rw [some_some hh]
    exact gives (r' := .bool v1) (by kernel_rfl) (Ent.list [] rfl rfl (Nat.zero_le _) (rens_1 ren_b) hs_nil)
  · refine ybs (t := 5) hb (by kernel_rfl) ?_
    refine ybs (t := 6) hb (by kernel_rfl) ?_
    refine yct (cs := []) (E' := (sp 10 [(2, .bool false)])) (H' := []) (n' := 0) (fun K => by kernel_rfl) .nil ?_
    refine Aw.ret ?_
    rw [some_some hh]
    exact gives (r' := .bool false) (by kernel_rfl) (Ent.list [] rfl rfl (Nat.zero_le _) (rens_1 ren_b) hs_nil)

-- 59 loop.example/guesthouse/impl.rootOk
def L_impl_rootOk_r0 : List LOper := [⟨(some 2), (.mv (.c (.bool false))), none⟩]
def L_impl_rootOk_r1 : List LOper := [⟨(some 3), (.mv (.t 0)), none⟩, ⟨(some 4), (.bin .eql (.t 3) (.c (.int .i64 (-1)))), none⟩, ⟨(some 5), (.mv (.t 4)), none⟩, ⟨(some 6), (.mv (.t 0)), (some (5, false))⟩, ⟨(some 7), (.call 56 [(.t 6)]), (some (5, false))⟩, ⟨(some 8), (.pick (.t 5) (.c (.bool true)) (.t 7)), none⟩, ⟨(some 2), (.mv (.t 8)), none⟩]
def L_impl_rootOk : LFun := ⟨9, [(.tmp 2)], (.seq (.reg false L_impl_rootOk_r0) (.seq (.reg false L_impl_rootOk_r1) .ret))⟩
theorem low_impl_rootOk : lowFun Go.Proofs.Try.prog 59 = some L_impl_rootOk := by kernel_rfl
noncomputable def F_impl_rootOk (x_root : Int) : Option Bool :=
  cond (decide (x_root = (-1 : Int)))
    (some true)
    (Option.bind (F_impl_pageOk x_root) fun v1 =>
    some v1)
theorem impl_rootOk_fn {x_root : Int} {R_ : Bool} (hh : F_impl_rootOk x_root = some R_) : Fn Try.prog 59 [.int .i64 x_root] (.bool R_) := by
  unfold F_impl_rootOk at hh
  refine Fn.start low_impl_rootOk [0] (E := sp 9 [(0, .int .i64 x_root)]) (by kernel_rfl) (v := .bool R_) (Hr := []) (k := 0) (by kernel_rfl) ?_
  refine Aw.sreg [0] [] ?_
  refine yct (cs := []) (E' := (sp 9 [(0, .int .i64 x_root)])) (H' := []) (n' := 0) (fun K => by kernel_rfl) .nil ?_
  refine Aw.sreg [2] [] ?_
  refine yc (cs := []) (E' := (sp 9 [(0, .int .i64 x_root), (3, .int .i64 x_root), (4, .bool (decide (x_root = (-1 : Int)))), (5, .bool (decide (x_root = (-1 : Int))))])) (H' := []) (n' := 0) (pre := (List.take 3 L_impl_rootOk_r1)) (L' := (List.drop 3 L_impl_rootOk_r1)) (by kernel_rfl) (fun K => by kernel_rfl) .nil ?_
  rcases cond_some hh with ⟨hb, hh⟩ | ⟨hb, hh⟩
  · refine ybs (t := 4) hb (by kernel_rfl) ?_
    refine ybs (t := 5) hb (by kernel_rfl) ?_
    refine yct (cs := []) (E' := (sp 9 [(2, .bool true)])) (H' := []) (n' := 0) (fun K => by kernel_rfl) .nil ?_
    refine Aw.ret ?_
    rw [some_some hh]
    exact gives (r' := .bool true) (by kernel_rfl) (Ent.list [] rfl rfl (Nat.zero_le _) (rens_1 ren_b) hs_nil)
  · refine ybs (t := 4) hb (by kernel_rfl) ?_
    refine ybs (t := 5) hb (by kernel_rfl) ?_
    refine yc (cs := []) (E' := (sp 9 [(0, .int .i64 x_root), (3, .int .i64 x_root), (4, .bool false), (5, .bool false), (6, .int .i64 x_root)])) (H' := []) (n' := 0) (pre := (List.take 1 (List.drop 3 L_impl_rootOk_r1))) (L' := (List.drop 4 L_impl_rootOk_r1)) (by kernel_rfl) (fun K => by kernel_rfl) .nil ?_
    obtain ⟨v1, hv1, hh⟩ := bind_some hh
    refine ysg (op := (.call 56 [(.t 6)])) (d := (some 7)) (t := 5) (want := false) (os := (List.drop 5 L_impl_rootOk_r1)) (by kernel_rfl) (by kernel_rfl) (op_call (r := .bool v1) (v := .bool v1) (Hr := []) (n' := 0) (impl_pageOk_fn hv1) (clz_v (vs := [.int .i64 x_root]) (by kernel_rfl) (clz_c (clo_same rfl) clz_n)) rfl rfl (by kernel_rfl) ?_)
    refine yct (cs := []) (E' := (sp 9 [(2, .bool v1)])) (H' := []) (n' := 0) (fun K => by kernel_rfl) .nil ?_
    refine Aw.ret ?_
    rw [some_some hh]
    exact gives (r' := .bool v1) (by kernel_rfl) (Ent.list [] rfl rfl (Nat.zero_le _) (rens_1 ren_b) hs_nil)

-- 60 loop.example/guesthouse/impl.addressOk
def L_impl_addressOk_r0 : List LOper := [⟨(some 2), (.mv (.c (.bool false))), none⟩]
def L_impl_addressOk_r1 : List LOper := [⟨(some 3), (.mv (.t 0)), none⟩, ⟨(some 4), (.bin .leq (.c (.int .i64 0)) (.t 3)), none⟩, ⟨(some 5), (.mv (.t 4)), none⟩, ⟨(some 6), (.mv (.t 0)), (some (5, true))⟩, ⟨(some 7), (.bin .lss (.t 6) (.c (.int .i64 64))), (some (5, true))⟩, ⟨(some 8), (.pick (.t 5) (.t 7) (.c (.bool false))), none⟩, ⟨(some 2), (.mv (.t 8)), none⟩]
def L_impl_addressOk : LFun := ⟨9, [(.tmp 2)], (.seq (.reg false L_impl_addressOk_r0) (.seq (.reg false L_impl_addressOk_r1) .ret))⟩
theorem low_impl_addressOk : lowFun Go.Proofs.Try.prog 60 = some L_impl_addressOk := by kernel_rfl
noncomputable def F_impl_addressOk (x_addr : Int) : Option Bool :=
  cond (decide ((0 : Int) ≤ x_addr))
    (some (decide (x_addr < (64 : Int))))
    (some false)
theorem impl_addressOk_fn {x_addr : Int} {R_ : Bool} (hh : F_impl_addressOk x_addr = some R_) : Fn Try.prog 60 [.int .i64 x_addr] (.bool R_) := by
  unfold F_impl_addressOk at hh
  refine Fn.start low_impl_addressOk [0] (E := sp 9 [(0, .int .i64 x_addr)]) (by kernel_rfl) (v := .bool R_) (Hr := []) (k := 0) (by kernel_rfl) ?_
  refine Aw.sreg [0] [] ?_
  refine yct (cs := []) (E' := (sp 9 [(0, .int .i64 x_addr)])) (H' := []) (n' := 0) (fun K => by kernel_rfl) .nil ?_
  refine Aw.sreg [2] [] ?_
  refine yc (cs := []) (E' := (sp 9 [(0, .int .i64 x_addr), (3, .int .i64 x_addr), (4, .bool (decide ((0 : Int) ≤ x_addr))), (5, .bool (decide ((0 : Int) ≤ x_addr)))])) (H' := []) (n' := 0) (pre := (List.take 3 L_impl_addressOk_r1)) (L' := (List.drop 3 L_impl_addressOk_r1)) (by kernel_rfl) (fun K => by kernel_rfl) .nil ?_
  rcases cond_some hh with ⟨hb, hh⟩ | ⟨hb, hh⟩
  · refine ybs (t := 4) hb (by kernel_rfl) ?_
    refine ybs (t := 5) hb (by kernel_rfl) ?_
    refine yct (cs := []) (E' := (sp 9 [(2, .bool (decide (x_addr < (64 : Int))))])) (H' := []) (n' := 0) (fun K => by kernel_rfl) .nil ?_
    refine Aw.ret ?_
    rw [some_some hh]
    exact gives (r' := .bool (decide (x_addr < (64 : Int)))) (by kernel_rfl) (Ent.list [] rfl rfl (Nat.zero_le _) (rens_1 ren_b) hs_nil)
  · refine ybs (t := 4) hb (by kernel_rfl) ?_
    refine ybs (t := 5) hb (by kernel_rfl) ?_
    refine yct (cs := []) (E' := (sp 9 [(2, .bool false)])) (H' := []) (n' := 0) (fun K => by kernel_rfl) .nil ?_
    refine Aw.ret ?_
    rw [some_some hh]
    exact gives (r' := .bool false) (by kernel_rfl) (Ent.list [] rfl rfl (Nat.zero_le _) (rens_1 ren_b) hs_nil)

-- 30 loop.example/guesthouse/impl.CoreOk
def L_impl_CoreOk_r0 : List LOper := [⟨(some 1), (.box 39 (.t 0)), none⟩, ⟨(some 2), (.mv (.c (.bool false))), none⟩]
def L_impl_CoreOk_r1 : List LOper := [⟨(some 6), (.fadr 0 (.t 1)), none⟩, ⟨(some 7), (.load false 1 (.t 6)), none⟩, ⟨(some 8), (.len (.t 7)), none⟩, ⟨(some 9), (.bin .eql (.t 8) (.c (.int .i64 4))), none⟩, ⟨(some 10), (.mv (.t 9)), none⟩, ⟨(some 11), (.fadr 0 (.t 1)), (some (10, true))⟩, ⟨(some 12), (.load false 1 (.t 11)), (some (10, true))⟩, ⟨(some 13), (.call 53 [(.t 12)]), (some (10, true))⟩, ⟨(some 14), (.pick (.t 10) (.t 13) (.c (.bool false))), none⟩, ⟨(some 3), (.mv (.t 14)), none⟩]
def L_impl_CoreOk_r2 : List LOper := [⟨(some 15), (.fadr 1 (.t 1)), none⟩, ⟨(some 16), (.load false 1 (.t 15)), none⟩, ⟨(some 17), (.call 60 [(.t 16)]), none⟩, ⟨(some 18), (.mv (.t 17)), none⟩, ⟨(some 19), (.fadr 3 (.t 1)), (some (18, true))⟩, ⟨(some 20), (.load false 1 (.t 19)), (some (18, true))⟩, ⟨(some 21), (.call 60 [(.t 20)]), (some (18, true))⟩, ⟨(some 22), (.pick (.t 18) (.t 21) (.c (.bool false))), none⟩, ⟨(some 23), (.mv (.t 22)), none⟩, ⟨(some 24), (.fadr 4 (.t 1)), (some (23, true))⟩, ⟨(some 25), (.load false 1 (.t 24)), (some (23, true))⟩, ⟨(some 26), (.call 60 [(.t 25)]), (some (23, true))⟩, ⟨(some 27), (.pick (.t 23) (.t 26) (.c (.bool false))), none⟩, ⟨(some 28), (.mv (.t 27)), none⟩, ⟨(some 29), (.fadr 7 (.t 1)), (some (28, true))⟩, ⟨(some 30), (.load false 1 (.t 29)), (some (28, true))⟩, ⟨(some 31), (.call 60 [(.t 30)]), (some (28, true))⟩, ⟨(some 32), (.pick (.t 28) (.t 31) (.c (.bool false))), none⟩, ⟨(some 4), (.mv (.t 32)), none⟩]
def L_impl_CoreOk_r3 : List LOper := [⟨(some 33), (.fadr 6 (.t 1)), none⟩, ⟨(some 34), (.load false 1 (.t 33)), none⟩, ⟨(some 35), (.bin .leq (.c (.int .i64 0)) (.t 34)), none⟩, ⟨(some 36), (.mv (.t 35)), none⟩, ⟨(some 37), (.fadr 6 (.t 1)), (some (36, true))⟩, ⟨(some 38), (.load false 1 (.t 37)), (some (36, true))⟩, ⟨(some 39), (.bin .leq (.t 38) (.c (.int .i64 4))), (some (36, true))⟩, ⟨(some 40), (.pick (.t 36) (.t 39) (.c (.bool false))), none⟩, ⟨(some 5), (.mv (.t 40)), none⟩]
def L_impl_CoreOk_r4 : List LOper := [⟨(some 41), (.mv (.t 3)), none⟩, ⟨(some 42), (.mv (.t 41)), none⟩, ⟨(some 43), (.mv (.t 4)), (some (42, true))⟩, ⟨(some 44), (.pick (.t 42) (.t 43) (.c (.bool false))), none⟩, ⟨(some 45), (.mv (.t 44)), none⟩, ⟨(some 46), (.fadr 2 (.t 1)), (some (45, true))⟩, ⟨(some 47), (.load false 1 (.t 46)), (some (45, true))⟩, ⟨(some 48), (.call 59 [(.t 47)]), (some (45, true))⟩, ⟨(some 49), (.pick (.t 45) (.t 48) (.c (.bool false))), none⟩, ⟨(some 50), (.mv (.t 49)), none⟩, ⟨(some 51), (.mv (.t 5)), (some (50, true))⟩, ⟨(some 52), (.pick (.t 50) (.t 51) (.c (.bool false))), none⟩, ⟨(some 53), (.mv (.t 52)), none⟩, ⟨(some 54), (.fadr 8 (.t 1)), (some (53, true))⟩, ⟨(some 55), (.load false 1 (.t 54)), (some (53, true))⟩, ⟨(some 56), (.call 25 [(.t 55)]), (some (53, true))⟩, ⟨(some 57), (.pick (.t 53) (.t 56) (.c (.bool false))), none⟩, ⟨(some 2), (.mv (.t 57)), none⟩]
def L_impl_CoreOk : LFun := ⟨58, [(.tmp 2)], (.seq (.reg false L_impl_CoreOk_r0) (.seq (.reg false L_impl_CoreOk_r1) (.seq (.reg false L_impl_CoreOk_r2) (.seq (.reg false L_impl_CoreOk_r3) (.seq (.reg false L_impl_CoreOk_r4) .ret)))))⟩
theorem low_impl_CoreOk : lowFun Go.Proofs.Try.prog 30 = some L_impl_CoreOk := by kernel_rfl
noncomputable def F_impl_CoreOk (x_c : DCore) : Option Bool :=
  cond (decide ((((List.length x_c.Regs) : Nat) : Int) = (4 : Int)))
    (Option.bind (F_impl_wordsOk x_c.Regs) fun v1 =>
    Option.bind (F_impl_addressOk x_c.Pc) fun v2 =>
    cond v2
      (Option.bind (F_impl_addressOk x_c.Vector) fun v3 =>
      cond v3
        (Option.bind (F_impl_addressOk x_c.Saved) fun v4 =>
        cond v4
          (Option.bind (F_impl_addressOk x_c.Bad) fun v5 =>
          cond (decide ((0 : Int) ≤ x_c.Cause))
            (cond v1
              (cond v5
                (Option.bind (F_impl_rootOk x_c.Root) fun v6 =>
                cond v6
                  (cond (decide (x_c.Cause ≤ (4 : Int)))
                    (Option.bind (F_impl_WordOk x_c.Timer) fun v7 =>
                    some v7)
                    (some false))
                  (some false))
                (some false))
              (some false))
            (cond v1
              (cond v5
                (Option.bind (F_impl_rootOk x_c.Root) fun v8 =>
                cond v8
                  (some false)
                  (some false))
                (some false))
              (some false)))
          (cond (decide ((0 : Int) ≤ x_c.Cause))
            (cond v1
              (some false)
              (some false))
            (cond v1
              (some false)
              (some false))))
        (cond (decide ((0 : Int) ≤ x_c.Cause))
          (cond v1
            (some false)
            (some false))
          (cond v1
            (some false)
            (some false))))
      (cond (decide ((0 : Int) ≤ x_c.Cause))
        (cond v1
          (some false)
          (some false))
        (cond v1
          (some false)
          (some false))))
    (Option.bind (F_impl_addressOk x_c.Pc) fun v9 =>
    cond v9
      (Option.bind (F_impl_addressOk x_c.Vector) fun v10 =>
      cond v10
        (Option.bind (F_impl_addressOk x_c.Saved) fun v11 =>
        cond v11
          (Option.bind (F_impl_addressOk x_c.Bad) fun v12 =>
          cond (decide ((0 : Int) ≤ x_c.Cause))
            (some false)
            (some false))
          (cond (decide ((0 : Int) ≤ x_c.Cause))
            (some false)
            (some false)))
        (cond (decide ((0 : Int) ≤ x_c.Cause))
          (some false)
          (some false)))
      (cond (decide ((0 : Int) ≤ x_c.Cause))
        (some false)
        (some false)))
theorem impl_CoreOk_fn {x_c : DCore} {R_ : Bool} (hh : F_impl_CoreOk x_c = some R_) : Fn Try.prog 30 [.agg (B_39 x_c)] (.bool R_) := by
  unfold F_impl_CoreOk at hh
  refine Fn.start low_impl_CoreOk [0] (E := sp 58 [(0, .agg (B_39 x_c))]) (by kernel_rfl) (v := .bool R_) (Hr := []) (k := 0) (by kernel_rfl) ?_
  refine Aw.sreg [1] [0] ?_
  refine yct (cs := []) (E' := (sp 58 [(1, .ptr 0 [] 0)])) (H' := [(0, some ⟨39, (B_39 x_c)⟩)]) (n' := 1) (fun K => by kernel_rfl) .nil ?_
  refine Aw.sreg [1, 3] [0] ?_
  refine yc (cs := []) (E' := (sp 58 [(1, .ptr 0 [] 0), (6, .ptr 0 [] 0), (7, bo (eI .i64) x_c.Regs), (8, .int .i64 (((List.length x_c.Regs) : Nat) : Int)), (9, .bool (decide ((((List.length x_c.Regs) : Nat) : Int) = (4 : Int)))), (10, .bool (decide ((((List.length x_c.Regs) : Nat) : Int) = (4 : Int))))])) (H' := [(0, some ⟨39, (B_39 x_c)⟩)]) (n' := 1) (pre := (List.take 5 L_impl_CoreOk_r1)) (L' := (List.drop 5 L_impl_CoreOk_r1)) (by kernel_rfl) (fun K => by kernel_rfl) .nil ?_
  rcases cond_some hh with ⟨hb, hh⟩ | ⟨hb, hh⟩
  · refine ybs (t := 9) hb (by kernel_rfl) ?_
    refine ybs (t := 10) hb (by kernel_rfl) ?_
    refine yc (cs := []) (E' := (sp 58 [(1, .ptr 0 [] 0), (6, .ptr 0 [] 0), (7, bo (eI .i64) x_c.Regs), (8, .int .i64 (((List.length x_c.Regs) : Nat) : Int)), (9, .bool true), (10, .bool true), (11, .ptr 0 [] 0), (12, bo (eI .i64) x_c.Regs)])) (H' := [(0, some ⟨39, (B_39 x_c)⟩)]) (n' := 1) (pre := (List.take 2 (List.drop 5 L_impl_CoreOk_r1))) (L' := (List.drop 7 L_impl_CoreOk_r1)) (by kernel_rfl) (fun K => by kernel_rfl) .nil ?_
    obtain ⟨v1, hv1, hh⟩ := bind_some hh
    refine ysg (op := (.call 53 [(.t 12)])) (d := (some 13)) (t := 10) (want := true) (os := (List.drop 8 L_impl_CoreOk_r1)) (by kernel_rfl) (by kernel_rfl) (op_call (r := .bool v1) (v := .bool v1) (Hr := []) (n' := 1) (impl_wordsOk_fn hv1) (clz_v (vs := [bo (eI .i64) x_c.Regs]) (by kernel_rfl) (clz_c (clo_same (clean_bor (cleans_fl cl_eI))) clz_n)) rfl rfl (by kernel_rfl) ?_)
    refine yct (cs := []) (E' := (sp 58 [(1, .ptr 0 [] 0), (3, .bool v1)])) (H' := [(0, some ⟨39, (B_39 x_c)⟩)]) (n' := 1) (fun K => by kernel_rfl) .nil ?_
    refine Aw.sreg [1, 3, 4] [0] ?_
    refine yc (cs := []) (E' := (sp 58 [(1, .ptr 0 [] 0), (3, .bool v1), (15, .ptr 0 [] 1), (16, .int .i64 x_c.Pc)])) (H' := [(0, some ⟨39, (B_39 x_c)⟩)]) (n' := 1) (pre := (List.take 2 L_impl_CoreOk_r2)) (L' := (List.drop 2 L_impl_CoreOk_r2)) (by kernel_rfl) (fun K => by kernel_rfl) .nil ?_
    obtain ⟨v2, hv2, hh⟩ := bind_some hh
    refine yso (op := (.call 60 [(.t 16)])) (d := (some 17)) (os := (List.drop 3 L_impl_CoreOk_r2)) (by kernel_rfl) (op_call (r := .bool v2) (v := .bool v2) (Hr := []) (n' := 1) (impl_addressOk_fn hv2) (clz_v (vs := [.int .i64 x_c.Pc]) (by kernel_rfl) (clz_c (clo_same rfl) clz_n)) rfl rfl (by kernel_rfl) ?_)
    refine yc (cs := []) (E' := (sp 58 [(1, .ptr 0 [] 0), (3, .bool v1), (15, .ptr 0 [] 1), (16, .int .i64 x_c.Pc), (17, .bool v2), (18, .bool v2)])) (H' := [(0, some ⟨39, (B_39 x_c)⟩)]) (n' := 1) (pre := (List.take 1 (List.drop 3 L_impl_CoreOk_r2))) (L' := (List.drop 4 L_impl_CoreOk_r2)) (by kernel_rfl) (fun K => by kernel_rfl) .nil ?_
    rcases cond_some hh with ⟨hb, hh⟩ | ⟨hb, hh⟩
    · refine ybs (t := 17) hb (by kernel_rfl) ?_
      refine ybs (t := 18) hb (by kernel_rfl) ?_
      refine yc (cs := []) (E' := (sp 58 [(1, .ptr 0 [] 0), (3, .bool v1), (15, .ptr 0 [] 1), (16, .int .i64 x_c.Pc), (17, .bool true), (18, .bool true), (19, .ptr 0 [] 3), (20, .int .i64 x_c.Vector)])) (H' := [(0, some ⟨39, (B_39 x_c)⟩)]) (n' := 1) (pre := (List.take 2 (List.drop 4 L_impl_CoreOk_r2))) (L' := (List.drop 6 L_impl_CoreOk_r2)) (by kernel_rfl) (fun K => by kernel_rfl) .nil ?_
      obtain ⟨v3, hv3, hh⟩ := bind_some hh
      refine ysg (op := (.call 60 [(.t 20)])) (d := (some 21)) (t := 18) (want := true) (os := (List.drop 7 L_impl_CoreOk_r2)) (by kernel_rfl) (by kernel_rfl) (op_call (r := .bool v3) (v := .bool v3) (Hr := []) (n' := 1) (impl_addressOk_fn hv3) (clz_v (vs := [.int .i64 x_c.Vector]) (by kernel_rfl) (clz_c (clo_same rfl) clz_n)) rfl rfl (by kernel_rfl) ?_)
      refine yc (cs := []) (E' := (sp 58 [(1, .ptr 0 [] 0), (3, .bool v1), (15, .ptr 0 [] 1), (16, .int .i64 x_c.Pc), (17, .bool true), (18, .bool true), (19, .ptr 0 [] 3), (20, .int .i64 x_c.Vector), (21, .bool v3), (22, .bool v3), (23, .bool v3)])) (H' := [(0, some ⟨39, (B_39 x_c)⟩)]) (n' := 1) (pre := (List.take 2 (List.drop 7 L_impl_CoreOk_r2))) (L' := (List.drop 9 L_impl_CoreOk_r2)) (by kernel_rfl) (fun K => by kernel_rfl) .nil ?_
      rcases cond_some hh with ⟨hb, hh⟩ | ⟨hb, hh⟩
      · refine ybs (t := 21) hb (by kernel_rfl) ?_
        refine ybs (t := 22) hb (by kernel_rfl) ?_
        refine ybs (t := 23) hb (by kernel_rfl) ?_
        refine yc (cs := []) (E' := (sp 58 [(1, .ptr 0 [] 0), (3, .bool v1), (15, .ptr 0 [] 1), (16, .int .i64 x_c.Pc), (17, .bool true), (18, .bool true), (19, .ptr 0 [] 3), (20, .int .i64 x_c.Vector), (21, .bool true), (22, .bool true), (23, .bool true), (24, .ptr 0 [] 4), (25, .int .i64 x_c.Saved)])) (H' := [(0, some ⟨39, (B_39 x_c)⟩)]) (n' := 1) (pre := (List.take 2 (List.drop 9 L_impl_CoreOk_r2))) (L' := (List.drop 11 L_impl_CoreOk_r2)) (by kernel_rfl) (fun K => by kernel_rfl) .nil ?_
        obtain ⟨v4, hv4, hh⟩ := bind_some hh
        refine ysg (op := (.call 60 [(.t 25)])) (d := (some 26)) (t := 23) (want := true) (os := (List.drop 12 L_impl_CoreOk_r2)) (by kernel_rfl) (by kernel_rfl) (op_call (r := .bool v4) (v := .bool v4) (Hr := []) (n' := 1) (impl_addressOk_fn hv4) (clz_v (vs := [.int .i64 x_c.Saved]) (by kernel_rfl) (clz_c (clo_same rfl) clz_n)) rfl rfl (by kernel_rfl) ?_)
        refine yc (cs := []) (E' := (sp 58 [(1, .ptr 0 [] 0), (3, .bool v1), (15, .ptr 0 [] 1), (16, .int .i64 x_c.Pc), (17, .bool true), (18, .bool true), (19, .ptr 0 [] 3), (20, .int .i64 x_c.Vector), (21, .bool true), (22, .bool true), (23, .bool true), (24, .ptr 0 [] 4), (25, .int .i64 x_c.Saved), (26, .bool v4), (27, .bool v4), (28, .bool v4)])) (H' := [(0, some ⟨39, (B_39 x_c)⟩)]) (n' := 1) (pre := (List.take 2 (List.drop 12 L_impl_CoreOk_r2))) (L' := (List.drop 14 L_impl_CoreOk_r2)) (by kernel_rfl) (fun K => by kernel_rfl) .nil ?_
        rcases cond_some hh with ⟨hb, hh⟩ | ⟨hb, hh⟩
        · refine ybs (t := 26) hb (by kernel_rfl) ?_
          refine ybs (t := 27) hb (by kernel_rfl) ?_
          refine ybs (t := 28) hb (by kernel_rfl) ?_
          refine yc (cs := []) (E' := (sp 58 [(1, .ptr 0 [] 0), (3, .bool v1), (15, .ptr 0 [] 1), (16, .int .i64 x_c.Pc), (17, .bool true), (18, .bool true), (19, .ptr 0 [] 3), (20, .int .i64 x_c.Vector), (21, .bool true), (22, .bool true), (23, .bool true), (24, .ptr 0 [] 4), (25, .int .i64 x_c.Saved), (26, .bool true), (27, .bool true), (28, .bool true), (29, .ptr 0 [] 7), (30, .int .i64 x_c.Bad)])) (H' := [(0, some ⟨39, (B_39 x_c)⟩)]) (n' := 1) (pre := (List.take 2 (List.drop 14 L_impl_CoreOk_r2))) (L' := (List.drop 16 L_impl_CoreOk_r2)) (by kernel_rfl) (fun K => by kernel_rfl) .nil ?_
          obtain ⟨v5, hv5, hh⟩ := bind_some hh
          refine ysg (op := (.call 60 [(.t 30)])) (d := (some 31)) (t := 28) (want := true) (os := (List.drop 17 L_impl_CoreOk_r2)) (by kernel_rfl) (by kernel_rfl) (op_call (r := .bool v5) (v := .bool v5) (Hr := []) (n' := 1) (impl_addressOk_fn hv5) (clz_v (vs := [.int .i64 x_c.Bad]) (by kernel_rfl) (clz_c (clo_same rfl) clz_n)) rfl rfl (by kernel_rfl) ?_)
          refine yct (cs := []) (E' := (sp 58 [(1, .ptr 0 [] 0), (3, .bool v1), (4, .bool v5)])) (H' := [(0, some ⟨39, (B_39 x_c)⟩)]) (n' := 1) (fun K => by kernel_rfl) .nil ?_
          refine Aw.sreg [1, 3, 4, 5] [0] ?_
          refine yc (cs := []) (E' := (sp 58 [(1, .ptr 0 [] 0), (3, .bool v1), (4, .bool v5), (33, .ptr 0 [] 6), (34, .int .i64 x_c.Cause), (35, .bool (decide ((0 : Int) ≤ x_c.Cause))), (36, .bool (decide ((0 : Int) ≤ x_c.Cause)))])) (H' := [(0, some ⟨39, (B_39 x_c)⟩)]) (n' := 1) (pre := (List.take 4 L_impl_CoreOk_r3)) (L' := (List.drop 4 L_impl_CoreOk_r3)) (by kernel_rfl) (fun K => by kernel_rfl) .nil ?_
          rcases cond_some hh with ⟨hb, hh⟩ | ⟨hb, hh⟩
          · refine ybs (t := 35) hb (by kernel_rfl) ?_
            refine ybs (t := 36) hb (by kernel_rfl) ?_
            refine yct (cs := []) (E' := (sp 58 [(1, .ptr 0 [] 0), (3, .bool v1), (4, .bool v5), (5, .bool (decide (x_c.Cause ≤ (4 : Int))))])) (H' := [(0, some ⟨39, (B_39 x_c)⟩)]) (n' := 1) (fun K => by kernel_rfl) .nil ?_
            refine Aw.sreg [2] [] ?_
            refine yc (cs := []) (E' := (sp 58 [(1, .ptr 0 [] 0), (3, .bool v1), (4, .bool v5), (5, .bool (decide (x_c.Cause ≤ (4 : Int)))), (41, .bool v1), (42, .bool v1)])) (H' := [(0, some ⟨39, (B_39 x_c)⟩)]) (n' := 1) (pre := (List.take 2 L_impl_CoreOk_r4)) (L' := (List.drop 2 L_impl_CoreOk_r4)) (by kernel_rfl) (fun K => by kernel_rfl) .nil ?_
            rcases cond_some hh with ⟨hb, hh⟩ | ⟨hb, hh⟩
            · refine ybs (t := 3) hb (by kernel_rfl) ?_
              refine ybs (t := 41) hb (by kernel_rfl) ?_
              refine ybs (t := 42) hb (by kernel_rfl) ?_
              refine yc (cs := []) (E' := (sp 58 [(1, .ptr 0 [] 0), (3, .bool true), (4, .bool v5), (5, .bool (decide (x_c.Cause ≤ (4 : Int)))), (41, .bool true), (42, .bool true), (43, .bool v5), (44, .bool v5), (45, .bool v5)])) (H' := [(0, some ⟨39, (B_39 x_c)⟩)]) (n' := 1) (pre := (List.take 3 (List.drop 2 L_impl_CoreOk_r4))) (L' := (List.drop 5 L_impl_CoreOk_r4)) (by kernel_rfl) (fun K => by kernel_rfl) .nil ?_
              rcases cond_some hh with ⟨hb, hh⟩ | ⟨hb, hh⟩
              · refine ybs (t := 4) hb (by kernel_rfl) ?_
                refine ybs (t := 43) hb (by kernel_rfl) ?_
                refine ybs (t := 44) hb (by kernel_rfl) ?_
                refine ybs (t := 45) hb (by kernel_rfl) ?_
                refine yc (cs := []) (E' := (sp 58 [(1, .ptr 0 [] 0), (3, .bool true), (4, .bool true), (5, .bool (decide (x_c.Cause ≤ (4 : Int)))), (41, .bool true), (42, .bool true), (43, .bool true), (44, .bool true), (45, .bool true), (46, .ptr 0 [] 2), (47, .int .i64 x_c.Root)])) (H' := [(0, some ⟨39, (B_39 x_c)⟩)]) (n' := 1) (pre := (List.take 2 (List.drop 5 L_impl_CoreOk_r4))) (L' := (List.drop 7 L_impl_CoreOk_r4)) (by kernel_rfl) (fun K => by kernel_rfl) .nil ?_
                obtain ⟨v6, hv6, hh⟩ := bind_some hh
                refine ysg (op := (.call 59 [(.t 47)])) (d := (some 48)) (t := 45) (want := true) (os := (List.drop 8 L_impl_CoreOk_r4)) (by kernel_rfl) (by kernel_rfl) (op_call (r := .bool v6) (v := .bool v6) (Hr := []) (n' := 1) (impl_rootOk_fn hv6) (clz_v (vs := [.int .i64 x_c.Root]) (by kernel_rfl) (clz_c (clo_same rfl) clz_n)) rfl rfl (by kernel_rfl) ?_)
                refine yc (cs := []) (E' := (sp 58 [(1, .ptr 0 [] 0), (3, .bool true), (4, .bool true), (5, .bool (decide (x_c.Cause ≤ (4 : Int)))), (41, .bool true), (42, .bool true), (43, .bool true), (44, .bool true), (45, .bool true), (46, .ptr 0 [] 2), (47, .int .i64 x_c.Root), (48, .bool v6), (49, .bool v6), (50, .bool v6)])) (H' := [(0, some ⟨39, (B_39 x_c)⟩)]) (n' := 1) (pre := (List.take 2 (List.drop 8 L_impl_CoreOk_r4))) (L' := (List.drop 10 L_impl_CoreOk_r4)) (by kernel_rfl) (fun K => by kernel_rfl) .nil ?_
                rcases cond_some hh with ⟨hb, hh⟩ | ⟨hb, hh⟩
                · refine ybs (t := 48) hb (by kernel_rfl) ?_
                  refine ybs (t := 49) hb (by kernel_rfl) ?_
                  refine ybs (t := 50) hb (by kernel_rfl) ?_
                  refine yc (cs := []) (E' := (sp 58 [(1, .ptr 0 [] 0), (3, .bool true), (4, .bool true), (5, .bool (decide (x_c.Cause ≤ (4 : Int)))), (41, .bool true), (42, .bool true), (43, .bool true), (44, .bool true), (45, .bool true), (46, .ptr 0 [] 2), (47, .int .i64 x_c.Root), (48, .bool true), (49, .bool true), (50, .bool true), (51, .bool (decide (x_c.Cause ≤ (4 : Int)))), (52, .bool (decide (x_c.Cause ≤ (4 : Int)))), (53, .bool (decide (x_c.Cause ≤ (4 : Int))))])) (H' := [(0, some ⟨39, (B_39 x_c)⟩)]) (n' := 1) (pre := (List.take 3 (List.drop 10 L_impl_CoreOk_r4))) (L' := (List.drop 13 L_impl_CoreOk_r4)) (by kernel_rfl) (fun K => by kernel_rfl) .nil ?_
                  rcases cond_some hh with ⟨hb, hh⟩ | ⟨hb, hh⟩
                  · refine ybs (t := 5) hb (by kernel_rfl) ?_
                    refine ybs (t := 51) hb (by kernel_rfl) ?_
                    refine ybs (t := 52) hb (by kernel_rfl) ?_
                    refine ybs (t := 53) hb (by kernel_rfl) ?_
                    refine yc (cs := []) (E' := (sp 58 [(1, .ptr 0 [] 0), (3, .bool true), (4, .bool true), (5, .bool true), (41, .bool true), (42, .bool true), (43, .bool true), (44, .bool true), (45, .bool true), (46, .ptr 0 [] 2), (47, .int .i64 x_c.Root), (48, .bool true), (49, .bool true), (50, .bool true), (51, .bool true), (52, .bool true), (53, .bool true), (54, .ptr 0 [] 8), (55, .int .i64 x_c.Timer)])) (H' := [(0, some ⟨39, (B_39 x_c)⟩)]) (n' := 1) (pre := (List.take 2 (List.drop 13 L_impl_CoreOk_r4))) (L' := (List.drop 15 L_impl_CoreOk_r4)) (by kernel_rfl) (fun K => by kernel_rfl) .nil ?_
                    obtain ⟨v7, hv7, hh⟩ := bind_some hh
                    refine ysg (op := (.call 25 [(.t 55)])) (d := (some 56)) (t := 53) (want := true) (os := (List.drop 16 L_impl_CoreOk_r4)) (by kernel_rfl) (by kernel_rfl) (op_call (r := .bool v7) (v := .bool v7) (Hr := []) (n' := 1) (impl_WordOk_fn hv7) (clz_v (vs := [.int .i64 x_c.Timer]) (by kernel_rfl) (clz_c (clo_same rfl) clz_n)) rfl rfl (by kernel_rfl) ?_)
                    refine yct (cs := []) (E' := (sp 58 [(2, .bool v7)])) (H' := []) (n' := 1) (fun K => by kernel_rfl) .nil ?_
                    refine Aw.ret ?_
                    rw [some_some hh]
                    exact gives (r' := .bool v7) (by kernel_rfl) (Ent.list [] rfl rfl (Nat.zero_le _) (rens_1 ren_b) hs_nil)
                  · refine ybs (t := 5) hb (by kernel_rfl) ?_
                    refine ybs (t := 51) hb (by kernel_rfl) ?_
                    refine ybs (t := 52) hb (by kernel_rfl) ?_
                    refine ybs (t := 53) hb (by kernel_rfl) ?_
                    refine yct (cs := []) (E' := (sp 58 [(2, .bool false)])) (H' := []) (n' := 1) (fun K => by kernel_rfl) .nil ?_
                    refine Aw.ret ?_
                    rw [some_some hh]
                    exact gives (r' := .bool false) (by kernel_rfl) (Ent.list [] rfl rfl (Nat.zero_le _) (rens_1 ren_b) hs_nil)
                · refine ybs (t := 48) hb (by kernel_rfl) ?_
                  refine ybs (t := 49) hb (by kernel_rfl) ?_
                  refine ybs (t := 50) hb (by kernel_rfl) ?_
                  refine yct (cs := []) (E' := (sp 58 [(2, .bool false)])) (H' := []) (n' := 1) (fun K => by kernel_rfl) .nil ?_
                  refine Aw.ret ?_
                  rw [some_some hh]
                  exact gives (r' := .bool false) (by kernel_rfl) (Ent.list [] rfl rfl (Nat.zero_le _) (rens_1 ren_b) hs_nil)
              · refine ybs (t := 4) hb (by kernel_rfl) ?_
                refine ybs (t := 43) hb (by kernel_rfl) ?_
                refine ybs (t := 44) hb (by kernel_rfl) ?_
                refine ybs (t := 45) hb (by kernel_rfl) ?_
                refine yct (cs := []) (E' := (sp 58 [(2, .bool false)])) (H' := []) (n' := 1) (fun K => by kernel_rfl) .nil ?_
                refine Aw.ret ?_
                rw [some_some hh]
                exact gives (r' := .bool false) (by kernel_rfl) (Ent.list [] rfl rfl (Nat.zero_le _) (rens_1 ren_b) hs_nil)
            · refine ybs (t := 3) hb (by kernel_rfl) ?_
              refine ybs (t := 41) hb (by kernel_rfl) ?_
              refine ybs (t := 42) hb (by kernel_rfl) ?_
              refine yct (cs := []) (E' := (sp 58 [(2, .bool false)])) (H' := []) (n' := 1) (fun K => by kernel_rfl) .nil ?_
              refine Aw.ret ?_
              rw [some_some hh]
              exact gives (r' := .bool false) (by kernel_rfl) (Ent.list [] rfl rfl (Nat.zero_le _) (rens_1 ren_b) hs_nil)
          · refine ybs (t := 35) hb (by kernel_rfl) ?_
            refine ybs (t := 36) hb (by kernel_rfl) ?_
            refine yct (cs := []) (E' := (sp 58 [(1, .ptr 0 [] 0), (3, .bool v1), (4, .bool v5), (5, .bool false)])) (H' := [(0, some ⟨39, (B_39 x_c)⟩)]) (n' := 1) (fun K => by kernel_rfl) .nil ?_
            refine Aw.sreg [2] [] ?_
            refine yc (cs := []) (E' := (sp 58 [(1, .ptr 0 [] 0), (3, .bool v1), (4, .bool v5), (5, .bool false), (41, .bool v1), (42, .bool v1)])) (H' := [(0, some ⟨39, (B_39 x_c)⟩)]) (n' := 1) (pre := (List.take 2 L_impl_CoreOk_r4)) (L' := (List.drop 2 L_impl_CoreOk_r4)) (by kernel_rfl) (fun K => by kernel_rfl) .nil ?_
            rcases cond_some hh with ⟨hb, hh⟩ | ⟨hb, hh⟩
            · refine ybs (t := 3) hb (by kernel_rfl) ?_
              refine ybs (t := 41) hb (by kernel_rfl) ?_
              refine ybs (t := 42) hb (by kernel_rfl) ?_
              refine yc (cs := []) (E' := (sp 58 [(1, .ptr 0 [] 0), (3, .bool true), (4, .bool v5), (5, .bool false), (41, .bool true), (42, .bool true), (43, .bool v5), (44, .bool v5), (45, .bool v5)])) (H' := [(0, some ⟨39, (B_39 x_c)⟩)]) (n' := 1) (pre := (List.take 3 (List.drop 2 L_impl_CoreOk_r4))) (L' := (List.drop 5 L_impl_CoreOk_r4)) (by kernel_rfl) (fun K => by kernel_rfl) .nil ?_
              rcases cond_some hh with ⟨hb, hh⟩ | ⟨hb, hh⟩
              · refine ybs (t := 4) hb (by kernel_rfl) ?_
                refine ybs (t := 43) hb (by kernel_rfl) ?_
                refine ybs (t := 44) hb (by kernel_rfl) ?_
                refine ybs (t := 45) hb (by kernel_rfl) ?_
                refine yc (cs := []) (E' := (sp 58 [(1, .ptr 0 [] 0), (3, .bool true), (4, .bool true), (5, .bool false), (41, .bool true), (42, .bool true), (43, .bool true), (44, .bool true), (45, .bool true), (46, .ptr 0 [] 2), (47, .int .i64 x_c.Root)])) (H' := [(0, some ⟨39, (B_39 x_c)⟩)]) (n' := 1) (pre := (List.take 2 (List.drop 5 L_impl_CoreOk_r4))) (L' := (List.drop 7 L_impl_CoreOk_r4)) (by kernel_rfl) (fun K => by kernel_rfl) .nil ?_
                obtain ⟨v8, hv8, hh⟩ := bind_some hh
                refine ysg (op := (.call 59 [(.t 47)])) (d := (some 48)) (t := 45) (want := true) (os := (List.drop 8 L_impl_CoreOk_r4)) (by kernel_rfl) (by kernel_rfl) (op_call (r := .bool v8) (v := .bool v8) (Hr := []) (n' := 1) (impl_rootOk_fn hv8) (clz_v (vs := [.int .i64 x_c.Root]) (by kernel_rfl) (clz_c (clo_same rfl) clz_n)) rfl rfl (by kernel_rfl) ?_)
                refine yc (cs := []) (E' := (sp 58 [(1, .ptr 0 [] 0), (3, .bool true), (4, .bool true), (5, .bool false), (41, .bool true), (42, .bool true), (43, .bool true), (44, .bool true), (45, .bool true), (46, .ptr 0 [] 2), (47, .int .i64 x_c.Root), (48, .bool v8), (49, .bool v8), (50, .bool v8)])) (H' := [(0, some ⟨39, (B_39 x_c)⟩)]) (n' := 1) (pre := (List.take 2 (List.drop 8 L_impl_CoreOk_r4))) (L' := (List.drop 10 L_impl_CoreOk_r4)) (by kernel_rfl) (fun K => by kernel_rfl) .nil ?_
                rcases cond_some hh with ⟨hb, hh⟩ | ⟨hb, hh⟩
                · refine ybs (t := 48) hb (by kernel_rfl) ?_
                  refine ybs (t := 49) hb (by kernel_rfl) ?_
                  refine ybs (t := 50) hb (by kernel_rfl) ?_
                  refine yct (cs := []) (E' := (sp 58 [(2, .bool false)])) (H' := []) (n' := 1) (fun K => by kernel_rfl) .nil ?_
                  refine Aw.ret ?_
                  rw [some_some hh]
                  exact gives (r' := .bool false) (by kernel_rfl) (Ent.list [] rfl rfl (Nat.zero_le _) (rens_1 ren_b) hs_nil)
                · refine ybs (t := 48) hb (by kernel_rfl) ?_
                  refine ybs (t := 49) hb (by kernel_rfl) ?_
                  refine ybs (t := 50) hb (by kernel_rfl) ?_
                  refine yct (cs := []) (E' := (sp 58 [(2, .bool false)])) (H' := []) (n' := 1) (fun K => by kernel_rfl) .nil ?_
                  refine Aw.ret ?_
                  rw [some_some hh]
                  exact gives (r' := .bool false) (by kernel_rfl) (Ent.list [] rfl rfl (Nat.zero_le _) (rens_1 ren_b) hs_nil)
              · refine ybs (t := 4) hb (by kernel_rfl) ?_
                refine ybs (t := 43) hb (by kernel_rfl) ?_
                refine ybs (t := 44) hb (by kernel_rfl) ?_
                refine ybs (t := 45) hb (by kernel_rfl) ?_
                refine yct (cs := []) (E' := (sp 58 [(2, .bool false)])) (H' := []) (n' := 1) (fun K => by kernel_rfl) .nil ?_
                refine Aw.ret ?_
                rw [some_some hh]
                exact gives (r' := .bool false) (by kernel_rfl) (Ent.list [] rfl rfl (Nat.zero_le _) (rens_1 ren_b) hs_nil)
            · refine ybs (t := 3) hb (by kernel_rfl) ?_
              refine ybs (t := 41) hb (by kernel_rfl) ?_
              refine ybs (t := 42) hb (by kernel_rfl) ?_
              refine yct (cs := []) (E' := (sp 58 [(2, .bool false)])) (H' := []) (n' := 1) (fun K => by kernel_rfl) .nil ?_
              refine Aw.ret ?_
              rw [some_some hh]
              exact gives (r' := .bool false) (by kernel_rfl) (Ent.list [] rfl rfl (Nat.zero_le _) (rens_1 ren_b) hs_nil)
        · refine ybs (t := 26) hb (by kernel_rfl) ?_
          refine ybs (t := 27) hb (by kernel_rfl) ?_
          refine ybs (t := 28) hb (by kernel_rfl) ?_
          refine yct (cs := []) (E' := (sp 58 [(1, .ptr 0 [] 0), (3, .bool v1), (4, .bool false)])) (H' := [(0, some ⟨39, (B_39 x_c)⟩)]) (n' := 1) (fun K => by kernel_rfl) .nil ?_
          refine Aw.sreg [1, 3, 4, 5] [0] ?_
          refine yc (cs := []) (E' := (sp 58 [(1, .ptr 0 [] 0), (3, .bool v1), (4, .bool false), (33, .ptr 0 [] 6), (34, .int .i64 x_c.Cause), (35, .bool (decide ((0 : Int) ≤ x_c.Cause))), (36, .bool (decide ((0 : Int) ≤ x_c.Cause)))])) (H' := [(0, some ⟨39, (B_39 x_c)⟩)]) (n' := 1) (pre := (List.take 4 L_impl_CoreOk_r3)) (L' := (List.drop 4 L_impl_CoreOk_r3)) (by kernel_rfl) (fun K => by kernel_rfl) .nil ?_
          rcases cond_some hh with ⟨hb, hh⟩ | ⟨hb, hh⟩
          · refine ybs (t := 35) hb (by kernel_rfl) ?_
            refine ybs (t := 36) hb (by kernel_rfl) ?_
            refine yct (cs := []) (E' := (sp 58 [(1, .ptr 0 [] 0), (3, .bool v1), (4, .bool false), (5, .bool (decide (x_c.Cause ≤ (4 : Int))))])) (H' := [(0, some ⟨39, (B_39 x_c)⟩)]) (n' := 1) (fun K => by kernel_rfl) .nil ?_
            refine Aw.sreg [2] [] ?_
            refine yc (cs := []) (E' := (sp 58 [(1, .ptr 0 [] 0), (3, .bool v1), (4, .bool false), (5, .bool (decide (x_c.Cause ≤ (4 : Int)))), (41, .bool v1), (42, .bool v1)])) (H' := [(0, some ⟨39, (B_39 x_c)⟩)]) (n' := 1) (pre := (List.take 2 L_impl_CoreOk_r4)) (L' := (List.drop 2 L_impl_CoreOk_r4)) (by kernel_rfl) (fun K => by kernel_rfl) .nil ?_
            rcases cond_some hh with ⟨hb, hh⟩ | ⟨hb, hh⟩
            · refine ybs (t := 3) hb (by kernel_rfl) ?_
              refine ybs (t := 41) hb (by kernel_rfl) ?_
              refine ybs (t := 42) hb (by kernel_rfl) ?_
              refine yct (cs := []) (E' := (sp 58 [(2, .bool false)])) (H' := []) (n' := 1) (fun K => by kernel_rfl) .nil ?_
              refine Aw.ret ?_
              rw [some_some hh]
              exact gives (r' := .bool false) (by kernel_rfl) (Ent.list [] rfl rfl (Nat.zero_le _) (rens_1 ren_b) hs_nil)
            · refine ybs (t := 3) hb (by kernel_rfl) ?_
              refine ybs (t := 41) hb (by kernel_rfl) ?_
              refine ybs (t := 42) hb (by kernel_rfl) ?_
              refine yct (cs := []) (E' := (sp 58 [(2, .bool false)])) (H' := []) (n' := 1) (fun K => by kernel_rfl) .nil ?_
              refine Aw.ret ?_
              rw [some_some hh]
              exact gives (r' := .bool false) (by kernel_rfl) (Ent.list [] rfl rfl (Nat.zero_le _) (rens_1 ren_b) hs_nil)
          · refine ybs (t := 35) hb (by kernel_rfl) ?_
            refine ybs (t := 36) hb (by kernel_rfl) ?_
            refine yct (cs := []) (E' := (sp 58 [(1, .ptr 0 [] 0), (3, .bool v1), (4, .bool false), (5, .bool false)])) (H' := [(0, some ⟨39, (B_39 x_c)⟩)]) (n' := 1) (fun K => by kernel_rfl) .nil ?_
            refine Aw.sreg [2] [] ?_
            refine yc (cs := []) (E' := (sp 58 [(1, .ptr 0 [] 0), (3, .bool v1), (4, .bool false), (5, .bool false), (41, .bool v1), (42, .bool v1)])) (H' := [(0, some ⟨39, (B_39 x_c)⟩)]) (n' := 1) (pre := (List.take 2 L_impl_CoreOk_r4)) (L' := (List.drop 2 L_impl_CoreOk_r4)) (by kernel_rfl) (fun K => by kernel_rfl) .nil ?_
            rcases cond_some hh with ⟨hb, hh⟩ | ⟨hb, hh⟩
            · refine ybs (t := 3) hb (by kernel_rfl) ?_
              refine ybs (t := 41) hb (by kernel_rfl) ?_
              refine ybs (t := 42) hb (by kernel_rfl) ?_
              refine yct (cs := []) (E' := (sp 58 [(2, .bool false)])) (H' := []) (n' := 1) (fun K => by kernel_rfl) .nil ?_
              refine Aw.ret ?_
              rw [some_some hh]
              exact gives (r' := .bool false) (by kernel_rfl) (Ent.list [] rfl rfl (Nat.zero_le _) (rens_1 ren_b) hs_nil)
            · refine ybs (t := 3) hb (by kernel_rfl) ?_
              refine ybs (t := 41) hb (by kernel_rfl) ?_
              refine ybs (t := 42) hb (by kernel_rfl) ?_
              refine yct (cs := []) (E' := (sp 58 [(2, .bool false)])) (H' := []) (n' := 1) (fun K => by kernel_rfl) .nil ?_
              refine Aw.ret ?_
              rw [some_some hh]
              exact gives (r' := .bool false) (by kernel_rfl) (Ent.list [] rfl rfl (Nat.zero_le _) (rens_1 ren_b) hs_nil)
      · refine ybs (t := 21) hb (by kernel_rfl) ?_
        refine ybs (t := 22) hb (by kernel_rfl) ?_
        refine ybs (t := 23) hb (by kernel_rfl) ?_
        refine yct (cs := []) (E' := (sp 58 [(1, .ptr 0 [] 0), (3, .bool v1), (4, .bool false)])) (H' := [(0, some ⟨39, (B_39 x_c)⟩)]) (n' := 1) (fun K => by kernel_rfl) .nil ?_
        refine Aw.sreg [1, 3, 4, 5] [0] ?_
        refine yc (cs := []) (E' := (sp 58 [(1, .ptr 0 [] 0), (3, .bool v1), (4, .bool false), (33, .ptr 0 [] 6), (34, .int .i64 x_c.Cause), (35, .bool (decide ((0 : Int) ≤ x_c.Cause))), (36, .bool (decide ((0 : Int) ≤ x_c.Cause)))])) (H' := [(0, some ⟨39, (B_39 x_c)⟩)]) (n' := 1) (pre := (List.take 4 L_impl_CoreOk_r3)) (L' := (List.drop 4 L_impl_CoreOk_r3)) (by kernel_rfl) (fun K => by kernel_rfl) .nil ?_
        rcases cond_some hh with ⟨hb, hh⟩ | ⟨hb, hh⟩
        · refine ybs (t := 35) hb (by kernel_rfl) ?_
          refine ybs (t := 36) hb (by kernel_rfl) ?_
          refine yct (cs := []) (E' := (sp 58 [(1, .ptr 0 [] 0), (3, .bool v1), (4, .bool false), (5, .bool (decide (x_c.Cause ≤ (4 : Int))))])) (H' := [(0, some ⟨39, (B_39 x_c)⟩)]) (n' := 1) (fun K => by kernel_rfl) .nil ?_
          refine Aw.sreg [2] [] ?_
          refine yc (cs := []) (E' := (sp 58 [(1, .ptr 0 [] 0), (3, .bool v1), (4, .bool false), (5, .bool (decide (x_c.Cause ≤ (4 : Int)))), (41, .bool v1), (42, .bool v1)])) (H' := [(0, some ⟨39, (B_39 x_c)⟩)]) (n' := 1) (pre := (List.take 2 L_impl_CoreOk_r4)) (L' := (List.drop 2 L_impl_CoreOk_r4)) (by kernel_rfl) (fun K => by kernel_rfl) .nil ?_
          rcases cond_some hh with ⟨hb, hh⟩ | ⟨hb, hh⟩
          · refine ybs (t := 3) hb (by kernel_rfl) ?_
            refine ybs (t := 41) hb (by kernel_rfl) ?_
            refine ybs (t := 42) hb (by kernel_rfl) ?_
            refine yct (cs := []) (E' := (sp 58 [(2, .bool false)])) (H' := []) (n' := 1) (fun K => by kernel_rfl) .nil ?_
            refine Aw.ret ?_
            rw [some_some hh]
            exact gives (r' := .bool false) (by kernel_rfl) (Ent.list [] rfl rfl (Nat.zero_le _) (rens_1 ren_b) hs_nil)
          · refine ybs (t := 3) hb (by kernel_rfl) ?_
            refine ybs (t := 41) hb (by kernel_rfl) ?_
            refine ybs (t := 42) hb (by kernel_rfl) ?_
            refine yct (cs := []) (E' := (sp 58 [(2, .bool false)])) (H' := []) (n' := 1) (fun K => by kernel_rfl) .nil ?_
            refine Aw.ret ?_
            rw [some_some hh]
            exact gives (r' := .bool false) (by kernel_rfl) (Ent.list [] rfl rfl (Nat.zero_le _) (rens_1 ren_b) hs_nil)
        · refine ybs (t := 35) hb (by kernel_rfl) ?_
          refine ybs (t := 36) hb (by kernel_rfl) ?_
          refine yct (cs := []) (E' := (sp 58 [(1, .ptr 0 [] 0), (3, .bool v1), (4, .bool false), (5, .bool false)])) (H' := [(0, some ⟨39, (B_39 x_c)⟩)]) (n' := 1) (fun K => by kernel_rfl) .nil ?_
          refine Aw.sreg [2] [] ?_
          refine yc (cs := []) (E' := (sp 58 [(1, .ptr 0 [] 0), (3, .bool v1), (4, .bool false), (5, .bool false), (41, .bool v1), (42, .bool v1)])) (H' := [(0, some ⟨39, (B_39 x_c)⟩)]) (n' := 1) (pre := (List.take 2 L_impl_CoreOk_r4)) (L' := (List.drop 2 L_impl_CoreOk_r4)) (by kernel_rfl) (fun K => by kernel_rfl) .nil ?_
          rcases cond_some hh with ⟨hb, hh⟩ | ⟨hb, hh⟩
          · refine ybs (t := 3) hb (by kernel_rfl) ?_
            refine ybs (t := 41) hb (by kernel_rfl) ?_
            refine ybs (t := 42) hb (by kernel_rfl) ?_
            refine yct (cs := []) (E' := (sp 58 [(2, .bool false)])) (H' := []) (n' := 1) (fun K => by kernel_rfl) .nil ?_
            refine Aw.ret ?_
            rw [some_some hh]
            exact gives (r' := .bool false) (by kernel_rfl) (Ent.list [] rfl rfl (Nat.zero_le _) (rens_1 ren_b) hs_nil)
          · refine ybs (t := 3) hb (by kernel_rfl) ?_
            refine ybs (t := 41) hb (by kernel_rfl) ?_
            refine ybs (t := 42) hb (by kernel_rfl) ?_
            refine yct (cs := []) (E' := (sp 58 [(2, .bool false)])) (H' := []) (n' := 1) (fun K => by kernel_rfl) .nil ?_
            refine Aw.ret ?_
            rw [some_some hh]
            exact gives (r' := .bool false) (by kernel_rfl) (Ent.list [] rfl rfl (Nat.zero_le _) (rens_1 ren_b) hs_nil)
    · refine ybs (t := 17) hb (by kernel_rfl) ?_
      refine ybs (t := 18) hb (by kernel_rfl) ?_
      refine yct (cs := []) (E' := (sp 58 [(1, .ptr 0 [] 0), (3, .bool v1), (4, .bool false)])) (H' := [(0, some ⟨39, (B_39 x_c)⟩)]) (n' := 1) (fun K => by kernel_rfl) .nil ?_
      refine Aw.sreg [1, 3, 4, 5] [0] ?_
      refine yc (cs := []) (E' := (sp 58 [(1, .ptr 0 [] 0), (3, .bool v1), (4, .bool false), (33, .ptr 0 [] 6), (34, .int .i64 x_c.Cause), (35, .bool (decide ((0 : Int) ≤ x_c.Cause))), (36, .bool (decide ((0 : Int) ≤ x_c.Cause)))])) (H' := [(0, some ⟨39, (B_39 x_c)⟩)]) (n' := 1) (pre := (List.take 4 L_impl_CoreOk_r3)) (L' := (List.drop 4 L_impl_CoreOk_r3)) (by kernel_rfl) (fun K => by kernel_rfl) .nil ?_
      rcases cond_some hh with ⟨hb, hh⟩ | ⟨hb, hh⟩
      · refine ybs (t := 35) hb (by kernel_rfl) ?_
        refine ybs (t := 36) hb (by kernel_rfl) ?_
        refine yct (cs := []) (E' := (sp 58 [(1, .ptr 0 [] 0), (3, .bool v1), (4, .bool false), (5, .bool (decide (x_c.Cause ≤ (4 : Int))))])) (H' := [(0, some ⟨39, (B_39 x_c)⟩)]) (n' := 1) (fun K => by kernel_rfl) .nil ?_
        refine Aw.sreg [2] [] ?_
        refine yc (cs := []) (E' := (sp 58 [(1, .ptr 0 [] 0), (3, .bool v1), (4, .bool false), (5, .bool (decide (x_c.Cause ≤ (4 : Int)))), (41, .bool v1), (42, .bool v1)])) (H' := [(0, some ⟨39, (B_39 x_c)⟩)]) (n' := 1) (pre := (List.take 2 L_impl_CoreOk_r4)) (L' := (List.drop 2 L_impl_CoreOk_r4)) (by kernel_rfl) (fun K => by kernel_rfl) .nil ?_
        rcases cond_some hh with ⟨hb, hh⟩ | ⟨hb, hh⟩
        · refine ybs (t := 3) hb (by kernel_rfl) ?_
          refine ybs (t := 41) hb (by kernel_rfl) ?_
          refine ybs (t := 42) hb (by kernel_rfl) ?_
          refine yct (cs := []) (E' := (sp 58 [(2, .bool false)])) (H' := []) (n' := 1) (fun K => by kernel_rfl) .nil ?_
          refine Aw.ret ?_
          rw [some_some hh]
          exact gives (r' := .bool false) (by kernel_rfl) (Ent.list [] rfl rfl (Nat.zero_le _) (rens_1 ren_b) hs_nil)
        · refine ybs (t := 3) hb (by kernel_rfl) ?_
          refine ybs (t := 41) hb (by kernel_rfl) ?_
          refine ybs (t := 42) hb (by kernel_rfl) ?_
          refine yct (cs := []) (E' := (sp 58 [(2, .bool false)])) (H' := []) (n' := 1) (fun K => by kernel_rfl) .nil ?_
          refine Aw.ret ?_
          rw [some_some hh]
          exact gives (r' := .bool false) (by kernel_rfl) (Ent.list [] rfl rfl (Nat.zero_le _) (rens_1 ren_b) hs_nil)
      · refine ybs (t := 35) hb (by kernel_rfl) ?_
        refine ybs (t := 36) hb (by kernel_rfl) ?_
        refine yct (cs := []) (E' := (sp 58 [(1, .ptr 0 [] 0), (3, .bool v1), (4, .bool false), (5, .bool false)])) (H' := [(0, some ⟨39, (B_39 x_c)⟩)]) (n' := 1) (fun K => by kernel_rfl) .nil ?_
        refine Aw.sreg [2] [] ?_
        refine yc (cs := []) (E' := (sp 58 [(1, .ptr 0 [] 0), (3, .bool v1), (4, .bool false), (5, .bool false), (41, .bool v1), (42, .bool v1)])) (H' := [(0, some ⟨39, (B_39 x_c)⟩)]) (n' := 1) (pre := (List.take 2 L_impl_CoreOk_r4)) (L' := (List.drop 2 L_impl_CoreOk_r4)) (by kernel_rfl) (fun K => by kernel_rfl) .nil ?_
        rcases cond_some hh with ⟨hb, hh⟩ | ⟨hb, hh⟩
        · refine ybs (t := 3) hb (by kernel_rfl) ?_
          refine ybs (t := 41) hb (by kernel_rfl) ?_
          refine ybs (t := 42) hb (by kernel_rfl) ?_
          refine yct (cs := []) (E' := (sp 58 [(2, .bool false)])) (H' := []) (n' := 1) (fun K => by kernel_rfl) .nil ?_
          refine Aw.ret ?_
          rw [some_some hh]
          exact gives (r' := .bool false) (by kernel_rfl) (Ent.list [] rfl rfl (Nat.zero_le _) (rens_1 ren_b) hs_nil)
        · refine ybs (t := 3) hb (by kernel_rfl) ?_
          refine ybs (t := 41) hb (by kernel_rfl) ?_
          refine ybs (t := 42) hb (by kernel_rfl) ?_
          refine yct (cs := []) (E' := (sp 58 [(2, .bool false)])) (H' := []) (n' := 1) (fun K => by kernel_rfl) .nil ?_
          refine Aw.ret ?_
          rw [some_some hh]
          exact gives (r' := .bool false) (by kernel_rfl) (Ent.list [] rfl rfl (Nat.zero_le _) (rens_1 ren_b) hs_nil)
  · refine ybs (t := 9) hb (by kernel_rfl) ?_
    refine ybs (t := 10) hb (by kernel_rfl) ?_
    refine yct (cs := []) (E' := (sp 58 [(1, .ptr 0 [] 0), (3, .bool false)])) (H' := [(0, some ⟨39, (B_39 x_c)⟩)]) (n' := 1) (fun K => by kernel_rfl) .nil ?_
    refine Aw.sreg [1, 3, 4] [0] ?_
    refine yc (cs := []) (E' := (sp 58 [(1, .ptr 0 [] 0), (3, .bool false), (15, .ptr 0 [] 1), (16, .int .i64 x_c.Pc)])) (H' := [(0, some ⟨39, (B_39 x_c)⟩)]) (n' := 1) (pre := (List.take 2 L_impl_CoreOk_r2)) (L' := (List.drop 2 L_impl_CoreOk_r2)) (by kernel_rfl) (fun K => by kernel_rfl) .nil ?_
    obtain ⟨v9, hv9, hh⟩ := bind_some hh
    refine yso (op := (.call 60 [(.t 16)])) (d := (some 17)) (os := (List.drop 3 L_impl_CoreOk_r2)) (by kernel_rfl) (op_call (r := .bool v9) (v := .bool v9) (Hr := []) (n' := 1) (impl_addressOk_fn hv9) (clz_v (vs := [.int .i64 x_c.Pc]) (by kernel_rfl) (clz_c (clo_same rfl) clz_n)) rfl rfl (by kernel_rfl) ?_)
    refine yc (cs := []) (E' := (sp 58 [(1, .ptr 0 [] 0), (3, .bool false), (15, .ptr 0 [] 1), (16, .int .i64 x_c.Pc), (17, .bool v9), (18, .bool v9)])) (H' := [(0, some ⟨39, (B_39 x_c)⟩)]) (n' := 1) (pre := (List.take 1 (List.drop 3 L_impl_CoreOk_r2))) (L' := (List.drop 4 L_impl_CoreOk_r2)) (by kernel_rfl) (fun K => by kernel_rfl) .nil ?_
    rcases cond_some hh with ⟨hb, hh⟩ | ⟨hb, hh⟩
    · refine ybs (t := 17) hb (by kernel_rfl) ?_
      refine ybs (t := 18) hb (by kernel_rfl) ?_
      refine yc (cs := []) (E' := (sp 58 [(1, .ptr 0 [] 0), (3, .bool false), (15, .ptr 0 [] 1), (16, .int .i64 x_c.Pc), (17, .bool true), (18, .bool true), (19, .ptr 0 [] 3), (20, .int .i64 x_c.Vector)])) (H' := [(0, some ⟨39, (B_39 x_c)⟩)]) (n' := 1) (pre := (List.take 2 (List.drop 4 L_impl_CoreOk_r2))) (L' := (List.drop 6 L_impl_CoreOk_r2)) (by kernel_rfl) (fun K => by kernel_rfl) .nil ?_
      obtain ⟨v10, hv10, hh⟩ := bind_some hh
      refine ysg (op := (.call 60 [(.t 20)])) (d := (some 21)) (t := 18) (want := true) (os := (List.drop 7 L_impl_CoreOk_r2)) (by kernel_rfl) (by kernel_rfl) (op_call (r := .bool v10) (v := .bool v10) (Hr := []) (n' := 1) (impl_addressOk_fn hv10) (clz_v (vs := [.int .i64 x_c.Vector]) (by kernel_rfl) (clz_c (clo_same rfl) clz_n)) rfl rfl (by kernel_rfl) ?_)
      refine yc (cs := []) (E' := (sp 58 [(1, .ptr 0 [] 0), (3, .bool false), (15, .ptr 0 [] 1), (16, .int .i64 x_c.Pc), (17, .bool true), (18, .bool true), (19, .ptr 0 [] 3), (20, .int .i64 x_c.Vector), (21, .bool v10), (22, .bool v10), (23, .bool v10)])) (H' := [(0, some ⟨39, (B_39 x_c)⟩)]) (n' := 1) (pre := (List.take 2 (List.drop 7 L_impl_CoreOk_r2))) (L' := (List.drop 9 L_impl_CoreOk_r2)) (by kernel_rfl) (fun K => by kernel_rfl) .nil ?_
      rcases cond_some hh with ⟨hb, hh⟩ | ⟨hb, hh⟩
      · refine ybs (t := 21) hb (by kernel_rfl) ?_
        refine ybs (t := 22) hb (by kernel_rfl) ?_
        refine ybs (t := 23) hb (by kernel_rfl) ?_
        refine yc (cs := []) (E' := (sp 58 [(1, .ptr 0 [] 0), (3, .bool false), (15, .ptr 0 [] 1), (16, .int .i64 x_c.Pc), (17, .bool true), (18, .bool true), (19, .ptr 0 [] 3), (20, .int .i64 x_c.Vector), (21, .bool true), (22, .bool true), (23, .bool true), (24, .ptr 0 [] 4), (25, .int .i64 x_c.Saved)])) (H' := [(0, some ⟨39, (B_39 x_c)⟩)]) (n' := 1) (pre := (List.take 2 (List.drop 9 L_impl_CoreOk_r2))) (L' := (List.drop 11 L_impl_CoreOk_r2)) (by kernel_rfl) (fun K => by kernel_rfl) .nil ?_
        obtain ⟨v11, hv11, hh⟩ := bind_some hh
        refine ysg (op := (.call 60 [(.t 25)])) (d := (some 26)) (t := 23) (want := true) (os := (List.drop 12 L_impl_CoreOk_r2)) (by kernel_rfl) (by kernel_rfl) (op_call (r := .bool v11) (v := .bool v11) (Hr := []) (n' := 1) (impl_addressOk_fn hv11) (clz_v (vs := [.int .i64 x_c.Saved]) (by kernel_rfl) (clz_c (clo_same rfl) clz_n)) rfl rfl (by kernel_rfl) ?_)
        refine yc (cs := []) (E' := (sp 58 [(1, .ptr 0 [] 0), (3, .bool false), (15, .ptr 0 [] 1), (16, .int .i64 x_c.Pc), (17, .bool true), (18, .bool true), (19, .ptr 0 [] 3), (20, .int .i64 x_c.Vector), (21, .bool true), (22, .bool true), (23, .bool true), (24, .ptr 0 [] 4), (25, .int .i64 x_c.Saved), (26, .bool v11), (27, .bool v11), (28, .bool v11)])) (H' := [(0, some ⟨39, (B_39 x_c)⟩)]) (n' := 1) (pre := (List.take 2 (List.drop 12 L_impl_CoreOk_r2))) (L' := (List.drop 14 L_impl_CoreOk_r2)) (by kernel_rfl) (fun K => by kernel_rfl) .nil ?_
        rcases cond_some hh with ⟨hb, hh⟩ | ⟨hb, hh⟩
        · refine ybs (t := 26) hb (by kernel_rfl) ?_
          refine ybs (t := 27) hb (by kernel_rfl) ?_
          refine ybs (t := 28) hb (by kernel_rfl) ?_
          refine yc (cs := []) (E' := (sp 58 [(1, .ptr 0 [] 0), (3, .bool false), (15, .ptr 0 [] 1), (16, .int .i64 x_c.Pc), (17, .bool true), (18, .bool true), (19, .ptr 0 [] 3), (20, .int .i64 x_c.Vector), (21, .bool true), (22, .bool true), (23, .bool true), (24, .ptr 0 [] 4), (25, .int .i64 x_c.Saved), (26, .bool true), (27, .bool true), (28, .bool true), (29, .ptr 0 [] 7), (30, .int .i64 x_c.Bad)])) (H' := [(0, some ⟨39, (B_39 x_c)⟩)]) (n' := 1) (pre := (List.take 2 (List.drop 14 L_impl_CoreOk_r2))) (L' := (List.drop 16 L_impl_CoreOk_r2)) (by kernel_rfl) (fun K => by kernel_rfl) .nil ?_
          obtain ⟨v12, hv12, hh⟩ := bind_some hh
          refine ysg (op := (.call 60 [(.t 30)])) (d := (some 31)) (t := 28) (want := true) (os := (List.drop 17 L_impl_CoreOk_r2)) (by kernel_rfl) (by kernel_rfl) (op_call (r := .bool v12) (v := .bool v12) (Hr := []) (n' := 1) (impl_addressOk_fn hv12) (clz_v (vs := [.int .i64 x_c.Bad]) (by kernel_rfl) (clz_c (clo_same rfl) clz_n)) rfl rfl (by kernel_rfl) ?_)
          refine yct (cs := []) (E' := (sp 58 [(1, .ptr 0 [] 0), (3, .bool false), (4, .bool v12)])) (H' := [(0, some ⟨39, (B_39 x_c)⟩)]) (n' := 1) (fun K => by kernel_rfl) .nil ?_
          refine Aw.sreg [1, 3, 4, 5] [0] ?_
          refine yc (cs := []) (E' := (sp 58 [(1, .ptr 0 [] 0), (3, .bool false), (4, .bool v12), (33, .ptr 0 [] 6), (34, .int .i64 x_c.Cause), (35, .bool (decide ((0 : Int) ≤ x_c.Cause))), (36, .bool (decide ((0 : Int) ≤ x_c.Cause)))])) (H' := [(0, some ⟨39, (B_39 x_c)⟩)]) (n' := 1) (pre := (List.take 4 L_impl_CoreOk_r3)) (L' := (List.drop 4 L_impl_CoreOk_r3)) (by kernel_rfl) (fun K => by kernel_rfl) .nil ?_
          rcases cond_some hh with ⟨hb, hh⟩ | ⟨hb, hh⟩
          · refine ybs (t := 35) hb (by kernel_rfl) ?_
            refine ybs (t := 36) hb (by kernel_rfl) ?_
            refine yct (cs := []) (E' := (sp 58 [(1, .ptr 0 [] 0), (3, .bool false), (4, .bool v12), (5, .bool (decide (x_c.Cause ≤ (4 : Int))))])) (H' := [(0, some ⟨39, (B_39 x_c)⟩)]) (n' := 1) (fun K => by kernel_rfl) .nil ?_
            refine Aw.sreg [2] [] ?_
            refine yct (cs := []) (E' := (sp 58 [(2, .bool false)])) (H' := []) (n' := 1) (fun K => by kernel_rfl) .nil ?_
            refine Aw.ret ?_
            rw [some_some hh]
            exact gives (r' := .bool false) (by kernel_rfl) (Ent.list [] rfl rfl (Nat.zero_le _) (rens_1 ren_b) hs_nil)
          · refine ybs (t := 35) hb (by kernel_rfl) ?_
            refine ybs (t := 36) hb (by kernel_rfl) ?_
            refine yct (cs := []) (E' := (sp 58 [(1, .ptr 0 [] 0), (3, .bool false), (4, .bool v12), (5, .bool false)])) (H' := [(0, some ⟨39, (B_39 x_c)⟩)]) (n' := 1) (fun K => by kernel_rfl) .nil ?_
            refine Aw.sreg [2] [] ?_
            refine yct (cs := []) (E' := (sp 58 [(2, .bool false)])) (H' := []) (n' := 1) (fun K => by kernel_rfl) .nil ?_
            refine Aw.ret ?_
            rw [some_some hh]
            exact gives (r' := .bool false) (by kernel_rfl) (Ent.list [] rfl rfl (Nat.zero_le _) (rens_1 ren_b) hs_nil)
        · refine ybs (t := 26) hb (by kernel_rfl) ?_
          refine ybs (t := 27) hb (by kernel_rfl) ?_
          refine ybs (t := 28) hb (by kernel_rfl) ?_
          refine yct (cs := []) (E' := (sp 58 [(1, .ptr 0 [] 0), (3, .bool false), (4, .bool false)])) (H' := [(0, some ⟨39, (B_39 x_c)⟩)]) (n' := 1) (fun K => by kernel_rfl) .nil ?_
          refine Aw.sreg [1, 3, 4, 5] [0] ?_
          refine yc (cs := []) (E' := (sp 58 [(1, .ptr 0 [] 0), (3, .bool false), (4, .bool false), (33, .ptr 0 [] 6), (34, .int .i64 x_c.Cause), (35, .bool (decide ((0 : Int) ≤ x_c.Cause))), (36, .bool (decide ((0 : Int) ≤ x_c.Cause)))])) (H' := [(0, some ⟨39, (B_39 x_c)⟩)]) (n' := 1) (pre := (List.take 4 L_impl_CoreOk_r3)) (L' := (List.drop 4 L_impl_CoreOk_r3)) (by kernel_rfl) (fun K => by kernel_rfl) .nil ?_
          rcases cond_some hh with ⟨hb, hh⟩ | ⟨hb, hh⟩
          · refine ybs (t := 35) hb (by kernel_rfl) ?_
            refine ybs (t := 36) hb (by kernel_rfl) ?_
            refine yct (cs := []) (E' := (sp 58 [(1, .ptr 0 [] 0), (3, .bool false), (4, .bool false), (5, .bool (decide (x_c.Cause ≤ (4 : Int))))])) (H' := [(0, some ⟨39, (B_39 x_c)⟩)]) (n' := 1) (fun K => by kernel_rfl) .nil ?_
            refine Aw.sreg [2] [] ?_
            refine yct (cs := []) (E' := (sp 58 [(2, .bool false)])) (H' := []) (n' := 1) (fun K => by kernel_rfl) .nil ?_
            refine Aw.ret ?_
            rw [some_some hh]
            exact gives (r' := .bool false) (by kernel_rfl) (Ent.list [] rfl rfl (Nat.zero_le _) (rens_1 ren_b) hs_nil)
          · refine ybs (t := 35) hb (by kernel_rfl) ?_
            refine ybs (t := 36) hb (by kernel_rfl) ?_
            refine yct (cs := []) (E' := (sp 58 [(1, .ptr 0 [] 0), (3, .bool false), (4, .bool false), (5, .bool false)])) (H' := [(0, some ⟨39, (B_39 x_c)⟩)]) (n' := 1) (fun K => by kernel_rfl) .nil ?_
            refine Aw.sreg [2] [] ?_
            refine yct (cs := []) (E' := (sp 58 [(2, .bool false)])) (H' := []) (n' := 1) (fun K => by kernel_rfl) .nil ?_
            refine Aw.ret ?_
            rw [some_some hh]
            exact gives (r' := .bool false) (by kernel_rfl) (Ent.list [] rfl rfl (Nat.zero_le _) (rens_1 ren_b) hs_nil)
      · refine ybs (t := 21) hb (by kernel_rfl) ?_
        refine ybs (t := 22) hb (by kernel_rfl) ?_
        refine ybs (t := 23) hb (by kernel_rfl) ?_
        refine yct (cs := []) (E' := (sp 58 [(1, .ptr 0 [] 0), (3, .bool false), (4, .bool false)])) (H' := [(0, some ⟨39, (B_39 x_c)⟩)]) (n' := 1) (fun K => by kernel_rfl) .nil ?_
        refine Aw.sreg [1, 3, 4, 5] [0] ?_
        refine yc (cs := []) (E' := (sp 58 [(1, .ptr 0 [] 0), (3, .bool false), (4, .bool false), (33, .ptr 0 [] 6), (34, .int .i64 x_c.Cause), (35, .bool (decide ((0 : Int) ≤ x_c.Cause))), (36, .bool (decide ((0 : Int) ≤ x_c.Cause)))])) (H' := [(0, some ⟨39, (B_39 x_c)⟩)]) (n' := 1) (pre := (List.take 4 L_impl_CoreOk_r3)) (L' := (List.drop 4 L_impl_CoreOk_r3)) (by kernel_rfl) (fun K => by kernel_rfl) .nil ?_
        rcases cond_some hh with ⟨hb, hh⟩ | ⟨hb, hh⟩
        · refine ybs (t := 35) hb (by kernel_rfl) ?_
          refine ybs (t := 36) hb (by kernel_rfl) ?_
          refine yct (cs := []) (E' := (sp 58 [(1, .ptr 0 [] 0), (3, .bool false), (4, .bool false), (5, .bool (decide (x_c.Cause ≤ (4 : Int))))])) (H' := [(0, some ⟨39, (B_39 x_c)⟩)]) (n' := 1) (fun K => by kernel_rfl) .nil ?_
          refine Aw.sreg [2] [] ?_
          refine yct (cs := []) (E' := (sp 58 [(2, .bool false)])) (H' := []) (n' := 1) (fun K => by kernel_rfl) .nil ?_
          refine Aw.ret ?_
          rw [some_some hh]
          exact gives (r' := .bool false) (by kernel_rfl) (Ent.list [] rfl rfl (Nat.zero_le _) (rens_1 ren_b) hs_nil)
        · refine ybs (t := 35) hb (by kernel_rfl) ?_
          refine ybs (t := 36) hb (by kernel_rfl) ?_
          refine yct (cs := []) (E' := (sp 58 [(1, .ptr 0 [] 0), (3, .bool false), (4, .bool false), (5, .bool false)])) (H' := [(0, some ⟨39, (B_39 x_c)⟩)]) (n' := 1) (fun K => by kernel_rfl) .nil ?_
          refine Aw.sreg [2] [] ?_
          refine yct (cs := []) (E' := (sp 58 [(2, .bool false)])) (H' := []) (n' := 1) (fun K => by kernel_rfl) .nil ?_
          refine Aw.ret ?_
          rw [some_some hh]
          exact gives (r' := .bool false) (by kernel_rfl) (Ent.list [] rfl rfl (Nat.zero_le _) (rens_1 ren_b) hs_nil)
    · refine ybs (t := 17) hb (by kernel_rfl) ?_
      refine ybs (t := 18) hb (by kernel_rfl) ?_
      refine yct (cs := []) (E' := (sp 58 [(1, .ptr 0 [] 0), (3, .bool false), (4, .bool false)])) (H' := [(0, some ⟨39, (B_39 x_c)⟩)]) (n' := 1) (fun K => by kernel_rfl) .nil ?_
      refine Aw.sreg [1, 3, 4, 5] [0] ?_
      refine yc (cs := []) (E' := (sp 58 [(1, .ptr 0 [] 0), (3, .bool false), (4, .bool false), (33, .ptr 0 [] 6), (34, .int .i64 x_c.Cause), (35, .bool (decide ((0 : Int) ≤ x_c.Cause))), (36, .bool (decide ((0 : Int) ≤ x_c.Cause)))])) (H' := [(0, some ⟨39, (B_39 x_c)⟩)]) (n' := 1) (pre := (List.take 4 L_impl_CoreOk_r3)) (L' := (List.drop 4 L_impl_CoreOk_r3)) (by kernel_rfl) (fun K => by kernel_rfl) .nil ?_
      rcases cond_some hh with ⟨hb, hh⟩ | ⟨hb, hh⟩
      · refine ybs (t := 35) hb (by kernel_rfl) ?_
        refine ybs (t := 36) hb (by kernel_rfl) ?_
        refine yct (cs := []) (E' := (sp 58 [(1, .ptr 0 [] 0), (3, .bool false), (4, .bool false), (5, .bool (decide (x_c.Cause ≤ (4 : Int))))])) (H' := [(0, some ⟨39, (B_39 x_c)⟩)]) (n' := 1) (fun K => by kernel_rfl) .nil ?_
        refine Aw.sreg [2] [] ?_
        refine yct (cs := []) (E' := (sp 58 [(2, .bool false)])) (H' := []) (n' := 1) (fun K => by kernel_rfl) .nil ?_
        refine Aw.ret ?_
        rw [some_some hh]
        exact gives (r' := .bool false) (by kernel_rfl) (Ent.list [] rfl rfl (Nat.zero_le _) (rens_1 ren_b) hs_nil)
      · refine ybs (t := 35) hb (by kernel_rfl) ?_
        refine ybs (t := 36) hb (by kernel_rfl) ?_
        refine yct (cs := []) (E' := (sp 58 [(1, .ptr 0 [] 0), (3, .bool false), (4, .bool false), (5, .bool false)])) (H' := [(0, some ⟨39, (B_39 x_c)⟩)]) (n' := 1) (fun K => by kernel_rfl) .nil ?_
        refine Aw.sreg [2] [] ?_
        refine yct (cs := []) (E' := (sp 58 [(2, .bool false)])) (H' := []) (n' := 1) (fun K => by kernel_rfl) .nil ?_
        refine Aw.ret ?_
        rw [some_some hh]
        exact gives (r' := .bool false) (by kernel_rfl) (Ent.list [] rfl rfl (Nat.zero_le _) (rens_1 ren_b) hs_nil)

-- 64 loop.example/guesthouse/impl.rowOk
def L_impl_rowOk_r0 : List LOper := [⟨(some 2), (.mv (.c (.bool false))), none⟩]
def L_impl_rowOk_r1 : List LOper := [⟨(some 3), (.mv (.t 0)), none⟩, ⟨(some 4), (.len (.t 3)), none⟩, ⟨(some 5), (.bin .leq (.t 4) (.c (.int .i64 30))), none⟩, ⟨(some 6), (.mv (.t 5)), none⟩, ⟨(some 7), (.mv (.t 0)), (some (6, true))⟩, ⟨(some 8), (.call 53 [(.t 7)]), (some (6, true))⟩, ⟨(some 9), (.pick (.t 6) (.t 8) (.c (.bool false))), none⟩, ⟨(some 2), (.mv (.t 9)), none⟩]
def L_impl_rowOk : LFun := ⟨10, [(.tmp 2)], (.seq (.reg false L_impl_rowOk_r0) (.seq (.reg false L_impl_rowOk_r1) .ret))⟩
theorem low_impl_rowOk : lowFun Go.Proofs.Try.prog 64 = some L_impl_rowOk := by kernel_rfl
noncomputable def F_impl_rowOk (x_words : List Int) : Option Bool :=
  cond (decide ((((List.length x_words) : Nat) : Int) ≤ (30 : Int)))
    (Option.bind (F_impl_wordsOk x_words) fun v1 =>
    some v1)
    (some false)
theorem impl_rowOk_fn {x_words : List Int} {R_ : Bool} (hh : F_impl_rowOk x_words = some R_) : Fn Try.prog 64 [bo (eI .i64) x_words] (.bool R_) := by
  unfold F_impl_rowOk at hh
  refine Fn.start low_impl_rowOk [0] (E := sp 10 [(0, bo (eI .i64) x_words)]) (by kernel_rfl) (v := .bool R_) (Hr := []) (k := 0) (by kernel_rfl) ?_
  refine Aw.sreg [0] [] ?_
  refine yct (cs := []) (E' := (sp 10 [(0, bo (eI .i64) x_words)])) (H' := []) (n' := 0) (fun K => by kernel_rfl) .nil ?_
  refine Aw.sreg [2] [] ?_
  refine yc (cs := []) (E' := (sp 10 [(0, bo (eI .i64) x_words), (3, bo (eI .i64) x_words), (4, .int .i64 (((List.length x_words) : Nat) : Int)), (5, .bool (decide ((((List.length x_words) : Nat) : Int) ≤ (30 : Int)))), (6, .bool (decide ((((List.length x_words) : Nat) : Int) ≤ (30 : Int))))])) (H' := []) (n' := 0) (pre := (List.take 4 L_impl_rowOk_r1)) (L' := (List.drop 4 L_impl_rowOk_r1)) (by kernel_rfl) (fun K => by kernel_rfl) .nil ?_
  rcases cond_some hh with ⟨hb, hh⟩ | ⟨hb, hh⟩
  · refine ybs (t := 5) hb (by kernel_rfl) ?_
    refine ybs (t := 6) hb (by kernel_rfl) ?_
    refine yc (cs := []) (E' := (sp 10 [(0, bo (eI .i64) x_words), (3, bo (eI .i64) x_words), (4, .int .i64 (((List.length x_words) : Nat) : Int)), (5, .bool true), (6, .bool true), (7, bo (eI .i64) x_words)])) (H' := []) (n' := 0) (pre := (List.take 1 (List.drop 4 L_impl_rowOk_r1))) (L' := (List.drop 5 L_impl_rowOk_r1)) (by kernel_rfl) (fun K => by kernel_rfl) .nil ?_
    obtain ⟨v1, hv1, hh⟩ := bind_some hh
    refine ysg (op := (.call 53 [(.t 7)])) (d := (some 8)) (t := 6) (want := true) (os := (List.drop 6 L_impl_rowOk_r1)) (by kernel_rfl) (by kernel_rfl) (op_call (r := .bool v1) (v := .bool v1) (Hr := []) (n' := 0) (impl_wordsOk_fn hv1) (clz_v (vs := [bo (eI .i64) x_words]) (by kernel_rfl) (clz_c (clo_same (clean_bor (cleans_fl cl_eI))) clz_n)) rfl rfl (by kernel_rfl) ?_)
    refine yct (cs := []) (E' := (sp 10 [(2, .bool v1)])) (H' := []) (n' := 0) (fun K => by kernel_rfl) .nil ?_
    refine Aw.ret ?_
    rw [some_some hh]
    exact gives (r' := .bool v1) (by kernel_rfl) (Ent.list [] rfl rfl (Nat.zero_le _) (rens_1 ren_b) hs_nil)
  · refine ybs (t := 5) hb (by kernel_rfl) ?_
    refine ybs (t := 6) hb (by kernel_rfl) ?_
    refine yct (cs := []) (E' := (sp 10 [(2, .bool false)])) (H' := []) (n' := 0) (fun K => by kernel_rfl) .nil ?_
    refine Aw.ret ?_
    rw [some_some hh]
    exact gives (r' := .bool false) (by kernel_rfl) (Ent.list [] rfl rfl (Nat.zero_le _) (rens_1 ren_b) hs_nil)

-- 33 loop.example/guesthouse/impl.BareOk
def L_impl_BareOk_r0 : List LOper := [⟨(some 1), (.box 43 (.t 0)), none⟩, ⟨(some 2), (.mv (.c (.bool false))), none⟩]
def L_impl_BareOk_r1 : List LOper := [⟨(some 3), (.fadr 0 (.t 1)), none⟩, ⟨(some 4), (.load true 13 (.t 3)), none⟩, ⟨(some 5), (.call 30 [(.t 4)]), none⟩, ⟨(some 6), (.mv (.t 5)), none⟩, ⟨(some 7), (.fadr 13 (.t 1)), (some (6, true))⟩, ⟨(some 8), (.load false 1 (.t 7)), (some (6, true))⟩, ⟨(some 9), (.call 16 [(.t 8)]), (some (6, true))⟩, ⟨(some 10), (.pick (.t 6) (.t 9) (.c (.bool false))), none⟩, ⟨(some 11), (.mv (.t 10)), none⟩, ⟨(some 12), (.fadr 14 (.t 1)), (some (11, true))⟩, ⟨(some 13), (.load false 1 (.t 12)), (some (11, true))⟩, ⟨(some 14), (.call 64 [(.t 13)]), (some (11, true))⟩, ⟨(some 15), (.pick (.t 11) (.t 14) (.c (.bool false))), none⟩, ⟨(some 16), (.mv (.t 15)), none⟩, ⟨(some 17), (.fadr 15 (.t 1)), (some (16, true))⟩, ⟨(some 18), (.load false 1 (.t 17)), (some (16, true))⟩, ⟨(some 19), (.call 64 [(.t 18)]), (some (16, true))⟩, ⟨(some 20), (.pick (.t 16) (.t 19) (.c (.bool false))), none⟩, ⟨(some 2), (.mv (.t 20)), none⟩]
def L_impl_BareOk : LFun := ⟨21, [(.tmp 2)], (.seq (.reg false L_impl_BareOk_r0) (.seq (.reg false L_impl_BareOk_r1) .ret))⟩
theorem low_impl_BareOk : lowFun Go.Proofs.Try.prog 33 = some L_impl_BareOk := by kernel_rfl
noncomputable def F_impl_BareOk (x_b : DBare) : Option Bool :=
  Option.bind (F_impl_CoreOk x_b.C) fun v1 =>
  cond v1
    (Option.bind (F_impl_MemOk x_b.Mem) fun v2 =>
    cond v2
      (Option.bind (F_impl_rowOk x_b.In) fun v3 =>
      cond v3
        (Option.bind (F_impl_rowOk x_b.Out) fun v4 =>
        some v4)
        (some false))
      (some false))
    (some false)
theorem impl_BareOk_fn {x_b : DBare} {R_ : Bool} (hh : F_impl_BareOk x_b = some R_) : Fn Try.prog 33 [.agg (B_43 x_b)] (.bool R_) := by
  unfold F_impl_BareOk at hh
  refine Fn.start low_impl_BareOk [0] (E := sp 21 [(0, .agg (B_43 x_b))]) (by kernel_rfl) (v := .bool R_) (Hr := []) (k := 0) (by kernel_rfl) ?_
  refine Aw.sreg [1] [0] ?_
  refine yct (cs := []) (E' := (sp 21 [(1, .ptr 0 [] 0)])) (H' := [(0, some ⟨43, (B_43 x_b)⟩)]) (n' := 1) (fun K => by kernel_rfl) .nil ?_
  refine Aw.sreg [2] [] ?_
  refine yc (cs := []) (E' := (sp 21 [(1, .ptr 0 [] 0), (3, .ptr 0 [] 0), (4, .agg (B_39 x_b.C))])) (H' := [(0, some ⟨43, (B_43 x_b)⟩)]) (n' := 1) (pre := (List.take 2 L_impl_BareOk_r1)) (L' := (List.drop 2 L_impl_BareOk_r1)) (by kernel_rfl) (fun K => by kernel_rfl) .nil ?_
  obtain ⟨v1, hv1, hh⟩ := bind_some hh
  refine yso (op := (.call 30 [(.t 4)])) (d := (some 5)) (os := (List.drop 3 L_impl_BareOk_r1)) (by kernel_rfl) (op_call (r := .bool v1) (v := .bool v1) (Hr := []) (n' := 1) (impl_CoreOk_fn hv1) (clz_v (vs := [.agg (B_39 x_b.C)]) (by kernel_rfl) (clz_c (clo_same (clean_agg (cl_B_39 _))) clz_n)) rfl rfl (by kernel_rfl) ?_)
  refine yc (cs := []) (E' := (sp 21 [(1, .ptr 0 [] 0), (3, .ptr 0 [] 0), (4, .agg (B_39 x_b.C)), (5, .bool v1), (6, .bool v1)])) (H' := [(0, some ⟨43, (B_43 x_b)⟩)]) (n' := 1) (pre := (List.take 1 (List.drop 3 L_impl_BareOk_r1))) (L' := (List.drop 4 L_impl_BareOk_r1)) (by kernel_rfl) (fun K => by kernel_rfl) .nil ?_
  rcases cond_some hh with ⟨hb, hh⟩ | ⟨hb, hh⟩
  · refine ybs (t := 5) hb (by kernel_rfl) ?_
    refine ybs (t := 6) hb (by kernel_rfl) ?_
    refine yc (cs := []) (E' := (sp 21 [(1, .ptr 0 [] 0), (3, .ptr 0 [] 0), (4, .agg (B_39 x_b.C)), (5, .bool true), (6, .bool true), (7, .ptr 0 [] 13), (8, bo (eI .i64) x_b.Mem)])) (H' := [(0, some ⟨43, (B_43 x_b)⟩)]) (n' := 1) (pre := (List.take 2 (List.drop 4 L_impl_BareOk_r1))) (L' := (List.drop 6 L_impl_BareOk_r1)) (by kernel_rfl) (fun K => by kernel_rfl) .nil ?_
    obtain ⟨v2, hv2, hh⟩ := bind_some hh
    refine ysg (op := (.call 16 [(.t 8)])) (d := (some 9)) (t := 6) (want := true) (os := (List.drop 7 L_impl_BareOk_r1)) (by kernel_rfl) (by kernel_rfl) (op_call (r := .bool v2) (v := .bool v2) (Hr := []) (n' := 1) (impl_MemOk_fn hv2) (clz_v (vs := [bo (eI .i64) x_b.Mem]) (by kernel_rfl) (clz_c (clo_same (clean_bor (cleans_fl cl_eI))) clz_n)) rfl rfl (by kernel_rfl) ?_)
    refine yc (cs := []) (E' := (sp 21 [(1, .ptr 0 [] 0), (3, .ptr 0 [] 0), (4, .agg (B_39 x_b.C)), (5, .bool true), (6, .bool true), (7, .ptr 0 [] 13), (8, bo (eI .i64) x_b.Mem), (9, .bool v2), (10, .bool v2), (11, .bool v2)])) (H' := [(0, some ⟨43, (B_43 x_b)⟩)]) (n' := 1) (pre := (List.take 2 (List.drop 7 L_impl_BareOk_r1))) (L' := (List.drop 9 L_impl_BareOk_r1)) (by kernel_rfl) (fun K => by kernel_rfl) .nil ?_
    rcases cond_some hh with ⟨hb, hh⟩ | ⟨hb, hh⟩
    · refine ybs (t := 9) hb (by kernel_rfl) ?_
      refine ybs (t := 10) hb (by kernel_rfl) ?_
      refine ybs (t := 11) hb (by kernel_rfl) ?_
      refine yc (cs := []) (E' := (sp 21 [(1, .ptr 0 [] 0), (3, .ptr 0 [] 0), (4, .agg (B_39 x_b.C)), (5, .bool true), (6, .bool true), (7, .ptr 0 [] 13), (8, bo (eI .i64) x_b.Mem), (9, .bool true), (10, .bool true), (11, .bool true), (12, .ptr 0 [] 14), (13, bo (eI .i64) x_b.In)])) (H' := [(0, some ⟨43, (B_43 x_b)⟩)]) (n' := 1) (pre := (List.take 2 (List.drop 9 L_impl_BareOk_r1))) (L' := (List.drop 11 L_impl_BareOk_r1)) (by kernel_rfl) (fun K => by kernel_rfl) .nil ?_
      obtain ⟨v3, hv3, hh⟩ := bind_some hh
      refine ysg (op := (.call 64 [(.t 13)])) (d := (some 14)) (t := 11) (want := true) (os := (List.drop 12 L_impl_BareOk_r1)) (by kernel_rfl) (by kernel_rfl) (op_call (r := .bool v3) (v := .bool v3) (Hr := []) (n' := 1) (impl_rowOk_fn hv3) (clz_v (vs := [bo (eI .i64) x_b.In]) (by kernel_rfl) (clz_c (clo_same (clean_bor (cleans_fl cl_eI))) clz_n)) rfl rfl (by kernel_rfl) ?_)
      refine yc (cs := []) (E' := (sp 21 [(1, .ptr 0 [] 0), (3, .ptr 0 [] 0), (4, .agg (B_39 x_b.C)), (5, .bool true), (6, .bool true), (7, .ptr 0 [] 13), (8, bo (eI .i64) x_b.Mem), (9, .bool true), (10, .bool true), (11, .bool true), (12, .ptr 0 [] 14), (13, bo (eI .i64) x_b.In), (14, .bool v3), (15, .bool v3), (16, .bool v3)])) (H' := [(0, some ⟨43, (B_43 x_b)⟩)]) (n' := 1) (pre := (List.take 2 (List.drop 12 L_impl_BareOk_r1))) (L' := (List.drop 14 L_impl_BareOk_r1)) (by kernel_rfl) (fun K => by kernel_rfl) .nil ?_
      rcases cond_some hh with ⟨hb, hh⟩ | ⟨hb, hh⟩
      · refine ybs (t := 14) hb (by kernel_rfl) ?_
        refine ybs (t := 15) hb (by kernel_rfl) ?_
        refine ybs (t := 16) hb (by kernel_rfl) ?_
        refine yc (cs := []) (E' := (sp 21 [(1, .ptr 0 [] 0), (3, .ptr 0 [] 0), (4, .agg (B_39 x_b.C)), (5, .bool true), (6, .bool true), (7, .ptr 0 [] 13), (8, bo (eI .i64) x_b.Mem), (9, .bool true), (10, .bool true), (11, .bool true), (12, .ptr 0 [] 14), (13, bo (eI .i64) x_b.In), (14, .bool true), (15, .bool true), (16, .bool true), (17, .ptr 0 [] 15), (18, bo (eI .i64) x_b.Out)])) (H' := [(0, some ⟨43, (B_43 x_b)⟩)]) (n' := 1) (pre := (List.take 2 (List.drop 14 L_impl_BareOk_r1))) (L' := (List.drop 16 L_impl_BareOk_r1)) (by kernel_rfl) (fun K => by kernel_rfl) .nil ?_
        obtain ⟨v4, hv4, hh⟩ := bind_some hh
        refine ysg (op := (.call 64 [(.t 18)])) (d := (some 19)) (t := 16) (want := true) (os := (List.drop 17 L_impl_BareOk_r1)) (by kernel_rfl) (by kernel_rfl) (op_call (r := .bool v4) (v := .bool v4) (Hr := []) (n' := 1) (impl_rowOk_fn hv4) (clz_v (vs := [bo (eI .i64) x_b.Out]) (by kernel_rfl) (clz_c (clo_same (clean_bor (cleans_fl cl_eI))) clz_n)) rfl rfl (by kernel_rfl) ?_)
        refine yct (cs := []) (E' := (sp 21 [(2, .bool v4)])) (H' := []) (n' := 1) (fun K => by kernel_rfl) .nil ?_
        refine Aw.ret ?_
        rw [some_some hh]
        exact gives (r' := .bool v4) (by kernel_rfl) (Ent.list [] rfl rfl (Nat.zero_le _) (rens_1 ren_b) hs_nil)
      · refine ybs (t := 14) hb (by kernel_rfl) ?_
        refine ybs (t := 15) hb (by kernel_rfl) ?_
        refine ybs (t := 16) hb (by kernel_rfl) ?_
        refine yct (cs := []) (E' := (sp 21 [(2, .bool false)])) (H' := []) (n' := 1) (fun K => by kernel_rfl) .nil ?_
        refine Aw.ret ?_
        rw [some_some hh]
        exact gives (r' := .bool false) (by kernel_rfl) (Ent.list [] rfl rfl (Nat.zero_le _) (rens_1 ren_b) hs_nil)
    · refine ybs (t := 9) hb (by kernel_rfl) ?_
      refine ybs (t := 10) hb (by kernel_rfl) ?_
      refine ybs (t := 11) hb (by kernel_rfl) ?_
      refine yct (cs := []) (E' := (sp 21 [(2, .bool false)])) (H' := []) (n' := 1) (fun K => by kernel_rfl) .nil ?_
      refine Aw.ret ?_
      rw [some_some hh]
      exact gives (r' := .bool false) (by kernel_rfl) (Ent.list [] rfl rfl (Nat.zero_le _) (rens_1 ren_b) hs_nil)
  · refine ybs (t := 5) hb (by kernel_rfl) ?_
    refine ybs (t := 6) hb (by kernel_rfl) ?_
    refine yct (cs := []) (E' := (sp 21 [(2, .bool false)])) (H' := []) (n' := 1) (fun K => by kernel_rfl) .nil ?_
    refine Aw.ret ?_
    rw [some_some hh]
    exact gives (r' := .bool false) (by kernel_rfl) (Ent.list [] rfl rfl (Nat.zero_le _) (rens_1 ren_b) hs_nil)

-- 17 loop.example/guesthouse/spec.MemOk
def L_spec_MemOk_r0 : List LOper := [⟨(some 2), (.mv (.c (.bool false))), none⟩]
def L_spec_MemOk_r1 : List LOper := [⟨(some 3), (.mv (.c (.int .i64 0))), none⟩]
def L_spec_MemOk_r2 : List LOper := [⟨(some 4), (.mv (.t 3)), none⟩, ⟨(some 5), (.mv (.t 0)), none⟩, ⟨(some 6), (.len (.t 5)), none⟩, ⟨(some 7), (.bin .lss (.t 4) (.t 6)), none⟩]
def L_spec_MemOk_r3 : List LOper := [⟨(some 10), (.mv (.t 0)), none⟩, ⟨(some 11), (.mv (.t 3)), none⟩, ⟨(some 12), (.iadr 1 (.t 10) (.t 11)), none⟩, ⟨(some 13), (.load false 1 (.t 12)), none⟩, ⟨(some 14), (.call 54 [(.t 13)]), none⟩, ⟨(some 15), (.un .not (.t 14)), none⟩]
def L_spec_MemOk_r4 : List LOper := [⟨(some 2), (.mv (.c (.bool false))), none⟩]
def L_spec_MemOk_r5 : List LOper := [⟨(some 8), (.mv (.t 3)), none⟩, ⟨(some 9), (.bin .add (.t 8) (.c (.int .i64 1))), none⟩, ⟨(some 3), (.mv (.t 9)), none⟩]
def L_spec_MemOk_l6 : LCode := (.seq (.seq (.reg false L_spec_MemOk_r2) (.cond (.t 7) .skip (.exit 0))) (.seq (.block 1 (.seq (.reg false L_spec_MemOk_r3) (.cond (.t 15) (.seq (.reg false L_spec_MemOk_r4) .ret) .skip))) (.reg false L_spec_MemOk_r5)))
def L_spec_MemOk_r7 : List LOper := [⟨(some 16), (.mv (.t 0)), none⟩, ⟨(some 17), (.len (.t 16)), none⟩, ⟨(some 18), (.bin .eql (.t 17) (.c (.int .i64 64))), none⟩, ⟨(some 2), (.mv (.t 18)), none⟩]
def L_spec_MemOk : LFun := ⟨19, [(.tmp 2)], (.seq (.reg false L_spec_MemOk_r0) (.seq (.seq (.reg false L_spec_MemOk_r1) (.block 0 (.loop L_spec_MemOk_l6))) (.seq (.reg false L_spec_MemOk_r7) .ret)))⟩
theorem low_spec_MemOk : lowFun Go.Proofs.Try.prog 17 = some L_spec_MemOk := by kernel_rfl
noncomputable def F_spec_MemOk_j1 (x_mem : List Int) (s1 : Unit) : Option Bool :=
  some (decide ((((List.length x_mem) : Nat) : Int) = (64 : Int)))
noncomputable def F_spec_MemOk_l2 (x_mem : List Int) (s2 : Int) : Option (LO Int (JO Unit Bool)) :=
  cond (decide (s2 < (((List.length x_mem) : Nat) : Int)))
    (grd ((0 : Int) ≤ s2 ∧ s2 < ((List.length x_mem : Nat) : Int)) (Option.bind (F_spec_WordOk (List.getD x_mem (Int.toNat s2) default)) fun v3 =>
      cond (!v3)
        (some (.ret (.out false)))
        (some (.next (w64 (s2 + (1 : Int)))))))
    (some (.ret (.go ())))
noncomputable def F_spec_MemOk (x_mem : List Int) : Option Bool :=
  Option.bind (Option.bind (iter (F_spec_MemOk_l2 x_mem) (0 : Int)) LO.val) fun j1 =>
    JO.run j1 (F_spec_MemOk_j1 x_mem)
theorem spec_MemOk_fn {x_mem : List Int} {R_ : Bool} (hh : F_spec_MemOk x_mem = some R_) : Fn Try.prog 17 [bo (eI .i64) x_mem] (.bool R_) := by
  unfold F_spec_MemOk at hh
  refine Fn.start low_spec_MemOk [0] (E := sp 19 [(0, bo (eI .i64) x_mem)]) (by kernel_rfl) (v := .bool R_) (Hr := []) (k := 0) (by kernel_rfl) ?_
  refine Aw.sreg [0] [] ?_
  refine yct (cs := []) (E' := (sp 19 [(0, bo (eI .i64) x_mem)])) (H' := []) (n' := 0) (fun K => by kernel_rfl) .nil ?_
  obtain ⟨j1, hh, hk1⟩ := bind_some hh
  refine Aw.join (S := Unit) (fun s1 => sp 19 [(0, bo (eI .i64) x_mem)]) (fun s1 => []) 0 (fun s1 => F_spec_MemOk_j1 x_mem s1 = some R_) ?_ ?_
  · intro s1 hh
    unfold F_spec_MemOk_j1 at hh
    refine Aw.sreg [2] [] ?_
    refine yct (cs := []) (E' := (sp 19 [(2, .bool (decide ((((List.length x_mem) : Nat) : Int) = (64 : Int))))])) (H' := []) (n' := 0) (fun K => by kernel_rfl) .nil ?_
    refine Aw.ret ?_
    rw [some_some hh]
    exact gives (r' := .bool (decide ((((List.length x_mem) : Nat) : Int) = (64 : Int)))) (by kernel_rfl) (Ent.list [] rfl rfl (Nat.zero_le _) (rens_1 ren_b) hs_nil)
  · intro Q1 hN1 hR1 hE1
    refine Aw.sreg [0, 3] [] ?_
    refine yct (cs := []) (E' := (sp 19 [(0, bo (eI .i64) x_mem), (3, .int .i64 (0 : Int))])) (H' := []) (n' := 0) (fun K => by kernel_rfl) .nil ?_
    refine Aw.block ?_
    obtain ⟨o2, hi2, hk2⟩ := bind_some hh
    refine Aw.iter (fun (s2 : Int) => sp 19 [(0, bo (eI .i64) x_mem), (3, .int .i64 s2)]) (fun (s2 : Int) => []) 0 hi2 (Ent.list2 [] rfl rfl (by decide) (rens_sp (by kernel_rfl) (rl_c (u := bo (eI .i64) x_mem) (by kernel_rfl) (ren_bor (rens_same (noRefs_fl nr_eI))) (rl_c (u := .int .i64 (0 : Int)) (by kernel_rfl) ren_i rl_n))) hs_nil) ?_
    intro s2 u2 Q2 hh hN2 hX2 hR2
    unfold F_spec_MemOk_l2 at hh
    refine Aw.seq ?_
    refine Aw.sreg [0, 3, 7] [] ?_
    refine yct (cs := []) (E' := (sp 19 [(0, bo (eI .i64) x_mem), (3, .int .i64 s2), (7, .bool (decide (s2 < (((List.length x_mem) : Nat) : Int))))])) (H' := []) (n' := 0) (fun K => by kernel_rfl) .nil ?_
    rcases cond_some hh with ⟨hb, hh⟩ | ⟨hb, hh⟩
    · refine Aw.condT (by kernel_rfl) hb ?_
      refine Aw.xskip (fun _ _ _ hq => then_m hq) ?_
      refine Aw.seq ?_
      refine Aw.block ?_
      refine Aw.sreg [0, 3, 15] [] ?_
      refine yc (cs := []) (E' := (sp 19 [(0, bo (eI .i64) x_mem), (3, .int .i64 s2), (7, .bool (decide (s2 < (((List.length x_mem) : Nat) : Int)))), (10, bo (eI .i64) x_mem), (11, .int .i64 s2)])) (H' := []) (n' := 0) (pre := (List.take 2 L_spec_MemOk_r3)) (L' := (List.drop 2 L_spec_MemOk_r3)) (by kernel_rfl) (fun K => by kernel_rfl) .nil ?_
      obtain ⟨hg24, hh⟩ := grd_some hh
      refine yso (op := (.iadr 1 (.t 10) (.t 11))) (d := (some 12)) (os := (List.drop 3 L_spec_MemOk_r3)) (by kernel_rfl) (op_iadr (kd := .i64) (c := (eI .i64)) (xs := x_mem) len_eI (by decide) (by kernel_rfl) (by kernel_rfl) hg24 ?_)
      refine yso (op := (.load false 1 (.t 12))) (d := (some 13)) (os := (List.drop 4 L_spec_MemOk_r3)) (by kernel_rfl) (op_loadb (c := (eI .i64)) (xs := x_mem) (o := Int.toNat s2 * 1) (i := (Int.toNat s2)) (off := 0) (v := .int .i64 (List.getD x_mem (Int.toNat s2) default)) len_eI (by kernel_rfl) (by omega) (by omega) (by decide) (by kernel_rfl) ?_)
      obtain ⟨v3, hv3, hh⟩ := bind_some hh
      refine yso (op := (.call 54 [(.t 13)])) (d := (some 14)) (os := (List.drop 5 L_spec_MemOk_r3)) (by kernel_rfl) (op_call (r := .bool v3) (v := .bool v3) (Hr := []) (n' := 0) (spec_WordOk_fn hv3) (clz_v (vs := [.int .i64 (List.getD x_mem (Int.toNat s2) default)]) (by kernel_rfl) (clz_c (clo_same rfl) clz_n)) rfl rfl (by kernel_rfl) ?_)
      refine yct (cs := []) (E' := (sp 19 [(0, bo (eI .i64) x_mem), (3, .int .i64 s2), (15, .bool (!v3))])) (H' := []) (n' := 0) (fun K => by kernel_rfl) .nil ?_
      rcases cond_some hh with ⟨hb, hh⟩ | ⟨hb, hh⟩
      · refine Aw.condT (by kernel_rfl) hb ?_
        refine Aw.sreg [2] [] ?_
        refine yct (cs := []) (E' := (sp 19 [(2, .bool false)])) (H' := []) (n' := 0) (fun K => by kernel_rfl) .nil ?_
        refine Aw.ret ?_
        refine blk_r (then_r ?_)
        refine hR2 _ _ _ _ (some_some hh) ?_
        intro hout
        rw [hout] at hk2
        refine blk_r ?_
        obtain rfl := some_some hk2
        refine hR1 _ _ _ ?_
        refine ?_
        rw [some_some hk1]
        exact gives (r' := .bool false) (by kernel_rfl) (Ent.list [] rfl rfl (Nat.zero_le _) (rens_1 ren_b) hs_nil)
      · refine Aw.condF (by kernel_rfl) hb ?_
        refine Aw.xskip (fun _ _ _ hq => blk_m (then_m hq)) ?_
        refine Aw.oreg ?_
        refine yce (cs := []) (E' := (sp 19 [(0, bo (eI .i64) x_mem), (3, .int .i64 (w64 (s2 + (1 : Int)))), (8, .int .i64 s2), (9, .int .i64 (w64 (s2 + (1 : Int)))), (15, .bool (!v3))])) (H' := []) (n' := 0) (fun K => by kernel_rfl) .nil ?_
        exact hN2 (w64 (s2 + (1 : Int))) _ _ _ (some_some hh) (Ent.list2 [] rfl rfl (by decide) (rens_sp (by kernel_rfl) (rl_c (u := bo (eI .i64) x_mem) (by kernel_rfl) (ren_bor (rens_same (noRefs_fl nr_eI))) (rl_c (u := .int .i64 (w64 (s2 + (1 : Int)))) (by kernel_rfl) ren_i rl_n))) hs_nil)
    · refine Aw.condF (by kernel_rfl) hb ?_
      refine Aw.exit ?_
      refine then_x ?_
      refine hX2 _ _ _ _ _ (some_some hh) ?_
      intro hout
      rw [hout] at hk2
      refine blk_x ?_
      obtain rfl := some_some hk2
      exact hN1 () _ _ _ hk1 (Ent.list2 [] rfl rfl (by decide) (rens_sp (by kernel_rfl) (rl_c (u := bo (eI .i64) x_mem) (by kernel_rfl) (ren_bor (rens_same (noRefs_fl nr_eI))) rl_n)) hs_nil)

-- 31 loop.example/guesthouse/spec.CoreOk
def L_spec_CoreOk_r0 : List LOper := [⟨(some 1), (.box 39 (.t 0)), none⟩, ⟨(some 2), (.mv (.c (.bool false))), none⟩]
def L_spec_CoreOk_r1 : List LOper := [⟨(some 3), (.mv (.c (.int .i64 0))), none⟩]
def L_spec_CoreOk_r2 : List LOper := [⟨(some 4), (.mv (.t 3)), none⟩, ⟨(some 5), (.fadr 0 (.t 1)), none⟩, ⟨(some 6), (.load false 1 (.t 5)), none⟩, ⟨(some 7), (.len (.t 6)), none⟩, ⟨(some 8), (.bin .lss (.t 4) (.t 7)), none⟩]
def L_spec_CoreOk_r3 : List LOper := [⟨(some 11), (.fadr 0 (.t 1)), none⟩, ⟨(some 12), (.load false 1 (.t 11)), none⟩, ⟨(some 13), (.mv (.t 3)), none⟩, ⟨(some 14), (.iadr 1 (.t 12) (.t 13)), none⟩, ⟨(some 15), (.load false 1 (.t 14)), none⟩, ⟨(some 16), (.call 54 [(.t 15)]), none⟩, ⟨(some 17), (.un .not (.t 16)), none⟩]
def L_spec_CoreOk_r4 : List LOper := [⟨(some 2), (.mv (.c (.bool false))), none⟩]
def L_spec_CoreOk_r5 : List LOper := [⟨(some 9), (.mv (.t 3)), none⟩, ⟨(some 10), (.bin .add (.t 9) (.c (.int .i64 1))), none⟩, ⟨(some 3), (.mv (.t 10)), none⟩]
def L_spec_CoreOk_l6 : LCode := (.seq (.seq (.reg false L_spec_CoreOk_r2) (.cond (.t 8) .skip (.exit 0))) (.seq (.block 1 (.seq (.reg false L_spec_CoreOk_r3) (.cond (.t 17) (.seq (.reg false L_spec_CoreOk_r4) .ret) .skip))) (.reg false L_spec_CoreOk_r5)))
def L_spec_CoreOk_r7 : List LOper := [⟨(some 18), (.fadr 0 (.t 1)), none⟩, ⟨(some 19), (.load false 1 (.t 18)), none⟩, ⟨(some 20), (.len (.t 19)), none⟩, ⟨(some 21), (.bin .eql (.t 20) (.c (.int .i64 4))), none⟩, ⟨(some 22), (.mv (.t 21)), none⟩, ⟨(some 23), (.fadr 1 (.t 1)), (some (22, true))⟩, ⟨(some 24), (.load false 1 (.t 23)), (some (22, true))⟩, ⟨(some 25), (.call 57 [(.t 24), (.c (.int .i64 0)), (.c (.int .i64 63))]), (some (22, true))⟩, ⟨(some 26), (.pick (.t 22) (.t 25) (.c (.bool false))), none⟩, ⟨(some 27), (.mv (.t 26)), none⟩, ⟨(some 28), (.fadr 3 (.t 1)), (some (27, true))⟩, ⟨(some 29), (.load false 1 (.t 28)), (some (27, true))⟩, ⟨(some 30), (.call 57 [(.t 29), (.c (.int .i64 0)), (.c (.int .i64 63))]), (some (27, true))⟩, ⟨(some 31), (.pick (.t 27) (.t 30) (.c (.bool false))), none⟩, ⟨(some 32), (.mv (.t 31)), none⟩, ⟨(some 33), (.fadr 4 (.t 1)), (some (32, true))⟩, ⟨(some 34), (.load false 1 (.t 33)), (some (32, true))⟩, ⟨(some 35), (.call 57 [(.t 34), (.c (.int .i64 0)), (.c (.int .i64 63))]), (some (32, true))⟩, ⟨(some 36), (.pick (.t 32) (.t 35) (.c (.bool false))), none⟩, ⟨(some 37), (.mv (.t 36)), none⟩, ⟨(some 38), (.fadr 7 (.t 1)), (some (37, true))⟩, ⟨(some 39), (.load false 1 (.t 38)), (some (37, true))⟩, ⟨(some 40), (.call 57 [(.t 39), (.c (.int .i64 0)), (.c (.int .i64 63))]), (some (37, true))⟩, ⟨(some 41), (.pick (.t 37) (.t 40) (.c (.bool false))), none⟩, ⟨(some 42), (.mv (.t 41)), none⟩, ⟨(some 43), (.fadr 2 (.t 1)), (some (42, true))⟩, ⟨(some 44), (.load false 1 (.t 43)), (some (42, true))⟩, ⟨(some 45), (.call 57 [(.t 44), (.c (.int .i64 (-1))), (.c (.int .i64 7))]), (some (42, true))⟩, ⟨(some 46), (.pick (.t 42) (.t 45) (.c (.bool false))), none⟩, ⟨(some 47), (.mv (.t 46)), none⟩, ⟨(some 48), (.fadr 6 (.t 1)), (some (47, true))⟩, ⟨(some 49), (.load false 1 (.t 48)), (some (47, true))⟩, ⟨(some 50), (.call 57 [(.t 49), (.c (.int .i64 0)), (.c (.int .i64 4))]), (some (47, true))⟩, ⟨(some 51), (.pick (.t 47) (.t 50) (.c (.bool false))), none⟩, ⟨(some 52), (.mv (.t 51)), none⟩, ⟨(some 53), (.fadr 8 (.t 1)), (some (52, true))⟩, ⟨(some 54), (.load false 1 (.t 53)), (some (52, true))⟩, ⟨(some 55), (.call 54 [(.t 54)]), (some (52, true))⟩, ⟨(some 56), (.pick (.t 52) (.t 55) (.c (.bool false))), none⟩, ⟨(some 2), (.mv (.t 56)), none⟩]
def L_spec_CoreOk : LFun := ⟨57, [(.tmp 2)], (.seq (.reg false L_spec_CoreOk_r0) (.seq (.seq (.reg false L_spec_CoreOk_r1) (.block 0 (.loop L_spec_CoreOk_l6))) (.seq (.reg false L_spec_CoreOk_r7) .ret)))⟩
theorem low_spec_CoreOk : lowFun Go.Proofs.Try.prog 31 = some L_spec_CoreOk := by kernel_rfl
noncomputable def F_spec_CoreOk_j1 (x_c : DCore) (s1 : Unit) : Option Bool :=
  cond (decide ((((List.length x_c.Regs) : Nat) : Int) = (4 : Int)))
    (Option.bind (F_spec_l1In x_c.Pc (0 : Int) (63 : Int)) fun v2 =>
    cond v2
      (Option.bind (F_spec_l1In x_c.Vector (0 : Int) (63 : Int)) fun v3 =>
      cond v3
        (Option.bind (F_spec_l1In x_c.Saved (0 : Int) (63 : Int)) fun v4 =>
        cond v4
          (Option.bind (F_spec_l1In x_c.Bad (0 : Int) (63 : Int)) fun v5 =>
          cond v5
            (Option.bind (F_spec_l1In x_c.Root (-1 : Int) (7 : Int)) fun v6 =>
            cond v6
              (Option.bind (F_spec_l1In x_c.Cause (0 : Int) (4 : Int)) fun v7 =>
              cond v7
                (Option.bind (F_spec_WordOk x_c.Timer) fun v8 =>
                some v8)
                (some false))
              (some false))
            (some false))
          (some false))
        (some false))
      (some false))
    (some false)
noncomputable def F_spec_CoreOk_l9 (x_c : DCore) (s9 : Int) : Option (LO Int (JO Unit Bool)) :=
  cond (decide (s9 < (((List.length x_c.Regs) : Nat) : Int)))
    (grd ((0 : Int) ≤ s9 ∧ s9 < ((List.length x_c.Regs : Nat) : Int)) (Option.bind (F_spec_WordOk (List.getD x_c.Regs (Int.toNat s9) default)) fun v10 =>
      cond (!v10)
        (some (.ret (.out false)))
        (some (.next (w64 (s9 + (1 : Int)))))))
    (some (.ret (.go ())))
noncomputable def F_spec_CoreOk (x_c : DCore) : Option Bool :=
  Option.bind (Option.bind (iter (F_spec_CoreOk_l9 x_c) (0 : Int)) LO.val) fun j1 =>
    JO.run j1 (F_spec_CoreOk_j1 x_c)
theorem spec_CoreOk_fn {x_c : DCore} {R_ : Bool} (hh : F_spec_CoreOk x_c = some R_) : Fn Try.prog 31 [.agg (B_39 x_c)] (.bool R_) := by
  unfold F_spec_CoreOk at hh
  refine Fn.start low_spec_CoreOk [0] (E := sp 57 [(0, .agg (B_39 x_c))]) (by kernel_rfl) (v := .bool R_) (Hr := []) (k := 0) (by kernel_rfl) ?_
  refine Aw.sreg [1] [0] ?_
  refine yct (cs := []) (E' := (sp 57 [(1, .ptr 0 [] 0)])) (H' := [(0, some ⟨39, (B_39 x_c)⟩)]) (n' := 1) (fun K => by kernel_rfl) .nil ?_
  obtain ⟨j1, hh, hk1⟩ := bind_some hh
  refine Aw.join (S := Unit) (fun s1 => sp 57 [(1, .ptr 0 [] 0)]) (fun s1 => [(0, some ⟨39, (B_39 x_c)⟩)]) 1 (fun s1 => F_spec_CoreOk_j1 x_c s1 = some R_) ?_ ?_
  · intro s1 hh
    unfold F_spec_CoreOk_j1 at hh
    refine Aw.sreg [2] [] ?_
    refine yc (cs := []) (E' := (sp 57 [(1, .ptr 0 [] 0), (18, .ptr 0 [] 0), (19, bo (eI .i64) x_c.Regs), (20, .int .i64 (((List.length x_c.Regs) : Nat) : Int)), (21, .bool (decide ((((List.length x_c.Regs) : Nat) : Int) = (4 : Int)))), (22, .bool (decide ((((List.length x_c.Regs) : Nat) : Int) = (4 : Int))))])) (H' := [(0, some ⟨39, (B_39 x_c)⟩)]) (n' := 1) (pre := (List.take 5 L_spec_CoreOk_r7)) (L' := (List.drop 5 L_spec_CoreOk_r7)) (by kernel_rfl) (fun K => by kernel_rfl) .nil ?_
    rcases cond_some hh with ⟨hb, hh⟩ | ⟨hb, hh⟩
    · refine ybs (t := 21) hb (by kernel_rfl) ?_
      refine ybs (t := 22) hb (by kernel_rfl) ?_
      refine yc (cs := []) (E' := (sp 57 [(1, .ptr 0 [] 0), (18, .ptr 0 [] 0), (19, bo (eI .i64) x_c.Regs), (20, .int .i64 (((List.length x_c.Regs) : Nat) : Int)), (21, .bool true), (22, .bool true), (23, .ptr 0 [] 1), (24, .int .i64 x_c.Pc)])) (H' := [(0, some ⟨39, (B_39 x_c)⟩)]) (n' := 1) (pre := (List.take 2 (List.drop 5 L_spec_CoreOk_r7))) (L' := (List.drop 7 L_spec_CoreOk_r7)) (by kernel_rfl) (fun K => by kernel_rfl) .nil ?_
      obtain ⟨v2, hv2, hh⟩ := bind_some hh
      refine ysg (op := (.call 57 [(.t 24), (.c (.int .i64 0)), (.c (.int .i64 63))])) (d := (some 25)) (t := 22) (want := true) (os := (List.drop 8 L_spec_CoreOk_r7)) (by kernel_rfl) (by kernel_rfl) (op_call (r := .bool v2) (v := .bool v2) (Hr := []) (n' := 1) (spec_l1In_fn hv2) (clz_v (vs := [.int .i64 x_c.Pc, .int .i64 (0 : Int), .int .i64 (63 : Int)]) (by kernel_rfl) (clz_c (clo_same rfl) (clz_c (clo_same rfl) (clz_c (clo_same rfl) clz_n)))) rfl rfl (by kernel_rfl) ?_)
      refine yc (cs := []) (E' := (sp 57 [(1, .ptr 0 [] 0), (18, .ptr 0 [] 0), (19, bo (eI .i64) x_c.Regs), (20, .int .i64 (((List.length x_c.Regs) : Nat) : Int)), (21, .bool true), (22, .bool true), (23, .ptr 0 [] 1), (24, .int .i64 x_c.Pc), (25, .bool v2), (26, .bool v2), (27, .bool v2)])) (H' := [(0, some ⟨39, (B_39 x_c)⟩)]) (n' := 1) (pre := (List.take 2 (List.drop 8 L_spec_CoreOk_r7))) (L' := (List.drop 10 L_spec_CoreOk_r7)) (by kernel_rfl) (fun K => by kernel_rfl) .nil ?_
      rcases cond_some hh with ⟨hb, hh⟩ | ⟨hb, hh⟩
      · refine ybs (t := 25) hb (by kernel_rfl) ?_
        refine ybs (t := 26) hb (by kernel_rfl) ?_
        refine ybs (t := 27) hb (by kernel_rfl) ?_
        refine yc (cs := []) (E' := (sp 57 [(1, .ptr 0 [] 0), (18, .ptr 0 [] 0), (19, bo (eI .i64) x_c.Regs), (20, .int .i64 (((List.length x_c.Regs) : Nat) : Int)), (21, .bool true), (22, .bool true), (23, .ptr 0 [] 1), (24, .int .i64 x_c.Pc), (25, .bool true), (26, .bool true), (27, .bool true), (28, .ptr 0 [] 3), (29, .int .i64 x_c.Vector)])) (H' := [(0, some ⟨39, (B_39 x_c)⟩)]) (n' := 1) (pre := (List.take 2 (List.drop 10 L_spec_CoreOk_r7))) (L' := (List.drop 12 L_spec_CoreOk_r7)) (by kernel_rfl) (fun K => by kernel_rfl) .nil ?_
        obtain ⟨v3, hv3, hh⟩ := bind_some hh
        refine ysg (op := (.call 57 [(.t 29), (.c (.int .i64 0)), (.c (.int .i64 63))])) (d := (some 30)) (t := 27) (want := true) (os := (List.drop 13 L_spec_CoreOk_r7)) (by kernel_rfl) (by kernel_rfl) (op_call (r := .bool v3) (v := .bool v3) (Hr := []) (n' := 1) (spec_l1In_fn hv3) (clz_v (vs := [.int .i64 x_c.Vector, .int .i64 (0 : Int), .int .i64 (63 : Int)]) (by kernel_rfl) (clz_c (clo_same rfl) (clz_c (clo_same rfl) (clz_c (clo_same rfl) clz_n)))) rfl rfl (by kernel_rfl) ?_)
        refine yc (cs := []) (E' := (sp 57 [(1, .ptr 0 [] 0), (18, .ptr 0 [] 0), (19, bo (eI .i64) x_c.Regs), (20, .int .i64 (((List.length x_c.Regs) : Nat) : Int)), (21, .bool true), (22, .bool true), (23, .ptr 0 [] 1), (24, .int .i64 x_c.Pc), (25, .bool true), (26, .bool true), (27, .bool true), (28, .ptr 0 [] 3), (29, .int .i64 x_c.Vector), (30, .bool v3), (31, .bool v3), (32, .bool v3)])) (H' := [(0, some ⟨39, (B_39 x_c)⟩)]) (n' := 1) (pre := (List.take 2 (List.drop 13 L_spec_CoreOk_r7))) (L' := (List.drop 15 L_spec_CoreOk_r7)) (by kernel_rfl) (fun K => by kernel_rfl) .nil ?_
        rcases cond_some hh with ⟨hb, hh⟩ | ⟨hb, hh⟩
        · refine ybs (t := 30) hb (by kernel_rfl) ?_
          refine ybs (t := 31) hb (by kernel_rfl) ?_
          refine ybs (t := 32) hb (by kernel_rfl) ?_
          refine yc (cs := []) (E' := (sp 57 [(1, .ptr 0 [] 0), (18, .ptr 0 [] 0), (19, bo (eI .i64) x_c.Regs), (20, .int .i64 (((List.length x_c.Regs) : Nat) : Int)), (21, .bool true), (22, .bool true), (23, .ptr 0 [] 1), (24, .int .i64 x_c.Pc), (25, .bool true), (26, .bool true), (27, .bool true), (28, .ptr 0 [] 3), (29, .int .i64 x_c.Vector), (30, .bool true), (31, .bool true), (32, .bool true), (33, .ptr 0 [] 4), (34, .int .i64 x_c.Saved)])) (H' := [(0, some ⟨39, (B_39 x_c)⟩)]) (n' := 1) (pre := (List.take 2 (List.drop 15 L_spec_CoreOk_r7))) (L' := (List.drop 17 L_spec_CoreOk_r7)) (by kernel_rfl) (fun K => by kernel_rfl) .nil ?_
          obtain ⟨v4, hv4, hh⟩ := bind_some hh
          refine ysg (op := (.call 57 [(.t 34), (.c (.int .i64 0)), (.c (.int .i64 63))])) (d := (some 35)) (t := 32) (want := true) (os := (List.drop 18 L_spec_CoreOk_r7)) (by kernel_rfl) (by kernel_rfl) (op_call (r := .bool v4) (v := .bool v4) (Hr := []) (n' := 1) (spec_l1In_fn hv4) (clz_v (vs := [.int .i64 x_c.Saved, .int .i64 (0 : Int), .int .i64 (63 : Int)]) (by kernel_rfl) (clz_c (clo_same rfl) (clz_c (clo_same rfl) (clz_c (clo_same rfl) clz_n)))) rfl rfl (by kernel_rfl) ?_)
          refine yc (cs := []) (E' := (sp 57 [(1, .ptr 0 [] 0), (18, .ptr 0 [] 0), (19, bo (eI .i64) x_c.Regs), (20, .int .i64 (((List.length x_c.Regs) : Nat) : Int)), (21, .bool true), (22, .bool true), (23, .ptr 0 [] 1), (24, .int .i64 x_c.Pc), (25, .bool true), (26, .bool true), (27, .bool true), (28, .ptr 0 [] 3), (29, .int .i64 x_c.Vector), (30, .bool true), (31, .bool true), (32, .bool true), (33, .ptr 0 [] 4), (34, .int .i64 x_c.Saved), (35, .bool v4), (36, .bool v4), (37, .bool v4)])) (H' := [(0, some ⟨39, (B_39 x_c)⟩)]) (n' := 1) (pre := (List.take 2 (List.drop 18 L_spec_CoreOk_r7))) (L' := (List.drop 20 L_spec_CoreOk_r7)) (by kernel_rfl) (fun K => by kernel_rfl) .nil ?_
          rcases cond_some hh with ⟨hb, hh⟩ | ⟨hb, hh⟩
          · refine ybs (t := 35) hb (by kernel_rfl) ?_
            refine ybs (t := 36) hb (by kernel_rfl) ?_
            refine ybs (t := 37) hb (by kernel_rfl) ?_
            refine yc (cs := []) (E' := (sp 57 [(1, .ptr 0 [] 0), (18, .ptr 0 [] 0), (19, bo (eI .i64) x_c.Regs), (20, .int .i64 (((List.length x_c.Regs) : Nat) : Int)), (21, .bool true), (22, .bool true), (23, .ptr 0 [] 1), (24, .int .i64 x_c.Pc), (25, .bool true), (26, .bool true), (27, .bool true), (28, .ptr 0 [] 3), (29, .int .i64 x_c.Vector), (30, .bool true), (31, .bool true), (32, .bool true), (33, .ptr 0 [] 4), (34, .int .i64 x_c.Saved), (35, .bool true), (36, .bool true), (37, .bool true), (38, .ptr 0 [] 7), (39, .int .i64 x_c.Bad)])) (H' := [(0, some ⟨39, (B_39 x_c)⟩)]) (n' := 1) (pre := (List.take 2 (List.drop 20 L_spec_CoreOk_r7))) (L' := (List.drop 22 L_spec_CoreOk_r7)) (by kernel_rfl) (fun K => by kernel_rfl) .nil ?_
            obtain ⟨v5, hv5, hh⟩ := bind_some hh
            refine ysg (op := (.call 57 [(.t 39), (.c (.int .i64 0)), (.c (.int .i64 63))])) (d := (some 40)) (t := 37) (want := true) (os := (List.drop 23 L_spec_CoreOk_r7)) (by kernel_rfl) (by kernel_rfl) (op_call (r := .bool v5) (v := .bool v5) (Hr := []) (n' := 1) (spec_l1In_fn hv5) (clz_v (vs := [.int .i64 x_c.Bad, .int .i64 (0 : Int), .int .i64 (63 : Int)]) (by kernel_rfl) (clz_c (clo_same rfl) (clz_c (clo_same rfl) (clz_c (clo_same rfl) clz_n)))) rfl rfl (by kernel_rfl) ?_)
            refine yc (cs := []) (E' := (sp 57 [(1, .ptr 0 [] 0), (18, .ptr 0 [] 0), (19, bo (eI .i64) x_c.Regs), (20, .int .i64 (((List.length x_c.Regs) : Nat) : Int)), (21, .bool true), (22, .bool true), (23, .ptr 0 [] 1), (24, .int .i64 x_c.Pc), (25, .bool true), (26, .bool true), (27, .bool true), (28, .ptr 0 [] 3), (29, .int .i64 x_c.Vector), (30, .bool true), (31, .bool true), (32, .bool true), (33, .ptr 0 [] 4), (34, .int .i64 x_c.Saved), (35, .bool true), (36, .bool true), (37, .bool true), (38, .ptr 0 [] 7), (39, .int .i64 x_c.Bad), (40, .bool v5), (41, .bool v5), (42, .bool v5)])) (H' := [(0, some ⟨39, (B_39 x_c)⟩)]) (n' := 1) (pre := (List.take 2 (List.drop 23 L_spec_CoreOk_r7))) (L' := (List.drop 25 L_spec_CoreOk_r7)) (by kernel_rfl) (fun K => by kernel_rfl) .nil ?_
            rcases cond_some hh with ⟨hb, hh⟩ | ⟨hb, hh⟩
            · refine ybs (t := 40) hb (by kernel_rfl) ?_
              refine ybs (t := 41) hb (by kernel_rfl) ?_
              refine ybs (t := 42) hb (by kernel_rfl) ?_
              refine yc (cs := []) (E' := (sp 57 [(1, .ptr 0 [] 0), (18, .ptr 0 [] 0), (19, bo (eI .i64) x_c.Regs), (20, .int .i64 (((List.length x_c.Regs) : Nat) : Int)), (21, .bool true), (22, .bool true), (23, .ptr 0 [] 1), (24, .int .i64 x_c.Pc), (25, .bool true), (26, .bool true), (27, .bool true), (28, .ptr 0 [] 3), (29, .int .i64 x_c.Vector), (30, .bool true), (31, .bool true), (32, .bool true), (33, .ptr 0 [] 4), (34, .int .i64 x_c.Saved), (35, .bool true), (36, .bool true), (37, .bool true), (38, .ptr 0 [] 7), (39, .int .i64 x_c.Bad), (40, .bool true), (41, .bool true), (42, .bool true), (43, .ptr 0 [] 2), (44, .int .i64 x_c.Root)])) (H' := [(0, some ⟨39, (B_39 x_c)⟩)]) (n' := 1) (pre := (List.take 2 (List.drop 25 L_spec_CoreOk_r7))) (L' := (List.drop 27 L_spec_CoreOk_r7)) (by kernel_rfl) (fun K => by kernel_rfl) .nil ?_
              obtain ⟨v6, hv6, hh⟩ := bind_some hh
              refine ysg (op := (.call 57 [(.t 44), (.c (.int .i64 (-1))), (.c (.int .i64 7))])) (d := (some 45)) (t := 42) (want := true) (os := (List.drop 28 L_spec_CoreOk_r7)) (by kernel_rfl) (by kernel_rfl) (op_call (r := .bool v6) (v := .bool v6) (Hr := []) (n' := 1) (spec_l1In_fn hv6) (clz_v (vs := [.int .i64 x_c.Root, .int .i64 (-1 : Int), .int .i64 (7 : Int)]) (by kernel_rfl) (clz_c (clo_same rfl) (clz_c (clo_same rfl) (clz_c (clo_same rfl) clz_n)))) rfl rfl (by kernel_rfl) ?_)
              refine yc (cs := []) (E' := (sp 57 [(1, .ptr 0 [] 0), (18, .ptr 0 [] 0), (19, bo (eI .i64) x_c.Regs), (20, .int .i64 (((List.length x_c.Regs) : Nat) : Int)), (21, .bool true), (22, .bool true), (23, .ptr 0 [] 1), (24, .int .i64 x_c.Pc), (25, .bool true), (26, .bool true), (27, .bool true), (28, .ptr 0 [] 3), (29, .int .i64 x_c.Vector), (30, .bool true), (31, .bool true), (32, .bool true), (33, .ptr 0 [] 4), (34, .int .i64 x_c.Saved), (35, .bool true), (36, .bool true), (37, .bool true), (38, .ptr 0 [] 7), (39, .int .i64 x_c.Bad), (40, .bool true), (41, .bool true), (42, .bool true), (43, .ptr 0 [] 2), (44, .int .i64 x_c.Root), (45, .bool v6), (46, .bool v6), (47, .bool v6)])) (H' := [(0, some ⟨39, (B_39 x_c)⟩)]) (n' := 1) (pre := (List.take 2 (List.drop 28 L_spec_CoreOk_r7))) (L' := (List.drop 30 L_spec_CoreOk_r7)) (by kernel_rfl) (fun K => by kernel_rfl) .nil ?_
              rcases cond_some hh with ⟨hb, hh⟩ | ⟨hb, hh⟩
              · refine ybs (t := 45) hb (by kernel_rfl) ?_
                refine ybs (t := 46) hb (by kernel_rfl) ?_
                refine ybs (t := 47) hb (by kernel_rfl) ?_
                refine yc (cs := []) (E' := (sp 57 [(1, .ptr 0 [] 0), (18, .ptr 0 [] 0), (19, bo (eI .i64) x_c.Regs), (20, .int .i64 (((List.length x_c.Regs) : Nat) : Int)), (21, .bool true), (22, .bool true), (23, .ptr 0 [] 1), (24, .int .i64 x_c.Pc), (25, .bool true), (26, .bool true), (27, .bool true), (28, .ptr 0 [] 3), (29, .int .i64 x_c.Vector), (30, .bool true), (31, .bool true), (32, .bool true), (33, .ptr 0 [] 4), (34, .int .i64 x_c.Saved), (35, .bool true), (36, .bool true), (37, .bool true), (38, .ptr 0 [] 7), (39, .int .i64 x_c.Bad), (40, .bool true), (41, .bool true), (42, .bool true), (43, .ptr 0 [] 2), (44, .int .i64 x_c.Root), (45, .bool true), (46, .bool true), (47, .bool true), (48, .ptr 0 [] 6), (49, .int .i64 x_c.Cause)])) (H' := [(0, some ⟨39, (B_39 x_c)⟩)]) (n' := 1) (pre := (List.take 2 (List.drop 30 L_spec_CoreOk_r7))) (L' := (List.drop 32 L_spec_CoreOk_r7)) (by kernel_rfl) (fun K => by kernel_rfl) .nil ?_
                obtain ⟨v7, hv7, hh⟩ := bind_some hh
                refine ysg (op := (.call 57 [(.t 49), (.c (.int .i64 0)), (.c (.int .i64 4))])) (d := (some 50)) (t := 47) (want := true) (os := (List.drop 33 L_spec_CoreOk_r7)) (by kernel_rfl) (by kernel_rfl) (op_call (r := .bool v7) (v := .bool v7) (Hr := []) (n' := 1) (spec_l1In_fn hv7) (clz_v (vs := [.int .i64 x_c.Cause, .int .i64 (0 : Int), .int .i64 (4 : Int)]) (by kernel_rfl) (clz_c (clo_same rfl) (clz_c (clo_same rfl) (clz_c (clo_same rfl) clz_n)))) rfl rfl (by kernel_rfl) ?_)
                refine yc (cs := []) (E' := (sp 57 [(1, .ptr 0 [] 0), (18, .ptr 0 [] 0), (19, bo (eI .i64) x_c.Regs), (20, .int .i64 (((List.length x_c.Regs) : Nat) : Int)), (21, .bool true), (22, .bool true), (23, .ptr 0 [] 1), (24, .int .i64 x_c.Pc), (25, .bool true), (26, .bool true), (27, .bool true), (28, .ptr 0 [] 3), (29, .int .i64 x_c.Vector), (30, .bool true), (31, .bool true), (32, .bool true), (33, .ptr 0 [] 4), (34, .int .i64 x_c.Saved), (35, .bool true), (36, .bool true), (37, .bool true), (38, .ptr 0 [] 7), (39, .int .i64 x_c.Bad), (40, .bool true), (41, .bool true), (42, .bool true), (43, .ptr 0 [] 2), (44, .int .i64 x_c.Root), (45, .bool true), (46, .bool true), (47, .bool true), (48, .ptr 0 [] 6), (49, .int .i64 x_c.Cause), (50, .bool v7), (51, .bool v7), (52, .bool v7)])) (H' := [(0, some ⟨39, (B_39 x_c)⟩)]) (n' := 1) (pre := (List.take 2 (List.drop 33 L_spec_CoreOk_r7))) (L' := (List.drop 35 L_spec_CoreOk_r7)) (by kernel_rfl) (fun K => by kernel_rfl) .nil ?_
                rcases cond_some hh with ⟨hb, hh⟩ | ⟨hb, hh⟩
                · refine ybs (t := 50) hb (by kernel_rfl) ?_
                  refine ybs (t := 51) hb (by kernel_rfl) ?_
                  refine ybs (t := 52) hb (by kernel_rfl) ?_
                  refine yc (cs := []) (E' := (sp 57 [(1, .ptr 0 [] 0), (18, .ptr 0 [] 0), (19, bo (eI .i64) x_c.Regs), (20, .int .i64 (((List.length x_c.Regs) : Nat) : Int)), (21, .bool true), (22, .bool true), (23, .ptr 0 [] 1), (24, .int .i64 x_c.Pc), (25, .bool true), (26, .bool true), (27, .bool true), (28, .ptr 0 [] 3), (29, .int .i64 x_c.Vector), (30, .bool true), (31, .bool true), (32, .bool true), (33, .ptr 0 [] 4), (34, .int .i64 x_c.Saved), (35, .bool true), (36, .bool true), (37, .bool true), (38, .ptr 0 [] 7), (39, .int .i64 x_c.Bad), (40, .bool true), (41, .bool true), (42, .bool true), (43, .ptr 0 [] 2), (44, .int .i64 x_c.Root), (45, .bool true), (46, .bool true), (47, .bool true), (48, .ptr 0 [] 6), (49, .int .i64 x_c.Cause), (50, .bool true), (51, .bool true), (52, .bool true), (53, .ptr 0 [] 8), (54, .int .i64 x_c.Timer)])) (H' := [(0, some ⟨39, (B_39 x_c)⟩)]) (n' := 1) (pre := (List.take 2 (List.drop 35 L_spec_CoreOk_r7))) (L' := (List.drop 37 L_spec_CoreOk_r7)) (by kernel_rfl) (fun K => by kernel_rfl) .nil ?_
                  obtain ⟨v8, hv8, hh⟩ := bind_some hh
                  refine ysg (op := (.call 54 [(.t 54)])) (d := (some 55)) (t := 52) (want := true) (os := (List.drop 38 L_spec_CoreOk_r7)) (by kernel_rfl) (by kernel_rfl) (op_call (r := .bool v8) (v := .bool v8) (Hr := []) (n' := 1) (spec_WordOk_fn hv8) (clz_v (vs := [.int .i64 x_c.Timer]) (by kernel_rfl) (clz_c (clo_same rfl) clz_n)) rfl rfl (by kernel_rfl) ?_)
                  refine yct (cs := []) (E' := (sp 57 [(2, .bool v8)])) (H' := []) (n' := 1) (fun K => by kernel_rfl) .nil ?_
                  refine Aw.ret ?_
                  rw [some_some hh]
                  exact gives (r' := .bool v8) (by kernel_rfl) (Ent.list [] rfl rfl (Nat.zero_le _) (rens_1 ren_b) hs_nil)
                · refine ybs (t := 50) hb (by kernel_rfl) ?_
                  refine ybs (t := 51) hb (by kernel_rfl) ?_
                  refine ybs (t := 52) hb (by kernel_rfl) ?_
                  refine yct (cs := []) (E' := (sp 57 [(2, .bool false)])) (H' := []) (n' := 1) (fun K => by kernel_rfl) .nil ?_
                  refine Aw.ret ?_
                  rw [some_some hh]
                  exact gives (r' := .bool false) (by kernel_rfl) (Ent.list [] rfl rfl (Nat.zero_le _) (rens_1 ren_b) hs_nil)
              · refine ybs (t := 45) hb (by kernel_rfl) ?_
                refine ybs (t := 46) hb (by kernel_rfl) ?_
                refine ybs (t := 47) hb (by kernel_rfl) ?_
                refine yct (cs := []) (E' := (sp 57 [(2, .bool false)])) (H' := []) (n' := 1) (fun K => by kernel_rfl) .nil ?_
                refine Aw.ret ?_
                rw [some_some hh]
                exact gives (r' := .bool false) (by kernel_rfl) (Ent.list [] rfl rfl (Nat.zero_le _) (rens_1 ren_b) hs_nil)
            · refine ybs (t := 40) hb (by kernel_rfl) ?_
              refine ybs (t := 41) hb (by kernel_rfl) ?_
              refine ybs (t := 42) hb (by kernel_rfl) ?_
              refine yct (cs := []) (E' := (sp 57 [(2, .bool false)])) (H' := []) (n' := 1) (fun K => by kernel_rfl) .nil ?_
              refine Aw.ret ?_
              rw [some_some hh]
              exact gives (r' := .bool false) (by kernel_rfl) (Ent.list [] rfl rfl (Nat.zero_le _) (rens_1 ren_b) hs_nil)
          · refine ybs (t := 35) hb (by kernel_rfl) ?_
            refine ybs (t := 36) hb (by kernel_rfl) ?_
            refine ybs (t := 37) hb (by kernel_rfl) ?_
            refine yct (cs := []) (E' := (sp 57 [(2, .bool false)])) (H' := []) (n' := 1) (fun K => by kernel_rfl) .nil ?_
            refine Aw.ret ?_
            rw [some_some hh]
            exact gives (r' := .bool false) (by kernel_rfl) (Ent.list [] rfl rfl (Nat.zero_le _) (rens_1 ren_b) hs_nil)
        · refine ybs (t := 30) hb (by kernel_rfl) ?_
          refine ybs (t := 31) hb (by kernel_rfl) ?_
          refine ybs (t := 32) hb (by kernel_rfl) ?_
          refine yct (cs := []) (E' := (sp 57 [(2, .bool false)])) (H' := []) (n' := 1) (fun K => by kernel_rfl) .nil ?_
          refine Aw.ret ?_
          rw [some_some hh]
          exact gives (r' := .bool false) (by kernel_rfl) (Ent.list [] rfl rfl (Nat.zero_le _) (rens_1 ren_b) hs_nil)
      · refine ybs (t := 25) hb (by kernel_rfl) ?_
        refine ybs (t := 26) hb (by kernel_rfl) ?_
        refine ybs (t := 27) hb (by kernel_rfl) ?_
        refine yct (cs := []) (E' := (sp 57 [(2, .bool false)])) (H' := []) (n' := 1) (fun K => by kernel_rfl) .nil ?_
        refine Aw.ret ?_
        rw [some_some hh]
        exact gives (r' := .bool false) (by kernel_rfl) (Ent.list [] rfl rfl (Nat.zero_le _) (rens_1 ren_b) hs_nil)
    · refine ybs (t := 21) hb (by kernel_rfl) ?_
      refine ybs (t := 22) hb (by kernel_rfl) ?_
      refine yct (cs := []) (E' := (sp 57 [(2, .bool false)])) (H' := []) (n' := 1) (fun K => by kernel_rfl) .nil ?_
      refine Aw.ret ?_
      rw [some_some hh]
      exact gives (r' := .bool false) (by kernel_rfl) (Ent.list [] rfl rfl (Nat.zero_le _) (rens_1 ren_b) hs_nil)
  · intro Q1 hN1 hR1 hE1
    refine Aw.sreg [1, 3] [0] ?_
    refine yct (cs := []) (E' := (sp 57 [(1, .ptr 0 [] 0), (3, .int .i64 (0 : Int))])) (H' := [(0, some ⟨39, (B_39 x_c)⟩)]) (n' := 1) (fun K => by kernel_rfl) .nil ?_
    refine Aw.block ?_
    obtain ⟨o9, hi9, hk9⟩ := bind_some hh
    refine Aw.iter (fun (s9 : Int) => sp 57 [(1, .ptr 0 [] 0), (3, .int .i64 s9)]) (fun (s9 : Int) => [(0, some ⟨39, (B_39 x_c)⟩)]) 1 hi9 (Ent.list2 [some 0] rfl rfl (by decide) (rens_sp (by kernel_rfl) (rl_c (u := .ptr 0 [] 0) (by kernel_rfl) (ren_p (by decide) rfl) (rl_c (u := .int .i64 (0 : Int)) (by kernel_rfl) ren_i rl_n))) (hs_as (t := ⟨39, (B_39 x_c)⟩) (by decide) rfl (by kernel_rfl) rfl (rens_same (nr_B_39 _)) hs_nil)) ?_
    intro s9 u9 Q9 hh hN9 hX9 hR9
    unfold F_spec_CoreOk_l9 at hh
    refine Aw.seq ?_
    refine Aw.sreg [1, 3, 8] [0] ?_
    refine yct (cs := []) (E' := (sp 57 [(1, .ptr 0 [] 0), (3, .int .i64 s9), (8, .bool (decide (s9 < (((List.length x_c.Regs) : Nat) : Int))))])) (H' := [(0, some ⟨39, (B_39 x_c)⟩)]) (n' := 1) (fun K => by kernel_rfl) .nil ?_
    rcases cond_some hh with ⟨hb, hh⟩ | ⟨hb, hh⟩
    · refine Aw.condT (by kernel_rfl) hb ?_
      refine Aw.xskip (fun _ _ _ hq => then_m hq) ?_
      refine Aw.seq ?_
      refine Aw.block ?_
      refine Aw.sreg [1, 3, 17] [0] ?_
      refine yc (cs := []) (E' := (sp 57 [(1, .ptr 0 [] 0), (3, .int .i64 s9), (8, .bool (decide (s9 < (((List.length x_c.Regs) : Nat) : Int)))), (11, .ptr 0 [] 0), (12, bo (eI .i64) x_c.Regs), (13, .int .i64 s9)])) (H' := [(0, some ⟨39, (B_39 x_c)⟩)]) (n' := 1) (pre := (List.take 3 L_spec_CoreOk_r3)) (L' := (List.drop 3 L_spec_CoreOk_r3)) (by kernel_rfl) (fun K => by kernel_rfl) .nil ?_
      obtain ⟨hg24, hh⟩ := grd_some hh
      refine yso (op := (.iadr 1 (.t 12) (.t 13))) (d := (some 14)) (os := (List.drop 4 L_spec_CoreOk_r3)) (by kernel_rfl) (op_iadr (kd := .i64) (c := (eI .i64)) (xs := x_c.Regs) len_eI (by decide) (by kernel_rfl) (by kernel_rfl) hg24 ?_)
      refine yso (op := (.load false 1 (.t 14))) (d := (some 15)) (os := (List.drop 5 L_spec_CoreOk_r3)) (by kernel_rfl) (op_loadb (c := (eI .i64)) (xs := x_c.Regs) (o := Int.toNat s9 * 1) (i := (Int.toNat s9)) (off := 0) (v := .int .i64 (List.getD x_c.Regs (Int.toNat s9) default)) len_eI (by kernel_rfl) (by omega) (by omega) (by decide) (by kernel_rfl) ?_)
      obtain ⟨v10, hv10, hh⟩ := bind_some hh
      refine yso (op := (.call 54 [(.t 15)])) (d := (some 16)) (os := (List.drop 6 L_spec_CoreOk_r3)) (by kernel_rfl) (op_call (r := .bool v10) (v := .bool v10) (Hr := []) (n' := 1) (spec_WordOk_fn hv10) (clz_v (vs := [.int .i64 (List.getD x_c.Regs (Int.toNat s9) default)]) (by kernel_rfl) (clz_c (clo_same rfl) clz_n)) rfl rfl (by kernel_rfl) ?_)
      refine yct (cs := []) (E' := (sp 57 [(1, .ptr 0 [] 0), (3, .int .i64 s9), (17, .bool (!v10))])) (H' := [(0, some ⟨39, (B_39 x_c)⟩)]) (n' := 1) (fun K => by kernel_rfl) .nil ?_
      rcases cond_some hh with ⟨hb, hh⟩ | ⟨hb, hh⟩
      · refine Aw.condT (by kernel_rfl) hb ?_
        refine Aw.sreg [2] [] ?_
        refine yct (cs := []) (E' := (sp 57 [(2, .bool false)])) (H' := []) (n' := 1) (fun K => by kernel_rfl) .nil ?_
        refine Aw.ret ?_
        refine blk_r (then_r ?_)
        refine hR9 _ _ _ _ (some_some hh) ?_
        intro hout
        rw [hout] at hk9
        refine blk_r ?_
        obtain rfl := some_some hk9
        refine hR1 _ _ _ ?_
        refine ?_
        rw [some_some hk1]
        exact gives (r' := .bool false) (by kernel_rfl) (Ent.list [] rfl rfl (Nat.zero_le _) (rens_1 ren_b) hs_nil)
      · refine Aw.condF (by kernel_rfl) hb ?_
        refine Aw.xskip (fun _ _ _ hq => blk_m (then_m hq)) ?_
        refine Aw.oreg ?_
        refine yce (cs := []) (E' := (sp 57 [(1, .ptr 0 [] 0), (3, .int .i64 (w64 (s9 + (1 : Int)))), (9, .int .i64 s9), (10, .int .i64 (w64 (s9 + (1 : Int)))), (17, .bool (!v10))])) (H' := [(0, some ⟨39, (B_39 x_c)⟩)]) (n' := 1) (fun K => by kernel_rfl) .nil ?_
        exact hN9 (w64 (s9 + (1 : Int))) _ _ _ (some_some hh) (Ent.list2 [some 0] rfl rfl (by decide) (rens_sp (by kernel_rfl) (rl_c (u := .ptr 0 [] 0) (by kernel_rfl) (ren_p (by decide) rfl) (rl_c (u := .int .i64 (w64 (s9 + (1 : Int)))) (by kernel_rfl) ren_i rl_n))) (hs_as (t := ⟨39, (B_39 x_c)⟩) (by decide) rfl (by kernel_rfl) rfl (rens_same (nr_B_39 _)) hs_nil))
    · refine Aw.condF (by kernel_rfl) hb ?_
      refine Aw.exit ?_
      refine then_x ?_
      refine hX9 _ _ _ _ _ (some_some hh) ?_
      intro hout
      rw [hout] at hk9
      refine blk_x ?_
      obtain rfl := some_some hk9
      exact hN1 () _ _ _ hk1 (Ent.list2 [some 0] rfl rfl (by decide) (rens_sp (by kernel_rfl) (rl_c (u := .ptr 0 [] 0) (by kernel_rfl) (ren_p (by decide) rfl) rl_n)) (hs_as (t := ⟨39, (B_39 x_c)⟩) (by decide) rfl (by kernel_rfl) rfl (rens_same (nr_B_39 _)) hs_nil))

-- 65 loop.example/guesthouse/spec.l3Words
def L_spec_l3Words_r0 : List LOper := [⟨(some 4), (.mv (.c (.bool false))), none⟩]
def L_spec_l3Words_r1 : List LOper := [⟨(some 5), (.mv (.c (.int .i64 0))), none⟩]
def L_spec_l3Words_r2 : List LOper := [⟨(some 6), (.mv (.t 5)), none⟩, ⟨(some 7), (.mv (.t 0)), none⟩, ⟨(some 8), (.len (.t 7)), none⟩, ⟨(some 9), (.bin .lss (.t 6) (.t 8)), none⟩]
def L_spec_l3Words_r3 : List LOper := [⟨(some 12), (.mv (.t 0)), none⟩, ⟨(some 13), (.mv (.t 5)), none⟩, ⟨(some 14), (.iadr 1 (.t 12) (.t 13)), none⟩, ⟨(some 15), (.load false 1 (.t 14)), none⟩, ⟨(some 16), (.call 54 [(.t 15)]), none⟩, ⟨(some 17), (.un .not (.t 16)), none⟩]
def L_spec_l3Words_r4 : List LOper := [⟨(some 4), (.mv (.c (.bool false))), none⟩]
def L_spec_l3Words_r5 : List LOper := [⟨(some 10), (.mv (.t 5)), none⟩, ⟨(some 11), (.bin .add (.t 10) (.c (.int .i64 1))), none⟩, ⟨(some 5), (.mv (.t 11)), none⟩]
def L_spec_l3Words_l6 : LCode := (.seq (.seq (.reg false L_spec_l3Words_r2) (.cond (.t 9) .skip (.exit 0))) (.seq (.block 1 (.seq (.reg false L_spec_l3Words_r3) (.cond (.t 17) (.seq (.reg false L_spec_l3Words_r4) .ret) .skip))) (.reg false L_spec_l3Words_r5)))
def L_spec_l3Words_r7 : List LOper := [⟨(some 18), (.mv (.t 0)), none⟩, ⟨(some 19), (.len (.t 18)), none⟩, ⟨(some 20), (.mv (.t 1)), none⟩, ⟨(some 21), (.bin .leq (.t 19) (.t 20)), none⟩, ⟨(some 4), (.mv (.t 21)), none⟩]
def L_spec_l3Words : LFun := ⟨22, [(.tmp 4)], (.seq (.reg false L_spec_l3Words_r0) (.seq (.seq (.reg false L_spec_l3Words_r1) (.block 0 (.loop L_spec_l3Words_l6))) (.seq (.reg false L_spec_l3Words_r7) .ret)))⟩
theorem low_spec_l3Words : lowFun Go.Proofs.Try.prog 65 = some L_spec_l3Words := by kernel_rfl
noncomputable def F_spec_l3Words_j1 (x_list : List Int) (x_most : Int) (s1 : Unit) : Option Bool :=
  some (decide ((((List.length x_list) : Nat) : Int) ≤ x_most))
noncomputable def F_spec_l3Words_l2 (x_list : List Int) (s2 : Int) : Option (LO Int (JO Unit Bool)) :=
  cond (decide (s2 < (((List.length x_list) : Nat) : Int)))
    (grd ((0 : Int) ≤ s2 ∧ s2 < ((List.length x_list : Nat) : Int)) (Option.bind (F_spec_WordOk (List.getD x_list (Int.toNat s2) default)) fun v3 =>
      cond (!v3)
        (some (.ret (.out false)))
        (some (.next (w64 (s2 + (1 : Int)))))))
    (some (.ret (.go ())))
noncomputable def F_spec_l3Words (x_list : List Int) (x_most : Int) : Option Bool :=
  Option.bind (Option.bind (iter (F_spec_l3Words_l2 x_list) (0 : Int)) LO.val) fun j1 =>
    JO.run j1 (F_spec_l3Words_j1 x_list x_most)
theorem spec_l3Words_fn {x_list : List Int} {x_most : Int} {R_ : Bool} (hh : F_spec_l3Words x_list x_most = some R_) : Fn Try.prog 65 [bo (eI .i64) x_list, .int .i64 x_most] (.bool R_) := by
  unfold F_spec_l3Words at hh
  refine Fn.start low_spec_l3Words [0, 1] (E := sp 22 [(0, bo (eI .i64) x_list), (1, .int .i64 x_most)]) (by kernel_rfl) (v := .bool R_) (Hr := []) (k := 0) (by kernel_rfl) ?_
  refine Aw.sreg [0, 1] [] ?_
  refine yct (cs := []) (E' := (sp 22 [(0, bo (eI .i64) x_list), (1, .int .i64 x_most)])) (H' := []) (n' := 0) (fun K => by kernel_rfl) .nil ?_
  obtain ⟨j1, hh, hk1⟩ := bind_some hh
  refine Aw.join (S := Unit) (fun s1 => sp 22 [(0, bo (eI .i64) x_list), (1, .int .i64 x_most)]) (fun s1 => []) 0 (fun s1 => F_spec_l3Words_j1 x_list x_most s1 = some R_) ?_ ?_
  · intro s1 hh
    unfold F_spec_l3Words_j1 at hh
    refine Aw.sreg [4] [] ?_
    refine yct (cs := []) (E' := (sp 22 [(4, .bool (decide ((((List.length x_list) : Nat) : Int) ≤ x_most)))])) (H' := []) (n' := 0) (fun K => by kernel_rfl) .nil ?_
    refine Aw.ret ?_
    rw [some_some hh]
    exact gives (r' := .bool (decide ((((List.length x_list) : Nat) : Int) ≤ x_most))) (by kernel_rfl) (Ent.list [] rfl rfl (Nat.zero_le _) (rens_1 ren_b) hs_nil)
  · intro Q1 hN1 hR1 hE1
    refine Aw.sreg [0, 1, 5] [] ?_
    refine yct (cs := []) (E' := (sp 22 [(0, bo (eI .i64) x_list), (1, .int .i64 x_most), (5, .int .i64 (0 : Int))])) (H' := []) (n' := 0) (fun K => by kernel_rfl) .nil ?_
    refine Aw.block ?_
    obtain ⟨o2, hi2, hk2⟩ := bind_some hh
    refine Aw.iter (fun (s2 : Int) => sp 22 [(0, bo (eI .i64) x_list), (1, .int .i64 x_most), (5, .int .i64 s2)]) (fun (s2 : Int) => []) 0 hi2 (Ent.list2 [] rfl rfl (by decide) (rens_sp (by kernel_rfl) (rl_c (u := bo (eI .i64) x_list) (by kernel_rfl) (ren_bor (rens_same (noRefs_fl nr_eI))) (rl_c (u := .int .i64 x_most) (by kernel_rfl) ren_i (rl_c (u := .int .i64 (0 : Int)) (by kernel_rfl) ren_i rl_n)))) hs_nil) ?_
    intro s2 u2 Q2 hh hN2 hX2 hR2
    unfold F_spec_l3Words_l2 at hh
    refine Aw.seq ?_
    refine Aw.sreg [0, 1, 5, 9] [] ?_
    refine yct (cs := []) (E' := (sp 22 [(0, bo (eI .i64) x_list), (1, .int .i64 x_most), (5, .int .i64 s2), (9, .bool (decide (s2 < (((List.length x_list) : Nat) : Int))))])) (H' := []) (n' := 0) (fun K => by kernel_rfl) .nil ?_
    rcases cond_some hh with ⟨hb, hh⟩ | ⟨hb, hh⟩
    · refine Aw.condT (by kernel_rfl) hb ?_
      refine Aw.xskip (fun _ _ _ hq => then_m hq) ?_
      refine Aw.seq ?_
      refine Aw.block ?_
      refine Aw.sreg [0, 1, 5, 17] [] ?_
      refine yc (cs := []) (E' := (sp 22 [(0, bo (eI .i64) x_list), (1, .int .i64 x_most), (5, .int .i64 s2), (9, .bool (decide (s2 < (((List.length x_list) : Nat) : Int)))), (12, bo (eI .i64) x_list), (13, .int .i64 s2)])) (H' := []) (n' := 0) (pre := (List.take 2 L_spec_l3Words_r3)) (L' := (List.drop 2 L_spec_l3Words_r3)) (by kernel_rfl) (fun K => by kernel_rfl) .nil ?_
      obtain ⟨hg24, hh⟩ := grd_some hh
      refine yso (op := (.iadr 1 (.t 12) (.t 13))) (d := (some 14)) (os := (List.drop 3 L_spec_l3Words_r3)) (by kernel_rfl) (op_iadr (kd := .i64) (c := (eI .i64)) (xs := x_list) len_eI (by decide) (by kernel_rfl) (by kernel_rfl) hg24 ?_)
      refine yso (op := (.load false 1 (.t 14))) (d := (some 15)) (os := (List.drop 4 L_spec_l3Words_r3)) (by kernel_rfl) (op_loadb (c := (eI .i64)) (xs := x_list) (o := Int.toNat s2 * 1) (i := (Int.toNat s2)) (off := 0) (v := .int .i64 (List.getD x_list (Int.toNat s2) default)) len_eI (by kernel_rfl) (by omega) (by omega) (by decide) (by kernel_rfl) ?_)
      obtain ⟨v3, hv3, hh⟩ := bind_some hh
      refine yso (op := (.call 54 [(.t 15)])) (d := (some 16)) (os := (List.drop 5 L_spec_l3Words_r3)) (by kernel_rfl) (op_call (r := .bool v3) (v := .bool v3) (Hr := []) (n' := 0) (spec_WordOk_fn hv3) (clz_v (vs := [.int .i64 (List.getD x_list (Int.toNat s2) default)]) (by kernel_rfl) (clz_c (clo_same rfl) clz_n)) rfl rfl (by kernel_rfl) ?_)
      refine yct (cs := []) (E' := (sp 22 [(0, bo (eI .i64) x_list), (1, .int .i64 x_most), (5, .int .i64 s2), (17, .bool (!v3))])) (H' := []) (n' := 0) (fun K => by kernel_rfl) .nil ?_
      rcases cond_some hh with ⟨hb, hh⟩ | ⟨hb, hh⟩
      · refine Aw.condT (by kernel_rfl) hb ?_
        refine Aw.sreg [4] [] ?_
        refine yct (cs := []) (E' := (sp 22 [(4, .bool false)])) (H' := []) (n' := 0) (fun K => by kernel_rfl) .nil ?_
        refine Aw.ret ?_
        refine blk_r (then_r ?_)
        refine hR2 _ _ _ _ (some_some hh) ?_
        intro hout
        rw [hout] at hk2
        refine blk_r ?_
        obtain rfl := some_some hk2
        refine hR1 _ _ _ ?_
        refine ?_
        rw [some_some hk1]
        exact gives (r' := .bool false) (by kernel_rfl) (Ent.list [] rfl rfl (Nat.zero_le _) (rens_1 ren_b) hs_nil)
      · refine Aw.condF (by kernel_rfl) hb ?_
        refine Aw.xskip (fun _ _ _ hq => blk_m (then_m hq)) ?_
        refine Aw.oreg ?_
        refine yce (cs := []) (E' := (sp 22 [(0, bo (eI .i64) x_list), (1, .int .i64 x_most), (5, .int .i64 (w64 (s2 + (1 : Int)))), (10, .int .i64 s2), (11, .int .i64 (w64 (s2 + (1 : Int)))), (17, .bool (!v3))])) (H' := []) (n' := 0) (fun K => by kernel_rfl) .nil ?_
        exact hN2 (w64 (s2 + (1 : Int))) _ _ _ (some_some hh) (Ent.list2 [] rfl rfl (by decide) (rens_sp (by kernel_rfl) (rl_c (u := bo (eI .i64) x_list) (by kernel_rfl) (ren_bor (rens_same (noRefs_fl nr_eI))) (rl_c (u := .int .i64 x_most) (by kernel_rfl) ren_i (rl_c (u := .int .i64 (w64 (s2 + (1 : Int)))) (by kernel_rfl) ren_i rl_n)))) hs_nil)
    · refine Aw.condF (by kernel_rfl) hb ?_
      refine Aw.exit ?_
      refine then_x ?_
      refine hX2 _ _ _ _ _ (some_some hh) ?_
      intro hout
      rw [hout] at hk2
      refine blk_x ?_
      obtain rfl := some_some hk2
      exact hN1 () _ _ _ hk1 (Ent.list2 [] rfl rfl (by decide) (rens_sp (by kernel_rfl) (rl_c (u := bo (eI .i64) x_list) (by kernel_rfl) (ren_bor (rens_same (noRefs_fl nr_eI))) (rl_c (u := .int .i64 x_most) (by kernel_rfl) ren_i rl_n))) hs_nil)

-- 34 loop.example/guesthouse/spec.BareOk
def L_spec_BareOk_r0 : List LOper := [⟨(some 1), (.box 43 (.t 0)), none⟩, ⟨(some 2), (.mv (.c (.bool false))), none⟩]
def L_spec_BareOk_r1 : List LOper := [⟨(some 3), (.fadr 0 (.t 1)), none⟩, ⟨(some 4), (.load true 13 (.t 3)), none⟩, ⟨(some 5), (.call 31 [(.t 4)]), none⟩, ⟨(some 6), (.mv (.t 5)), none⟩, ⟨(some 7), (.fadr 13 (.t 1)), (some (6, true))⟩, ⟨(some 8), (.load false 1 (.t 7)), (some (6, true))⟩, ⟨(some 9), (.call 17 [(.t 8)]), (some (6, true))⟩, ⟨(some 10), (.pick (.t 6) (.t 9) (.c (.bool false))), none⟩, ⟨(some 11), (.mv (.t 10)), none⟩, ⟨(some 12), (.fadr 14 (.t 1)), (some (11, true))⟩, ⟨(some 13), (.load false 1 (.t 12)), (some (11, true))⟩, ⟨(some 14), (.call 65 [(.t 13), (.c (.int .i64 30))]), (some (11, true))⟩, ⟨(some 15), (.pick (.t 11) (.t 14) (.c (.bool false))), none⟩, ⟨(some 16), (.mv (.t 15)), none⟩, ⟨(some 17), (.fadr 15 (.t 1)), (some (16, true))⟩, ⟨(some 18), (.load false 1 (.t 17)), (some (16, true))⟩, ⟨(some 19), (.call 65 [(.t 18), (.c (.int .i64 30))]), (some (16, true))⟩, ⟨(some 20), (.pick (.t 16) (.t 19) (.c (.bool false))), none⟩, ⟨(some 2), (.mv (.t 20)), none⟩]
def L_spec_BareOk : LFun := ⟨21, [(.tmp 2)], (.seq (.reg false L_spec_BareOk_r0) (.seq (.reg false L_spec_BareOk_r1) .ret))⟩
theorem low_spec_BareOk : lowFun Go.Proofs.Try.prog 34 = some L_spec_BareOk := by kernel_rfl
noncomputable def F_spec_BareOk (x_b : DBare) : Option Bool :=
  Option.bind (F_spec_CoreOk x_b.C) fun v1 =>
  cond v1
    (Option.bind (F_spec_MemOk x_b.Mem) fun v2 =>
    cond v2
      (Option.bind (F_spec_l3Words x_b.In (30 : Int)) fun v3 =>
      cond v3
        (Option.bind (F_spec_l3Words x_b.Out (30 : Int)) fun v4 =>
        some v4)
        (some false))
      (some false))
    (some false)
theorem spec_BareOk_fn {x_b : DBare} {R_ : Bool} (hh : F_spec_BareOk x_b = some R_) : Fn Try.prog 34 [.agg (B_43 x_b)] (.bool R_) := by
  unfold F_spec_BareOk at hh
  refine Fn.start low_spec_BareOk [0] (E := sp 21 [(0, .agg (B_43 x_b))]) (by kernel_rfl) (v := .bool R_) (Hr := []) (k := 0) (by kernel_rfl) ?_
  refine Aw.sreg [1] [0] ?_
  refine yct (cs := []) (E' := (sp 21 [(1, .ptr 0 [] 0)])) (H' := [(0, some ⟨43, (B_43 x_b)⟩)]) (n' := 1) (fun K => by kernel_rfl) .nil ?_
  refine Aw.sreg [2] [] ?_
  refine yc (cs := []) (E' := (sp 21 [(1, .ptr 0 [] 0), (3, .ptr 0 [] 0), (4, .agg (B_39 x_b.C))])) (H' := [(0, some ⟨43, (B_43 x_b)⟩)]) (n' := 1) (pre := (List.take 2 L_spec_BareOk_r1)) (L' := (List.drop 2 L_spec_BareOk_r1)) (by kernel_rfl) (fun K => by kernel_rfl) .nil ?_
  obtain ⟨v1, hv1, hh⟩ := bind_some hh
  refine yso (op := (.call 31 [(.t 4)])) (d := (some 5)) (os := (List.drop 3 L_spec_BareOk_r1)) (by kernel_rfl) (op_call (r := .bool v1) (v := .bool v1) (Hr := []) (n' := 1) (spec_CoreOk_fn hv1) (clz_v (vs := [.agg (B_39 x_b.C)]) (by kernel_rfl) (clz_c (clo_same (clean_agg (cl_B_39 _))) clz_n)) rfl rfl (by kernel_rfl) ?_)
  refine yc (cs := []) (E' := (sp 21 [(1, .ptr 0 [] 0), (3, .ptr 0 [] 0), (4, .agg (B_39 x_b.C)), (5, .bool v1), (6, .bool v1)])) (H' := [(0, some ⟨43, (B_43 x_b)⟩)]) (n' := 1) (pre := (List.take 1 (List.drop 3 L_spec_BareOk_r1))) (L' := (List.drop 4 L_spec_BareOk_r1)) (by kernel_rfl) (fun K => by kernel_rfl) .nil ?_
  rcases cond_some hh with ⟨hb, hh⟩ | ⟨hb, hh⟩
  · refine ybs (t := 5) hb (by kernel_rfl) ?_
    refine ybs (t := 6) hb (by kernel_rfl) ?_
    refine yc (cs := []) (E' := (sp 21 [(1, .ptr 0 [] 0), (3, .ptr 0 [] 0), (4, .agg (B_39 x_b.C)), (5, .bool true), (6, .bool true), (7, .ptr 0 [] 13), (8, bo (eI .i64) x_b.Mem)])) (H' := [(0, some ⟨43, (B_43 x_b)⟩)]) (n' := 1) (pre := (List.take 2 (List.drop 4 L_spec_BareOk_r1))) (L' := (List.drop 6 L_spec_BareOk_r1)) (by kernel_rfl) (fun K => by kernel_rfl) .nil ?_
    obtain ⟨v2, hv2, hh⟩ := bind_some hh
    refine ysg (op := (.call 17 [(.t 8)])) (d := (some 9)) (t := 6) (want := true) (os := (List.drop 7 L_spec_BareOk_r1)) (by kernel_rfl) (by kernel_rfl) (op_call (r := .bool v2) (v := .bool v2) (Hr := []) (n' := 1) (spec_MemOk_fn hv2) (clz_v (vs := [bo (eI .i64) x_b.Mem]) (by kernel_rfl) (clz_c (clo_same (clean_bor (cleans_fl cl_eI))) clz_n)) rfl rfl (by kernel_rfl) ?_)
    refine yc (cs := []) (E' := (sp 21 [(1, .ptr 0 [] 0), (3, .ptr 0 [] 0), (4, .agg (B_39 x_b.C)), (5, .bool true), (6, .bool true), (7, .ptr 0 [] 13), (8, bo (eI .i64) x_b.Mem), (9, .bool v2), (10, .bool v2), (11, .bool v2)])) (H' := [(0, some ⟨43, (B_43 x_b)⟩)]) (n' := 1) (pre := (List.take 2 (List.drop 7 L_spec_BareOk_r1))) (L' := (List.drop 9 L_spec_BareOk_r1)) (by kernel_rfl) (fun K => by kernel_rfl) .nil ?_
    rcases cond_some hh with ⟨hb, hh⟩ | ⟨hb, hh⟩
    · refine ybs (t := 9) hb (by kernel_rfl) ?_
      refine ybs (t := 10) hb (by kernel_rfl) ?_
      refine ybs (t := 11) hb (by kernel_rfl) ?_
      refine yc (cs := []) (E' := (sp 21 [(1, .ptr 0 [] 0), (3, .ptr 0 [] 0), (4, .agg (B_39 x_b.C)), (5, .bool true), (6, .bool true), (7, .ptr 0 [] 13), (8, bo (eI .i64) x_b.Mem), (9, .bool true), (10, .bool true), (11, .bool true), (12, .ptr 0 [] 14), (13, bo (eI .i64) x_b.In)])) (H' := [(0, some ⟨43, (B_43 x_b)⟩)]) (n' := 1) (pre := (List.take 2 (List.drop 9 L_spec_BareOk_r1))) (L' := (List.drop 11 L_spec_BareOk_r1)) (by kernel_rfl) (fun K => by kernel_rfl) .nil ?_
      obtain ⟨v3, hv3, hh⟩ := bind_some hh
      refine ysg (op := (.call 65 [(.t 13), (.c (.int .i64 30))])) (d := (some 14)) (t := 11) (want := true) (os := (List.drop 12 L_spec_BareOk_r1)) (by kernel_rfl) (by kernel_rfl) (op_call (r := .bool v3) (v := .bool v3) (Hr := []) (n' := 1) (spec_l3Words_fn hv3) (clz_v (vs := [bo (eI .i64) x_b.In, .int .i64 (30 : Int)]) (by kernel_rfl) (clz_c (clo_same (clean_bor (cleans_fl cl_eI))) (clz_c (clo_same rfl) clz_n))) rfl rfl (by kernel_rfl) ?_)
      refine yc (cs := []) (E' := (sp 21 [(1, .ptr 0 [] 0), (3, .ptr 0 [] 0), (4, .agg (B_39 x_b.C)), (5, .bool true), (6, .bool true), (7, .ptr 0 [] 13), (8, bo (eI .i64) x_b.Mem), (9, .bool true), (10, .bool true), (11, .bool true), (12, .ptr 0 [] 14), (13, bo (eI .i64) x_b.In), (14, .bool v3), (15, .bool v3), (16, .bool v3)])) (H' := [(0, some ⟨43, (B_43 x_b)⟩)]) (n' := 1) (pre := (List.take 2 (List.drop 12 L_spec_BareOk_r1))) (L' := (List.drop 14 L_spec_BareOk_r1)) (by kernel_rfl) (fun K => by kernel_rfl) .nil ?_
      rcases cond_some hh with ⟨hb, hh⟩ | ⟨hb, hh⟩
      · refine ybs (t := 14) hb (by kernel_rfl) ?_
        refine ybs (t := 15) hb (by kernel_rfl) ?_
        refine ybs (t := 16) hb (by kernel_rfl) ?_
        refine yc (cs := []) (E' := (sp 21 [(1, .ptr 0 [] 0), (3, .ptr 0 [] 0), (4, .agg (B_39 x_b.C)), (5, .bool true), (6, .bool true), (7, .ptr 0 [] 13), (8, bo (eI .i64) x_b.Mem), (9, .bool true), (10, .bool true), (11, .bool true), (12, .ptr 0 [] 14), (13, bo (eI .i64) x_b.In), (14, .bool true), (15, .bool true), (16, .bool true), (17, .ptr 0 [] 15), (18, bo (eI .i64) x_b.Out)])) (H' := [(0, some ⟨43, (B_43 x_b)⟩)]) (n' := 1) (pre := (List.take 2 (List.drop 14 L_spec_BareOk_r1))) (L' := (List.drop 16 L_spec_BareOk_r1)) (by kernel_rfl) (fun K => by kernel_rfl) .nil ?_
        obtain ⟨v4, hv4, hh⟩ := bind_some hh
        refine ysg (op := (.call 65 [(.t 18), (.c (.int .i64 30))])) (d := (some 19)) (t := 16) (want := true) (os := (List.drop 17 L_spec_BareOk_r1)) (by kernel_rfl) (by kernel_rfl) (op_call (r := .bool v4) (v := .bool v4) (Hr := []) (n' := 1) (spec_l3Words_fn hv4) (clz_v (vs := [bo (eI .i64) x_b.Out, .int .i64 (30 : Int)]) (by kernel_rfl) (clz_c (clo_same (clean_bor (cleans_fl cl_eI))) (clz_c (clo_same rfl) clz_n))) rfl rfl (by kernel_rfl) ?_)
        refine yct (cs := []) (E' := (sp 21 [(2, .bool v4)])) (H' := []) (n' := 1) (fun K => by kernel_rfl) .nil ?_
        refine Aw.ret ?_
        rw [some_some hh]
        exact gives (r' := .bool v4) (by kernel_rfl) (Ent.list [] rfl rfl (Nat.zero_le _) (rens_1 ren_b) hs_nil)
      · refine ybs (t := 14) hb (by kernel_rfl) ?_
        refine ybs (t := 15) hb (by kernel_rfl) ?_
        refine ybs (t := 16) hb (by kernel_rfl) ?_
        refine yct (cs := []) (E' := (sp 21 [(2, .bool false)])) (H' := []) (n' := 1) (fun K => by kernel_rfl) .nil ?_
        refine Aw.ret ?_
        rw [some_some hh]
        exact gives (r' := .bool false) (by kernel_rfl) (Ent.list [] rfl rfl (Nat.zero_le _) (rens_1 ren_b) hs_nil)
    · refine ybs (t := 9) hb (by kernel_rfl) ?_
      refine ybs (t := 10) hb (by kernel_rfl) ?_
      refine ybs (t := 11) hb (by kernel_rfl) ?_
      refine yct (cs := []) (E' := (sp 21 [(2, .bool false)])) (H' := []) (n' := 1) (fun K => by kernel_rfl) .nil ?_
      refine Aw.ret ?_
      rw [some_some hh]
      exact gives (r' := .bool false) (by kernel_rfl) (Ent.list [] rfl rfl (Nat.zero_le _) (rens_1 ren_b) hs_nil)
  · refine ybs (t := 5) hb (by kernel_rfl) ?_
    refine ybs (t := 6) hb (by kernel_rfl) ?_
    refine yct (cs := []) (E' := (sp 21 [(2, .bool false)])) (H' := []) (n' := 1) (fun K => by kernel_rfl) .nil ?_
    refine Aw.ret ?_
    rw [some_some hh]
    exact gives (r' := .bool false) (by kernel_rfl) (Ent.list [] rfl rfl (Nat.zero_le _) (rens_1 ren_b) hs_nil)

end Go.Proofs.Ythbefahhpikcaaa
