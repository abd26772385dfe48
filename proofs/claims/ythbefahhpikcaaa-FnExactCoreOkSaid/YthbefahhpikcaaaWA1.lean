/- Plain functions of the program, and that it hands back what they say. Made by program. -/
import Derived.Test.YthbefahhpikcaaaWT
import Derived.Test.YthbefahhpikcaaaZT
import Derived.Test.YthbefahhpikcaaaWE1
namespace Go.Proofs.Ythbefahhpikcaaa
open Go.RowKit
set_option maxRecDepth 100000
set_option linter.all false
set_option maxHeartbeats 0

noncomputable def F_laws_markIntS_j1  (s1 : Int × (List Int)) : Option ((List Int) × Int) :=
  some (s1.2, s1.1)
noncomputable def F_laws_markIntS_l2  (s2 : (List Int) × Int × Int) : Option (LO ((List Int) × Int × Int) (JO (Int × (List Int)) ((List Int) × Int))) :=
  cond (decide (s2.2.2 < (((List.length s2.1) : Nat) : Int)))
    (grd ((0 : Int) ≤ s2.2.2 ∧ s2.2.2 < (((List.length s2.1) : Nat) : Int)) (some (.next ((List.set s2.1 (Int.toNat s2.2.2) s2.2.1), (w64 (s2.2.1 + (1 : Int))), (w64 (s2.2.2 + (1 : Int)))))))
    (some (.ret (.go (s2.2.1, s2.1))))
noncomputable def F_laws_markIntS (x_a : List Int) (x_k : Int) : Option ((List Int) × Int) :=
  Option.bind (Option.bind (iter (F_laws_markIntS_l2) (x_a, x_k, (0 : Int))) LO.val) fun j1 =>
    JO.run j1 (F_laws_markIntS_j1)
theorem laws_markIntS_fn {x_a : List Int} {x_k : Int} {R_ : (List Int) × Int} (hh : F_laws_markIntS x_a x_k = some R_) : Inl Try.prog 82 [.sref 0 [] 0 (List.length x_a) 1, .int .i64 x_k] [(0, some ⟨3, (fl (eI .i64) x_a)⟩)] 1 (.int .i64 R_.2) [(0, some ⟨3, (fl (eI .i64) R_.1)⟩)] 1 := by
  unfold F_laws_markIntS at hh
  refine Inl.start low_laws_markIntS [0, 1] [0] (E := sp 19 [(0, .sref 0 [] 0 (List.length x_a) 1), (1, .int .i64 x_k)]) (H1 := [(0, some ⟨3, (fl (eI .i64) x_a)⟩)]) (by kernel_rfl) (by kernel_rfl) ?_
  refine Aw.sreg [0, 1] [0] ?_
  refine yct (cs := []) (E' := (sp 19 [(0, .sref 0 [] 0 (List.length x_a) 1), (1, .int .i64 x_k)])) (H' := [(0, some ⟨3, (fl (eI .i64) x_a)⟩)]) (n' := 1) (fun K => by kernel_rfl) .nil ?_
  obtain ⟨j1, hh, hk1⟩ := bind_some hh
  refine Aw.join (S := Int × (List Int)) (fun s1 => sp 19 [(1, .int .i64 s1.1)]) (fun s1 => [(0, some ⟨3, (fl (eI .i64) s1.2)⟩)]) 1 (fun s1 => F_laws_markIntS_j1 s1 = some R_) ?_ ?_
  · intro s1 hh
    unfold F_laws_markIntS_j1 at hh
    refine Aw.sreg [4] [0] ?_
    refine yct (cs := []) (E' := (sp 19 [(4, .int .i64 s1.1)])) (H' := [(0, some ⟨3, (fl (eI .i64) s1.2)⟩)]) (n' := 1) (fun K => by kernel_rfl) .nil ?_
    refine Aw.ret ?_
    rw [some_some hh]
    exact gives (r' := .int .i64 s1.1) (by kernel_rfl) (Ent.list2 [some 0] rfl rfl (by decide) (rens_1 ren_i) (hs_as (t := ⟨3, (fl (eI .i64) s1.2)⟩) (by decide) rfl (by kernel_rfl) rfl (rens_same (noRefs_fl nr_eI)) hs_nil))
  · intro Q1 hN1 hR1 hE1
    refine Aw.sreg [0, 1, 5] [0] ?_
    refine yct (cs := []) (E' := (sp 19 [(0, .sref 0 [] 0 (List.length x_a) 1), (1, .int .i64 x_k), (5, .int .i64 (0 : Int))])) (H' := [(0, some ⟨3, (fl (eI .i64) x_a)⟩)]) (n' := 1) (fun K => by kernel_rfl) .nil ?_
    refine Aw.block ?_
    obtain ⟨o2, hi2, hk2⟩ := bind_some hh
    refine Aw.iter (fun (s2 : (List Int) × Int × Int) => sp 19 [(0, .sref 0 [] 0 (List.length s2.1) 1), (1, .int .i64 s2.2.1), (5, .int .i64 s2.2.2)]) (fun (s2 : (List Int) × Int × Int) => [(0, some ⟨3, (fl (eI .i64) s2.1)⟩)]) 1 hi2 (Ent.list2 [some 0] rfl rfl (by decide) (rens_sp (by kernel_rfl) (rl_c (u := .sref 0 [] 0 (List.length x_a) 1) (by kernel_rfl) (ren_se (by decide) rfl rfl) (rl_c (u := .int .i64 x_k) (by kernel_rfl) ren_i (rl_c (u := .int .i64 (0 : Int)) (by kernel_rfl) ren_i rl_n)))) (hs_as (t := ⟨3, (fl (eI .i64) x_a)⟩) (by decide) rfl (by kernel_rfl) rfl (rens_same (noRefs_fl nr_eI)) hs_nil)) ?_
    intro s2 u2 Q2 hh hN2 hX2 hR2
    unfold F_laws_markIntS_l2 at hh
    refine Aw.seq ?_
    refine Aw.sreg [0, 1, 5, 9] [0] ?_
    refine yct (cs := []) (E' := (sp 19 [(0, .sref 0 [] 0 (List.length s2.1) 1), (1, .int .i64 s2.2.1), (5, .int .i64 s2.2.2), (9, .bool (decide (s2.2.2 < (((List.length s2.1) : Nat) : Int))))])) (H' := [(0, some ⟨3, (fl (eI .i64) s2.1)⟩)]) (n' := 1) (fun K => by kernel_rfl) .nil ?_
    rcases cond_some hh with ⟨hb, hh⟩ | ⟨hb, hh⟩
    · refine Aw.condT (by kernel_rfl) hb ?_
      refine Aw.xskip (fun _ _ _ hq => then_m hq) ?_
      refine Aw.seq ?_
      refine Aw.block ?_
      refine Aw.sreg [0, 1, 5] [0] ?_
      obtain ⟨hg24, hh⟩ := grd_some hh
      refine yc (cs := [(0 : Int) ≤ s2.2.2 ∧ s2.2.2 < (((List.length s2.1) : Nat) : Int)]) (E' := (sp 19 [(0, .sref 0 [] 0 (List.length s2.1) 1), (1, .int .i64 s2.2.1), (5, .int .i64 s2.2.2), (9, .bool (decide (s2.2.2 < (((List.length s2.1) : Nat) : Int)))), (12, .sref 0 [] 0 (List.length s2.1) 1), (13, .int .i64 s2.2.2), (14, .int .i64 s2.2.1), (15, .ptr 0 [] (0 + (Int.toNat s2.2.2) * 1))])) (H' := [(0, some ⟨3, (fl (eI .i64) s2.1)⟩)]) (n' := 1) (pre := (List.take 4 L_laws_markIntS_r3)) (L' := (List.drop 4 L_laws_markIntS_r3)) (by kernel_rfl) (fun K => by kernel_rfl) (.cons hg24 .nil) ?_
      refine yso (op := (.store 1 (.t 15) (.t 14))) (d := none) (os := (List.drop 5 L_laws_markIntS_r3)) (by kernel_rfl) (op_store (c := (eI .i64)) (xs := s2.1) (e := 3) (r := 0) (π := []) (o := 0 + (Int.toNat s2.2.2) * 1) (i := (Int.toNat s2.2.2)) (off := 0) (vs := [.int .i64 s2.2.1]) (y := s2.2.1) (H' := [(0, some ⟨3, (fl (eI .i64) (List.set s2.1 (Int.toNat s2.2.2) s2.2.1))⟩), (0, some ⟨3, (fl (eI .i64) s2.1)⟩)]) len_eI (by kernel_rfl) (by kernel_rfl) (by kernel_rfl) (by kernel_rfl) (by omega) (by omega) (by decide) (by kernel_rfl) (by kernel_rfl) ?_)
      refine yct (cs := []) (E' := (sp 19 [(0, .sref 0 [] 0 (List.length s2.1) 1), (1, .int .i64 s2.2.1), (5, .int .i64 s2.2.2)])) (H' := [(0, some ⟨3, (fl (eI .i64) (List.set s2.1 (Int.toNat s2.2.2) s2.2.1))⟩)]) (n' := 1) (fun K => by kernel_rfl) .nil ?_
      refine Aw.xreg [0, 1, 5] [0] (fun _ _ _ hq => blk_m (then_m hq)) ?_
      refine yct (cs := []) (E' := (sp 19 [(0, .sref 0 [] 0 (List.length s2.1) 1), (1, .int .i64 (w64 (s2.2.1 + (1 : Int)))), (5, .int .i64 s2.2.2)])) (H' := [(0, some ⟨3, (fl (eI .i64) (List.set s2.1 (Int.toNat s2.2.2) s2.2.1))⟩)]) (n' := 1) (fun K => by kernel_rfl) .nil ?_
      refine Aw.oreg ?_
      refine yce (cs := []) (E' := (sp 19 [(0, .sref 0 [] 0 (List.length s2.1) 1), (1, .int .i64 (w64 (s2.2.1 + (1 : Int)))), (5, .int .i64 (w64 (s2.2.2 + (1 : Int)))), (10, .int .i64 s2.2.2), (11, .int .i64 (w64 (s2.2.2 + (1 : Int))))])) (H' := [(0, some ⟨3, (fl (eI .i64) (List.set s2.1 (Int.toNat s2.2.2) s2.2.1))⟩)]) (n' := 1) (fun K => by kernel_rfl) .nil ?_
      exact hN2 ((List.set s2.1 (Int.toNat s2.2.2) s2.2.1), (w64 (s2.2.1 + (1 : Int))), (w64 (s2.2.2 + (1 : Int)))) _ _ _ (some_some hh) (Ent.list2 [some 0] rfl rfl (by decide) (rens_sp (by kernel_rfl) (rl_c (u := .sref 0 [] 0 (List.length s2.1) 1) (by kernel_rfl) (ren_se (by decide) rfl (by first | rfl | omega | (simp only [List.length_set, over_len, List.length_replicate, List.length_append, List.length_cons, List.length_nil, List.length_take, List.length_drop] <;> omega))) (rl_c (u := .int .i64 (w64 (s2.2.1 + (1 : Int)))) (by kernel_rfl) ren_i (rl_c (u := .int .i64 (w64 (s2.2.2 + (1 : Int)))) (by kernel_rfl) ren_i rl_n)))) (hs_as (t := ⟨3, (fl (eI .i64) (List.set s2.1 (Int.toNat s2.2.2) s2.2.1))⟩) (by decide) rfl (by kernel_rfl) rfl (rens_same (noRefs_fl nr_eI)) hs_nil))
    · refine Aw.condF (by kernel_rfl) hb ?_
      refine Aw.exit ?_
      refine then_x ?_
      refine hX2 _ _ _ _ _ (some_some hh) ?_
      intro hout
      rw [hout] at hk2
      refine blk_x ?_
      obtain rfl := some_some hk2
      exact hN1 (s2.2.1, s2.1) _ _ _ hk1 (Ent.list2 [some 0] rfl rfl (by decide) (rens_sp (by kernel_rfl) (rl_c (u := .int .i64 s2.2.1) (by kernel_rfl) ren_i rl_n)) (hs_as (t := ⟨3, (fl (eI .i64) s2.1)⟩) (by decide) rfl (by kernel_rfl) rfl (rens_same (noRefs_fl nr_eI)) hs_nil))

noncomputable def F_laws_heldIntS_j1  (s1 : Int) : Option Int :=
  some s1
noncomputable def F_laws_heldIntS_l2 (x_a : List Int) (s2 : Int × Int) : Option (LO (Int × Int) (JO Int Int)) :=
  cond (decide (s2.2 < (((List.length x_a) : Nat) : Int)))
    (grd ((0 : Int) ≤ s2.2 ∧ s2.2 < ((List.length x_a : Nat) : Int)) (cond (!decide ((List.getD x_a (Int.toNat s2.2) default) = s2.1))
        (some (.ret (.out (-1 : Int))))
        (some (.next ((w64 (s2.1 + (1 : Int))), (w64 (s2.2 + (1 : Int))))))))
    (some (.ret (.go s2.1)))
noncomputable def F_laws_heldIntS (x_a : List Int) (x_k : Int) : Option Int :=
  Option.bind (Option.bind (iter (F_laws_heldIntS_l2 x_a) (x_k, (0 : Int))) LO.val) fun j1 =>
    JO.run j1 (F_laws_heldIntS_j1)
theorem laws_heldIntS_fn {x_a : List Int} {x_k : Int} {R_ : Int} (hh : F_laws_heldIntS x_a x_k = some R_) : Fn Try.prog 84 [bo (eI .i64) x_a, .int .i64 x_k] (.int .i64 R_) := by
  unfold F_laws_heldIntS at hh
  refine Fn.start low_laws_heldIntS [0, 1] (E := sp 21 [(0, bo (eI .i64) x_a), (1, .int .i64 x_k)]) (by kernel_rfl) (v := .int .i64 R_) (Hr := []) (k := 0) (by kernel_rfl) ?_
  refine Aw.sreg [0, 1] [] ?_
  refine yct (cs := []) (E' := (sp 21 [(0, bo (eI .i64) x_a), (1, .int .i64 x_k)])) (H' := []) (n' := 0) (fun K => by kernel_rfl) .nil ?_
  obtain ⟨j1, hh, hk1⟩ := bind_some hh
  refine Aw.join (S := Int) (fun s1 => sp 21 [(1, .int .i64 s1)]) (fun s1 => []) 0 (fun s1 => F_laws_heldIntS_j1 s1 = some R_) ?_ ?_
  · intro s1 hh
    unfold F_laws_heldIntS_j1 at hh
    refine Aw.sreg [4] [] ?_
    refine yct (cs := []) (E' := (sp 21 [(4, .int .i64 s1)])) (H' := []) (n' := 0) (fun K => by kernel_rfl) .nil ?_
    refine Aw.ret ?_
    rw [some_some hh]
    exact gives (r' := .int .i64 s1) (by kernel_rfl) (Ent.list [] rfl rfl (Nat.zero_le _) (rens_1 ren_i) hs_nil)
  · intro Q1 hN1 hR1 hE1
    refine Aw.sreg [0, 1, 5] [] ?_
    refine yct (cs := []) (E' := (sp 21 [(0, bo (eI .i64) x_a), (1, .int .i64 x_k), (5, .int .i64 (0 : Int))])) (H' := []) (n' := 0) (fun K => by kernel_rfl) .nil ?_
    refine Aw.block ?_
    obtain ⟨o2, hi2, hk2⟩ := bind_some hh
    refine Aw.iter (fun (s2 : Int × Int) => sp 21 [(0, bo (eI .i64) x_a), (1, .int .i64 s2.1), (5, .int .i64 s2.2)]) (fun (s2 : Int × Int) => []) 0 hi2 (Ent.list2 [] rfl rfl (by decide) (rens_sp (by kernel_rfl) (rl_c (u := bo (eI .i64) x_a) (by kernel_rfl) (ren_bor (rens_same (noRefs_fl nr_eI))) (rl_c (u := .int .i64 x_k) (by kernel_rfl) ren_i (rl_c (u := .int .i64 (0 : Int)) (by kernel_rfl) ren_i rl_n)))) hs_nil) ?_
    intro s2 u2 Q2 hh hN2 hX2 hR2
    unfold F_laws_heldIntS_l2 at hh
    refine Aw.seq ?_
    refine Aw.sreg [0, 1, 5, 9] [] ?_
    refine yct (cs := []) (E' := (sp 21 [(0, bo (eI .i64) x_a), (1, .int .i64 s2.1), (5, .int .i64 s2.2), (9, .bool (decide (s2.2 < (((List.length x_a) : Nat) : Int))))])) (H' := []) (n' := 0) (fun K => by kernel_rfl) .nil ?_
    rcases cond_some hh with ⟨hb, hh⟩ | ⟨hb, hh⟩
    · refine Aw.condT (by kernel_rfl) hb ?_
      refine Aw.xskip (fun _ _ _ hq => then_m hq) ?_
      refine Aw.seq ?_
      refine Aw.block ?_
      refine Aw.seq ?_
      refine Aw.sreg [0, 1, 5, 17] [] ?_
      refine yc (cs := []) (E' := (sp 21 [(0, bo (eI .i64) x_a), (1, .int .i64 s2.1), (5, .int .i64 s2.2), (9, .bool (decide (s2.2 < (((List.length x_a) : Nat) : Int)))), (12, bo (eI .i64) x_a), (13, .int .i64 s2.2)])) (H' := []) (n' := 0) (pre := (List.take 2 L_laws_heldIntS_r3)) (L' := (List.drop 2 L_laws_heldIntS_r3)) (by kernel_rfl) (fun K => by kernel_rfl) .nil ?_
      obtain ⟨hg48, hh⟩ := grd_some hh
      refine yso (op := (.iadr 1 (.t 12) (.t 13))) (d := (some 14)) (os := (List.drop 3 L_laws_heldIntS_r3)) (by kernel_rfl) (op_iadr (kd := .i64) (c := (eI .i64)) (xs := x_a) len_eI (by decide) (by kernel_rfl) (by kernel_rfl) hg48 ?_)
      refine yso (op := (.load false 1 (.t 14))) (d := (some 15)) (os := (List.drop 4 L_laws_heldIntS_r3)) (by kernel_rfl) (op_loadb (c := (eI .i64)) (xs := x_a) (o := Int.toNat s2.2 * 1) (i := (Int.toNat s2.2)) (off := 0) (v := .int .i64 (List.getD x_a (Int.toNat s2.2) default)) len_eI (by kernel_rfl) (by omega) (by omega) (by decide) (by kernel_rfl) ?_)
      refine yct (cs := []) (E' := (sp 21 [(0, bo (eI .i64) x_a), (1, .int .i64 s2.1), (5, .int .i64 s2.2), (17, .bool (!decide ((List.getD x_a (Int.toNat s2.2) default) = s2.1)))])) (H' := []) (n' := 0) (fun K => by kernel_rfl) .nil ?_
      rcases cond_some hh with ⟨hb, hh⟩ | ⟨hb, hh⟩
      · refine Aw.condT (by kernel_rfl) hb ?_
        refine Aw.sreg [4] [] ?_
        refine yct (cs := []) (E' := (sp 21 [(4, .int .i64 (-1 : Int))])) (H' := []) (n' := 0) (fun K => by kernel_rfl) .nil ?_
        refine Aw.ret ?_
        refine then_r (blk_r (then_r ?_))
        refine hR2 _ _ _ _ (some_some hh) ?_
        intro hout
        rw [hout] at hk2
        refine blk_r ?_
        obtain rfl := some_some hk2
        refine hR1 _ _ _ ?_
        refine ?_
        rw [some_some hk1]
        exact gives (r' := .int .i64 (-1 : Int)) (by kernel_rfl) (Ent.list [] rfl rfl (Nat.zero_le _) (rens_1 ren_i) hs_nil)
      · refine Aw.condF (by kernel_rfl) hb ?_
        refine Aw.xskip (fun _ _ _ hq => then_m hq) ?_
        refine Aw.xreg [0, 1, 5] [] (fun _ _ _ hq => blk_m (then_m hq)) ?_
        refine yct (cs := []) (E' := (sp 21 [(0, bo (eI .i64) x_a), (1, .int .i64 (w64 (s2.1 + (1 : Int)))), (5, .int .i64 s2.2)])) (H' := []) (n' := 0) (fun K => by kernel_rfl) .nil ?_
        refine Aw.oreg ?_
        refine yce (cs := []) (E' := (sp 21 [(0, bo (eI .i64) x_a), (1, .int .i64 (w64 (s2.1 + (1 : Int)))), (5, .int .i64 (w64 (s2.2 + (1 : Int)))), (10, .int .i64 s2.2), (11, .int .i64 (w64 (s2.2 + (1 : Int))))])) (H' := []) (n' := 0) (fun K => by kernel_rfl) .nil ?_
        exact hN2 ((w64 (s2.1 + (1 : Int))), (w64 (s2.2 + (1 : Int)))) _ _ _ (some_some hh) (Ent.list2 [] rfl rfl (by decide) (rens_sp (by kernel_rfl) (rl_c (u := bo (eI .i64) x_a) (by kernel_rfl) (ren_bor (rens_same (noRefs_fl nr_eI))) (rl_c (u := .int .i64 (w64 (s2.1 + (1 : Int)))) (by kernel_rfl) ren_i (rl_c (u := .int .i64 (w64 (s2.2 + (1 : Int)))) (by kernel_rfl) ren_i rl_n)))) hs_nil)
    · refine Aw.condF (by kernel_rfl) hb ?_
      refine Aw.exit ?_
      refine then_x ?_
      refine hX2 _ _ _ _ _ (some_some hh) ?_
      intro hout
      rw [hout] at hk2
      refine blk_x ?_
      obtain rfl := some_some hk2
      exact hN1 s2.1 _ _ _ hk1 (Ent.list2 [] rfl rfl (by decide) (rens_sp (by kernel_rfl) (rl_c (u := .int .i64 s2.1) (by kernel_rfl) ren_i rl_n)) hs_nil)

noncomputable def F_impl_wordsOk_j1  (s1 : Unit) : Option Bool :=
  some true
noncomputable def F_impl_wordsOk_l2 (x_list : List Int) (s2 : Int) : Option (LO Int (JO Unit Bool)) :=
  cond (decide (s2 < (((List.length x_list) : Nat) : Int)))
    (grd ((0 : Int) ≤ s2 ∧ s2 < ((List.length x_list : Nat) : Int)) (Option.bind (F_impl_WordOk (List.getD x_list (Int.toNat s2) default)) fun v3 =>
      cond (!v3)
        (some (.ret (.out false)))
        (some (.next (w64 (s2 + (1 : Int)))))))
    (some (.ret (.go ())))
noncomputable def F_impl_wordsOk (x_list : List Int) : Option Bool :=
  Option.bind (Option.bind (iter (F_impl_wordsOk_l2 x_list) (0 : Int)) LO.val) fun j1 =>
    JO.run j1 (F_impl_wordsOk_j1)
theorem impl_wordsOk_fn {x_list : List Int} {R_ : Bool} (hh : F_impl_wordsOk x_list = some R_) : Fn Try.prog 53 [bo (eI .i64) x_list] (.bool R_) := by
  unfold F_impl_wordsOk at hh
  refine Fn.start low_impl_wordsOk [0] (E := sp 15 [(0, bo (eI .i64) x_list)]) (by kernel_rfl) (v := .bool R_) (Hr := []) (k := 0) (by kernel_rfl) ?_
  refine Aw.sreg [0] [] ?_
  refine yct (cs := []) (E' := (sp 15 [(0, bo (eI .i64) x_list)])) (H' := []) (n' := 0) (fun K => by kernel_rfl) .nil ?_
  obtain ⟨j1, hh, hk1⟩ := bind_some hh
  refine Aw.join (S := Unit) (fun s1 => sp 15 []) (fun s1 => []) 0 (fun s1 => F_impl_wordsOk_j1 s1 = some R_) ?_ ?_
  · intro s1 hh
    unfold F_impl_wordsOk_j1 at hh
    refine Aw.sreg [2] [] ?_
    refine yct (cs := []) (E' := (sp 15 [(2, .bool true)])) (H' := []) (n' := 0) (fun K => by kernel_rfl) .nil ?_
    refine Aw.ret ?_
    rw [some_some hh]
    exact gives (r' := .bool true) (by kernel_rfl) (Ent.list [] rfl rfl (Nat.zero_le _) (rens_1 ren_b) hs_nil)
  · intro Q1 hN1 hR1 hE1
    refine Aw.sreg [5, 6, 7] [] ?_
    refine yct (cs := []) (E' := (sp 15 [(5, bo (eI .i64) x_list), (6, .int .i64 (((List.length x_list) : Nat) : Int)), (7, .int .i64 (0 : Int))])) (H' := []) (n' := 0) (fun K => by kernel_rfl) .nil ?_
    refine Aw.block ?_
    obtain ⟨o2, hi2, hk2⟩ := bind_some hh
    refine Aw.iter (fun (s2 : Int) => sp 15 [(5, bo (eI .i64) x_list), (6, .int .i64 (((List.length x_list) : Nat) : Int)), (7, .int .i64 s2)]) (fun (s2 : Int) => []) 0 hi2 (Ent.list2 [] rfl rfl (by decide) (rens_sp (by kernel_rfl) (rl_c (u := bo (eI .i64) x_list) (by kernel_rfl) (ren_bor (rens_same (noRefs_fl nr_eI))) (rl_c (u := .int .i64 (((List.length x_list) : Nat) : Int)) (by kernel_rfl) ren_i (rl_c (u := .int .i64 (0 : Int)) (by kernel_rfl) ren_i rl_n)))) hs_nil) ?_
    intro s2 u2 Q2 hh hN2 hX2 hR2
    unfold F_impl_wordsOk_l2 at hh
    refine Aw.sreg [5, 6, 7, 8] [] ?_
    refine yct (cs := []) (E' := (sp 15 [(5, bo (eI .i64) x_list), (6, .int .i64 (((List.length x_list) : Nat) : Int)), (7, .int .i64 s2), (8, .bool (decide (s2 < (((List.length x_list) : Nat) : Int))))])) (H' := []) (n' := 0) (fun K => by kernel_rfl) .nil ?_
    refine Aw.seq ?_
    rcases cond_some hh with ⟨hb, hh⟩ | ⟨hb, hh⟩
    · refine Aw.condT (by kernel_rfl) hb ?_
      refine Aw.xskip (fun _ _ _ hq => then_m hq) ?_
      refine Aw.seq ?_
      refine Aw.block ?_
      refine Aw.sreg [4, 5, 6, 7] [] ?_
      obtain ⟨hg24, hh⟩ := grd_some hh
      refine yso (op := (.iadr 1 (.t 5) (.t 7))) (d := (some 9)) (os := (List.drop 1 L_impl_wordsOk_r3)) (by kernel_rfl) (op_iadr (kd := .i64) (c := (eI .i64)) (xs := x_list) len_eI (by decide) (by kernel_rfl) (by kernel_rfl) hg24 ?_)
      refine yso (op := (.load false 1 (.t 9))) (d := (some 10)) (os := (List.drop 2 L_impl_wordsOk_r3)) (by kernel_rfl) (op_loadb (c := (eI .i64)) (xs := x_list) (o := Int.toNat s2 * 1) (i := (Int.toNat s2)) (off := 0) (v := .int .i64 (List.getD x_list (Int.toNat s2) default)) len_eI (by kernel_rfl) (by omega) (by omega) (by decide) (by kernel_rfl) ?_)
      refine yct (cs := []) (E' := (sp 15 [(4, .int .i64 (List.getD x_list (Int.toNat s2) default)), (5, bo (eI .i64) x_list), (6, .int .i64 (((List.length x_list) : Nat) : Int)), (7, .int .i64 s2)])) (H' := []) (n' := 0) (fun K => by kernel_rfl) .nil ?_
      refine Aw.sreg [5, 6, 7, 13] [] ?_
      refine yc (cs := []) (E' := (sp 15 [(4, .int .i64 (List.getD x_list (Int.toNat s2) default)), (5, bo (eI .i64) x_list), (6, .int .i64 (((List.length x_list) : Nat) : Int)), (7, .int .i64 s2), (11, .int .i64 (List.getD x_list (Int.toNat s2) default))])) (H' := []) (n' := 0) (pre := (List.take 1 L_impl_wordsOk_r4)) (L' := (List.drop 1 L_impl_wordsOk_r4)) (by kernel_rfl) (fun K => by kernel_rfl) .nil ?_
      obtain ⟨v3, hv3, hh⟩ := bind_some hh
      refine yso (op := (.call 25 [(.t 11)])) (d := (some 12)) (os := (List.drop 2 L_impl_wordsOk_r4)) (by kernel_rfl) (op_call (r := .bool v3) (v := .bool v3) (Hr := []) (n' := 0) (impl_WordOk_fn hv3) (clz_v (vs := [.int .i64 (List.getD x_list (Int.toNat s2) default)]) (by kernel_rfl) (clz_c (clo_same rfl) clz_n)) rfl rfl (by kernel_rfl) ?_)
      refine yct (cs := []) (E' := (sp 15 [(5, bo (eI .i64) x_list), (6, .int .i64 (((List.length x_list) : Nat) : Int)), (7, .int .i64 s2), (13, .bool (!v3))])) (H' := []) (n' := 0) (fun K => by kernel_rfl) .nil ?_
      rcases cond_some hh with ⟨hb, hh⟩ | ⟨hb, hh⟩
      · refine Aw.condT (by kernel_rfl) hb ?_
        refine Aw.sreg [2] [] ?_
        refine yct (cs := []) (E' := (sp 15 [(2, .bool false)])) (H' := []) (n' := 0) (fun K => by kernel_rfl) .nil ?_
        refine Aw.ret ?_
        refine blk_r (then_r ?_)
        refine hR2 _ _ _ _ (some_some hh) ?_
        intro hout
        rw [hout] at hk2
        refine blk_r ?_
        obtain rfl := some_some hk2
        refine hR1 _ _ _ ?_
        refine ?_
        rw [some_some hk1]
        exact gives (r' := .bool false) (by kernel_rfl) (Ent.list [] rfl rfl (Nat.zero_le _) (rens_1 ren_b) hs_nil)
      · refine Aw.condF (by kernel_rfl) hb ?_
        refine Aw.xskip (fun _ _ _ hq => blk_m (then_m hq)) ?_
        refine Aw.oreg ?_
        refine yce (cs := []) (E' := (sp 15 [(5, bo (eI .i64) x_list), (6, .int .i64 (((List.length x_list) : Nat) : Int)), (7, .int .i64 (w64 (s2 + (1 : Int)))), (13, .bool (!v3)), (14, .int .i64 (w64 (s2 + (1 : Int))))])) (H' := []) (n' := 0) (fun K => by kernel_rfl) .nil ?_
        exact hN2 (w64 (s2 + (1 : Int))) _ _ _ (some_some hh) (Ent.list2 [] rfl rfl (by decide) (rens_sp (by kernel_rfl) (rl_c (u := bo (eI .i64) x_list) (by kernel_rfl) (ren_bor (rens_same (noRefs_fl nr_eI))) (rl_c (u := .int .i64 (((List.length x_list) : Nat) : Int)) (by kernel_rfl) ren_i (rl_c (u := .int .i64 (w64 (s2 + (1 : Int)))) (by kernel_rfl) ren_i rl_n)))) hs_nil)
    · refine Aw.condF (by kernel_rfl) hb ?_
      refine Aw.exit ?_
      refine then_x ?_
      refine hX2 _ _ _ _ _ (some_some hh) ?_
      intro hout
      rw [hout] at hk2
      refine blk_x ?_
      obtain rfl := some_some hk2
      exact hN1 () _ _ _ hk1 (Ent.list2 [] rfl rfl (by decide) (rens_sp (by kernel_rfl) rl_n) hs_nil)

noncomputable def F_impl_rootOk (x_root : Int) : Option Bool :=
  cond (decide (x_root = (-1 : Int)))
    (some true)
    (Option.bind (F_impl_pageOk x_root) fun v1 =>
    some v1)
theorem impl_rootOk_fn {x_root : Int} {R_ : Bool} (hh : F_impl_rootOk x_root = some R_) : Fn Try.prog 59 [.int .i64 x_root] (.bool R_) := by
  unfold F_impl_rootOk at hh
  refine Fn.start low_impl_rootOk [0] (E := sp 9 [(0, .int .i64 x_root)]) (by kernel_rfl) (v := .bool R_) (Hr := []) (k := 0) (by kernel_rfl) ?_
  refine Aw.sreg [0] [] ?_
  refine yct (cs := []) (E' := (sp 9 [(0, .int .i64 x_root)])) (H' := []) (n' := 0) (fun K => by kernel_rfl) .nil ?_
  refine Aw.sreg [2] [] ?_
  refine yc (cs := []) (E' := (sp 9 [(0, .int .i64 x_root), (3, .int .i64 x_root), (4, .bool (decide (x_root = (-1 : Int)))), (5, .bool (decide (x_root = (-1 : Int))))])) (H' := []) (n' := 0) (pre := (List.take 3 L_impl_rootOk_r1)) (L' := (List.drop 3 L_impl_rootOk_r1)) (by kernel_rfl) (fun K => by kernel_rfl) .nil ?_
  rcases cond_some hh with ⟨hb, hh⟩ | ⟨hb, hh⟩
  · refine ybs (t := 4) hb (by kernel_rfl) ?_
    refine ybs (t := 5) hb (by kernel_rfl) ?_
    refine yct (cs := []) (E' := (sp 9 [(2, .bool true)])) (H' := []) (n' := 0) (fun K => by kernel_rfl) .nil ?_
    refine Aw.ret ?_
    rw [some_some hh]
    exact gives (r' := .bool true) (by kernel_rfl) (Ent.list [] rfl rfl (Nat.zero_le _) (rens_1 ren_b) hs_nil)
  · refine ybs (t := 4) hb (by kernel_rfl) ?_
    refine ybs (t := 5) hb (by kernel_rfl) ?_
    refine yc (cs := []) (E' := (sp 9 [(0, .int .i64 x_root), (3, .int .i64 x_root), (4, .bool false), (5, .bool false), (6, .int .i64 x_root)])) (H' := []) (n' := 0) (pre := (List.take 1 (List.drop 3 L_impl_rootOk_r1))) (L' := (List.drop 4 L_impl_rootOk_r1)) (by kernel_rfl) (fun K => by kernel_rfl) .nil ?_
    obtain ⟨v1, hv1, hh⟩ := bind_some hh
    refine ysg (op := (.call 56 [(.t 6)])) (d := (some 7)) (t := 5) (want := false) (os := (List.drop 5 L_impl_rootOk_r1)) (by kernel_rfl) (by kernel_rfl) (op_call (r := .bool v1) (v := .bool v1) (Hr := []) (n' := 0) (impl_pageOk_fn hv1) (clz_v (vs := [.int .i64 x_root]) (by kernel_rfl) (clz_c (clo_same rfl) clz_n)) rfl rfl (by kernel_rfl) ?_)
    refine yct (cs := []) (E' := (sp 9 [(2, .bool v1)])) (H' := []) (n' := 0) (fun K => by kernel_rfl) .nil ?_
    refine Aw.ret ?_
    rw [some_some hh]
    exact gives (r' := .bool v1) (by kernel_rfl) (Ent.list [] rfl rfl (Nat.zero_le _) (rens_1 ren_b) hs_nil)

noncomputable def F_impl_addressOk (x_addr : Int) : Option Bool :=
  cond (decide ((0 : Int) ≤ x_addr))
    (some (decide (x_addr < (64 : Int))))
    (some false)
theorem impl_addressOk_fn {x_addr : Int} {R_ : Bool} (hh : F_impl_addressOk x_addr = some R_) : Fn Try.prog 60 [.int .i64 x_addr] (.bool R_) := by
  unfold F_impl_addressOk at hh
  refine Fn.start low_impl_addressOk [0] (E := sp 9 [(0, .int .i64 x_addr)]) (by kernel_rfl) (v := .bool R_) (Hr := []) (k := 0) (by kernel_rfl) ?_
  refine Aw.sreg [0] [] ?_
  refine yct (cs := []) (E' := (sp 9 [(0, .int .i64 x_addr)])) (H' := []) (n' := 0) (fun K => by kernel_rfl) .nil ?_
  refine Aw.sreg [2] [] ?_
  refine yc (cs := []) (E' := (sp 9 [(0, .int .i64 x_addr), (3, .int .i64 x_addr), (4, .bool (decide ((0 : Int) ≤ x_addr))), (5, .bool (decide ((0 : Int) ≤ x_addr)))])) (H' := []) (n' := 0) (pre := (List.take 3 L_impl_addressOk_r1)) (L' := (List.drop 3 L_impl_addressOk_r1)) (by kernel_rfl) (fun K => by kernel_rfl) .nil ?_
  rcases cond_some hh with ⟨hb, hh⟩ | ⟨hb, hh⟩
  · refine ybs (t := 4) hb (by kernel_rfl) ?_
    refine ybs (t := 5) hb (by kernel_rfl) ?_
    refine yct (cs := []) (E' := (sp 9 [(2, .bool (decide (x_addr < (64 : Int))))])) (H' := []) (n' := 0) (fun K => by kernel_rfl) .nil ?_
    refine Aw.ret ?_
    rw [some_some hh]
    exact gives (r' := .bool (decide (x_addr < (64 : Int)))) (by kernel_rfl) (Ent.list [] rfl rfl (Nat.zero_le _) (rens_1 ren_b) hs_nil)
  · refine ybs (t := 4) hb (by kernel_rfl) ?_
    refine ybs (t := 5) hb (by kernel_rfl) ?_
    refine yct (cs := []) (E' := (sp 9 [(2, .bool false)])) (H' := []) (n' := 0) (fun K => by kernel_rfl) .nil ?_
    refine Aw.ret ?_
    rw [some_some hh]
    exact gives (r' := .bool false) (by kernel_rfl) (Ent.list [] rfl rfl (Nat.zero_le _) (rens_1 ren_b) hs_nil)

noncomputable def F_impl_CoreOk (x_c : DCore) : Option Bool :=
  cond (decide ((((List.length x_c.Regs) : Nat) : Int) = (4 : Int)))
    (Option.bind (F_impl_wordsOk x_c.Regs) fun v1 =>
    Option.bind (F_impl_addressOk x_c.Pc) fun v2 =>
    cond v2
      (Option.bind (F_impl_addressOk x_c.Vector) fun v3 =>
      cond v3
        (Option.bind (F_impl_addressOk x_c.Saved) fun v4 =>
        cond v4
          (Option.bind (F_impl_addressOk x_c.Bad) fun v5 =>
          cond (decide ((0 : Int) ≤ x_c.Cause))
            (cond v1
              (cond v5
                (Option.bind (F_impl_rootOk x_c.Root) fun v6 =>
                cond v6
                  (cond (decide (x_c.Cause ≤ (4 : Int)))
                    (Option.bind (F_impl_WordOk x_c.Timer) fun v7 =>
                    some v7)
                    (some false))
                  (some false))
                (some false))
              (some false))
            (cond v1
              (cond v5
                (Option.bind (F_impl_rootOk x_c.Root) fun v8 =>
                cond v8
                  (some false)
                  (some false))
                (some false))
              (some false)))
          (cond (decide ((0 : Int) ≤ x_c.Cause))
            (cond v1
              (some false)
              (some false))
            (cond v1
              (some false)
              (some false))))
        (cond (decide ((0 : Int) ≤ x_c.Cause))
          (cond v1
            (some false)
            (some false))
          (cond v1
            (some false)
            (some false))))
      (cond (decide ((0 : Int) ≤ x_c.Cause))
        (cond v1
          (some false)
          (some false))
        (cond v1
          (some false)
          (some false))))
    (Option.bind (F_impl_addressOk x_c.Pc) fun v9 =>
    cond v9
      (Option.bind (F_impl_addressOk x_c.Vector) fun v10 =>
      cond v10
        (Option.bind (F_impl_addressOk x_c.Saved) fun v11 =>
        cond v11
          (Option.bind (F_impl_addressOk x_c.Bad) fun v12 =>
          cond (decide ((0 : Int) ≤ x_c.Cause))
            (some false)
            (some false))
          (cond (decide ((0 : Int) ≤ x_c.Cause))
            (some false)
            (some false)))
        (cond (decide ((0 : Int) ≤ x_c.Cause))
          (some false)
          (some false)))
      (cond (decide ((0 : Int) ≤ x_c.Cause))
        (some false)
        (some false)))
theorem impl_CoreOk_fn {x_c : DCore} {R_ : Bool} (hh : F_impl_CoreOk x_c = some R_) : Fn Try.prog 30 [.agg (B_39 x_c)] (.bool R_) := by
  unfold F_impl_CoreOk at hh
  refine Fn.start low_impl_CoreOk [0] (E := sp 58 [(0, .agg (B_39 x_c))]) (by kernel_rfl) (v := .bool R_) (Hr := []) (k := 0) (by kernel_rfl) ?_
  refine Aw.sreg [1] [0] ?_
  refine yct (cs := []) (E' := (sp 58 [(1, .ptr 0 [] 0)])) (H' := [(0, some ⟨39, (B_39 x_c)⟩)]) (n' := 1) (fun K => by kernel_rfl) .nil ?_
  refine Aw.sreg [1, 3] [0] ?_
  refine yc (cs := []) (E' := (sp 58 [(1, .ptr 0 [] 0), (6, .ptr 0 [] 0), (7, bo (eI .i64) x_c.Regs), (8, .int .i64 (((List.length x_c.Regs) : Nat) : Int)), (9, .bool (decide ((((List.length x_c.Regs) : Nat) : Int) = (4 : Int)))), (10, .bool (decide ((((List.length x_c.Regs) : Nat) : Int) = (4 : Int))))])) (H' := [(0, some ⟨39, (B_39 x_c)⟩)]) (n' := 1) (pre := (List.take 5 L_impl_CoreOk_r1)) (L' := (List.drop 5 L_impl_CoreOk_r1)) (by kernel_rfl) (fun K => by kernel_rfl) .nil ?_
  rcases cond_some hh with ⟨hb, hh⟩ | ⟨hb, hh⟩
  · refine ybs (t := 9) hb (by kernel_rfl) ?_
    refine ybs (t := 10) hb (by kernel_rfl) ?_
    refine yc (cs := []) (E' := (sp 58 [(1, .ptr 0 [] 0), (6, .ptr 0 [] 0), (7, bo (eI .i64) x_c.Regs), (8, .int .i64 (((List.length x_c.Regs) : Nat) : Int)), (9, .bool true), (10, .bool true), (11, .ptr 0 [] 0), (12, bo (eI .i64) x_c.Regs)])) (H' := [(0, some ⟨39, (B_39 x_c)⟩)]) (n' := 1) (pre := (List.take 2 (List.drop 5 L_impl_CoreOk_r1))) (L' := (List.drop 7 L_impl_CoreOk_r1)) (by kernel_rfl) (fun K => by kernel_rfl) .nil ?_
    obtain ⟨v1, hv1, hh⟩ := bind_some hh
    refine ysg (op := (.call 53 [(.t 12)])) (d := (some 13)) (t := 10) (want := true) (os := (List.drop 8 L_impl_CoreOk_r1)) (by kernel_rfl) (by kernel_rfl) (op_call (r := .bool v1) (v := .bool v1) (Hr := []) (n' := 1) (impl_wordsOk_fn hv1) (clz_v (vs := [bo (eI .i64) x_c.Regs]) (by kernel_rfl) (clz_c (clo_same (clean_bor (cleans_fl cl_eI))) clz_n)) rfl rfl (by kernel_rfl) ?_)
    refine yct (cs := []) (E' := (sp 58 [(1, .ptr 0 [] 0), (3, .bool v1)])) (H' := [(0, some ⟨39, (B_39 x_c)⟩)]) (n' := 1) (fun K => by kernel_rfl) .nil ?_
    refine Aw.sreg [1, 3, 4] [0] ?_
    refine yc (cs := []) (E' := (sp 58 [(1, .ptr 0 [] 0), (3, .bool v1), (15, .ptr 0 [] 1), (16, .int .i64 x_c.Pc)])) (H' := [(0, some ⟨39, (B_39 x_c)⟩)]) (n' := 1) (pre := (List.take 2 L_impl_CoreOk_r2)) (L' := (List.drop 2 L_impl_CoreOk_r2)) (by kernel_rfl) (fun K => by kernel_rfl) .nil ?_
    obtain ⟨v2, hv2, hh⟩ := bind_some hh
    refine yso (op := (.call 60 [(.t 16)])) (d := (some 17)) (os := (List.drop 3 L_impl_CoreOk_r2)) (by kernel_rfl) (op_call (r := .bool v2) (v := .bool v2) (Hr := []) (n' := 1) (impl_addressOk_fn hv2) (clz_v (vs := [.int .i64 x_c.Pc]) (by kernel_rfl) (clz_c (clo_same rfl) clz_n)) rfl rfl (by kernel_rfl) ?_)
    refine yc (cs := []) (E' := (sp 58 [(1, .ptr 0 [] 0), (3, .bool v1), (15, .ptr 0 [] 1), (16, .int .i64 x_c.Pc), (17, .bool v2), (18, .bool v2)])) (H' := [(0, some ⟨39, (B_39 x_c)⟩)]) (n' := 1) (pre := (List.take 1 (List.drop 3 L_impl_CoreOk_r2))) (L' := (List.drop 4 L_impl_CoreOk_r2)) (by kernel_rfl) (fun K => by kernel_rfl) .nil ?_
    rcases cond_some hh with ⟨hb, hh⟩ | ⟨hb, hh⟩
    · refine ybs (t := 17) hb (by kernel_rfl) ?_
      refine ybs (t := 18) hb (by kernel_rfl) ?_
      refine yc (cs := []) (E' := (sp 58 [(1, .ptr 0 [] 0), (3, .bool v1), (15, .ptr 0 [] 1), (16, .int .i64 x_c.Pc), (17, .bool true), (18, .bool true), (19, .ptr 0 [] 3), (20, .int .i64 x_c.Vector)])) (H' := [(0, some ⟨39, (B_39 x_c)⟩)]) (n' := 1) (pre := (List.take 2 (List.drop 4 L_impl_CoreOk_r2))) (L' := (List.drop 6 L_impl_CoreOk_r2)) (by kernel_rfl) (fun K => by kernel_rfl) .nil ?_
      obtain ⟨v3, hv3, hh⟩ := bind_some hh
      refine ysg (op := (.call 60 [(.t 20)])) (d := (some 21)) (t := 18) (want := true) (os := (List.drop 7 L_impl_CoreOk_r2)) (by kernel_rfl) (by kernel_rfl) (op_call (r := .bool v3) (v := .bool v3) (Hr := []) (n' := 1) (impl_addressOk_fn hv3) (clz_v (vs := [.int .i64 x_c.Vector]) (by kernel_rfl) (clz_c (clo_same rfl) clz_n)) rfl rfl (by kernel_rfl) ?_)
      refine yc (cs := []) (E' := (sp 58 [(1, .ptr 0 [] 0), (3, .bool v1), (15, .ptr 0 [] 1), (16, .int .i64 x_c.Pc), (17, .bool true), (18, .bool true), (19, .ptr 0 [] 3), (20, .int .i64 x_c.Vector), (21, .bool v3), (22, .bool v3), (23, .bool v3)])) (H' := [(0, some ⟨39, (B_39 x_c)⟩)]) (n' := 1) (pre := (List.take 2 (List.drop 7 L_impl_CoreOk_r2))) (L' := (List.drop 9 L_impl_CoreOk_r2)) (by kernel_rfl) (fun K => by kernel_rfl) .nil ?_
      rcases cond_some hh with ⟨hb, hh⟩ | ⟨hb, hh⟩
      · refine ybs (t := 21) hb (by kernel_rfl) ?_
        refine ybs (t := 22) hb (by kernel_rfl) ?_
        refine ybs (t := 23) hb (by kernel_rfl) ?_
        refine yc (cs := []) (E' := (sp 58 [(1, .ptr 0 [] 0), (3, .bool v1), (15, .ptr 0 [] 1), (16, .int .i64 x_c.Pc), (17, .bool true), (18, .bool true), (19, .ptr 0 [] 3), (20, .int .i64 x_c.Vector), (21, .bool true), (22, .bool true), (23, .bool true), (24, .ptr 0 [] 4), (25, .int .i64 x_c.Saved)])) (H' := [(0, some ⟨39, (B_39 x_c)⟩)]) (n' := 1) (pre := (List.take 2 (List.drop 9 L_impl_CoreOk_r2))) (L' := (List.drop 11 L_impl_CoreOk_r2)) (by kernel_rfl) (fun K => by kernel_rfl) .nil ?_
        obtain ⟨v4, hv4, hh⟩ := bind_some hh
        refine ysg (op := (.call 60 [(.t 25)])) (d := (some 26)) (t := 23) (want := true) (os := (List.drop 12 L_impl_CoreOk_r2)) (by kernel_rfl) (by kernel_rfl) (op_call (r := .bool v4) (v := .bool v4) (Hr := []) (n' := 1) (impl_addressOk_fn hv4) (clz_v (vs := [.int .i64 x_c.Saved]) (by kernel_rfl) (clz_c (clo_same rfl) clz_n)) rfl rfl (by kernel_rfl) ?_)
        refine yc (cs := []) (E' := (sp 58 [(1, .ptr 0 [] 0), (3, .bool v1), (15, .ptr 0 [] 1), (16, .int .i64 x_c.Pc), (17, .bool true), (18, .bool true), (19, .ptr 0 [] 3), (20, .int .i64 x_c.Vector), (21, .bool true), (22, .bool true), (23, .bool true), (24, .ptr 0 [] 4), (25, .int .i64 x_c.Saved), (26, .bool v4), (27, .bool v4), (28, .bool v4)])) (H' := [(0, some ⟨39, (B_39 x_c)⟩)]) (n' := 1) (pre := (List.take 2 (List.drop 12 L_impl_CoreOk_r2))) (L' := (List.drop 14 L_impl_CoreOk_r2)) (by kernel_rfl) (fun K => by kernel_rfl) .nil ?_
        rcases cond_some hh with ⟨hb, hh⟩ | ⟨hb, hh⟩
        · refine ybs (t := 26) hb (by kernel_rfl) ?_
          refine ybs (t := 27) hb (by kernel_rfl) ?_
          refine ybs (t := 28) hb (by kernel_rfl) ?_
          refine yc (cs := []) (E' := (sp 58 [(1, .ptr 0 [] 0), (3, .bool v1), (15, .ptr 0 [] 1), (16, .int .i64 x_c.Pc), (17, .bool true), (18, .bool true), (19, .ptr 0 [] 3), (20, .int .i64 x_c.Vector), (21, .bool true), (22, .bool true), (23, .bool true), (24, .ptr 0 [] 4), (25, .int .i64 x_c.Saved), (26, .bool true), (27, .bool true), (28, .bool true), (29, .ptr 0 [] 7), (30, .int .i64 x_c.Bad)])) (H' := [(0, some ⟨39, (B_39 x_c)⟩)]) (n' := 1) (pre := (List.take 2 (List.drop 14 L_impl_CoreOk_r2))) (L' := (List.drop 16 L_impl_CoreOk_r2)) (by kernel_rfl) (fun K => by kernel_rfl) .nil ?_
          obtain ⟨v5, hv5, hh⟩ := bind_some hh
          refine ysg (op := (.call 60 [(.t 30)])) (d := (some 31)) (t := 28) (want := true) (os := (List.drop 17 L_impl_CoreOk_r2)) (by kernel_rfl) (by kernel_rfl) (op_call (r := .bool v5) (v := .bool v5) (Hr := []) (n' := 1) (impl_addressOk_fn hv5) (clz_v (vs := [.int .i64 x_c.Bad]) (by kernel_rfl) (clz_c (clo_same rfl) clz_n)) rfl rfl (by kernel_rfl) ?_)
          refine yct (cs := []) (E' := (sp 58 [(1, .ptr 0 [] 0), (3, .bool v1), (4, .bool v5)])) (H' := [(0, some ⟨39, (B_39 x_c)⟩)]) (n' := 1) (fun K => by kernel_rfl) .nil ?_
          refine Aw.sreg [1, 3, 4, 5] [0] ?_
          refine yc (cs := []) (E' := (sp 58 [(1, .ptr 0 [] 0), (3, .bool v1), (4, .bool v5), (33, .ptr 0 [] 6), (34, .int .i64 x_c.Cause), (35, .bool (decide ((0 : Int) ≤ x_c.Cause))), (36, .bool (decide ((0 : Int) ≤ x_c.Cause)))])) (H' := [(0, some ⟨39, (B_39 x_c)⟩)]) (n' := 1) (pre := (List.take 4 L_impl_CoreOk_r3)) (L' := (List.drop 4 L_impl_CoreOk_r3)) (by kernel_rfl) (fun K => by kernel_rfl) .nil ?_
          rcases cond_some hh with ⟨hb, hh⟩ | ⟨hb, hh⟩
          · refine ybs (t := 35) hb (by kernel_rfl) ?_
            refine ybs (t := 36) hb (by kernel_rfl) ?_
            refine yct (cs := []) (E' := (sp 58 [(1, .ptr 0 [] 0), (3, .bool v1), (4, .bool v5), (5, .bool (decide (x_c.Cause ≤ (4 : Int))))])) (H' := [(0, some ⟨39, (B_39 x_c)⟩)]) (n' := 1) (fun K => by kernel_rfl) .nil ?_
            refine Aw.sreg [2] [] ?_
            refine yc (cs := []) (E' := (sp 58 [(1, .ptr 0 [] 0), (3, .bool v1), (4, .bool v5), (5, .bool (decide (x_c.Cause ≤ (4 : Int)))), (41, .bool v1), (42, .bool v1)])) (H' := [(0, some ⟨39, (B_39 x_c)⟩)]) (n' := 1) (pre := (List.take 2 L_impl_CoreOk_r4)) (L' := (List.drop 2 L_impl_CoreOk_r4)) (by kernel_rfl) (fun K => by kernel_rfl) .nil ?_
            rcases cond_some hh with ⟨hb, hh⟩ | ⟨hb, hh⟩
            · refine ybs (t := 3) hb (by kernel_rfl) ?_
              refine ybs (t := 41) hb (by kernel_rfl) ?_
              refine ybs (t := 42) hb (by kernel_rfl) ?_
              refine yc (cs := []) (E' := (sp 58 [(1, .ptr 0 [] 0), (3, .bool true), (4, .bool v5), (5, .bool (decide (x_c.Cause ≤ (4 : Int)))), (41, .bool true), (42, .bool true), (43, .bool v5), (44, .bool v5), (45, .bool v5)])) (H' := [(0, some ⟨39, (B_39 x_c)⟩)]) (n' := 1) (pre := (List.take 3 (List.drop 2 L_impl_CoreOk_r4))) (L' := (List.drop 5 L_impl_CoreOk_r4)) (by kernel_rfl) (fun K => by kernel_rfl) .nil ?_
              rcases cond_some hh with ⟨hb, hh⟩ | ⟨hb, hh⟩
              · refine ybs (t := 4) hb (by kernel_rfl) ?_
                refine ybs (t := 43) hb (by kernel_rfl) ?_
                refine ybs (t := 44) hb (by kernel_rfl) ?_
                refine ybs (t := 45) hb (by kernel_rfl) ?_
                refine yc (cs := []) (E' := (sp 58 [(1, .ptr 0 [] 0), (3, .bool true), (4, .bool true), (5, .bool (decide (x_c.Cause ≤ (4 : Int)))), (41, .bool true), (42, .bool true), (43, .bool true), (44, .bool true), (45, .bool true), (46, .ptr 0 [] 2), (47, .int .i64 x_c.Root)])) (H' := [(0, some ⟨39, (B_39 x_c)⟩)]) (n' := 1) (pre := (List.take 2 (List.drop 5 L_impl_CoreOk_r4))) (L' := (List.drop 7 L_impl_CoreOk_r4)) (by kernel_rfl) (fun K => by kernel_rfl) .nil ?_
                obtain ⟨v6, hv6, hh⟩ := bind_some hh
                refine ysg (op := (.call 59 [(.t 47)])) (d := (some 48)) (t := 45) (want := true) (os := (List.drop 8 L_impl_CoreOk_r4)) (by kernel_rfl) (by kernel_rfl) (op_call (r := .bool v6) (v := .bool v6) (Hr := []) (n' := 1) (impl_rootOk_fn hv6) (clz_v (vs := [.int .i64 x_c.Root]) (by kernel_rfl) (clz_c (clo_same rfl) clz_n)) rfl rfl (by kernel_rfl) ?_)
                refine yc (cs := []) (E' := (sp 58 [(1, .ptr 0 [] 0), (3, .bool true), (4, .bool true), (5, .bool (decide (x_c.Cause ≤ (4 : Int)))), (41, .bool true), (42, .bool true), (43, .bool true), (44, .bool true), (45, .bool true), (46, .ptr 0 [] 2), (47, .int .i64 x_c.Root), (48, .bool v6), (49, .bool v6), (50, .bool v6)])) (H' := [(0, some ⟨39, (B_39 x_c)⟩)]) (n' := 1) (pre := (List.take 2 (List.drop 8 L_impl_CoreOk_r4))) (L' := (List.drop 10 L_impl_CoreOk_r4)) (by kernel_rfl) (fun K => by kernel_rfl) .nil ?_
                rcases cond_some hh with ⟨hb, hh⟩ | ⟨hb, hh⟩
                · refine ybs (t := 48) hb (by kernel_rfl) ?_
                  refine ybs (t := 49) hb (by kernel_rfl) ?_
                  refine ybs (t := 50) hb (by kernel_rfl) ?_
                  refine yc (cs := []) (E' := (sp 58 [(1, .ptr 0 [] 0), (3, .bool true), (4, .bool true), (5, .bool (decide (x_c.Cause ≤ (4 : Int)))), (41, .bool true), (42, .bool true), (43, .bool true), (44, .bool true), (45, .bool true), (46, .ptr 0 [] 2), (47, .int .i64 x_c.Root), (48, .bool true), (49, .bool true), (50, .bool true), (51, .bool (decide (x_c.Cause ≤ (4 : Int)))), (52, .bool (decide (x_c.Cause ≤ (4 : Int)))), (53, .bool (decide (x_c.Cause ≤ (4 : Int))))])) (H' := [(0, some ⟨39, (B_39 x_c)⟩)]) (n' := 1) (pre := (List.take 3 (List.drop 10 L_impl_CoreOk_r4))) (L' := (List.drop 13 L_impl_CoreOk_r4)) (by kernel_rfl) (fun K => by kernel_rfl) .nil ?_
                  rcases cond_some hh with ⟨hb, hh⟩ | ⟨hb, hh⟩
                  · refine ybs (t := 5) hb (by kernel_rfl) ?_
                    refine ybs (t := 51) hb (by kernel_rfl) ?_
                    refine ybs (t := 52) hb (by kernel_rfl) ?_
                    refine ybs (t := 53) hb (by kernel_rfl) ?_
                    refine yc (cs := []) (E' := (sp 58 [(1, .ptr 0 [] 0), (3, .bool true), (4, .bool true), (5, .bool true), (41, .bool true), (42, .bool true), (43, .bool true), (44, .bool true), (45, .bool true), (46, .ptr 0 [] 2), (47, .int .i64 x_c.Root), (48, .bool true), (49, .bool true), (50, .bool true), (51, .bool true), (52, .bool true), (53, .bool true), (54, .ptr 0 [] 8), (55, .int .i64 x_c.Timer)])) (H' := [(0, some ⟨39, (B_39 x_c)⟩)]) (n' := 1) (pre := (List.take 2 (List.drop 13 L_impl_CoreOk_r4))) (L' := (List.drop 15 L_impl_CoreOk_r4)) (by kernel_rfl) (fun K => by kernel_rfl) .nil ?_
                    obtain ⟨v7, hv7, hh⟩ := bind_some hh
                    refine ysg (op := (.call 25 [(.t 55)])) (d := (some 56)) (t := 53) (want := true) (os := (List.drop 16 L_impl_CoreOk_r4)) (by kernel_rfl) (by kernel_rfl) (op_call (r := .bool v7) (v := .bool v7) (Hr := []) (n' := 1) (impl_WordOk_fn hv7) (clz_v (vs := [.int .i64 x_c.Timer]) (by kernel_rfl) (clz_c (clo_same rfl) clz_n)) rfl rfl (by kernel_rfl) ?_)
                    refine yct (cs := []) (E' := (sp 58 [(2, .bool v7)])) (H' := []) (n' := 1) (fun K => by kernel_rfl) .nil ?_
                    refine Aw.ret ?_
                    rw [some_some hh]
                    exact gives (r' := .bool v7) (by kernel_rfl) (Ent.list [] rfl rfl (Nat.zero_le _) (rens_1 ren_b) hs_nil)
                  · refine ybs (t := 5) hb (by kernel_rfl) ?_
                    refine ybs (t := 51) hb (by kernel_rfl) ?_
                    refine ybs (t := 52) hb (by kernel_rfl) ?_
                    refine ybs (t := 53) hb (by kernel_rfl) ?_
                    refine yct (cs := []) (E' := (sp 58 [(2, .bool false)])) (H' := []) (n' := 1) (fun K => by kernel_rfl) .nil ?_
                    refine Aw.ret ?_
                    rw [some_some hh]
                    exact gives (r' := .bool false) (by kernel_rfl) (Ent.list [] rfl rfl (Nat.zero_le _) (rens_1 ren_b) hs_nil)
                · refine ybs (t := 48) hb (by kernel_rfl) ?_
                  refine ybs (t := 49) hb (by kernel_rfl) ?_
                  refine ybs (t := 50) hb (by kernel_rfl) ?_
                  refine yct (cs := []) (E' := (sp 58 [(2, .bool false)])) (H' := []) (n' := 1) (fun K => by kernel_rfl) .nil ?_
                  refine Aw.ret ?_
                  rw [some_some hh]
                  exact gives (r' := .bool false) (by kernel_rfl) (Ent.list [] rfl rfl (Nat.zero_le _) (rens_1 ren_b) hs_nil)
              · refine ybs (t := 4) hb (by kernel_rfl) ?_
                refine ybs (t := 43) hb (by kernel_rfl) ?_
                refine ybs (t := 44) hb (by kernel_rfl) ?_
                refine ybs (t := 45) hb (by kernel_rfl) ?_
                refine yct (cs := []) (E' := (sp 58 [(2, .bool false)])) (H' := []) (n' := 1) (fun K => by kernel_rfl) .nil ?_
                refine Aw.ret ?_
                rw [some_some hh]
                exact gives (r' := .bool false) (by kernel_rfl) (Ent.list [] rfl rfl (Nat.zero_le _) (rens_1 ren_b) hs_nil)
            · refine ybs (t := 3) hb (by kernel_rfl) ?_
              refine ybs (t := 41) hb (by kernel_rfl) ?_
              refine ybs (t := 42) hb (by kernel_rfl) ?_
              refine yct (cs := []) (E' := (sp 58 [(2, .bool false)])) (H' := []) (n' := 1) (fun K => by kernel_rfl) .nil ?_
              refine Aw.ret ?_
              rw [some_some hh]
              exact gives (r' := .bool false) (by kernel_rfl) (Ent.list [] rfl rfl (Nat.zero_le _) (rens_1 ren_b) hs_nil)
          · refine ybs (t := 35) hb (by kernel_rfl) ?_
            refine ybs (t := 36) hb (by kernel_rfl) ?_
            refine yct (cs := []) (E' := (sp 58 [(1, .ptr 0 [] 0), (3, .bool v1), (4, .bool v5), (5, .bool false)])) (H' := [(0, some ⟨39, (B_39 x_c)⟩)]) (n' := 1) (fun K => by kernel_rfl) .nil ?_
            refine Aw.sreg [2] [] ?_
            refine yc (cs := []) (E' := (sp 58 [(1, .ptr 0 [] 0), (3, .bool v1), (4, .bool v5), (5, .bool false), (41, .bool v1), (42, .bool v1)])) (H' := [(0, some ⟨39, (B_39 x_c)⟩)]) (n' := 1) (pre := (List.take 2 L_impl_CoreOk_r4)) (L' := (List.drop 2 L_impl_CoreOk_r4)) (by kernel_rfl) (fun K => by kernel_rfl) .nil ?_
            rcases cond_some hh with ⟨hb, hh⟩ | ⟨hb, hh⟩
            · refine ybs (t := 3) hb (by kernel_rfl) ?_
              refine ybs (t := 41) hb (by kernel_rfl) ?_
              refine ybs (t := 42) hb (by kernel_rfl) ?_
              refine yc (cs := []) (E' := (sp 58 [(1, .ptr 0 [] 0), (3, .bool true), (4, .bool v5), (5, .bool false), (41, .bool true), (42, .bool true), (43, .bool v5), (44, .bool v5), (45, .bool v5)])) (H' := [(0, some ⟨39, (B_39 x_c)⟩)]) (n' := 1) (pre := (List.take 3 (List.drop 2 L_impl_CoreOk_r4))) (L' := (List.drop 5 L_impl_CoreOk_r4)) (by kernel_rfl) (fun K => by kernel_rfl) .nil ?_
              rcases cond_some hh with ⟨hb, hh⟩ | ⟨hb, hh⟩
              · refine ybs (t := 4) hb (by kernel_rfl) ?_
                refine ybs (t := 43) hb (by kernel_rfl) ?_
                refine ybs (t := 44) hb (by kernel_rfl) ?_
                refine ybs (t := 45) hb (by kernel_rfl) ?_
                refine yc (cs := []) (E' := (sp 58 [(1, .ptr 0 [] 0), (3, .bool true), (4, .bool true), (5, .bool false), (41, .bool true), (42, .bool true), (43, .bool true), (44, .bool true), (45, .bool true), (46, .ptr 0 [] 2), (47, .int .i64 x_c.Root)])) (H' := [(0, some ⟨39, (B_39 x_c)⟩)]) (n' := 1) (pre := (List.take 2 (List.drop 5 L_impl_CoreOk_r4))) (L' := (List.drop 7 L_impl_CoreOk_r4)) (by kernel_rfl) (fun K => by kernel_rfl) .nil ?_
                obtain ⟨v8, hv8, hh⟩ := bind_some hh
                refine ysg (op := (.call 59 [(.t 47)])) (d := (some 48)) (t := 45) (want := true) (os := (List.drop 8 L_impl_CoreOk_r4)) (by kernel_rfl) (by kernel_rfl) (op_call (r := .bool v8) (v := .bool v8) (Hr := []) (n' := 1) (impl_rootOk_fn hv8) (clz_v (vs := [.int .i64 x_c.Root]) (by kernel_rfl) (clz_c (clo_same rfl) clz_n)) rfl rfl (by kernel_rfl) ?_)
                refine yc (cs := []) (E' := (sp 58 [(1, .ptr 0 [] 0), (3, .bool true), (4, .bool true), (5, .bool false), (41, .bool true), (42, .bool true), (43, .bool true), (44, .bool true), (45, .bool true), (46, .ptr 0 [] 2), (47, .int .i64 x_c.Root), (48, .bool v8), (49, .bool v8), (50, .bool v8)])) (H' := [(0, some ⟨39, (B_39 x_c)⟩)]) (n' := 1) (pre := (List.take 2 (List.drop 8 L_impl_CoreOk_r4))) (L' := (List.drop 10 L_impl_CoreOk_r4)) (by kernel_rfl) (fun K => by kernel_rfl) .nil ?_
                rcases cond_some hh with ⟨hb, hh⟩ | ⟨hb, hh⟩
                · refine ybs (t := 48) hb (by kernel_rfl) ?_
                  refine ybs (t := 49) hb (by kernel_rfl) ?_
                  refine ybs (t := 50) hb (by kernel_rfl) ?_
                  refine yct (cs := []) (E' := (sp 58 [(2, .bool false)])) (H' := []) (n' := 1) (fun K => by kernel_rfl) .nil ?_
                  refine Aw.ret ?_
                  rw [some_some hh]
                  exact gives (r' := .bool false) (by kernel_rfl) (Ent.list [] rfl rfl (Nat.zero_le _) (rens_1 ren_b) hs_nil)
                · refine ybs (t := 48) hb (by kernel_rfl) ?_
                  refine ybs (t := 49) hb (by kernel_rfl) ?_
                  refine ybs (t := 50) hb (by kernel_rfl) ?_
                  refine yct (cs := []) (E' := (sp 58 [(2, .bool false)])) (H' := []) (n' := 1) (fun K => by kernel_rfl) .nil ?_
                  refine Aw.ret ?_
                  rw [some_some hh]
                  exact gives (r' := .bool false) (by kernel_rfl) (Ent.list [] rfl rfl (Nat.zero_le _) (rens_1 ren_b) hs_nil)
              · refine ybs (t := 4) hb (by kernel_rfl) ?_
                refine ybs (t := 43) hb (by kernel_rfl) ?_
                refine ybs (t := 44) hb (by kernel_rfl) ?_
                refine ybs (t := 45) hb (by kernel_rfl) ?_
                refine yct (cs := []) (E' := (sp 58 [(2, .bool false)])) (H' := []) (n' := 1) (fun K => by kernel_rfl) .nil ?_
                refine Aw.ret ?_
                rw [some_some hh]
                exact gives (r' := .bool false) (by kernel_rfl) (Ent.list [] rfl rfl (Nat.zero_le _) (rens_1 ren_b) hs_nil)
            · refine ybs (t := 3) hb (by kernel_rfl) ?_
              refine ybs (t := 41) hb (by kernel_rfl) ?_
              refine ybs (t := 42) hb (by kernel_rfl) ?_
              refine yct (cs := []) (E' := (sp 58 [(2, .bool false)])) (H' := []) (n' := 1) (fun K => by kernel_rfl) .nil ?_
              refine Aw.ret ?_
              rw [some_some hh]
              exact gives (r' := .bool false) (by kernel_rfl) (Ent.list [] rfl rfl (Nat.zero_le _) (rens_1 ren_b) hs_nil)
        · refine ybs (t := 26) hb (by kernel_rfl) ?_
          refine ybs (t := 27) hb (by kernel_rfl) ?_
          refine ybs (t := 28) hb (by kernel_rfl) ?_
          refine yct (cs := []) (E' := (sp 58 [(1, .ptr 0 [] 0), (3, .bool v1), (4, .bool false)])) (H' := [(0, some ⟨39, (B_39 x_c)⟩)]) (n' := 1) (fun K => by kernel_rfl) .nil ?_
          refine Aw.sreg [1, 3, 4, 5] [0] ?_
          refine yc (cs := []) (E' := (sp 58 [(1, .ptr 0 [] 0), (3, .bool v1), (4, .bool false), (33, .ptr 0 [] 6), (34, .int .i64 x_c.Cause), (35, .bool (decide ((0 : Int) ≤ x_c.Cause))), (36, .bool (decide ((0 : Int) ≤ x_c.Cause)))])) (H' := [(0, some ⟨39, (B_39 x_c)⟩)]) (n' := 1) (pre := (List.take 4 L_impl_CoreOk_r3)) (L' := (List.drop 4 L_impl_CoreOk_r3)) (by kernel_rfl) (fun K => by kernel_rfl) .nil ?_
          rcases cond_some hh with ⟨hb, hh⟩ | ⟨hb, hh⟩
          · refine ybs (t := 35) hb (by kernel_rfl) ?_
            refine ybs (t := 36) hb (by kernel_rfl) ?_
            refine yct (cs := []) (E' := (sp 58 [(1, .ptr 0 [] 0), (3, .bool v1), (4, .bool false), (5, .bool (decide (x_c.Cause ≤ (4 : Int))))])) (H' := [(0, some ⟨39, (B_39 x_c)⟩)]) (n' := 1) (fun K => by kernel_rfl) .nil ?_
            refine Aw.sreg [2] [] ?_
            refine yc (cs := []) (E' := (sp 58 [(1, .ptr 0 [] 0), (3, .bool v1), (4, .bool false), (5, .bool (decide (x_c.Cause ≤ (4 : Int)))), (41, .bool v1), (42, .bool v1)])) (H' := [(0, some ⟨39, (B_39 x_c)⟩)]) (n' := 1) (pre := (List.take 2 L_impl_CoreOk_r4)) (L' := (List.drop 2 L_impl_CoreOk_r4)) (by kernel_rfl) (fun K => by kernel_rfl) .nil ?_
            rcases cond_some hh with ⟨hb, hh⟩ | ⟨hb, hh⟩
            · refine ybs (t := 3) hb (by kernel_rfl) ?_
              refine ybs (t := 41) hb (by kernel_rfl) ?_
              refine ybs (t := 42) hb (by kernel_rfl) ?_
              refine yct (cs := []) (E' := (sp 58 [(2, .bool false)])) (H' := []) (n' := 1) (fun K => by kernel_rfl) .nil ?_
              refine Aw.ret ?_
              rw [some_some hh]
              exact gives (r' := .bool false) (by kernel_rfl) (Ent.list [] rfl rfl (Nat.zero_le _) (rens_1 ren_b) hs_nil)
            · refine ybs (t := 3) hb (by kernel_rfl) ?_
              refine ybs (t := 41) hb (by kernel_rfl) ?_
              refine ybs (t := 42) hb (by kernel_rfl) ?_
              refine yct (cs := []) (E' := (sp 58 [(2, .bool false)])) (H' := []) (n' := 1) (fun K => by kernel_rfl) .nil ?_
              refine Aw.ret ?_
              rw [some_some hh]
              exact gives (r' := .bool false) (by kernel_rfl) (Ent.list [] rfl rfl (Nat.zero_le _) (rens_1 ren_b) hs_nil)
          · refine ybs (t := 35) hb (by kernel_rfl) ?_
            refine ybs (t := 36) hb (by kernel_rfl) ?_
            refine yct (cs := []) (E' := (sp 58 [(1, .ptr 0 [] 0), (3, .bool v1), (4, .bool false), (5, .bool false)])) (H' := [(0, some ⟨39, (B_39 x_c)⟩)]) (n' := 1) (fun K => by kernel_rfl) .nil ?_
            refine Aw.sreg [2] [] ?_
            refine yc (cs := []) (E' := (sp 58 [(1, .ptr 0 [] 0), (3, .bool v1), (4, .bool false), (5, .bool false), (41, .bool v1), (42, .bool v1)])) (H' := [(0, some ⟨39, (B_39 x_c)⟩)]) (n' := 1) (pre := (List.take 2 L_impl_CoreOk_r4)) (L' := (List.drop 2 L_impl_CoreOk_r4)) (by kernel_rfl) (fun K => by kernel_rfl) .nil ?_
            rcases cond_some hh with ⟨hb, hh⟩ | ⟨hb, hh⟩
            · refine ybs (t := 3) hb (by kernel_rfl) ?_
              refine ybs (t := 41) hb (by kernel_rfl) ?_
              refine ybs (t := 42) hb (by kernel_rfl) ?_
              refine yct (cs := []) (E' := (sp 58 [(2, .bool false)])) (H' := []) (n' := 1) (fun K => by kernel_rfl) .nil ?_
              refine Aw.ret ?_
              rw [some_some hh]
              exact gives (r' := .bool false) (by kernel_rfl) (Ent.list [] rfl rfl (Nat.zero_le _) (rens_1 ren_b) hs_nil)
            · refine ybs (t := 3) hb (by kernel_rfl) ?_
              refine ybs (t := 41) hb (by kernel_rfl) ?_
              refine ybs (t := 42) hb (by kernel_rfl) ?_
              refine yct (cs := []) (E' := (sp 58 [(2, .bool false)])) (H' := []) (n' := 1) (fun K => by kernel_rfl) .nil ?_
              refine Aw.ret ?_
              rw [some_some hh]
              exact gives (r' := .bool false) (by kernel_rfl) (Ent.list [] rfl rfl (Nat.zero_le _) (rens_1 ren_b) hs_nil)
      · refine ybs (t := 21) hb (by kernel_rfl) ?_
        refine ybs (t := 22) hb (by kernel_rfl) ?_
        refine ybs (t := 23) hb (by kernel_rfl) ?_
        refine yct (cs := []) (E' := (sp 58 [(1, .ptr 0 [] 0), (3, .bool v1), (4, .bool false)])) (H' := [(0, some ⟨39, (B_39 x_c)⟩)]) (n' := 1) (fun K => by kernel_rfl) .nil ?_
        refine Aw.sreg [1, 3, 4, 5] [0] ?_
        refine yc (cs := []) (E' := (sp 58 [(1, .ptr 0 [] 0), (3, .bool v1), (4, .bool false), (33, .ptr 0 [] 6), (34, .int .i64 x_c.Cause), (35, .bool (decide ((0 : Int) ≤ x_c.Cause))), (36, .bool (decide ((0 : Int) ≤ x_c.Cause)))])) (H' := [(0, some ⟨39, (B_39 x_c)⟩)]) (n' := 1) (pre := (List.take 4 L_impl_CoreOk_r3)) (L' := (List.drop 4 L_impl_CoreOk_r3)) (by kernel_rfl) (fun K => by kernel_rfl) .nil ?_
        rcases cond_some hh with ⟨hb, hh⟩ | ⟨hb, hh⟩
        · refine ybs (t := 35) hb (by kernel_rfl) ?_
          refine ybs (t := 36) hb (by kernel_rfl) ?_
          refine yct (cs := []) (E' := (sp 58 [(1, .ptr 0 [] 0), (3, .bool v1), (4, .bool false), (5, .bool (decide (x_c.Cause ≤ (4 : Int))))])) (H' := [(0, some ⟨39, (B_39 x_c)⟩)]) (n' := 1) (fun K => by kernel_rfl) .nil ?_
          refine Aw.sreg [2] [] ?_
          refine yc (cs := []) (E' := (sp 58 [(1, .ptr 0 [] 0), (3, .bool v1), (4, .bool false), (5, .bool (decide (x_c.Cause ≤ (4 : Int)))), (41, .bool v1), (42, .bool v1)])) (H' := [(0, some ⟨39, (B_39 x_c)⟩)]) (n' := 1) (pre := (List.take 2 L_impl_CoreOk_r4)) (L' := (List.drop 2 L_impl_CoreOk_r4)) (by kernel_rfl) (fun K => by kernel_rfl) .nil ?_
          rcases cond_some hh with ⟨hb, hh⟩ | ⟨hb, hh⟩
          · refine ybs (t := 3) hb (by kernel_rfl) ?_
            refine ybs (t := 41) hb (by kernel_rfl) ?_
            refine ybs (t := 42) hb (by kernel_rfl) ?_
            refine yct (cs := []) (E' := (sp 58 [(2, .bool false)])) (H' := []) (n' := 1) (fun K => by kernel_rfl) .nil ?_
            refine Aw.ret ?_
            rw [some_some hh]
            exact gives (r' := .bool false) (by kernel_rfl) (Ent.list [] rfl rfl (Nat.zero_le _) (rens_1 ren_b) hs_nil)
          · refine ybs (t := 3) hb (by kernel_rfl) ?_
            refine ybs (t := 41) hb (by kernel_rfl) ?_
            refine ybs (t := 42) hb (by kernel_rfl) ?_
            refine yct (cs := []) (E' := (sp 58 [(2, .bool false)])) (H' := []) (n' := 1) (fun K => by kernel_rfl) .nil ?_
            refine Aw.ret ?_
            rw [some_some hh]
            exact gives (r' := .bool false) (by kernel_rfl) (Ent.list [] rfl rfl (Nat.zero_le _) (rens_1 ren_b) hs_nil)
        · refine ybs (t := 35) hb (by kernel_rfl) ?_
          refine ybs (t := 36) hb (by kernel_rfl) ?_
          refine yct (cs := []) (E' := (sp 58 [(1, .ptr 0 [] 0), (3, .bool v1), (4, .bool false), (5, .bool false)])) (H' := [(0, some ⟨39, (B_39 x_c)⟩)]) (n' := 1) (fun K => by kernel_rfl) .nil ?_
          refine Aw.sreg [2] [] ?_
          refine yc (cs := []) (E' := (sp 58 [(1, .ptr 0 [] 0), (3, .bool v1), (4, .bool false), (5, .bool false), (41, .bool v1), (42, .bool v1)])) (H' := [(0, some ⟨39, (B_39 x_c)⟩)]) (n' := 1) (pre := (List.take 2 L_impl_CoreOk_r4)) (L' := (List.drop 2 L_impl_CoreOk_r4)) (by kernel_rfl) (fun K => by kernel_rfl) .nil ?_
          rcases cond_some hh with ⟨hb, hh⟩ | ⟨hb, hh⟩
          · refine ybs (t := 3) hb (by kernel_rfl) ?_
            refine ybs (t := 41) hb (by kernel_rfl) ?_
            refine ybs (t := 42) hb (by kernel_rfl) ?_
            refine yct (cs := []) (E' := (sp 58 [(2, .bool false)])) (H' := []) (n' := 1) (fun K => by kernel_rfl) .nil ?_
            refine Aw.ret ?_
            rw [some_some hh]
            exact gives (r' := .bool false) (by kernel_rfl) (Ent.list [] rfl rfl (Nat.zero_le _) (rens_1 ren_b) hs_nil)
          · refine ybs (t := 3) hb (by kernel_rfl) ?_
            refine ybs (t := 41) hb (by kernel_rfl) ?_
            refine ybs (t := 42) hb (by kernel_rfl) ?_
            refine yct (cs := []) (E' := (sp 58 [(2, .bool false)])) (H' := []) (n' := 1) (fun K => by kernel_rfl) .nil ?_
            refine Aw.ret ?_
            rw [some_some hh]
            exact gives (r' := .bool false) (by kernel_rfl) (Ent.list [] rfl rfl (Nat.zero_le _) (rens_1 ren_b) hs_nil)
    · refine ybs (t := 17) hb (by kernel_rfl) ?_
      refine ybs (t := 18) hb (by kernel_rfl) ?_
      refine yct (cs := []) (E' := (sp 58 [(1, .ptr 0 [] 0), (3, .bool v1), (4, .bool false)])) (H' := [(0, some ⟨39, (B_39 x_c)⟩)]) (n' := 1) (fun K => by kernel_rfl) .nil ?_
      refine Aw.sreg [1, 3, 4, 5] [0] ?_
      refine yc (cs := []) (E' := (sp 58 [(1, .ptr 0 [] 0), (3, .bool v1), (4, .bool false), (33, .ptr 0 [] 6), (34, .int .i64 x_c.Cause), (35, .bool (decide ((0 : Int) ≤ x_c.Cause))), (36, .bool (decide ((0 : Int) ≤ x_c.Cause)))])) (H' := [(0, some ⟨39, (B_39 x_c)⟩)]) (n' := 1) (pre := (List.take 4 L_impl_CoreOk_r3)) (L' := (List.drop 4 L_impl_CoreOk_r3)) (by kernel_rfl) (fun K => by kernel_rfl) .nil ?_
      rcases cond_some hh with ⟨hb, hh⟩ | ⟨hb, hh⟩
      · refine ybs (t := 35) hb (by kernel_rfl) ?_
        refine ybs (t := 36) hb (by kernel_rfl) ?_
        refine yct (cs := []) (E' := (sp 58 [(1, .ptr 0 [] 0), (3, .bool v1), (4, .bool false), (5, .bool (decide (x_c.Cause ≤ (4 : Int))))])) (H' := [(0, some ⟨39, (B_39 x_c)⟩)]) (n' := 1) (fun K => by kernel_rfl) .nil ?_
        refine Aw.sreg [2] [] ?_
        refine yc (cs := []) (E' := (sp 58 [(1, .ptr 0 [] 0), (3, .bool v1), (4, .bool false), (5, .bool (decide (x_c.Cause ≤ (4 : Int)))), (41, .bool v1), (42, .bool v1)])) (H' := [(0, some ⟨39, (B_39 x_c)⟩)]) (n' := 1) (pre := (List.take 2 L_impl_CoreOk_r4)) (L' := (List.drop 2 L_impl_CoreOk_r4)) (by kernel_rfl) (fun K => by kernel_rfl) .nil ?_
        rcases cond_some hh with ⟨hb, hh⟩ | ⟨hb, hh⟩
        · refine ybs (t := 3) hb (by kernel_rfl) ?_
          refine ybs (t := 41) hb (by kernel_rfl) ?_
          refine ybs (t := 42) hb (by kernel_rfl) ?_
          refine yct (cs := []) (E' := (sp 58 [(2, .bool false)])) (H' := []) (n' := 1) (fun K => by kernel_rfl) .nil ?_
          refine Aw.ret ?_
          rw [some_some hh]
          exact gives (r' := .bool false) (by kernel_rfl) (Ent.list [] rfl rfl (Nat.zero_le _) (rens_1 ren_b) hs_nil)
        · refine ybs (t := 3) hb (by kernel_rfl) ?_
          refine ybs (t := 41) hb (by kernel_rfl) ?_
          refine ybs (t := 42) hb (by kernel_rfl) ?_
          refine yct (cs := []) (E' := (sp 58 [(2, .bool false)])) (H' := []) (n' := 1) (fun K => by kernel_rfl) .nil ?_
          refine Aw.ret ?_
          rw [some_some hh]
          exact gives (r' := .bool false) (by kernel_rfl) (Ent.list [] rfl rfl (Nat.zero_le _) (rens_1 ren_b) hs_nil)
      · refine ybs (t := 35) hb (by kernel_rfl) ?_
        refine ybs (t := 36) hb (by kernel_rfl) ?_
        refine yct (cs := []) (E' := (sp 58 [(1, .ptr 0 [] 0), (3, .bool v1), (4, .bool false), (5, .bool false)])) (H' := [(0, some ⟨39, (B_39 x_c)⟩)]) (n' := 1) (fun K => by kernel_rfl) .nil ?_
        refine Aw.sreg [2] [] ?_
        refine yc (cs := []) (E' := (sp 58 [(1, .ptr 0 [] 0), (3, .bool v1), (4, .bool false), (5, .bool false), (41, .bool v1), (42, .bool v1)])) (H' := [(0, some ⟨39, (B_39 x_c)⟩)]) (n' := 1) (pre := (List.take 2 L_impl_CoreOk_r4)) (L' := (List.drop 2 L_impl_CoreOk_r4)) (by kernel_rfl) (fun K => by kernel_rfl) .nil ?_
        rcases cond_some hh with ⟨hb, hh⟩ | ⟨hb, hh⟩
        · refine ybs (t := 3) hb (by kernel_rfl) ?_
          refine ybs (t := 41) hb (by kernel_rfl) ?_
          refine ybs (t := 42) hb (by kernel_rfl) ?_
          refine yct (cs := []) (E' := (sp 58 [(2, .bool false)])) (H' := []) (n' := 1) (fun K => by kernel_rfl) .nil ?_
          refine Aw.ret ?_
          rw [some_some hh]
          exact gives (r' := .bool false) (by kernel_rfl) (Ent.list [] rfl rfl (Nat.zero_le _) (rens_1 ren_b) hs_nil)
        · refine ybs (t := 3) hb (by kernel_rfl) ?_
          refine ybs (t := 41) hb (by kernel_rfl) ?_
          refine ybs (t := 42) hb (by kernel_rfl) ?_
          refine yct (cs := []) (E' := (sp 58 [(2, .bool false)])) (H' := []) (n' := 1) (fun K => by kernel_rfl) .nil ?_
          refine Aw.ret ?_
          rw [some_some hh]
          exact gives (r' := .bool false) (by kernel_rfl) (Ent.list [] rfl rfl (Nat.zero_le _) (rens_1 ren_b) hs_nil)
  · refine ybs (t := 9) hb (by kernel_rfl) ?_
    refine ybs (t := 10) hb (by kernel_rfl) ?_
    refine yct (cs := []) (E' := (sp 58 [(1, .ptr 0 [] 0), (3, .bool false)])) (H' := [(0, some ⟨39, (B_39 x_c)⟩)]) (n' := 1) (fun K => by kernel_rfl) .nil ?_
    refine Aw.sreg [1, 3, 4] [0] ?_
    refine yc (cs := []) (E' := (sp 58 [(1, .ptr 0 [] 0), (3, .bool false), (15, .ptr 0 [] 1), (16, .int .i64 x_c.Pc)])) (H' := [(0, some ⟨39, (B_39 x_c)⟩)]) (n' := 1) (pre := (List.take 2 L_impl_CoreOk_r2)) (L' := (List.drop 2 L_impl_CoreOk_r2)) (by kernel_rfl) (fun K => by kernel_rfl) .nil ?_
    obtain ⟨v9, hv9, hh⟩ := bind_some hh
    refine yso (op := (.call 60 [(.t 16)])) (d := (some 17)) (os := (List.drop 3 L_impl_CoreOk_r2)) (by kernel_rfl) (op_call (r := .bool v9) (v := .bool v9) (Hr := []) (n' := 1) (impl_addressOk_fn hv9) (clz_v (vs := [.int .i64 x_c.Pc]) (by kernel_rfl) (clz_c (clo_same rfl) clz_n)) rfl rfl (by kernel_rfl) ?_)
    refine yc (cs := []) (E' := (sp 58 [(1, .ptr 0 [] 0), (3, .bool false), (15, .ptr 0 [] 1), (16, .int .i64 x_c.Pc), (17, .bool v9), (18, .bool v9)])) (H' := [(0, some ⟨39, (B_39 x_c)⟩)]) (n' := 1) (pre := (List.take 1 (List.drop 3 L_impl_CoreOk_r2))) (L' := (List.drop 4 L_impl_CoreOk_r2)) (by kernel_rfl) (fun K => by kernel_rfl) .nil ?_
    rcases cond_some hh with ⟨hb, hh⟩ | ⟨hb, hh⟩
    · refine ybs (t := 17) hb (by kernel_rfl) ?_
      refine ybs (t := 18) hb (by kernel_rfl) ?_
      refine yc (cs := []) (E' := (sp 58 [(1, .ptr 0 [] 0), (3, .bool false), (15, .ptr 0 [] 1), (16, .int .i64 x_c.Pc), (17, .bool true), (18, .bool true), (19, .ptr 0 [] 3), (20, .int .i64 x_c.Vector)])) (H' := [(0, some ⟨39, (B_39 x_c)⟩)]) (n' := 1) (pre := (List.take 2 (List.drop 4 L_impl_CoreOk_r2))) (L' := (List.drop 6 L_impl_CoreOk_r2)) (by kernel_rfl) (fun K => by kernel_rfl) .nil ?_
      obtain ⟨v10, hv10, hh⟩ := bind_some hh
      refine ysg (op := (.call 60 [(.t 20)])) (d := (some 21)) (t := 18) (want := true) (os := (List.drop 7 L_impl_CoreOk_r2)) (by kernel_rfl) (by kernel_rfl) (op_call (r := .bool v10) (v := .bool v10) (Hr := []) (n' := 1) (impl_addressOk_fn hv10) (clz_v (vs := [.int .i64 x_c.Vector]) (by kernel_rfl) (clz_c (clo_same rfl) clz_n)) rfl rfl (by kernel_rfl) ?_)
      refine yc (cs := []) (E' := (sp 58 [(1, .ptr 0 [] 0), (3, .bool false), (15, .ptr 0 [] 1), (16, .int .i64 x_c.Pc), (17, .bool true), (18, .bool true), (19, .ptr 0 [] 3), (20, .int .i64 x_c.Vector), (21, .bool v10), (22, .bool v10), (23, .bool v10)])) (H' := [(0, some ⟨39, (B_39 x_c)⟩)]) (n' := 1) (pre := (List.take 2 (List.drop 7 L_impl_CoreOk_r2))) (L' := (List.drop 9 L_impl_CoreOk_r2)) (by kernel_rfl) (fun K => by kernel_rfl) .nil ?_
      rcases cond_some hh with ⟨hb, hh⟩ | ⟨hb, hh⟩
      · refine ybs (t := 21) hb (by kernel_rfl) ?_
        refine ybs (t := 22) hb (by kernel_rfl) ?_
        refine ybs (t := 23) hb (by kernel_rfl) ?_
        refine yc (cs := []) (E' := (sp 58 [(1, .ptr 0 [] 0), (3, .bool false), (15, .ptr 0 [] 1), (16, .int .i64 x_c.Pc), (17, .bool true), (18, .bool true), (19, .ptr 0 [] 3), (20, .int .i64 x_c.Vector), (21, .bool true), (22, .bool true), (23, .bool true), (24, .ptr 0 [] 4), (25, .int .i64 x_c.Saved)])) (H' := [(0, some ⟨39, (B_39 x_c)⟩)]) (n' := 1) (pre := (List.take 2 (List.drop 9 L_impl_CoreOk_r2))) (L' := (List.drop 11 L_impl_CoreOk_r2)) (by kernel_rfl) (fun K => by kernel_rfl) .nil ?_
        obtain ⟨v11, hv11, hh⟩ := bind_some hh
        refine ysg (op := (.call 60 [(.t 25)])) (d := (some 26)) (t := 23) (want := true) (os := (List.drop 12 L_impl_CoreOk_r2)) (by kernel_rfl) (by kernel_rfl) (op_call (r := .bool v11) (v := .bool v11) (Hr := []) (n' := 1) (impl_addressOk_fn hv11) (clz_v (vs := [.int .i64 x_c.Saved]) (by kernel_rfl) (clz_c (clo_same rfl) clz_n)) rfl rfl (by kernel_rfl) ?_)
        refine yc (cs := []) (E' := (sp 58 [(1, .ptr 0 [] 0), (3, .bool false), (15, .ptr 0 [] 1), (16, .int .i64 x_c.Pc), (17, .bool true), (18, .bool true), (19, .ptr 0 [] 3), (20, .int .i64 x_c.Vector), (21, .bool true), (22, .bool true), (23, .bool true), (24, .ptr 0 [] 4), (25, .int .i64 x_c.Saved), (26, .bool v11), (27, .bool v11), (28, .bool v11)])) (H' := [(0, some ⟨39, (B_39 x_c)⟩)]) (n' := 1) (pre := (List.take 2 (List.drop 12 L_impl_CoreOk_r2))) (L' := (List.drop 14 L_impl_CoreOk_r2)) (by kernel_rfl) (fun K => by kernel_rfl) .nil ?_
        rcases cond_some hh with ⟨hb, hh⟩ | ⟨hb, hh⟩
        · refine ybs (t := 26) hb (by kernel_rfl) ?_
          refine ybs (t := 27) hb (by kernel_rfl) ?_
          refine ybs (t := 28) hb (by kernel_rfl) ?_
          refine yc (cs := []) (E' := (sp 58 [(1, .ptr 0 [] 0), (3, .bool false), (15, .ptr 0 [] 1), (16, .int .i64 x_c.Pc), (17, .bool true), (18, .bool true), (19, .ptr 0 [] 3), (20, .int .i64 x_c.Vector), (21, .bool true), (22, .bool true), (23, .bool true), (24, .ptr 0 [] 4), (25, .int .i64 x_c.Saved), (26, .bool true), (27, .bool true), (28, .bool true), (29, .ptr 0 [] 7), (30, .int .i64 x_c.Bad)])) (H' := [(0, some ⟨39, (B_39 x_c)⟩)]) (n' := 1) (pre := (List.take 2 (List.drop 14 L_impl_CoreOk_r2))) (L' := (List.drop 16 L_impl_CoreOk_r2)) (by kernel_rfl) (fun K => by kernel_rfl) .nil ?_
          obtain ⟨v12, hv12, hh⟩ := bind_some hh
          refine ysg (op := (.call 60 [(.t 30)])) (d := (some 31)) (t := 28) (want := true) (os := (List.drop 17 L_impl_CoreOk_r2)) (by kernel_rfl) (by kernel_rfl) (op_call (r := .bool v12) (v := .bool v12) (Hr := []) (n' := 1) (impl_addressOk_fn hv12) (clz_v (vs := [.int .i64 x_c.Bad]) (by kernel_rfl) (clz_c (clo_same rfl) clz_n)) rfl rfl (by kernel_rfl) ?_)
          refine yct (cs := []) (E' := (sp 58 [(1, .ptr 0 [] 0), (3, .bool false), (4, .bool v12)])) (H' := [(0, some ⟨39, (B_39 x_c)⟩)]) (n' := 1) (fun K => by kernel_rfl) .nil ?_
          refine Aw.sreg [1, 3, 4, 5] [0] ?_
          refine yc (cs := []) (E' := (sp 58 [(1, .ptr 0 [] 0), (3, .bool false), (4, .bool v12), (33, .ptr 0 [] 6), (34, .int .i64 x_c.Cause), (35, .bool (decide ((0 : Int) ≤ x_c.Cause))), (36, .bool (decide ((0 : Int) ≤ x_c.Cause)))])) (H' := [(0, some ⟨39, (B_39 x_c)⟩)]) (n' := 1) (pre := (List.take 4 L_impl_CoreOk_r3)) (L' := (List.drop 4 L_impl_CoreOk_r3)) (by kernel_rfl) (fun K => by kernel_rfl) .nil ?_
          rcases cond_some hh with ⟨hb, hh⟩ | ⟨hb, hh⟩
          · refine ybs (t := 35) hb (by kernel_rfl) ?_
            refine ybs (t := 36) hb (by kernel_rfl) ?_
            refine yct (cs := []) (E' := (sp 58 [(1, .ptr 0 [] 0), (3, .bool false), (4, .bool v12), (5, .bool (decide (x_c.Cause ≤ (4 : Int))))])) (H' := [(0, some ⟨39, (B_39 x_c)⟩)]) (n' := 1) (fun K => by kernel_rfl) .nil ?_
            refine Aw.sreg [2] [] ?_
            refine yct (cs := []) (E' := (sp 58 [(2, .bool false)])) (H' := []) (n' := 1) (fun K => by kernel_rfl) .nil ?_
            refine Aw.ret ?_
            rw [some_some hh]
            exact gives (r' := .bool false) (by kernel_rfl) (Ent.list [] rfl rfl (Nat.zero_le _) (rens_1 ren_b) hs_nil)
          · refine ybs (t := 35) hb (by kernel_rfl) ?_
            refine ybs (t := 36) hb (by kernel_rfl) ?_
            refine yct (cs := []) (E' := (sp 58 [(1, .ptr 0 [] 0), (3, .bool false), (4, .bool v12), (5, .bool false)])) (H' := [(0, some ⟨39, (B_39 x_c)⟩)]) (n' := 1) (fun K => by kernel_rfl) .nil ?_
            refine Aw.sreg [2] [] ?_
            refine yct (cs := []) (E' := (sp 58 [(2, .bool false)])) (H' := []) (n' := 1) (fun K => by kernel_rfl) .nil ?_
            refine Aw.ret ?_
            rw [some_some hh]
            exact gives (r' := .bool false) (by kernel_rfl) (Ent.list [] rfl rfl (Nat.zero_le _) (rens_1 ren_b) hs_nil)
        · refine ybs (t := 26) hb (by kernel_rfl) ?_
          refine ybs (t := 27) hb (by kernel_rfl) ?_
          refine ybs (t := 28) hb (by kernel_rfl) ?_
          refine yct (cs := []) (E' := (sp 58 [(1, .ptr 0 [] 0), (3, .bool false), (4, .bool false)])) (H' := [(0, some ⟨39, (B_39 x_c)⟩)]) (n' := 1) (fun K => by kernel_rfl) .nil ?_
          refine Aw.sreg [1, 3, 4, 5] [0] ?_
          refine yc (cs := []) (E' := (sp 58 [(1, .ptr 0 [] 0), (3, .bool false), (4, .bool false), (33, .ptr 0 [] 6), (34, .int .i64 x_c.Cause), (35, .bool (decide ((0 : Int) ≤ x_c.Cause))), (36, .bool (decide ((0 : Int) ≤ x_c.Cause)))])) (H' := [(0, some ⟨39, (B_39 x_c)⟩)]) (n' := 1) (pre := (List.take 4 L_impl_CoreOk_r3)) (L' := (List.drop 4 L_impl_CoreOk_r3)) (by kernel_rfl) (fun K => by kernel_rfl) .nil ?_
          rcases cond_some hh with ⟨hb, hh⟩ | ⟨hb, hh⟩
          · refine ybs (t := 35) hb (by kernel_rfl) ?_
            refine ybs (t := 36) hb (by kernel_rfl) ?_
            refine yct (cs := []) (E' := (sp 58 [(1, .ptr 0 [] 0), (3, .bool false), (4, .bool false), (5, .bool (decide (x_c.Cause ≤ (4 : Int))))])) (H' := [(0, some ⟨39, (B_39 x_c)⟩)]) (n' := 1) (fun K => by kernel_rfl) .nil ?_
            refine Aw.sreg [2] [] ?_
            refine yct (cs := []) (E' := (sp 58 [(2, .bool false)])) (H' := []) (n' := 1) (fun K => by kernel_rfl) .nil ?_
            refine Aw.ret ?_
            rw [some_some hh]
            exact gives (r' := .bool false) (by kernel_rfl) (Ent.list [] rfl rfl (Nat.zero_le _) (rens_1 ren_b) hs_nil)
          · refine ybs (t := 35) hb (by kernel_rfl) ?_
            refine ybs (t := 36) hb (by kernel_rfl) ?_
            refine yct (cs := []) (E' := (sp 58 [(1, .ptr 0 [] 0), (3, .bool false), (4, .bool false), (5, .bool false)])) (H' := [(0, some ⟨39, (B_39 x_c)⟩)]) (n' := 1) (fun K => by kernel_rfl) .nil ?_
            refine Aw.sreg [2] [] ?_
            refine yct (cs := []) (E' := (sp 58 [(2, .bool false)])) (H' := []) (n' := 1) (fun K => by kernel_rfl) .nil ?_
            refine Aw.ret ?_
            rw [some_some hh]
            exact gives (r' := .bool false) (by kernel_rfl) (Ent.list [] rfl rfl (Nat.zero_le _) (rens_1 ren_b) hs_nil)
      · refine ybs (t := 21) hb (by kernel_rfl) ?_
        refine ybs (t := 22) hb (by kernel_rfl) ?_
        refine ybs (t := 23) hb (by kernel_rfl) ?_
        refine yct (cs := []) (E' := (sp 58 [(1, .ptr 0 [] 0), (3, .bool false), (4, .bool false)])) (H' := [(0, some ⟨39, (B_39 x_c)⟩)]) (n' := 1) (fun K => by kernel_rfl) .nil ?_
        refine Aw.sreg [1, 3, 4, 5] [0] ?_
        refine yc (cs := []) (E' := (sp 58 [(1, .ptr 0 [] 0), (3, .bool false), (4, .bool false), (33, .ptr 0 [] 6), (34, .int .i64 x_c.Cause), (35, .bool (decide ((0 : Int) ≤ x_c.Cause))), (36, .bool (decide ((0 : Int) ≤ x_c.Cause)))])) (H' := [(0, some ⟨39, (B_39 x_c)⟩)]) (n' := 1) (pre := (List.take 4 L_impl_CoreOk_r3)) (L' := (List.drop 4 L_impl_CoreOk_r3)) (by kernel_rfl) (fun K => by kernel_rfl) .nil ?_
        rcases cond_some hh with ⟨hb, hh⟩ | ⟨hb, hh⟩
        · refine ybs (t := 35) hb (by kernel_rfl) ?_
          refine ybs (t := 36) hb (by kernel_rfl) ?_
          refine yct (cs := []) (E' := (sp 58 [(1, .ptr 0 [] 0), (3, .bool false), (4, .bool false), (5, .bool (decide (x_c.Cause ≤ (4 : Int))))])) (H' := [(0, some ⟨39, (B_39 x_c)⟩)]) (n' := 1) (fun K => by kernel_rfl) .nil ?_
          refine Aw.sreg [2] [] ?_
          refine yct (cs := []) (E' := (sp 58 [(2, .bool false)])) (H' := []) (n' := 1) (fun K => by kernel_rfl) .nil ?_
          refine Aw.ret ?_
          rw [some_some hh]
          exact gives (r' := .bool false) (by kernel_rfl) (Ent.list [] rfl rfl (Nat.zero_le _) (rens_1 ren_b) hs_nil)
        · refine ybs (t := 35) hb (by kernel_rfl) ?_
          refine ybs (t := 36) hb (by kernel_rfl) ?_
          refine yct (cs := []) (E' := (sp 58 [(1, .ptr 0 [] 0), (3, .bool false), (4, .bool false), (5, .bool false)])) (H' := [(0, some ⟨39, (B_39 x_c)⟩)]) (n' := 1) (fun K => by kernel_rfl) .nil ?_
          refine Aw.sreg [2] [] ?_
          refine yct (cs := []) (E' := (sp 58 [(2, .bool false)])) (H' := []) (n' := 1) (fun K => by kernel_rfl) .nil ?_
          refine Aw.ret ?_
          rw [some_some hh]
          exact gives (r' := .bool false) (by kernel_rfl) (Ent.list [] rfl rfl (Nat.zero_le _) (rens_1 ren_b) hs_nil)
    · refine ybs (t := 17) hb (by kernel_rfl) ?_
      refine ybs (t := 18) hb (by kernel_rfl) ?_
      refine yct (cs := []) (E' := (sp 58 [(1, .ptr 0 [] 0), (3, .bool false), (4, .bool false)])) (H' := [(0, some ⟨39, (B_39 x_c)⟩)]) (n' := 1) (fun K => by kernel_rfl) .nil ?_
      refine Aw.sreg [1, 3, 4, 5] [0] ?_
      refine yc (cs := []) (E' := (sp 58 [(1, .ptr 0 [] 0), (3, .bool false), (4, .bool false), (33, .ptr 0 [] 6), (34, .int .i64 x_c.Cause), (35, .bool (decide ((0 : Int) ≤ x_c.Cause))), (36, .bool (decide ((0 : Int) ≤ x_c.Cause)))])) (H' := [(0, some ⟨39, (B_39 x_c)⟩)]) (n' := 1) (pre := (List.take 4 L_impl_CoreOk_r3)) (L' := (List.drop 4 L_impl_CoreOk_r3)) (by kernel_rfl) (fun K => by kernel_rfl) .nil ?_
      rcases cond_some hh with ⟨hb, hh⟩ | ⟨hb, hh⟩
      · refine ybs (t := 35) hb (by kernel_rfl) ?_
        refine ybs (t := 36) hb (by kernel_rfl) ?_
        refine yct (cs := []) (E' := (sp 58 [(1, .ptr 0 [] 0), (3, .bool false), (4, .bool false), (5, .bool (decide (x_c.Cause ≤ (4 : Int))))])) (H' := [(0, some ⟨39, (B_39 x_c)⟩)]) (n' := 1) (fun K => by kernel_rfl) .nil ?_
        refine Aw.sreg [2] [] ?_
        refine yct (cs := []) (E' := (sp 58 [(2, .bool false)])) (H' := []) (n' := 1) (fun K => by kernel_rfl) .nil ?_
        refine Aw.ret ?_
        rw [some_some hh]
        exact gives (r' := .bool false) (by kernel_rfl) (Ent.list [] rfl rfl (Nat.zero_le _) (rens_1 ren_b) hs_nil)
      · refine ybs (t := 35) hb (by kernel_rfl) ?_
        refine ybs (t := 36) hb (by kernel_rfl) ?_
        refine yct (cs := []) (E' := (sp 58 [(1, .ptr 0 [] 0), (3, .bool false), (4, .bool false), (5, .bool false)])) (H' := [(0, some ⟨39, (B_39 x_c)⟩)]) (n' := 1) (fun K => by kernel_rfl) .nil ?_
        refine Aw.sreg [2] [] ?_
        refine yct (cs := []) (E' := (sp 58 [(2, .bool false)])) (H' := []) (n' := 1) (fun K => by kernel_rfl) .nil ?_
        refine Aw.ret ?_
        rw [some_some hh]
        exact gives (r' := .bool false) (by kernel_rfl) (Ent.list [] rfl rfl (Nat.zero_le _) (rens_1 ren_b) hs_nil)

noncomputable def F_spec_CoreOk_j1 (x_c : DCore) (s1 : Unit) : Option Bool :=
  cond (decide ((((List.length x_c.Regs) : Nat) : Int) = (4 : Int)))
    (Option.bind (F_spec_l1In x_c.Pc (0 : Int) (63 : Int)) fun v2 =>
    cond v2
      (Option.bind (F_spec_l1In x_c.Vector (0 : Int) (63 : Int)) fun v3 =>
      cond v3
        (Option.bind (F_spec_l1In x_c.Saved (0 : Int) (63 : Int)) fun v4 =>
        cond v4
          (Option.bind (F_spec_l1In x_c.Bad (0 : Int) (63 : Int)) fun v5 =>
          cond v5
            (Option.bind (F_spec_l1In x_c.Root (-1 : Int) (7 : Int)) fun v6 =>
            cond v6
              (Option.bind (F_spec_l1In x_c.Cause (0 : Int) (4 : Int)) fun v7 =>
              cond v7
                (Option.bind (F_spec_WordOk x_c.Timer) fun v8 =>
                some v8)
                (some false))
              (some false))
            (some false))
          (some false))
        (some false))
      (some false))
    (some false)
noncomputable def F_spec_CoreOk_l9 (x_c : DCore) (s9 : Int) : Option (LO Int (JO Unit Bool)) :=
  cond (decide (s9 < (((List.length x_c.Regs) : Nat) : Int)))
    (grd ((0 : Int) ≤ s9 ∧ s9 < ((List.length x_c.Regs : Nat) : Int)) (Option.bind (F_spec_WordOk (List.getD x_c.Regs (Int.toNat s9) default)) fun v10 =>
      cond (!v10)
        (some (.ret (.out false)))
        (some (.next (w64 (s9 + (1 : Int)))))))
    (some (.ret (.go ())))
noncomputable def F_spec_CoreOk (x_c : DCore) : Option Bool :=
  Option.bind (Option.bind (iter (F_spec_CoreOk_l9 x_c) (0 : Int)) LO.val) fun j1 =>
    JO.run j1 (F_spec_CoreOk_j1 x_c)
theorem spec_CoreOk_fn {x_c : DCore} {R_ : Bool} (hh : F_spec_CoreOk x_c = some R_) : Fn Try.prog 31 [.agg (B_39 x_c)] (.bool R_) := by
  unfold F_spec_CoreOk at hh
  refine Fn.start low_spec_CoreOk [0] (E := sp 57 [(0, .agg (B_39 x_c))]) (by kernel_rfl) (v := .bool R_) (Hr := []) (k := 0) (by kernel_rfl) ?_
  refine Aw.sreg [1] [0] ?_
  refine yct (cs := []) (E' := (sp 57 [(1, .ptr 0 [] 0)])) (H' := [(0, some ⟨39, (B_39 x_c)⟩)]) (n' := 1) (fun K => by kernel_rfl) .nil ?_
  obtain ⟨j1, hh, hk1⟩ := bind_some hh
  refine Aw.join (S := Unit) (fun s1 => sp 57 [(1, .ptr 0 [] 0)]) (fun s1 => [(0, some ⟨39, (B_39 x_c)⟩)]) 1 (fun s1 => F_spec_CoreOk_j1 x_c s1 = some R_) ?_ ?_
  · intro s1 hh
    unfold F_spec_CoreOk_j1 at hh
    refine Aw.sreg [2] [] ?_
    refine yc (cs := []) (E' := (sp 57 [(1, .ptr 0 [] 0), (18, .ptr 0 [] 0), (19, bo (eI .i64) x_c.Regs), (20, .int .i64 (((List.length x_c.Regs) : Nat) : Int)), (21, .bool (decide ((((List.length x_c.Regs) : Nat) : Int) = (4 : Int)))), (22, .bool (decide ((((List.length x_c.Regs) : Nat) : Int) = (4 : Int))))])) (H' := [(0, some ⟨39, (B_39 x_c)⟩)]) (n' := 1) (pre := (List.take 5 L_spec_CoreOk_r7)) (L' := (List.drop 5 L_spec_CoreOk_r7)) (by kernel_rfl) (fun K => by kernel_rfl) .nil ?_
    rcases cond_some hh with ⟨hb, hh⟩ | ⟨hb, hh⟩
    · refine ybs (t := 21) hb (by kernel_rfl) ?_
      refine ybs (t := 22) hb (by kernel_rfl) ?_
      refine yc (cs := []) (E' := (sp 57 [(1, .ptr 0 [] 0), (18, .ptr 0 [] 0), (19, bo (eI .i64) x_c.Regs), (20, .int .i64 (((List.length x_c.Regs) : Nat) : Int)), (21, .bool true), (22, .bool true), (23, .ptr 0 [] 1), (24, .int .i64 x_c.Pc)])) (H' := [(0, some ⟨39, (B_39 x_c)⟩)]) (n' := 1) (pre := (List.take 2 (List.drop 5 L_spec_CoreOk_r7))) (L' := (List.drop 7 L_spec_CoreOk_r7)) (by kernel_rfl) (fun K => by kernel_rfl) .nil ?_
      obtain ⟨v2, hv2, hh⟩ := bind_some hh
      refine ysg (op := (.call 57 [(.t 24), (.c (.int .i64 0)), (.c (.int .i64 63))])) (d := (some 25)) (t := 22) (want := true) (os := (List.drop 8 L_spec_CoreOk_r7)) (by kernel_rfl) (by kernel_rfl) (op_call (r := .bool v2) (v := .bool v2) (Hr := []) (n' := 1) (spec_l1In_fn hv2) (clz_v (vs := [.int .i64 x_c.Pc, .int .i64 (0 : Int), .int .i64 (63 : Int)]) (by kernel_rfl) (clz_c (clo_same rfl) (clz_c (clo_same rfl) (clz_c (clo_same rfl) clz_n)))) rfl rfl (by kernel_rfl) ?_)
      refine yc (cs := []) (E' := (sp 57 [(1, .ptr 0 [] 0), (18, .ptr 0 [] 0), (19, bo (eI .i64) x_c.Regs), (20, .int .i64 (((List.length x_c.Regs) : Nat) : Int)), (21, .bool true), (22, .bool true), (23, .ptr 0 [] 1), (24, .int .i64 x_c.Pc), (25, .bool v2), (26, .bool v2), (27, .bool v2)])) (H' := [(0, some ⟨39, (B_39 x_c)⟩)]) (n' := 1) (pre := (List.take 2 (List.drop 8 L_spec_CoreOk_r7))) (L' := (List.drop 10 L_spec_CoreOk_r7)) (by kernel_rfl) (fun K => by kernel_rfl) .nil ?_
      rcases cond_some hh with ⟨hb, hh⟩ | ⟨hb, hh⟩
      · refine ybs (t := 25) hb (by kernel_rfl) ?_
        refine ybs (t := 26) hb (by kernel_rfl) ?_
        refine ybs (t := 27) hb (by kernel_rfl) ?_
        refine yc (cs := []) (E' := (sp 57 [(1, .ptr 0 [] 0), (18, .ptr 0 [] 0), (19, bo (eI .i64) x_c.Regs), (20, .int .i64 (((List.length x_c.Regs) : Nat) : Int)), (21, .bool true), (22, .bool true), (23, .ptr 0 [] 1), (24, .int .i64 x_c.Pc), (25, .bool true), (26, .bool true), (27, .bool true), (28, .ptr 0 [] 3), (29, .int .i64 x_c.Vector)])) (H' := [(0, some ⟨39, (B_39 x_c)⟩)]) (n' := 1) (pre := (List.take 2 (List.drop 10 L_spec_CoreOk_r7))) (L' := (List.drop 12 L_spec_CoreOk_r7)) (by kernel_rfl) (fun K => by kernel_rfl) .nil ?_
        obtain ⟨v3, hv3, hh⟩ := bind_some hh
        refine ysg (op := (.call 57 [(.t 29), (.c (.int .i64 0)), (.c (.int .i64 63))])) (d := (some 30)) (t := 27) (want := true) (os := (List.drop 13 L_spec_CoreOk_r7)) (by kernel_rfl) (by kernel_rfl) (op_call (r := .bool v3) (v := .bool v3) (Hr := []) (n' := 1) (spec_l1In_fn hv3) (clz_v (vs := [.int .i64 x_c.Vector, .int .i64 (0 : Int), .int .i64 (63 : Int)]) (by kernel_rfl) (clz_c (clo_same rfl) (clz_c (clo_same rfl) (clz_c (clo_same rfl) clz_n)))) rfl rfl (by kernel_rfl) ?_)
        refine yc (cs := []) (E' := (sp 57 [(1, .ptr 0 [] 0), (18, .ptr 0 [] 0), (19, bo (eI .i64) x_c.Regs), (20, .int .i64 (((List.length x_c.Regs) : Nat) : Int)), (21, .bool true), (22, .bool true), (23, .ptr 0 [] 1), (24, .int .i64 x_c.Pc), (25, .bool true), (26, .bool true), (27, .bool true), (28, .ptr 0 [] 3), (29, .int .i64 x_c.Vector), (30, .bool v3), (31, .bool v3), (32, .bool v3)])) (H' := [(0, some ⟨39, (B_39 x_c)⟩)]) (n' := 1) (pre := (List.take 2 (List.drop 13 L_spec_CoreOk_r7))) (L' := (List.drop 15 L_spec_CoreOk_r7)) (by kernel_rfl) (fun K => by kernel_rfl) .nil ?_
        rcases cond_some hh with ⟨hb, hh⟩ | ⟨hb, hh⟩
        · refine ybs (t := 30) hb (by kernel_rfl) ?_
          refine ybs (t := 31) hb (by kernel_rfl) ?_
          refine ybs (t := 32) hb (by kernel_rfl) ?_
          refine yc (cs := []) (E' := (sp 57 [(1, .ptr 0 [] 0), (18, .ptr 0 [] 0), (19, bo (eI .i64) x_c.Regs), (20, .int .i64 (((List.length x_c.Regs) : Nat) : Int)), (21, .bool true), (22, .bool true), (23, .ptr 0 [] 1), (24, .int .i64 x_c.Pc), (25, .bool true), (26, .bool true), (27, .bool true), (28, .ptr 0 [] 3), (29, .int .i64 x_c.Vector), (30, .bool true), (31, .bool true), (32, .bool true), (33, .ptr 0 [] 4), (34, .int .i64 x_c.Saved)])) (H' := [(0, some ⟨39, (B_39 x_c)⟩)]) (n' := 1) (pre := (List.take 2 (List.drop 15 L_spec_CoreOk_r7))) (L' := (List.drop 17 L_spec_CoreOk_r7)) (by kernel_rfl) (fun K => by kernel_rfl) .nil ?_
          obtain ⟨v4, hv4, hh⟩ := bind_some hh
          refine ysg (op := (.call 57 [(.t 34), (.c (.int .i64 0)), (.c (.int .i64 63))])) (d := (some 35)) (t := 32) (want := true) (os := (List.drop 18 L_spec_CoreOk_r7)) (by kernel_rfl) (by kernel_rfl) (op_call (r := .bool v4) (v := .bool v4) (Hr := []) (n' := 1) (spec_l1In_fn hv4) (clz_v (vs := [.int .i64 x_c.Saved, .int .i64 (0 : Int), .int .i64 (63 : Int)]) (by kernel_rfl) (clz_c (clo_same rfl) (clz_c (clo_same rfl) (clz_c (clo_same rfl) clz_n)))) rfl rfl (by kernel_rfl) ?_)
          refine yc (cs := []) (E' := (sp 57 [(1, .ptr 0 [] 0), (18, .ptr 0 [] 0), (19, bo (eI .i64) x_c.Regs), (20, .int .i64 (((List.length x_c.Regs) : Nat) : Int)), (21, .bool true), (22, .bool true), (23, .ptr 0 [] 1), (24, .int .i64 x_c.Pc), (25, .bool true), (26, .bool true), (27, .bool true), (28, .ptr 0 [] 3), (29, .int .i64 x_c.Vector), (30, .bool true), (31, .bool true), (32, .bool true), (33, .ptr 0 [] 4), (34, .int .i64 x_c.Saved), (35, .bool v4), (36, .bool v4), (37, .bool v4)])) (H' := [(0, some ⟨39, (B_39 x_c)⟩)]) (n' := 1) (pre := (List.take 2 (List.drop 18 L_spec_CoreOk_r7))) (L' := (List.drop 20 L_spec_CoreOk_r7)) (by kernel_rfl) (fun K => by kernel_rfl) .nil ?_
          rcases cond_some hh with ⟨hb, hh⟩ | ⟨hb, hh⟩
          · refine ybs (t := 35) hb (by kernel_rfl) ?_
            refine ybs (t := 36) hb (by kernel_rfl) ?_
            refine ybs (t := 37) hb (by kernel_rfl) ?_
            refine yc (cs := []) (E' := (sp 57 [(1, .ptr 0 [] 0), (18, .ptr 0 [] 0), (19, bo (eI .i64) x_c.Regs), (20, .int .i64 (((List.length x_c.Regs) : Nat) : Int)), (21, .bool true), (22, .bool true), (23, .ptr 0 [] 1), (24, .int .i64 x_c.Pc), (25, .bool true), (26, .bool true), (27, .bool true), (28, .ptr 0 [] 3), (29, .int .i64 x_c.Vector), (30, .bool true), (31, .bool true), (32, .bool true), (33, .ptr 0 [] 4), (34, .int .i64 x_c.Saved), (35, .bool true), (36, .bool true), (37, .bool true), (38, .ptr 0 [] 7), (39, .int .i64 x_c.Bad)])) (H' := [(0, some ⟨39, (B_39 x_c)⟩)]) (n' := 1) (pre := (List.take 2 (List.drop 20 L_spec_CoreOk_r7))) (L' := (List.drop 22 L_spec_CoreOk_r7)) (by kernel_rfl) (fun K => by kernel_rfl) .nil ?_
            obtain ⟨v5, hv5, hh⟩ := bind_some hh
            refine ysg (op := (.call 57 [(.t 39), (.c (.int .i64 0)), (.c (.int .i64 63))])) (d := (some 40)) (t := 37) (want := true) (os := (List.drop 23 L_spec_CoreOk_r7)) (by kernel_rfl) (by kernel_rfl) (op_call (r := .bool v5) (v := .bool v5) (Hr := []) (n' := 1) (spec_l1In_fn hv5) (clz_v (vs := [.int .i64 x_c.Bad, .int .i64 (0 : Int), .int .i64 (63 : Int)]) (by kernel_rfl) (clz_c (clo_same rfl) (clz_c (clo_same rfl) (clz_c (clo_same rfl) clz_n)))) rfl rfl (by kernel_rfl) ?_)
            refine yc (cs := []) (E' := (sp 57 [(1, .ptr 0 [] 0), (18, .ptr 0 [] 0), (19, bo (eI .i64) x_c.Regs), (20, .int .i64 (((List.length x_c.Regs) : Nat) : Int)), (21, .bool true), (22, .bool true), (23, .ptr 0 [] 1), (24, .int .i64 x_c.Pc), (25, .bool true), (26, .bool true), (27, .bool true), (28, .ptr 0 [] 3), (29, .int .i64 x_c.Vector), (30, .bool true), (31, .bool true), (32, .bool true), (33, .ptr 0 [] 4), (34, .int .i64 x_c.Saved), (35, .bool true), (36, .bool true), (37, .bool true), (38, .ptr 0 [] 7), (39, .int .i64 x_c.Bad), (40, .bool v5), (41, .bool v5), (42, .bool v5)])) (H' := [(0, some ⟨39, (B_39 x_c)⟩)]) (n' := 1) (pre := (List.take 2 (List.drop 23 L_spec_CoreOk_r7))) (L' := (List.drop 25 L_spec_CoreOk_r7)) (by kernel_rfl) (fun K => by kernel_rfl) .nil ?_
            rcases cond_some hh with ⟨hb, hh⟩ | ⟨hb, hh⟩
            · refine ybs (t := 40) hb (by kernel_rfl) ?_
              refine ybs (t := 41) hb (by kernel_rfl) ?_
              refine ybs (t := 42) hb (by kernel_rfl) ?_
              refine yc (cs := []) (E' := (sp 57 [(1, .ptr 0 [] 0), (18, .ptr 0 [] 0), (19, bo (eI .i64) x_c.Regs), (20, .int .i64 (((List.length x_c.Regs) : Nat) : Int)), (21, .bool true), (22, .bool true), (23, .ptr 0 [] 1), (24, .int .i64 x_c.Pc), (25, .bool true), (26, .bool true), (27, .bool true), (28, .ptr 0 [] 3), (29, .int .i64 x_c.Vector), (30, .bool true), (31, .bool true), (32, .bool true), (33, .ptr 0 [] 4), (34, .int .i64 x_c.Saved), (35, .bool true), (36, .bool true), (37, .bool true), (38, .ptr 0 [] 7), (39, .int .i64 x_c.Bad), (40, .bool true), (41, .bool true), (42, .bool true), (43, .ptr 0 [] 2), (44, .int .i64 x_c.Root)])) (H' := [(0, some ⟨39, (B_39 x_c)⟩)]) (n' := 1) (pre := (List.take 2 (List.drop 25 L_spec_CoreOk_r7))) (L' := (List.drop 27 L_spec_CoreOk_r7)) (by kernel_rfl) (fun K => by kernel_rfl) .nil ?_
              obtain ⟨v6, hv6, hh⟩ := bind_some hh
              refine ysg (op := (.call 57 [(.t 44), (.c (.int .i64 (-1))), (.c (.int .i64 7))])) (d := (some 45)) (t := 42) (want := true) (os := (List.drop 28 L_spec_CoreOk_r7)) (by kernel_rfl) (by kernel_rfl) (op_call (r := .bool v6) (v := .bool v6) (Hr := []) (n' := 1) (spec_l1In_fn hv6) (clz_v (vs := [.int .i64 x_c.Root, .int .i64 (-1 : Int), .int .i64 (7 : Int)]) (by kernel_rfl) (clz_c (clo_same rfl) (clz_c (clo_same rfl) (clz_c (clo_same rfl) clz_n)))) rfl rfl (by kernel_rfl) ?_)
              refine yc (cs := []) (E' := (sp 57 [(1, .ptr 0 [] 0), (18, .ptr 0 [] 0), (19, bo (eI .i64) x_c.Regs), (20, .int .i64 (((List.length x_c.Regs) : Nat) : Int)), (21, .bool true), (22, .bool true), (23, .ptr 0 [] 1), (24, .int .i64 x_c.Pc), (25, .bool true), (26, .bool true), (27, .bool true), (28, .ptr 0 [] 3), (29, .int .i64 x_c.Vector), (30, .bool true), (31, .bool true), (32, .bool true), (33, .ptr 0 [] 4), (34, .int .i64 x_c.Saved), (35, .bool true), (36, .bool true), (37, .bool true), (38, .ptr 0 [] 7), (39, .int .i64 x_c.Bad), (40, .bool true), (41, .bool true), (42, .bool true), (43, .ptr 0 [] 2), (44, .int .i64 x_c.Root), (45, .bool v6), (46, .bool v6), (47, .bool v6)])) (H' := [(0, some ⟨39, (B_39 x_c)⟩)]) (n' := 1) (pre := (List.take 2 (List.drop 28 L_spec_CoreOk_r7))) (L' := (List.drop 30 L_spec_CoreOk_r7)) (by kernel_rfl) (fun K => by kernel_rfl) .nil ?_
              rcases cond_some hh with ⟨hb, hh⟩ | ⟨hb, hh⟩
              · refine ybs (t := 45) hb (by kernel_rfl) ?_
                refine ybs (t := 46) hb (by kernel_rfl) ?_
                refine ybs (t := 47) hb (by kernel_rfl) ?_
                refine yc (cs := []) (E' := (sp 57 [(1, .ptr 0 [] 0), (18, .ptr 0 [] 0), (19, bo (eI .i64) x_c.Regs), (20, .int .i64 (((List.length x_c.Regs) : Nat) : Int)), (21, .bool true), (22, .bool true), (23, .ptr 0 [] 1), (24, .int .i64 x_c.Pc), (25, .bool true), (26, .bool true), (27, .bool true), (28, .ptr 0 [] 3), (29, .int .i64 x_c.Vector), (30, .bool true), (31, .bool true), (32, .bool true), (33, .ptr 0 [] 4), (34, .int .i64 x_c.Saved), (35, .bool true), (36, .bool true), (37, .bool true), (38, .ptr 0 [] 7), (39, .int .i64 x_c.Bad), (40, .bool true), (41, .bool true), (42, .bool true), (43, .ptr 0 [] 2), (44, .int .i64 x_c.Root), (45, .bool true), (46, .bool true), (47, .bool true), (48, .ptr 0 [] 6), (49, .int .i64 x_c.Cause)])) (H' := [(0, some ⟨39, (B_39 x_c)⟩)]) (n' := 1) (pre := (List.take 2 (List.drop 30 L_spec_CoreOk_r7))) (L' := (List.drop 32 L_spec_CoreOk_r7)) (by kernel_rfl) (fun K => by kernel_rfl) .nil ?_
                obtain ⟨v7, hv7, hh⟩ := bind_some hh
                refine ysg (op := (.call 57 [(.t 49), (.c (.int .i64 0)), (.c (.int .i64 4))])) (d := (some 50)) (t := 47) (want := true) (os := (List.drop 33 L_spec_CoreOk_r7)) (by kernel_rfl) (by kernel_rfl) (op_call (r := .bool v7) (v := .bool v7) (Hr := []) (n' := 1) (spec_l1In_fn hv7) (clz_v (vs := [.int .i64 x_c.Cause, .int .i64 (0 : Int), .int .i64 (4 : Int)]) (by kernel_rfl) (clz_c (clo_same rfl) (clz_c (clo_same rfl) (clz_c (clo_same rfl) clz_n)))) rfl rfl (by kernel_rfl) ?_)
                refine yc (cs := []) (E' := (sp 57 [(1, .ptr 0 [] 0), (18, .ptr 0 [] 0), (19, bo (eI .i64) x_c.Regs), (20, .int .i64 (((List.length x_c.Regs) : Nat) : Int)), (21, .bool true), (22, .bool true), (23, .ptr 0 [] 1), (24, .int .i64 x_c.Pc), (25, .bool true), (26, .bool true), (27, .bool true), (28, .ptr 0 [] 3), (29, .int .i64 x_c.Vector), (30, .bool true), (31, .bool true), (32, .bool true), (33, .ptr 0 [] 4), (34, .int .i64 x_c.Saved), (35, .bool true), (36, .bool true), (37, .bool true), (38, .ptr 0 [] 7), (39, .int .i64 x_c.Bad), (40, .bool true), (41, .bool true), (42, .bool true), (43, .ptr 0 [] 2), (44, .int .i64 x_c.Root), (45, .bool true), (46, .bool true), (47, .bool true), (48, .ptr 0 [] 6), (49, .int .i64 x_c.Cause), (50, .bool v7), (51, .bool v7), (52, .bool v7)])) (H' := [(0, some ⟨39, (B_39 x_c)⟩)]) (n' := 1) (pre := (List.take 2 (List.drop 33 L_spec_CoreOk_r7))) (L' := (List.drop 35 L_spec_CoreOk_r7)) (by kernel_rfl) (fun K => by kernel_rfl) .nil ?_
                rcases cond_some hh with ⟨hb, hh⟩ | ⟨hb, hh⟩
                · refine ybs (t := 50) hb (by kernel_rfl) ?_
                  refine ybs (t := 51) hb (by kernel_rfl) ?_
                  refine ybs (t := 52) hb (by kernel_rfl) ?_
                  refine yc (cs := []) (E' := (sp 57 [(1, .ptr 0 [] 0), (18, .ptr 0 [] 0), (19, bo (eI .i64) x_c.Regs), (20, .int .i64 (((List.length x_c.Regs) : Nat) : Int)), (21, .bool true), (22, .bool true), (23, .ptr 0 [] 1), (24, .int .i64 x_c.Pc), (25, .bool true), (26, .bool true), (27, .bool true), (28, .ptr 0 [] 3), (29, .int .i64 x_c.Vector), (30, .bool true), (31, .bool true), (32, .bool true), (33, .ptr 0 [] 4), (34, .int .i64 x_c.Saved), (35, .bool true), (36, .bool true), (37, .bool true), (38, .ptr 0 [] 7), (39, .int .i64 x_c.Bad), (40, .bool true), (41, .bool true), (42, .bool true), (43, .ptr 0 [] 2), (44, .int .i64 x_c.Root), (45, .bool true), (46, .bool true), (47, .bool true), (48, .ptr 0 [] 6), (49, .int .i64 x_c.Cause), (50, .bool true), (51, .bool true), (52, .bool true), (53, .ptr 0 [] 8), (54, .int .i64 x_c.Timer)])) (H' := [(0, some ⟨39, (B_39 x_c)⟩)]) (n' := 1) (pre := (List.take 2 (List.drop 35 L_spec_CoreOk_r7))) (L' := (List.drop 37 L_spec_CoreOk_r7)) (by kernel_rfl) (fun K => by kernel_rfl) .nil ?_
                  obtain ⟨v8, hv8, hh⟩ := bind_some hh
                  refine ysg (op := (.call 54 [(.t 54)])) (d := (some 55)) (t := 52) (want := true) (os := (List.drop 38 L_spec_CoreOk_r7)) (by kernel_rfl) (by kernel_rfl) (op_call (r := .bool v8) (v := .bool v8) (Hr := []) (n' := 1) (spec_WordOk_fn hv8) (clz_v (vs := [.int .i64 x_c.Timer]) (by kernel_rfl) (clz_c (clo_same rfl) clz_n)) rfl rfl (by kernel_rfl) ?_)
                  refine yct (cs := []) (E' := (sp 57 [(2, .bool v8)])) (H' := []) (n' := 1) (fun K => by kernel_rfl) .nil ?_
                  refine Aw.ret ?_
                  rw [some_some hh]
                  exact gives (r' := .bool v8) (by kernel_rfl) (Ent.list [] rfl rfl (Nat.zero_le _) (rens_1 ren_b) hs_nil)
                · refine ybs (t := 50) hb (by kernel_rfl) ?_
                  refine ybs (t := 51) hb (by kernel_rfl) ?_
                  refine ybs (t := 52) hb (by kernel_rfl) ?_
                  refine yct (cs := []) (E' := (sp 57 [(2, .bool false)])) (H' := []) (n' := 1) (fun K => by kernel_rfl) .nil ?_
                  refine Aw.ret ?_
                  rw [some_some hh]
                  exact gives (r' := .bool false) (by kernel_rfl) (Ent.list [] rfl rfl (Nat.zero_le _) (rens_1 ren_b) hs_nil)
              · refine ybs (t := 45) hb (by kernel_rfl) ?_
                refine ybs (t := 46) hb (by kernel_rfl) ?_
                refine ybs (t := 47) hb (by kernel_rfl) ?_
                refine yct (cs := []) (E' := (sp 57 [(2, .bool false)])) (H' := []) (n' := 1) (fun K => by kernel_rfl) .nil ?_
                refine Aw.ret ?_
                rw [some_some hh]
                exact gives (r' := .bool false) (by kernel_rfl) (Ent.list [] rfl rfl (Nat.zero_le _) (rens_1 ren_b) hs_nil)
            · refine ybs (t := 40) hb (by kernel_rfl) ?_
              refine ybs (t := 41) hb (by kernel_rfl) ?_
              refine ybs (t := 42) hb (by kernel_rfl) ?_
              refine yct (cs := []) (E' := (sp 57 [(2, .bool false)])) (H' := []) (n' := 1) (fun K => by kernel_rfl) .nil ?_
              refine Aw.ret ?_
              rw [some_some hh]
              exact gives (r' := .bool false) (by kernel_rfl) (Ent.list [] rfl rfl (Nat.zero_le _) (rens_1 ren_b) hs_nil)
          · refine ybs (t := 35) hb (by kernel_rfl) ?_
            refine ybs (t := 36) hb (by kernel_rfl) ?_
            refine ybs (t := 37) hb (by kernel_rfl) ?_
            refine yct (cs := []) (E' := (sp 57 [(2, .bool false)])) (H' := []) (n' := 1) (fun K => by kernel_rfl) .nil ?_
            refine Aw.ret ?_
            rw [some_some hh]
            exact gives (r' := .bool false) (by kernel_rfl) (Ent.list [] rfl rfl (Nat.zero_le _) (rens_1 ren_b) hs_nil)
        · refine ybs (t := 30) hb (by kernel_rfl) ?_
          refine ybs (t := 31) hb (by kernel_rfl) ?_
          refine ybs (t := 32) hb (by kernel_rfl) ?_
          refine yct (cs := []) (E' := (sp 57 [(2, .bool false)])) (H' := []) (n' := 1) (fun K => by kernel_rfl) .nil ?_
          refine Aw.ret ?_
          rw [some_some hh]
          exact gives (r' := .bool false) (by kernel_rfl) (Ent.list [] rfl rfl (Nat.zero_le _) (rens_1 ren_b) hs_nil)
      · refine ybs (t := 25) hb (by kernel_rfl) ?_
        refine ybs (t := 26) hb (by kernel_rfl) ?_
        refine ybs (t := 27) hb (by kernel_rfl) ?_
        refine yct (cs := []) (E' := (sp 57 [(2, .bool false)])) (H' := []) (n' := 1) (fun K => by kernel_rfl) .nil ?_
        refine Aw.ret ?_
        rw [some_some hh]
        exact gives (r' := .bool false) (by kernel_rfl) (Ent.list [] rfl rfl (Nat.zero_le _) (rens_1 ren_b) hs_nil)
    · refine ybs (t := 21) hb (by kernel_rfl) ?_
      refine ybs (t := 22) hb (by kernel_rfl) ?_
      refine yct (cs := []) (E' := (sp 57 [(2, .bool false)])) (H' := []) (n' := 1) (fun K => by kernel_rfl) .nil ?_
      refine Aw.ret ?_
      rw [some_some hh]
      exact gives (r' := .bool false) (by kernel_rfl) (Ent.list [] rfl rfl (Nat.zero_le _) (rens_1 ren_b) hs_nil)
  · intro Q1 hN1 hR1 hE1
    refine Aw.sreg [1, 3] [0] ?_
    refine yct (cs := []) (E' := (sp 57 [(1, .ptr 0 [] 0), (3, .int .i64 (0 : Int))])) (H' := [(0, some ⟨39, (B_39 x_c)⟩)]) (n' := 1) (fun K => by kernel_rfl) .nil ?_
    refine Aw.block ?_
    obtain ⟨o9, hi9, hk9⟩ := bind_some hh
    refine Aw.iter (fun (s9 : Int) => sp 57 [(1, .ptr 0 [] 0), (3, .int .i64 s9)]) (fun (s9 : Int) => [(0, some ⟨39, (B_39 x_c)⟩)]) 1 hi9 (Ent.list2 [some 0] rfl rfl (by decide) (rens_sp (by kernel_rfl) (rl_c (u := .ptr 0 [] 0) (by kernel_rfl) (ren_p (by decide) rfl) (rl_c (u := .int .i64 (0 : Int)) (by kernel_rfl) ren_i rl_n))) (hs_as (t := ⟨39, (B_39 x_c)⟩) (by decide) rfl (by kernel_rfl) rfl (rens_same (nr_B_39 _)) hs_nil)) ?_
    intro s9 u9 Q9 hh hN9 hX9 hR9
    unfold F_spec_CoreOk_l9 at hh
    refine Aw.seq ?_
    refine Aw.sreg [1, 3, 8] [0] ?_
    refine yct (cs := []) (E' := (sp 57 [(1, .ptr 0 [] 0), (3, .int .i64 s9), (8, .bool (decide (s9 < (((List.length x_c.Regs) : Nat) : Int))))])) (H' := [(0, some ⟨39, (B_39 x_c)⟩)]) (n' := 1) (fun K => by kernel_rfl) .nil ?_
    rcases cond_some hh with ⟨hb, hh⟩ | ⟨hb, hh⟩
    · refine Aw.condT (by kernel_rfl) hb ?_
      refine Aw.xskip (fun _ _ _ hq => then_m hq) ?_
      refine Aw.seq ?_
      refine Aw.block ?_
      refine Aw.sreg [1, 3, 17] [0] ?_
      refine yc (cs := []) (E' := (sp 57 [(1, .ptr 0 [] 0), (3, .int .i64 s9), (8, .bool (decide (s9 < (((List.length x_c.Regs) : Nat) : Int)))), (11, .ptr 0 [] 0), (12, bo (eI .i64) x_c.Regs), (13, .int .i64 s9)])) (H' := [(0, some ⟨39, (B_39 x_c)⟩)]) (n' := 1) (pre := (List.take 3 L_spec_CoreOk_r3)) (L' := (List.drop 3 L_spec_CoreOk_r3)) (by kernel_rfl) (fun K => by kernel_rfl) .nil ?_
      obtain ⟨hg24, hh⟩ := grd_some hh
      refine yso (op := (.iadr 1 (.t 12) (.t 13))) (d := (some 14)) (os := (List.drop 4 L_spec_CoreOk_r3)) (by kernel_rfl) (op_iadr (kd := .i64) (c := (eI .i64)) (xs := x_c.Regs) len_eI (by decide) (by kernel_rfl) (by kernel_rfl) hg24 ?_)
      refine yso (op := (.load false 1 (.t 14))) (d := (some 15)) (os := (List.drop 5 L_spec_CoreOk_r3)) (by kernel_rfl) (op_loadb (c := (eI .i64)) (xs := x_c.Regs) (o := Int.toNat s9 * 1) (i := (Int.toNat s9)) (off := 0) (v := .int .i64 (List.getD x_c.Regs (Int.toNat s9) default)) len_eI (by kernel_rfl) (by omega) (by omega) (by decide) (by kernel_rfl) ?_)
      obtain ⟨v10, hv10, hh⟩ := bind_some hh
      refine yso (op := (.call 54 [(.t 15)])) (d := (some 16)) (os := (List.drop 6 L_spec_CoreOk_r3)) (by kernel_rfl) (op_call (r := .bool v10) (v := .bool v10) (Hr := []) (n' := 1) (spec_WordOk_fn hv10) (clz_v (vs := [.int .i64 (List.getD x_c.Regs (Int.toNat s9) default)]) (by kernel_rfl) (clz_c (clo_same rfl) clz_n)) rfl rfl (by kernel_rfl) ?_)
      refine yct (cs := []) (E' := (sp 57 [(1, .ptr 0 [] 0), (3, .int .i64 s9), (17, .bool (!v10))])) (H' := [(0, some ⟨39, (B_39 x_c)⟩)]) (n' := 1) (fun K => by kernel_rfl) .nil ?_
      rcases cond_some hh with ⟨hb, hh⟩ | ⟨hb, hh⟩
      · refine Aw.condT (by kernel_rfl) hb ?_
        refine Aw.sreg [2] [] ?_
        refine yct (cs := []) (E' := (sp 57 [(2, .bool false)])) (H' := []) (n' := 1) (fun K => by kernel_rfl) .nil ?_
        refine Aw.ret ?_
        refine blk_r (then_r ?_)
        refine hR9 _ _ _ _ (some_some hh) ?_
        intro hout
        rw [hout] at hk9
        refine blk_r ?_
        obtain rfl := some_some hk9
        refine hR1 _ _ _ ?_
        refine ?_
        rw [some_some hk1]
        exact gives (r' := .bool false) (by kernel_rfl) (Ent.list [] rfl rfl (Nat.zero_le _) (rens_1 ren_b) hs_nil)
      · refine Aw.condF (by kernel_rfl) hb ?_
        refine Aw.xskip (fun _ _ _ hq => blk_m (then_m hq)) ?_
        refine Aw.oreg ?_
        refine yce (cs := []) (E' := (sp 57 [(1, .ptr 0 [] 0), (3, .int .i64 (w64 (s9 + (1 : Int)))), (9, .int .i64 s9), (10, .int .i64 (w64 (s9 + (1 : Int)))), (17, .bool (!v10))])) (H' := [(0, some ⟨39, (B_39 x_c)⟩)]) (n' := 1) (fun K => by kernel_rfl) .nil ?_
        exact hN9 (w64 (s9 + (1 : Int))) _ _ _ (some_some hh) (Ent.list2 [some 0] rfl rfl (by decide) (rens_sp (by kernel_rfl) (rl_c (u := .ptr 0 [] 0) (by kernel_rfl) (ren_p (by decide) rfl) (rl_c (u := .int .i64 (w64 (s9 + (1 : Int)))) (by kernel_rfl) ren_i rl_n))) (hs_as (t := ⟨39, (B_39 x_c)⟩) (by decide) rfl (by kernel_rfl) rfl (rens_same (nr_B_39 _)) hs_nil))
    · refine Aw.condF (by kernel_rfl) hb ?_
      refine Aw.exit ?_
      refine then_x ?_
      refine hX9 _ _ _ _ _ (some_some hh) ?_
      intro hout
      rw [hout] at hk9
      refine blk_x ?_
      obtain rfl := some_some hk9
      exact hN1 () _ _ _ hk1 (Ent.list2 [some 0] rfl rfl (by decide) (rens_sp (by kernel_rfl) (rl_c (u := .ptr 0 [] 0) (by kernel_rfl) (ren_p (by decide) rfl) rl_n)) (hs_as (t := ⟨39, (B_39 x_c)⟩) (by decide) rfl (by kernel_rfl) rfl (rens_same (nr_B_39 _)) hs_nil))

noncomputable def F_laws_szIntS (x_a : List Int) (x_left : Int) : Option Int :=
  cond (decide ((w64 (x_left - (((List.length x_a) : Nat) : Int))) < (0 : Int)))
    (some (-1 : Int))
    (some (w64 (x_left - (((List.length x_a) : Nat) : Int))))
theorem laws_szIntS_fn {x_a : List Int} {x_left : Int} {R_ : Int} (hh : F_laws_szIntS x_a x_left = some R_) : Fn Try.prog 78 [bo (eI .i64) x_a, .int .i64 x_left] (.int .i64 R_) := by
  unfold F_laws_szIntS at hh
  refine Fn.start low_laws_szIntS [0, 1] (E := sp 12 [(0, bo (eI .i64) x_a), (1, .int .i64 x_left)]) (by kernel_rfl) (v := .int .i64 R_) (Hr := []) (k := 0) (by kernel_rfl) ?_
  refine Aw.sreg [0, 1] [] ?_
  refine yct (cs := []) (E' := (sp 12 [(0, bo (eI .i64) x_a), (1, .int .i64 x_left)])) (H' := []) (n' := 0) (fun K => by kernel_rfl) .nil ?_
  refine Aw.sreg [1] [] ?_
  refine yct (cs := []) (E' := (sp 12 [(1, .int .i64 (w64 (x_left - (((List.length x_a) : Nat) : Int))))])) (H' := []) (n' := 0) (fun K => by kernel_rfl) .nil ?_
  refine Aw.seq ?_
  refine Aw.sreg [1, 10] [] ?_
  refine yct (cs := []) (E' := (sp 12 [(1, .int .i64 (w64 (x_left - (((List.length x_a) : Nat) : Int)))), (10, .bool (decide ((w64 (x_left - (((List.length x_a) : Nat) : Int))) < (0 : Int))))])) (H' := []) (n' := 0) (fun K => by kernel_rfl) .nil ?_
  rcases cond_some hh with ⟨hb, hh⟩ | ⟨hb, hh⟩
  · refine Aw.condT (by kernel_rfl) hb ?_
    refine Aw.sreg [4] [] ?_
    refine yct (cs := []) (E' := (sp 12 [(4, .int .i64 (-1 : Int))])) (H' := []) (n' := 0) (fun K => by kernel_rfl) .nil ?_
    refine Aw.ret ?_
    refine then_r ?_
    rw [some_some hh]
    exact gives (r' := .int .i64 (-1 : Int)) (by kernel_rfl) (Ent.list [] rfl rfl (Nat.zero_le _) (rens_1 ren_i) hs_nil)
  · refine Aw.condF (by kernel_rfl) hb ?_
    refine Aw.xskip (fun _ _ _ hq => then_m hq) ?_
    refine Aw.sreg [4] [] ?_
    refine yct (cs := []) (E' := (sp 12 [(4, .int .i64 (w64 (x_left - (((List.length x_a) : Nat) : Int))))])) (H' := []) (n' := 0) (fun K => by kernel_rfl) .nil ?_
    refine Aw.ret ?_
    rw [some_some hh]
    exact gives (r' := .int .i64 (w64 (x_left - (((List.length x_a) : Nat) : Int)))) (by kernel_rfl) (Ent.list [] rfl rfl (Nat.zero_le _) (rens_1 ren_i) hs_nil)

noncomputable def F_laws_szCore (x_a : DCore) (x_left : Int) : Option Int :=
  Option.bind (F_laws_szIntS x_a.Regs x_left) fun v1 =>
  cond (decide (v1 < (0 : Int)))
    (some (-1 : Int))
    (some v1)
theorem laws_szCore_fn {x_a : DCore} {x_left : Int} {R_ : Int} (hh : F_laws_szCore x_a x_left = some R_) : Fn Try.prog 43 [.agg [bo (eI .i64) x_a.Regs, .int .i64 x_a.Pc, .int .i64 x_a.Root, .int .i64 x_a.Vector, .int .i64 x_a.Saved, .bool x_a.SavedUser, .int .i64 x_a.Cause, .int .i64 x_a.Bad, .int .i64 x_a.Timer, .bool x_a.Waits, .bool x_a.User, .bool x_a.On, .bool x_a.Stopped], .int .i64 x_left] (.int .i64 R_) := by
  unfold F_laws_szCore at hh
  refine Fn.start low_laws_szCore [0, 1] (E := sp 12 [(0, .agg (B_39 x_a)), (1, .int .i64 x_left)]) (by kernel_rfl) (v := .int .i64 R_) (Hr := []) (k := 0) (by kernel_rfl) ?_
  refine Aw.sreg [1, 2] [0] ?_
  refine yct (cs := []) (E' := (sp 12 [(1, .int .i64 x_left), (2, .ptr 0 [] 0)])) (H' := [(0, some ⟨52, [bo (eI .i64) x_a.Regs, .int .i64 x_a.Pc, .int .i64 x_a.Root, .int .i64 x_a.Vector, .int .i64 x_a.Saved, .bool x_a.SavedUser, .int .i64 x_a.Cause, .int .i64 x_a.Bad, .int .i64 x_a.Timer, .bool x_a.Waits, .bool x_a.User, .bool x_a.On, .bool x_a.Stopped]⟩)]) (n' := 1) (fun K => by kernel_rfl) .nil ?_
  refine Aw.sreg [1] [] ?_
  refine yc (cs := []) (E' := (sp 12 [(1, .int .i64 x_left), (2, .ptr 0 [] 0), (5, .ptr 0 [] 0), (6, bo (eI .i64) x_a.Regs), (7, .int .i64 x_left)])) (H' := [(0, some ⟨52, [bo (eI .i64) x_a.Regs, .int .i64 x_a.Pc, .int .i64 x_a.Root, .int .i64 x_a.Vector, .int .i64 x_a.Saved, .bool x_a.SavedUser, .int .i64 x_a.Cause, .int .i64 x_a.Bad, .int .i64 x_a.Timer, .bool x_a.Waits, .bool x_a.User, .bool x_a.On, .bool x_a.Stopped]⟩)]) (n' := 1) (pre := (List.take 3 L_laws_szCore_r1)) (L' := (List.drop 3 L_laws_szCore_r1)) (by kernel_rfl) (fun K => by kernel_rfl) .nil ?_
  obtain ⟨v1, hv1, hh⟩ := bind_some hh
  refine yso (op := (.call 78 [(.t 6), (.t 7)])) (d := (some 8)) (os := (List.drop 4 L_laws_szCore_r1)) (by kernel_rfl) (op_call (r := .int .i64 v1) (v := .int .i64 v1) (Hr := []) (n' := 1) (laws_szIntS_fn hv1) (clz_v (vs := [bo (eI .i64) x_a.Regs, .int .i64 x_left]) (by kernel_rfl) (clz_c (clo_same (clean_bor (cleans_fl cl_eI))) (clz_c (clo_same rfl) clz_n))) rfl rfl (by kernel_rfl) ?_)
  refine yct (cs := []) (E' := (sp 12 [(1, .int .i64 v1)])) (H' := []) (n' := 1) (fun K => by kernel_rfl) .nil ?_
  refine Aw.seq ?_
  refine Aw.sreg [1, 10] [] ?_
  refine yct (cs := []) (E' := (sp 12 [(1, .int .i64 v1), (10, .bool (decide (v1 < (0 : Int))))])) (H' := []) (n' := 1) (fun K => by kernel_rfl) .nil ?_
  rcases cond_some hh with ⟨hb, hh⟩ | ⟨hb, hh⟩
  · refine Aw.condT (by kernel_rfl) hb ?_
    refine Aw.sreg [4] [] ?_
    refine yct (cs := []) (E' := (sp 12 [(4, .int .i64 (-1 : Int))])) (H' := []) (n' := 1) (fun K => by kernel_rfl) .nil ?_
    refine Aw.ret ?_
    refine then_r ?_
    rw [some_some hh]
    exact gives (r' := .int .i64 (-1 : Int)) (by kernel_rfl) (Ent.list [] rfl rfl (Nat.zero_le _) (rens_1 ren_i) hs_nil)
  · refine Aw.condF (by kernel_rfl) hb ?_
    refine Aw.xskip (fun _ _ _ hq => then_m hq) ?_
    refine Aw.sreg [4] [] ?_
    refine yct (cs := []) (E' := (sp 12 [(4, .int .i64 v1)])) (H' := []) (n' := 1) (fun K => by kernel_rfl) .nil ?_
    refine Aw.ret ?_
    rw [some_some hh]
    exact gives (r' := .int .i64 v1) (by kernel_rfl) (Ent.list [] rfl rfl (Nat.zero_le _) (rens_1 ren_i) hs_nil)

noncomputable def F_laws_toIntS_j1  (s1 : (List Int)) : Option (List Int) :=
  some s1
noncomputable def F_laws_toIntS_l2 (x_a : List Int) (s2 : (List Int) × Int) : Option (LO ((List Int) × Int) (JO (List Int) (List Int))) :=
  cond (decide (s2.2 < (((List.length x_a) : Nat) : Int)))
    (grd ((0 : Int) ≤ s2.2 ∧ s2.2 < ((List.length x_a : Nat) : Int)) (grd ((0 : Int) ≤ s2.2 ∧ s2.2 < (((List.length s2.1) : Nat) : Int)) (some (.next ((List.set s2.1 (Int.toNat s2.2) (List.getD x_a (Int.toNat s2.2) default)), (w64 (s2.2 + (1 : Int))))))))
    (some (.ret (.go s2.1)))
noncomputable def F_laws_toIntS (x_a : List Int) : Option (List Int) :=
  grd ((0 : Int) ≤ (((List.length x_a) : Nat) : Int) ∧ (((List.length x_a) : Nat) : Int) * 8 ≤ 2 ^ 47 ∧ (((List.length x_a) : Nat) : Int) ≤ 2 ^ 47) (Option.bind (Option.bind (iter (F_laws_toIntS_l2 x_a) ((List.replicate (Int.toNat (((List.length x_a) : Nat) : Int)) (0 : Int)), (0 : Int))) LO.val) fun j1 =>
      JO.run j1 (F_laws_toIntS_j1))
theorem laws_toIntS_fn {x_a : List Int} {R_ : (List Int)} (hh : F_laws_toIntS x_a = some R_) : Fn Try.prog 79 [bo (eI .i64) x_a] (.own 3 1 (List.length R_) (fl (eI .i64) R_)) := by
  unfold F_laws_toIntS at hh
  refine Fn.start low_laws_toIntS [0] (E := sp 22 [(0, bo (eI .i64) x_a)]) (by kernel_rfl) (v := .sref 0 [] 0 (List.length R_) 1) (Hr := [(0, some ⟨3, (fl (eI .i64) R_)⟩)]) (k := 1) (by kernel_rfl) ?_
  refine Aw.sreg [0] [] ?_
  refine yct (cs := []) (E' := (sp 22 [(0, bo (eI .i64) x_a)])) (H' := []) (n' := 0) (fun K => by kernel_rfl) .nil ?_
  refine Aw.sreg [0, 3] [0] ?_
  refine yc (cs := []) (E' := (sp 22 [(0, bo (eI .i64) x_a), (5, bo (eI .i64) x_a), (6, .int .i64 (((List.length x_a) : Nat) : Int))])) (H' := []) (n' := 0) (pre := (List.take 2 L_laws_toIntS_r1)) (L' := (List.drop 2 L_laws_toIntS_r1)) (by kernel_rfl) (fun K => by kernel_rfl) .nil ?_
  obtain ⟨hg50, hh⟩ := grd_some hh
  refine yso (op := (.mk 3 1 8 [(.int .i64 0)] (.t 6))) (d := (some 7)) (os := (List.drop 3 L_laws_toIntS_r1)) (by kernel_rfl) (op_mk (c := (eI .i64)) (d := (0 : Int)) (k := (((List.length x_a) : Nat) : Int)) (by kernel_rfl) hg50 (by kernel_rfl) ?_)
  refine yct (cs := []) (E' := (sp 22 [(0, bo (eI .i64) x_a), (3, .sref 0 [] 0 (List.length (List.replicate (Int.toNat (((List.length x_a) : Nat) : Int)) (0 : Int))) 1)])) (H' := [(0, some ⟨3, (fl (eI .i64) (List.replicate (Int.toNat (((List.length x_a) : Nat) : Int)) (0 : Int)))⟩)]) (n' := 1) (fun K => by kernel_rfl) .nil ?_
  obtain ⟨j1, hh, hk1⟩ := bind_some hh
  refine Aw.join (S := (List Int)) (fun s1 => sp 22 [(3, .sref 0 [] 0 (List.length s1) 1)]) (fun s1 => [(0, some ⟨3, (fl (eI .i64) s1)⟩)]) 1 (fun s1 => F_laws_toIntS_j1 s1 = some R_) ?_ ?_
  · intro s1 hh
    unfold F_laws_toIntS_j1 at hh
    refine Aw.sreg [2] [0] ?_
    refine yct (cs := []) (E' := (sp 22 [(2, .sref 0 [] 0 (List.length s1) 1)])) (H' := [(0, some ⟨3, (fl (eI .i64) s1)⟩)]) (n' := 1) (fun K => by kernel_rfl) .nil ?_
    refine Aw.ret ?_
    rw [some_some hh]
    exact gives (r' := .sref 0 [] 0 (List.length s1) 1) (by kernel_rfl) (Ent.list [some 0] rfl rfl (Nat.zero_le _) (rens_1 (ren_se (by decide) rfl rfl)) (hs_as (t := ⟨3, (fl (eI .i64) s1)⟩) (by decide) rfl (by kernel_rfl) rfl (rens_same (noRefs_fl nr_eI)) hs_nil))
  · intro Q1 hN1 hR1 hE1
    refine Aw.sreg [0, 3, 4] [0] ?_
    refine yct (cs := []) (E' := (sp 22 [(0, bo (eI .i64) x_a), (3, .sref 0 [] 0 (List.length (List.replicate (Int.toNat (((List.length x_a) : Nat) : Int)) (0 : Int))) 1), (4, .int .i64 (0 : Int))])) (H' := [(0, some ⟨3, (fl (eI .i64) (List.replicate (Int.toNat (((List.length x_a) : Nat) : Int)) (0 : Int)))⟩)]) (n' := 1) (fun K => by kernel_rfl) .nil ?_
    refine Aw.block ?_
    obtain ⟨o2, hi2, hk2⟩ := bind_some hh
    refine Aw.iter (fun (s2 : (List Int) × Int) => sp 22 [(0, bo (eI .i64) x_a), (3, .sref 0 [] 0 (List.length s2.1) 1), (4, .int .i64 s2.2)]) (fun (s2 : (List Int) × Int) => [(0, some ⟨3, (fl (eI .i64) s2.1)⟩)]) 1 hi2 (Ent.list2 [some 0] rfl rfl (by decide) (rens_sp (by kernel_rfl) (rl_c (u := bo (eI .i64) x_a) (by kernel_rfl) (ren_bor (rens_same (noRefs_fl nr_eI))) (rl_c (u := .sref 0 [] 0 (List.length (List.replicate (Int.toNat (((List.length x_a) : Nat) : Int)) (0 : Int))) 1) (by kernel_rfl) (ren_se (by decide) rfl rfl) (rl_c (u := .int .i64 (0 : Int)) (by kernel_rfl) ren_i rl_n)))) (hs_as (t := ⟨3, (fl (eI .i64) (List.replicate (Int.toNat (((List.length x_a) : Nat) : Int)) (0 : Int)))⟩) (by decide) rfl (by kernel_rfl) rfl (rens_same (noRefs_fl nr_eI)) hs_nil)) ?_
    intro s2 u2 Q2 hh hN2 hX2 hR2
    unfold F_laws_toIntS_l2 at hh
    refine Aw.seq ?_
    refine Aw.sreg [0, 3, 4, 11] [0] ?_
    refine yct (cs := []) (E' := (sp 22 [(0, bo (eI .i64) x_a), (3, .sref 0 [] 0 (List.length s2.1) 1), (4, .int .i64 s2.2), (11, .bool (decide (s2.2 < (((List.length x_a) : Nat) : Int))))])) (H' := [(0, some ⟨3, (fl (eI .i64) s2.1)⟩)]) (n' := 1) (fun K => by kernel_rfl) .nil ?_
    rcases cond_some hh with ⟨hb, hh⟩ | ⟨hb, hh⟩
    · refine Aw.condT (by kernel_rfl) hb ?_
      refine Aw.xskip (fun _ _ _ hq => then_m hq) ?_
      refine Aw.seq ?_
      refine Aw.block ?_
      refine Aw.xreg [0, 3, 4] [0] (fun _ _ _ hq => blk_m (then_m hq)) ?_
      refine yc (cs := []) (E' := (sp 22 [(0, bo (eI .i64) x_a), (3, .sref 0 [] 0 (List.length s2.1) 1), (4, .int .i64 s2.2), (11, .bool (decide (s2.2 < (((List.length x_a) : Nat) : Int)))), (14, .sref 0 [] 0 (List.length s2.1) 1), (15, .int .i64 s2.2), (16, bo (eI .i64) x_a), (17, .int .i64 s2.2)])) (H' := [(0, some ⟨3, (fl (eI .i64) s2.1)⟩)]) (n' := 1) (pre := (List.take 4 L_laws_toIntS_r4)) (L' := (List.drop 4 L_laws_toIntS_r4)) (by kernel_rfl) (fun K => by kernel_rfl) .nil ?_
      obtain ⟨hg48, hh⟩ := grd_some hh
      refine yso (op := (.iadr 1 (.t 16) (.t 17))) (d := (some 18)) (os := (List.drop 5 L_laws_toIntS_r4)) (by kernel_rfl) (op_iadr (kd := .i64) (c := (eI .i64)) (xs := x_a) len_eI (by decide) (by kernel_rfl) (by kernel_rfl) hg48 ?_)
      refine yso (op := (.load false 1 (.t 18))) (d := (some 19)) (os := (List.drop 6 L_laws_toIntS_r4)) (by kernel_rfl) (op_loadb (c := (eI .i64)) (xs := x_a) (o := Int.toNat s2.2 * 1) (i := (Int.toNat s2.2)) (off := 0) (v := .int .i64 (List.getD x_a (Int.toNat s2.2) default)) len_eI (by kernel_rfl) (by omega) (by omega) (by decide) (by kernel_rfl) ?_)
      obtain ⟨hg49, hh⟩ := grd_some hh
      refine yc (cs := [(0 : Int) ≤ s2.2 ∧ s2.2 < (((List.length s2.1) : Nat) : Int)]) (E' := (sp 22 [(0, bo (eI .i64) x_a), (3, .sref 0 [] 0 (List.length s2.1) 1), (4, .int .i64 s2.2), (11, .bool (decide (s2.2 < (((List.length x_a) : Nat) : Int)))), (14, .sref 0 [] 0 (List.length s2.1) 1), (15, .int .i64 s2.2), (16, bo (eI .i64) x_a), (17, .int .i64 s2.2), (18, .bptr (fl (eI .i64) x_a) (Int.toNat s2.2 * 1)), (19, .int .i64 (List.getD x_a (Int.toNat s2.2) default)), (20, .ptr 0 [] (0 + (Int.toNat s2.2) * 1))])) (H' := [(0, some ⟨3, (fl (eI .i64) s2.1)⟩)]) (n' := 1) (pre := (List.take 1 (List.drop 6 L_laws_toIntS_r4))) (L' := (List.drop 7 L_laws_toIntS_r4)) (by kernel_rfl) (fun K => by kernel_rfl) (.cons hg49 .nil) ?_
      refine yso (op := (.store 1 (.t 20) (.t 19))) (d := none) (os := (List.drop 8 L_laws_toIntS_r4)) (by kernel_rfl) (op_store (c := (eI .i64)) (xs := s2.1) (e := 3) (r := 0) (π := []) (o := 0 + (Int.toNat s2.2) * 1) (i := (Int.toNat s2.2)) (off := 0) (vs := [.int .i64 (List.getD x_a (Int.toNat s2.2) default)]) (y := (List.getD x_a (Int.toNat s2.2) default)) (H' := [(0, some ⟨3, (fl (eI .i64) (List.set s2.1 (Int.toNat s2.2) (List.getD x_a (Int.toNat s2.2) default)))⟩), (0, some ⟨3, (fl (eI .i64) s2.1)⟩)]) len_eI (by kernel_rfl) (by kernel_rfl) (by kernel_rfl) (by kernel_rfl) (by omega) (by omega) (by decide) (by kernel_rfl) (by kernel_rfl) ?_)
      refine yct (cs := []) (E' := (sp 22 [(0, bo (eI .i64) x_a), (3, .sref 0 [] 0 (List.length s2.1) 1), (4, .int .i64 s2.2)])) (H' := [(0, some ⟨3, (fl (eI .i64) (List.set s2.1 (Int.toNat s2.2) (List.getD x_a (Int.toNat s2.2) default)))⟩)]) (n' := 1) (fun K => by kernel_rfl) .nil ?_
      refine Aw.oreg ?_
      refine yce (cs := []) (E' := (sp 22 [(0, bo (eI .i64) x_a), (3, .sref 0 [] 0 (List.length s2.1) 1), (4, .int .i64 (w64 (s2.2 + (1 : Int)))), (12, .int .i64 s2.2), (13, .int .i64 (w64 (s2.2 + (1 : Int))))])) (H' := [(0, some ⟨3, (fl (eI .i64) (List.set s2.1 (Int.toNat s2.2) (List.getD x_a (Int.toNat s2.2) default)))⟩)]) (n' := 1) (fun K => by kernel_rfl) .nil ?_
      exact hN2 ((List.set s2.1 (Int.toNat s2.2) (List.getD x_a (Int.toNat s2.2) default)), (w64 (s2.2 + (1 : Int)))) _ _ _ (some_some hh) (Ent.list2 [some 0] rfl rfl (by decide) (rens_sp (by kernel_rfl) (rl_c (u := bo (eI .i64) x_a) (by kernel_rfl) (ren_bor (rens_same (noRefs_fl nr_eI))) (rl_c (u := .sref 0 [] 0 (List.length s2.1) 1) (by kernel_rfl) (ren_se (by decide) rfl (by first | rfl | omega | (simp only [List.length_set, over_len, List.length_replicate, List.length_append, List.length_cons, List.length_nil, List.length_take, List.length_drop] <;> omega))) (rl_c (u := .int .i64 (w64 (s2.2 + (1 : Int)))) (by kernel_rfl) ren_i rl_n)))) (hs_as (t := ⟨3, (fl (eI .i64) (List.set s2.1 (Int.toNat s2.2) (List.getD x_a (Int.toNat s2.2) default)))⟩) (by decide) rfl (by kernel_rfl) rfl (rens_same (noRefs_fl nr_eI)) hs_nil))
    · refine Aw.condF (by kernel_rfl) hb ?_
      refine Aw.exit ?_
      refine then_x ?_
      refine hX2 _ _ _ _ _ (some_some hh) ?_
      intro hout
      rw [hout] at hk2
      refine blk_x ?_
      obtain rfl := some_some hk2
      exact hN1 s2.1 _ _ _ hk1 (Ent.list2 [some 0] rfl rfl (by decide) (rens_sp (by kernel_rfl) (rl_c (u := .sref 0 [] 0 (List.length s2.1) 1) (by kernel_rfl) (ren_se (by decide) rfl rfl) rl_n)) (hs_as (t := ⟨3, (fl (eI .i64) s2.1)⟩) (by decide) rfl (by kernel_rfl) rfl (rens_same (noRefs_fl nr_eI)) hs_nil))

noncomputable def F_laws_toCore (x_a : DCore) : Option DCore :=
  Option.bind (F_laws_toIntS x_a.Regs) fun v1 =>
  some (DCore.mk v1 x_a.Pc x_a.Root x_a.Vector x_a.Saved x_a.SavedUser x_a.Cause x_a.Bad x_a.Timer x_a.Waits x_a.User x_a.On x_a.Stopped)
theorem laws_toCore_fn {x_a : DCore} {R_ : DCore} (hh : F_laws_toCore x_a = some R_) : Fn Try.prog 44 [.agg [bo (eI .i64) x_a.Regs, .int .i64 x_a.Pc, .int .i64 x_a.Root, .int .i64 x_a.Vector, .int .i64 x_a.Saved, .bool x_a.SavedUser, .int .i64 x_a.Cause, .int .i64 x_a.Bad, .int .i64 x_a.Timer, .bool x_a.Waits, .bool x_a.User, .bool x_a.On, .bool x_a.Stopped]] (.agg [.own 3 1 (List.length R_.Regs) (fl (eI .i64) R_.Regs), .int .i64 R_.Pc, .int .i64 R_.Root, .int .i64 R_.Vector, .int .i64 R_.Saved, .bool R_.SavedUser, .int .i64 R_.Cause, .int .i64 R_.Bad, .int .i64 R_.Timer, .bool R_.Waits, .bool R_.User, .bool R_.On, .bool R_.Stopped]) := by
  unfold F_laws_toCore at hh
  refine Fn.start low_laws_toCore [0] (E := sp 45 [(0, .agg (B_39 x_a))]) (by kernel_rfl) (v := .agg [.sref 0 [] 0 (List.length R_.Regs) 1, .int .i64 R_.Pc, .int .i64 R_.Root, .int .i64 R_.Vector, .int .i64 R_.Saved, .bool R_.SavedUser, .int .i64 R_.Cause, .int .i64 R_.Bad, .int .i64 R_.Timer, .bool R_.Waits, .bool R_.User, .bool R_.On, .bool R_.Stopped]) (Hr := [(0, some ⟨3, (fl (eI .i64) R_.Regs)⟩)]) (k := 1) (by kernel_rfl) ?_
  refine Aw.sreg [1, 2] [0, 1] ?_
  refine yct (cs := []) (E' := (sp 45 [(1, .ptr 0 [] 0), (2, .ptr 1 [] 0)])) (H' := [(0, some ⟨52, [bo (eI .i64) x_a.Regs, .int .i64 x_a.Pc, .int .i64 x_a.Root, .int .i64 x_a.Vector, .int .i64 x_a.Saved, .bool x_a.SavedUser, .int .i64 x_a.Cause, .int .i64 x_a.Bad, .int .i64 x_a.Timer, .bool x_a.Waits, .bool x_a.User, .bool x_a.On, .bool x_a.Stopped]⟩), (1, some ⟨39, [.nil, .int .i64 (0 : Int), .int .i64 (0 : Int), .int .i64 (0 : Int), .int .i64 (0 : Int), .bool false, .int .i64 (0 : Int), .int .i64 (0 : Int), .int .i64 (0 : Int), .bool false, .bool false, .bool false, .bool false]⟩)]) (n' := 2) (fun K => by kernel_rfl) .nil ?_
  refine Aw.sreg [1, 2, 3] [0, 1, 2] ?_
  refine yct (cs := []) (E' := (sp 45 [(1, .ptr 0 [] 0), (2, .ptr 1 [] 0), (3, .ptr 2 [] 0)])) (H' := [(0, some ⟨52, [bo (eI .i64) x_a.Regs, .int .i64 x_a.Pc, .int .i64 x_a.Root, .int .i64 x_a.Vector, .int .i64 x_a.Saved, .bool x_a.SavedUser, .int .i64 x_a.Cause, .int .i64 x_a.Bad, .int .i64 x_a.Timer, .bool x_a.Waits, .bool x_a.User, .bool x_a.On, .bool x_a.Stopped]⟩), (1, some ⟨39, [.nil, .int .i64 (0 : Int), .int .i64 (0 : Int), .int .i64 (0 : Int), .int .i64 (0 : Int), .bool false, .int .i64 (0 : Int), .int .i64 (0 : Int), .int .i64 (0 : Int), .bool false, .bool false, .bool false, .bool false]⟩), (2, some ⟨39, [.nil, .int .i64 (0 : Int), .int .i64 (0 : Int), .int .i64 (0 : Int), .int .i64 (0 : Int), .bool false, .int .i64 (0 : Int), .int .i64 (0 : Int), .int .i64 (0 : Int), .bool false, .bool false, .bool false, .bool false]⟩)]) (n' := 3) (fun K => by kernel_rfl) .nil ?_
  refine Aw.sreg [1, 2, 3] [0, 1, 2, 3] ?_
  refine yc (cs := []) (E' := (sp 45 [(1, .ptr 0 [] 0), (2, .ptr 1 [] 0), (3, .ptr 2 [] 0), (4, .ptr 0 [] 0), (5, bo (eI .i64) x_a.Regs)])) (H' := [(0, some ⟨52, [bo (eI .i64) x_a.Regs, .int .i64 x_a.Pc, .int .i64 x_a.Root, .int .i64 x_a.Vector, .int .i64 x_a.Saved, .bool x_a.SavedUser, .int .i64 x_a.Cause, .int .i64 x_a.Bad, .int .i64 x_a.Timer, .bool x_a.Waits, .bool x_a.User, .bool x_a.On, .bool x_a.Stopped]⟩), (1, some ⟨39, [.nil, .int .i64 (0 : Int), .int .i64 (0 : Int), .int .i64 (0 : Int), .int .i64 (0 : Int), .bool false, .int .i64 (0 : Int), .int .i64 (0 : Int), .int .i64 (0 : Int), .bool false, .bool false, .bool false, .bool false]⟩), (2, some ⟨39, [.nil, .int .i64 (0 : Int), .int .i64 (0 : Int), .int .i64 (0 : Int), .int .i64 (0 : Int), .bool false, .int .i64 (0 : Int), .int .i64 (0 : Int), .int .i64 (0 : Int), .bool false, .bool false, .bool false, .bool false]⟩)]) (n' := 3) (pre := (List.take 2 L_laws_toCore_r2)) (L' := (List.drop 2 L_laws_toCore_r2)) (by kernel_rfl) (fun K => by kernel_rfl) .nil ?_
  obtain ⟨v1, hv1, hh⟩ := bind_some hh
  refine yso (op := (.call 79 [(.t 5)])) (d := (some 6)) (os := (List.drop 3 L_laws_toCore_r2)) (by kernel_rfl) (op_call (r := .own 3 1 (List.length v1) (fl (eI .i64) v1)) (v := .sref 3 [] 0 (List.length v1) 1) (Hr := [(3, some ⟨3, (fl (eI .i64) v1)⟩)]) (n' := 4) (laws_toIntS_fn hv1) (clz_v (vs := [bo (eI .i64) x_a.Regs]) (by kernel_rfl) (clz_c (clo_same (clean_bor (cleans_fl cl_eI))) clz_n)) (by simp only [AV.noRef, noRefs, Bool.and_self, noRefs_fl nr_eI]) (by simp only [AV.noBor, noBors, Bool.and_self, noBors_fl nb_eI]) (by kernel_rfl) ?_)
  refine yct (cs := []) (E' := (sp 45 [(1, .ptr 0 [] 0), (2, .ptr 1 [] 0), (3, .ptr 2 [] 0)])) (H' := [(0, some ⟨52, [bo (eI .i64) x_a.Regs, .int .i64 x_a.Pc, .int .i64 x_a.Root, .int .i64 x_a.Vector, .int .i64 x_a.Saved, .bool x_a.SavedUser, .int .i64 x_a.Cause, .int .i64 x_a.Bad, .int .i64 x_a.Timer, .bool x_a.Waits, .bool x_a.User, .bool x_a.On, .bool x_a.Stopped]⟩), (1, some ⟨39, [.nil, .int .i64 (0 : Int), .int .i64 (0 : Int), .int .i64 (0 : Int), .int .i64 (0 : Int), .bool false, .int .i64 (0 : Int), .int .i64 (0 : Int), .int .i64 (0 : Int), .bool false, .bool false, .bool false, .bool false]⟩), (2, some ⟨39, [.sref 3 [] 0 (List.length v1) 1, .int .i64 (0 : Int), .int .i64 (0 : Int), .int .i64 (0 : Int), .int .i64 (0 : Int), .bool false, .int .i64 (0 : Int), .int .i64 (0 : Int), .int .i64 (0 : Int), .bool false, .bool false, .bool false, .bool false]⟩), (3, some ⟨3, (fl (eI .i64) v1)⟩)]) (n' := 4) (fun K => by kernel_rfl) .nil ?_
  refine Aw.sreg [1, 2, 3] [0, 1, 2, 3] ?_
  refine yct (cs := []) (E' := (sp 45 [(1, .ptr 0 [] 0), (2, .ptr 1 [] 0), (3, .ptr 2 [] 0)])) (H' := [(0, some ⟨52, [bo (eI .i64) x_a.Regs, .int .i64 x_a.Pc, .int .i64 x_a.Root, .int .i64 x_a.Vector, .int .i64 x_a.Saved, .bool x_a.SavedUser, .int .i64 x_a.Cause, .int .i64 x_a.Bad, .int .i64 x_a.Timer, .bool x_a.Waits, .bool x_a.User, .bool x_a.On, .bool x_a.Stopped]⟩), (1, some ⟨39, [.nil, .int .i64 (0 : Int), .int .i64 (0 : Int), .int .i64 (0 : Int), .int .i64 (0 : Int), .bool false, .int .i64 (0 : Int), .int .i64 (0 : Int), .int .i64 (0 : Int), .bool false, .bool false, .bool false, .bool false]⟩), (2, some ⟨39, [.sref 3 [] 0 (List.length v1) 1, .int .i64 x_a.Pc, .int .i64 (0 : Int), .int .i64 (0 : Int), .int .i64 (0 : Int), .bool false, .int .i64 (0 : Int), .int .i64 (0 : Int), .int .i64 (0 : Int), .bool false, .bool false, .bool false, .bool false]⟩), (3, some ⟨3, (fl (eI .i64) v1)⟩)]) (n' := 4) (fun K => by kernel_rfl) .nil ?_
  refine Aw.sreg [1, 2, 3] [0, 1, 2, 3] ?_
  refine yct (cs := []) (E' := (sp 45 [(1, .ptr 0 [] 0), (2, .ptr 1 [] 0), (3, .ptr 2 [] 0)])) (H' := [(0, some ⟨52, [bo (eI .i64) x_a.Regs, .int .i64 x_a.Pc, .int .i64 x_a.Root, .int .i64 x_a.Vector, .int .i64 x_a.Saved, .bool x_a.SavedUser, .int .i64 x_a.Cause, .int .i64 x_a.Bad, .int .i64 x_a.Timer, .bool x_a.Waits, .bool x_a.User, .bool x_a.On, .bool x_a.Stopped]⟩), (1, some ⟨39, [.nil, .int .i64 (0 : Int), .int .i64 (0 : Int), .int .i64 (0 : Int), .int .i64 (0 : Int), .bool false, .int .i64 (0 : Int), .int .i64 (0 : Int), .int .i64 (0 : Int), .bool false, .bool false, .bool false, .bool false]⟩), (2, some ⟨39, [.sref 3 [] 0 (List.length v1) 1, .int .i64 x_a.Pc, .int .i64 x_a.Root, .int .i64 (0 : Int), .int .i64 (0 : Int), .bool false, .int .i64 (0 : Int), .int .i64 (0 : Int), .int .i64 (0 : Int), .bool false, .bool false, .bool false, .bool false]⟩), (3, some ⟨3, (fl (eI .i64) v1)⟩)]) (n' := 4) (fun K => by kernel_rfl) .nil ?_
  refine Aw.sreg [1, 2, 3] [0, 1, 2, 3] ?_
  refine yct (cs := []) (E' := (sp 45 [(1, .ptr 0 [] 0), (2, .ptr 1 [] 0), (3, .ptr 2 [] 0)])) (H' := [(0, some ⟨52, [bo (eI .i64) x_a.Regs, .int .i64 x_a.Pc, .int .i64 x_a.Root, .int .i64 x_a.Vector, .int .i64 x_a.Saved, .bool x_a.SavedUser, .int .i64 x_a.Cause, .int .i64 x_a.Bad, .int .i64 x_a.Timer, .bool x_a.Waits, .bool x_a.User, .bool x_a.On, .bool x_a.Stopped]⟩), (1, some ⟨39, [.nil, .int .i64 (0 : Int), .int .i64 (0 : Int), .int .i64 (0 : Int), .int .i64 (0 : Int), .bool false, .int .i64 (0 : Int), .int .i64 (0 : Int), .int .i64 (0 : Int), .bool false, .bool false, .bool false, .bool false]⟩), (2, some ⟨39, [.sref 3 [] 0 (List.length v1) 1, .int .i64 x_a.Pc, .int .i64 x_a.Root, .int .i64 x_a.Vector, .int .i64 (0 : Int), .bool false, .int .i64 (0 : Int), .int .i64 (0 : Int), .int .i64 (0 : Int), .bool false, .bool false, .bool false, .bool false]⟩), (3, some ⟨3, (fl (eI .i64) v1)⟩)]) (n' := 4) (fun K => by kernel_rfl) .nil ?_
  refine Aw.sreg [1, 2, 3] [0, 1, 2, 3] ?_
  refine yct (cs := []) (E' := (sp 45 [(1, .ptr 0 [] 0), (2, .ptr 1 [] 0), (3, .ptr 2 [] 0)])) (H' := [(0, some ⟨52, [bo (eI .i64) x_a.Regs, .int .i64 x_a.Pc, .int .i64 x_a.Root, .int .i64 x_a.Vector, .int .i64 x_a.Saved, .bool x_a.SavedUser, .int .i64 x_a.Cause, .int .i64 x_a.Bad, .int .i64 x_a.Timer, .bool x_a.Waits, .bool x_a.User, .bool x_a.On, .bool x_a.Stopped]⟩), (1, some ⟨39, [.nil, .int .i64 (0 : Int), .int .i64 (0 : Int), .int .i64 (0 : Int), .int .i64 (0 : Int), .bool false, .int .i64 (0 : Int), .int .i64 (0 : Int), .int .i64 (0 : Int), .bool false, .bool false, .bool false, .bool false]⟩), (2, some ⟨39, [.sref 3 [] 0 (List.length v1) 1, .int .i64 x_a.Pc, .int .i64 x_a.Root, .int .i64 x_a.Vector, .int .i64 x_a.Saved, .bool false, .int .i64 (0 : Int), .int .i64 (0 : Int), .int .i64 (0 : Int), .bool false, .bool false, .bool false, .bool false]⟩), (3, some ⟨3, (fl (eI .i64) v1)⟩)]) (n' := 4) (fun K => by kernel_rfl) .nil ?_
  refine Aw.sreg [1, 2, 3] [0, 1, 2, 3] ?_
  refine yct (cs := []) (E' := (sp 45 [(1, .ptr 0 [] 0), (2, .ptr 1 [] 0), (3, .ptr 2 [] 0)])) (H' := [(0, some ⟨52, [bo (eI .i64) x_a.Regs, .int .i64 x_a.Pc, .int .i64 x_a.Root, .int .i64 x_a.Vector, .int .i64 x_a.Saved, .bool x_a.SavedUser, .int .i64 x_a.Cause, .int .i64 x_a.Bad, .int .i64 x_a.Timer, .bool x_a.Waits, .bool x_a.User, .bool x_a.On, .bool x_a.Stopped]⟩), (1, some ⟨39, [.nil, .int .i64 (0 : Int), .int .i64 (0 : Int), .int .i64 (0 : Int), .int .i64 (0 : Int), .bool false, .int .i64 (0 : Int), .int .i64 (0 : Int), .int .i64 (0 : Int), .bool false, .bool false, .bool false, .bool false]⟩), (2, some ⟨39, [.sref 3 [] 0 (List.length v1) 1, .int .i64 x_a.Pc, .int .i64 x_a.Root, .int .i64 x_a.Vector, .int .i64 x_a.Saved, .bool x_a.SavedUser, .int .i64 (0 : Int), .int .i64 (0 : Int), .int .i64 (0 : Int), .bool false, .bool false, .bool false, .bool false]⟩), (3, some ⟨3, (fl (eI .i64) v1)⟩)]) (n' := 4) (fun K => by kernel_rfl) .nil ?_
  refine Aw.sreg [1, 2, 3] [0, 1, 2, 3] ?_
  refine yct (cs := []) (E' := (sp 45 [(1, .ptr 0 [] 0), (2, .ptr 1 [] 0), (3, .ptr 2 [] 0)])) (H' := [(0, some ⟨52, [bo (eI .i64) x_a.Regs, .int .i64 x_a.Pc, .int .i64 x_a.Root, .int .i64 x_a.Vector, .int .i64 x_a.Saved, .bool x_a.SavedUser, .int .i64 x_a.Cause, .int .i64 x_a.Bad, .int .i64 x_a.Timer, .bool x_a.Waits, .bool x_a.User, .bool x_a.On, .bool x_a.Stopped]⟩), (1, some ⟨39, [.nil, .int .i64 (0 : Int), .int .i64 (0 : Int), .int .i64 (0 : Int), .int .i64 (0 : Int), .bool false, .int .i64 (0 : Int), .int .i64 (0 : Int), .int .i64 (0 : Int), .bool false, .bool false, .bool false, .bool false]⟩), (2, some ⟨39, [.sref 3 [] 0 (List.length v1) 1, .int .i64 x_a.Pc, .int .i64 x_a.Root, .int .i64 x_a.Vector, .int .i64 x_a.Saved, .bool x_a.SavedUser, .int .i64 x_a.Cause, .int .i64 (0 : Int), .int .i64 (0 : Int), .bool false, .bool false, .bool false, .bool false]⟩), (3, some ⟨3, (fl (eI .i64) v1)⟩)]) (n' := 4) (fun K => by kernel_rfl) .nil ?_
  refine Aw.sreg [1, 2, 3] [0, 1, 2, 3] ?_
  refine yct (cs := []) (E' := (sp 45 [(1, .ptr 0 [] 0), (2, .ptr 1 [] 0), (3, .ptr 2 [] 0)])) (H' := [(0, some ⟨52, [bo (eI .i64) x_a.Regs, .int .i64 x_a.Pc, .int .i64 x_a.Root, .int .i64 x_a.Vector, .int .i64 x_a.Saved, .bool x_a.SavedUser, .int .i64 x_a.Cause, .int .i64 x_a.Bad, .int .i64 x_a.Timer, .bool x_a.Waits, .bool x_a.User, .bool x_a.On, .bool x_a.Stopped]⟩), (1, some ⟨39, [.nil, .int .i64 (0 : Int), .int .i64 (0 : Int), .int .i64 (0 : Int), .int .i64 (0 : Int), .bool false, .int .i64 (0 : Int), .int .i64 (0 : Int), .int .i64 (0 : Int), .bool false, .bool false, .bool false, .bool false]⟩), (2, some ⟨39, [.sref 3 [] 0 (List.length v1) 1, .int .i64 x_a.Pc, .int .i64 x_a.Root, .int .i64 x_a.Vector, .int .i64 x_a.Saved, .bool x_a.SavedUser, .int .i64 x_a.Cause, .int .i64 x_a.Bad, .int .i64 (0 : Int), .bool false, .bool false, .bool false, .bool false]⟩), (3, some ⟨3, (fl (eI .i64) v1)⟩)]) (n' := 4) (fun K => by kernel_rfl) .nil ?_
  refine Aw.sreg [1, 2, 3] [0, 1, 2, 3] ?_
  refine yct (cs := []) (E' := (sp 45 [(1, .ptr 0 [] 0), (2, .ptr 1 [] 0), (3, .ptr 2 [] 0)])) (H' := [(0, some ⟨52, [bo (eI .i64) x_a.Regs, .int .i64 x_a.Pc, .int .i64 x_a.Root, .int .i64 x_a.Vector, .int .i64 x_a.Saved, .bool x_a.SavedUser, .int .i64 x_a.Cause, .int .i64 x_a.Bad, .int .i64 x_a.Timer, .bool x_a.Waits, .bool x_a.User, .bool x_a.On, .bool x_a.Stopped]⟩), (1, some ⟨39, [.nil, .int .i64 (0 : Int), .int .i64 (0 : Int), .int .i64 (0 : Int), .int .i64 (0 : Int), .bool false, .int .i64 (0 : Int), .int .i64 (0 : Int), .int .i64 (0 : Int), .bool false, .bool false, .bool false, .bool false]⟩), (2, some ⟨39, [.sref 3 [] 0 (List.length v1) 1, .int .i64 x_a.Pc, .int .i64 x_a.Root, .int .i64 x_a.Vector, .int .i64 x_a.Saved, .bool x_a.SavedUser, .int .i64 x_a.Cause, .int .i64 x_a.Bad, .int .i64 x_a.Timer, .bool false, .bool false, .bool false, .bool false]⟩), (3, some ⟨3, (fl (eI .i64) v1)⟩)]) (n' := 4) (fun K => by kernel_rfl) .nil ?_
  refine Aw.sreg [1, 2, 3] [0, 1, 2, 3] ?_
  refine yct (cs := []) (E' := (sp 45 [(1, .ptr 0 [] 0), (2, .ptr 1 [] 0), (3, .ptr 2 [] 0)])) (H' := [(0, some ⟨52, [bo (eI .i64) x_a.Regs, .int .i64 x_a.Pc, .int .i64 x_a.Root, .int .i64 x_a.Vector, .int .i64 x_a.Saved, .bool x_a.SavedUser, .int .i64 x_a.Cause, .int .i64 x_a.Bad, .int .i64 x_a.Timer, .bool x_a.Waits, .bool x_a.User, .bool x_a.On, .bool x_a.Stopped]⟩), (1, some ⟨39, [.nil, .int .i64 (0 : Int), .int .i64 (0 : Int), .int .i64 (0 : Int), .int .i64 (0 : Int), .bool false, .int .i64 (0 : Int), .int .i64 (0 : Int), .int .i64 (0 : Int), .bool false, .bool false, .bool false, .bool false]⟩), (2, some ⟨39, [.sref 3 [] 0 (List.length v1) 1, .int .i64 x_a.Pc, .int .i64 x_a.Root, .int .i64 x_a.Vector, .int .i64 x_a.Saved, .bool x_a.SavedUser, .int .i64 x_a.Cause, .int .i64 x_a.Bad, .int .i64 x_a.Timer, .bool x_a.Waits, .bool false, .bool false, .bool false]⟩), (3, some ⟨3, (fl (eI .i64) v1)⟩)]) (n' := 4) (fun K => by kernel_rfl) .nil ?_
  refine Aw.sreg [1, 2, 3] [0, 1, 2, 3] ?_
  refine yct (cs := []) (E' := (sp 45 [(1, .ptr 0 [] 0), (2, .ptr 1 [] 0), (3, .ptr 2 [] 0)])) (H' := [(0, some ⟨52, [bo (eI .i64) x_a.Regs, .int .i64 x_a.Pc, .int .i64 x_a.Root, .int .i64 x_a.Vector, .int .i64 x_a.Saved, .bool x_a.SavedUser, .int .i64 x_a.Cause, .int .i64 x_a.Bad, .int .i64 x_a.Timer, .bool x_a.Waits, .bool x_a.User, .bool x_a.On, .bool x_a.Stopped]⟩), (1, some ⟨39, [.nil, .int .i64 (0 : Int), .int .i64 (0 : Int), .int .i64 (0 : Int), .int .i64 (0 : Int), .bool false, .int .i64 (0 : Int), .int .i64 (0 : Int), .int .i64 (0 : Int), .bool false, .bool false, .bool false, .bool false]⟩), (2, some ⟨39, [.sref 3 [] 0 (List.length v1) 1, .int .i64 x_a.Pc, .int .i64 x_a.Root, .int .i64 x_a.Vector, .int .i64 x_a.Saved, .bool x_a.SavedUser, .int .i64 x_a.Cause, .int .i64 x_a.Bad, .int .i64 x_a.Timer, .bool x_a.Waits, .bool x_a.User, .bool false, .bool false]⟩), (3, some ⟨3, (fl (eI .i64) v1)⟩)]) (n' := 4) (fun K => by kernel_rfl) .nil ?_
  refine Aw.sreg [1, 2, 3] [0, 1, 2, 3] ?_
  refine yct (cs := []) (E' := (sp 45 [(1, .ptr 0 [] 0), (2, .ptr 1 [] 0), (3, .ptr 2 [] 0)])) (H' := [(0, some ⟨52, [bo (eI .i64) x_a.Regs, .int .i64 x_a.Pc, .int .i64 x_a.Root, .int .i64 x_a.Vector, .int .i64 x_a.Saved, .bool x_a.SavedUser, .int .i64 x_a.Cause, .int .i64 x_a.Bad, .int .i64 x_a.Timer, .bool x_a.Waits, .bool x_a.User, .bool x_a.On, .bool x_a.Stopped]⟩), (1, some ⟨39, [.nil, .int .i64 (0 : Int), .int .i64 (0 : Int), .int .i64 (0 : Int), .int .i64 (0 : Int), .bool false, .int .i64 (0 : Int), .int .i64 (0 : Int), .int .i64 (0 : Int), .bool false, .bool false, .bool false, .bool false]⟩), (2, some ⟨39, [.sref 3 [] 0 (List.length v1) 1, .int .i64 x_a.Pc, .int .i64 x_a.Root, .int .i64 x_a.Vector, .int .i64 x_a.Saved, .bool x_a.SavedUser, .int .i64 x_a.Cause, .int .i64 x_a.Bad, .int .i64 x_a.Timer, .bool x_a.Waits, .bool x_a.User, .bool x_a.On, .bool false]⟩), (3, some ⟨3, (fl (eI .i64) v1)⟩)]) (n' := 4) (fun K => by kernel_rfl) .nil ?_
  refine Aw.sreg [2, 3] [1, 2, 3] ?_
  refine yct (cs := []) (E' := (sp 45 [(2, .ptr 1 [] 0), (3, .ptr 2 [] 0)])) (H' := [(1, some ⟨39, [.nil, .int .i64 (0 : Int), .int .i64 (0 : Int), .int .i64 (0 : Int), .int .i64 (0 : Int), .bool false, .int .i64 (0 : Int), .int .i64 (0 : Int), .int .i64 (0 : Int), .bool false, .bool false, .bool false, .bool false]⟩), (2, some ⟨39, [.sref 3 [] 0 (List.length v1) 1, .int .i64 x_a.Pc, .int .i64 x_a.Root, .int .i64 x_a.Vector, .int .i64 x_a.Saved, .bool x_a.SavedUser, .int .i64 x_a.Cause, .int .i64 x_a.Bad, .int .i64 x_a.Timer, .bool x_a.Waits, .bool x_a.User, .bool x_a.On, .bool x_a.Stopped]⟩), (3, some ⟨3, (fl (eI .i64) v1)⟩)]) (n' := 4) (fun K => by kernel_rfl) .nil ?_
  refine Aw.sreg [2] [1, 3] ?_
  refine yct (cs := []) (E' := (sp 45 [(2, .ptr 1 [] 0)])) (H' := [(1, some ⟨39, [.sref 3 [] 0 (List.length v1) 1, .int .i64 x_a.Pc, .int .i64 x_a.Root, .int .i64 x_a.Vector, .int .i64 x_a.Saved, .bool x_a.SavedUser, .int .i64 x_a.Cause, .int .i64 x_a.Bad, .int .i64 x_a.Timer, .bool x_a.Waits, .bool x_a.User, .bool x_a.On, .bool x_a.Stopped]⟩), (3, some ⟨3, (fl (eI .i64) v1)⟩)]) (n' := 4) (fun K => by kernel_rfl) .nil ?_
  refine Aw.ret ?_
  rw [some_some hh]
  exact gives (r' := .agg [.sref 3 [] 0 (List.length v1) 1, .int .i64 x_a.Pc, .int .i64 x_a.Root, .int .i64 x_a.Vector, .int .i64 x_a.Saved, .bool x_a.SavedUser, .int .i64 x_a.Cause, .int .i64 x_a.Bad, .int .i64 x_a.Timer, .bool x_a.Waits, .bool x_a.User, .bool x_a.On, .bool x_a.Stopped]) (by kernel_rfl) (Ent.list [some 3] rfl rfl (Nat.zero_le _) (rens_1 (ren_agg (rens_c (ren_se (by decide) rfl rfl) (rens_c ren_i (rens_c ren_i (rens_c ren_i (rens_c ren_i (rens_c ren_b (rens_c ren_i (rens_c ren_i (rens_c ren_i (rens_c ren_b (rens_c ren_b (rens_c ren_b (rens_c ren_b rens_n))))))))))))))) (hs_as (t := ⟨3, (fl (eI .i64) v1)⟩) (by decide) rfl (by kernel_rfl) rfl (rens_same (noRefs_fl nr_eI)) hs_nil))

noncomputable def F_laws_eqIntS_j1  (s1 : Unit) : Option Bool :=
  some true
noncomputable def F_laws_eqIntS_l2 (x_a : List Int) (x_b : List Int) (s2 : Int) : Option (LO Int (JO Unit Bool)) :=
  cond (decide (s2 < (((List.length x_a) : Nat) : Int)))
    (grd ((0 : Int) ≤ s2 ∧ s2 < ((List.length x_a : Nat) : Int)) (grd ((0 : Int) ≤ s2 ∧ s2 < ((List.length x_b : Nat) : Int)) (cond (!decide ((List.getD x_a (Int.toNat s2) default) = (List.getD x_b (Int.toNat s2) default)))
          (some (.ret (.out false)))
          (some (.next (w64 (s2 + (1 : Int))))))))
    (some (.ret (.go ())))
noncomputable def F_laws_eqIntS (x_a : List Int) (x_b : List Int) : Option Bool :=
  cond (!decide ((((List.length x_a) : Nat) : Int) = (((List.length x_b) : Nat) : Int)))
    (some false)
    (Option.bind (Option.bind (iter (F_laws_eqIntS_l2 x_a x_b) (0 : Int)) LO.val) fun j1 =>
      JO.run j1 (F_laws_eqIntS_j1))
theorem laws_eqIntS_fn {x_a : List Int} {x_b : List Int} {R_ : Bool} (hh : F_laws_eqIntS x_a x_b = some R_) : Fn Try.prog 80 [bo (eI .i64) x_a, bo (eI .i64) x_b] (.bool R_) := by
  unfold F_laws_eqIntS at hh
  refine Fn.start low_laws_eqIntS [0, 1] (E := sp 26 [(0, bo (eI .i64) x_a), (1, bo (eI .i64) x_b)]) (by kernel_rfl) (v := .bool R_) (Hr := []) (k := 0) (by kernel_rfl) ?_
  refine Aw.sreg [0, 1] [] ?_
  refine yct (cs := []) (E' := (sp 26 [(0, bo (eI .i64) x_a), (1, bo (eI .i64) x_b)])) (H' := []) (n' := 0) (fun K => by kernel_rfl) .nil ?_
  refine Aw.seq ?_
  refine Aw.sreg [0, 1, 10] [] ?_
  refine yct (cs := []) (E' := (sp 26 [(0, bo (eI .i64) x_a), (1, bo (eI .i64) x_b), (10, .bool (!decide ((((List.length x_a) : Nat) : Int) = (((List.length x_b) : Nat) : Int))))])) (H' := []) (n' := 0) (fun K => by kernel_rfl) .nil ?_
  rcases cond_some hh with ⟨hb, hh⟩ | ⟨hb, hh⟩
  · refine Aw.condT (by kernel_rfl) hb ?_
    refine Aw.sreg [4] [] ?_
    refine yct (cs := []) (E' := (sp 26 [(4, .bool false)])) (H' := []) (n' := 0) (fun K => by kernel_rfl) .nil ?_
    refine Aw.ret ?_
    refine then_r ?_
    rw [some_some hh]
    exact gives (r' := .bool false) (by kernel_rfl) (Ent.list [] rfl rfl (Nat.zero_le _) (rens_1 ren_b) hs_nil)
  · refine Aw.condF (by kernel_rfl) hb ?_
    refine Aw.xskip (fun _ _ _ hq => then_m hq) ?_
    obtain ⟨j1, hh, hk1⟩ := bind_some hh
    refine Aw.join (S := Unit) (fun s1 => sp 26 []) (fun s1 => []) 0 (fun s1 => F_laws_eqIntS_j1 s1 = some R_) ?_ ?_
    · intro s1 hh
      unfold F_laws_eqIntS_j1 at hh
      refine Aw.sreg [4] [] ?_
      refine yct (cs := []) (E' := (sp 26 [(4, .bool true)])) (H' := []) (n' := 0) (fun K => by kernel_rfl) .nil ?_
      refine Aw.ret ?_
      rw [some_some hh]
      exact gives (r' := .bool true) (by kernel_rfl) (Ent.list [] rfl rfl (Nat.zero_le _) (rens_1 ren_b) hs_nil)
    · intro Q1 hN1 hR1 hE1
      refine Aw.sreg [0, 1, 5] [] ?_
      refine yct (cs := []) (E' := (sp 26 [(0, bo (eI .i64) x_a), (1, bo (eI .i64) x_b), (5, .int .i64 (0 : Int))])) (H' := []) (n' := 0) (fun K => by kernel_rfl) .nil ?_
      refine Aw.block ?_
      obtain ⟨o2, hi2, hk2⟩ := bind_some hh
      refine Aw.iter (fun (s2 : Int) => sp 26 [(0, bo (eI .i64) x_a), (1, bo (eI .i64) x_b), (5, .int .i64 s2)]) (fun (s2 : Int) => []) 0 hi2 (Ent.list2 [] rfl rfl (by decide) (rens_sp (by kernel_rfl) (rl_c (u := bo (eI .i64) x_a) (by kernel_rfl) (ren_bor (rens_same (noRefs_fl nr_eI))) (rl_c (u := bo (eI .i64) x_b) (by kernel_rfl) (ren_bor (rens_same (noRefs_fl nr_eI))) (rl_c (u := .int .i64 (0 : Int)) (by kernel_rfl) ren_i rl_n)))) hs_nil) ?_
      intro s2 u2 Q2 hh hN2 hX2 hR2
      unfold F_laws_eqIntS_l2 at hh
      refine Aw.seq ?_
      refine Aw.sreg [0, 1, 5, 14] [] ?_
      refine yct (cs := []) (E' := (sp 26 [(0, bo (eI .i64) x_a), (1, bo (eI .i64) x_b), (5, .int .i64 s2), (14, .bool (decide (s2 < (((List.length x_a) : Nat) : Int))))])) (H' := []) (n' := 0) (fun K => by kernel_rfl) .nil ?_
      rcases cond_some hh with ⟨hb, hh⟩ | ⟨hb, hh⟩
      · refine Aw.condT (by kernel_rfl) hb ?_
        refine Aw.xskip (fun _ _ _ hq => then_m hq) ?_
        refine Aw.seq ?_
        refine Aw.block ?_
        refine Aw.sregq [0, 1, 5, 25] ?_
        refine qc (cs := []) (E' := (sp 26 [(0, bo (eI .i64) x_a), (1, bo (eI .i64) x_b), (5, .int .i64 s2), (14, .bool (decide (s2 < (((List.length x_a) : Nat) : Int)))), (17, bo (eI .i64) x_a), (18, .int .i64 s2)])) (pre := (List.take 2 L_laws_eqIntS_r5)) (L' := (List.drop 2 L_laws_eqIntS_r5)) (by kernel_rfl) (fun K => by kernel_rfl) .nil ?_
        obtain ⟨hg47, hh⟩ := grd_some hh
        refine qso (op := (.iadr 1 (.t 17) (.t 18))) (d := (some 19)) (os := (List.drop 3 L_laws_eqIntS_r5)) (by kernel_rfl) (yq_q rfl (op_iadr (kd := .i64) (c := (eI .i64)) (xs := x_a) len_eI (by decide) (by kernel_rfl) (by kernel_rfl) hg47 ?_))
        refine qso (op := (.load false 1 (.t 19))) (d := (some 20)) (os := (List.drop 4 L_laws_eqIntS_r5)) (by kernel_rfl) (yq_q rfl (op_loadb (c := (eI .i64)) (xs := x_a) (o := Int.toNat s2 * 1) (i := (Int.toNat s2)) (off := 0) (v := .int .i64 (List.getD x_a (Int.toNat s2) default)) len_eI (by kernel_rfl) (by omega) (by omega) (by decide) (by kernel_rfl) ?_))
        refine qc (cs := []) (E' := (sp 26 [(0, bo (eI .i64) x_a), (1, bo (eI .i64) x_b), (5, .int .i64 s2), (14, .bool (decide (s2 < (((List.length x_a) : Nat) : Int)))), (17, bo (eI .i64) x_a), (18, .int .i64 s2), (19, .bptr (fl (eI .i64) x_a) (Int.toNat s2 * 1)), (20, .int .i64 (List.getD x_a (Int.toNat s2) default)), (21, bo (eI .i64) x_b), (22, .int .i64 s2)])) (pre := (List.take 2 (List.drop 4 L_laws_eqIntS_r5))) (L' := (List.drop 6 L_laws_eqIntS_r5)) (by kernel_rfl) (fun K => by kernel_rfl) .nil ?_
        obtain ⟨hg48, hh⟩ := grd_some hh
        refine qso (op := (.iadr 1 (.t 21) (.t 22))) (d := (some 23)) (os := (List.drop 7 L_laws_eqIntS_r5)) (by kernel_rfl) (yq_q rfl (op_iadr (kd := .i64) (c := (eI .i64)) (xs := x_b) len_eI (by decide) (by kernel_rfl) (by kernel_rfl) hg48 ?_))
        refine qso (op := (.load false 1 (.t 23))) (d := (some 24)) (os := (List.drop 8 L_laws_eqIntS_r5)) (by kernel_rfl) (yq_q rfl (op_loadb (c := (eI .i64)) (xs := x_b) (o := Int.toNat s2 * 1) (i := (Int.toNat s2)) (off := 0) (v := .int .i64 (List.getD x_b (Int.toNat s2) default)) len_eI (by kernel_rfl) (by omega) (by omega) (by decide) (by kernel_rfl) ?_))
        refine qct (cs := []) (E' := (sp 26 [(0, bo (eI .i64) x_a), (1, bo (eI .i64) x_b), (5, .int .i64 s2), (25, .bool (!decide ((List.getD x_a (Int.toNat s2) default) = (List.getD x_b (Int.toNat s2) default))))])) (fun K => by kernel_rfl) .nil ?_
        rcases cond_some hh with ⟨hb, hh⟩ | ⟨hb, hh⟩
        · refine Aw.condT (by kernel_rfl) hb ?_
          refine Aw.sreg [4] [] ?_
          refine yct (cs := []) (E' := (sp 26 [(4, .bool false)])) (H' := []) (n' := 0) (fun K => by kernel_rfl) .nil ?_
          refine Aw.ret ?_
          refine blk_r (then_r ?_)
          refine hR2 _ _ _ _ (some_some hh) ?_
          intro hout
          rw [hout] at hk2
          refine blk_r ?_
          obtain rfl := some_some hk2
          refine hR1 _ _ _ ?_
          refine ?_
          rw [some_some hk1]
          exact gives (r' := .bool false) (by kernel_rfl) (Ent.list [] rfl rfl (Nat.zero_le _) (rens_1 ren_b) hs_nil)
        · refine Aw.condF (by kernel_rfl) hb ?_
          refine Aw.xskip (fun _ _ _ hq => blk_m (then_m hq)) ?_
          refine Aw.oreg ?_
          refine yce (cs := []) (E' := (sp 26 [(0, bo (eI .i64) x_a), (1, bo (eI .i64) x_b), (5, .int .i64 (w64 (s2 + (1 : Int)))), (15, .int .i64 s2), (16, .int .i64 (w64 (s2 + (1 : Int)))), (25, .bool (!decide ((List.getD x_a (Int.toNat s2) default) = (List.getD x_b (Int.toNat s2) default))))])) (H' := []) (n' := 0) (fun K => by kernel_rfl) .nil ?_
          exact hN2 (w64 (s2 + (1 : Int))) _ _ _ (some_some hh) (Ent.list2 [] rfl rfl (by decide) (rens_sp (by kernel_rfl) (rl_c (u := bo (eI .i64) x_a) (by kernel_rfl) (ren_bor (rens_same (noRefs_fl nr_eI))) (rl_c (u := bo (eI .i64) x_b) (by kernel_rfl) (ren_bor (rens_same (noRefs_fl nr_eI))) (rl_c (u := .int .i64 (w64 (s2 + (1 : Int)))) (by kernel_rfl) ren_i rl_n)))) hs_nil)
      · refine Aw.condF (by kernel_rfl) hb ?_
        refine Aw.exit ?_
        refine then_x ?_
        refine hX2 _ _ _ _ _ (some_some hh) ?_
        intro hout
        rw [hout] at hk2
        refine blk_x ?_
        obtain rfl := some_some hk2
        exact hN1 () _ _ _ hk1 (Ent.list2 [] rfl rfl (by decide) (rens_sp (by kernel_rfl) rl_n) hs_nil)

noncomputable def F_laws_eqCore (x_a : DCore) (x_b : DCore) : Option Bool :=
  Option.bind (F_laws_eqIntS x_a.Regs x_b.Regs) fun v1 =>
  cond (!v1)
    (some false)
    (cond (!decide (x_a.Pc = x_b.Pc))
      (some false)
      (cond (!decide (x_a.Root = x_b.Root))
        (some false)
        (cond (!decide (x_a.Vector = x_b.Vector))
          (some false)
          (cond (!decide (x_a.Saved = x_b.Saved))
            (some false)
            (cond (!(x_a.SavedUser == x_b.SavedUser))
              (some false)
              (cond (!decide (x_a.Cause = x_b.Cause))
                (some false)
                (cond (!decide (x_a.Bad = x_b.Bad))
                  (some false)
                  (cond (!decide (x_a.Timer = x_b.Timer))
                    (some false)
                    (cond (!(x_a.Waits == x_b.Waits))
                      (some false)
                      (cond (!(x_a.User == x_b.User))
                        (some false)
                        (cond (!(x_a.On == x_b.On))
                          (some false)
                          (cond (!(x_a.Stopped == x_b.Stopped))
                            (some false)
                            (some true)))))))))))))
theorem laws_eqCore_fn {x_a : DCore} {x_b : DCore} {R_ : Bool} (hh : F_laws_eqCore x_a x_b = some R_) : Fn Try.prog 45 [.agg [bo (eI .i64) x_a.Regs, .int .i64 x_a.Pc, .int .i64 x_a.Root, .int .i64 x_a.Vector, .int .i64 x_a.Saved, .bool x_a.SavedUser, .int .i64 x_a.Cause, .int .i64 x_a.Bad, .int .i64 x_a.Timer, .bool x_a.Waits, .bool x_a.User, .bool x_a.On, .bool x_a.Stopped], .agg [bo (eI .i64) x_b.Regs, .int .i64 x_b.Pc, .int .i64 x_b.Root, .int .i64 x_b.Vector, .int .i64 x_b.Saved, .bool x_b.SavedUser, .int .i64 x_b.Cause, .int .i64 x_b.Bad, .int .i64 x_b.Timer, .bool x_b.Waits, .bool x_b.User, .bool x_b.On, .bool x_b.Stopped]] (.bool R_) := by
  unfold F_laws_eqCore at hh
  refine Fn.start low_laws_eqCore [0, 1] (E := sp 71 [(0, .agg (B_39 x_a)), (1, .agg (B_39 x_b))]) (by kernel_rfl) (v := .bool R_) (Hr := []) (k := 0) (by kernel_rfl) ?_
  refine Aw.sreg [2, 3] [0, 1] ?_
  refine yct (cs := []) (E' := (sp 71 [(2, .ptr 0 [] 0), (3, .ptr 1 [] 0)])) (H' := [(0, some ⟨39, [bo (eI .i64) x_a.Regs, .int .i64 x_a.Pc, .int .i64 x_a.Root, .int .i64 x_a.Vector, .int .i64 x_a.Saved, .bool x_a.SavedUser, .int .i64 x_a.Cause, .int .i64 x_a.Bad, .int .i64 x_a.Timer, .bool x_a.Waits, .bool x_a.User, .bool x_a.On, .bool x_a.Stopped]⟩), (1, some ⟨39, [bo (eI .i64) x_b.Regs, .int .i64 x_b.Pc, .int .i64 x_b.Root, .int .i64 x_b.Vector, .int .i64 x_b.Saved, .bool x_b.SavedUser, .int .i64 x_b.Cause, .int .i64 x_b.Bad, .int .i64 x_b.Timer, .bool x_b.Waits, .bool x_b.User, .bool x_b.On, .bool x_b.Stopped]⟩)]) (n' := 2) (fun K => by kernel_rfl) .nil ?_
  refine Aw.seq ?_
  refine Aw.sreg [2, 3, 10] [0, 1] ?_
  refine yc (cs := []) (E' := (sp 71 [(2, .ptr 0 [] 0), (3, .ptr 1 [] 0), (5, .ptr 0 [] 0), (6, bo (eI .i64) x_a.Regs), (7, .ptr 1 [] 0), (8, bo (eI .i64) x_b.Regs)])) (H' := [(0, some ⟨39, [bo (eI .i64) x_a.Regs, .int .i64 x_a.Pc, .int .i64 x_a.Root, .int .i64 x_a.Vector, .int .i64 x_a.Saved, .bool x_a.SavedUser, .int .i64 x_a.Cause, .int .i64 x_a.Bad, .int .i64 x_a.Timer, .bool x_a.Waits, .bool x_a.User, .bool x_a.On, .bool x_a.Stopped]⟩), (1, some ⟨39, [bo (eI .i64) x_b.Regs, .int .i64 x_b.Pc, .int .i64 x_b.Root, .int .i64 x_b.Vector, .int .i64 x_b.Saved, .bool x_b.SavedUser, .int .i64 x_b.Cause, .int .i64 x_b.Bad, .int .i64 x_b.Timer, .bool x_b.Waits, .bool x_b.User, .bool x_b.On, .bool x_b.Stopped]⟩)]) (n' := 2) (pre := (List.take 4 L_laws_eqCore_r1)) (L' := (List.drop 4 L_laws_eqCore_r1)) (by kernel_rfl) (fun K => by kernel_rfl) .nil ?_
  obtain ⟨v1, hv1, hh⟩ := bind_some hh
  refine yso (op := (.call 80 [(.t 6), (.t 8)])) (d := (some 9)) (os := (List.drop 5 L_laws_eqCore_r1)) (by kernel_rfl) (op_call (r := .bool v1) (v := .bool v1) (Hr := []) (n' := 2) (laws_eqIntS_fn hv1) (clz_v (vs := [bo (eI .i64) x_a.Regs, bo (eI .i64) x_b.Regs]) (by kernel_rfl) (clz_c (clo_same (clean_bor (cleans_fl cl_eI))) (clz_c (clo_same (clean_bor (cleans_fl cl_eI))) clz_n))) rfl rfl (by kernel_rfl) ?_)
  refine yct (cs := []) (E' := (sp 71 [(2, .ptr 0 [] 0), (3, .ptr 1 [] 0), (10, .bool (!v1))])) (H' := [(0, some ⟨39, [bo (eI .i64) x_a.Regs, .int .i64 x_a.Pc, .int .i64 x_a.Root, .int .i64 x_a.Vector, .int .i64 x_a.Saved, .bool x_a.SavedUser, .int .i64 x_a.Cause, .int .i64 x_a.Bad, .int .i64 x_a.Timer, .bool x_a.Waits, .bool x_a.User, .bool x_a.On, .bool x_a.Stopped]⟩), (1, some ⟨39, [bo (eI .i64) x_b.Regs, .int .i64 x_b.Pc, .int .i64 x_b.Root, .int .i64 x_b.Vector, .int .i64 x_b.Saved, .bool x_b.SavedUser, .int .i64 x_b.Cause, .int .i64 x_b.Bad, .int .i64 x_b.Timer, .bool x_b.Waits, .bool x_b.User, .bool x_b.On, .bool x_b.Stopped]⟩)]) (n' := 2) (fun K => by kernel_rfl) .nil ?_
  rcases cond_some hh with ⟨hb, hh⟩ | ⟨hb, hh⟩
  · refine Aw.condT (by kernel_rfl) hb ?_
    refine Aw.sreg [4] [] ?_
    refine yct (cs := []) (E' := (sp 71 [(4, .bool false)])) (H' := []) (n' := 2) (fun K => by kernel_rfl) .nil ?_
    refine Aw.ret ?_
    refine then_r ?_
    rw [some_some hh]
    exact gives (r' := .bool false) (by kernel_rfl) (Ent.list [] rfl rfl (Nat.zero_le _) (rens_1 ren_b) hs_nil)
  · refine Aw.condF (by kernel_rfl) hb ?_
    refine Aw.xskip (fun _ _ _ hq => then_m hq) ?_
    refine Aw.seq ?_
    refine Aw.sreg [2, 3, 15] [0, 1] ?_
    refine yct (cs := []) (E' := (sp 71 [(2, .ptr 0 [] 0), (3, .ptr 1 [] 0), (15, .bool (!decide (x_a.Pc = x_b.Pc)))])) (H' := [(0, some ⟨39, [bo (eI .i64) x_a.Regs, .int .i64 x_a.Pc, .int .i64 x_a.Root, .int .i64 x_a.Vector, .int .i64 x_a.Saved, .bool x_a.SavedUser, .int .i64 x_a.Cause, .int .i64 x_a.Bad, .int .i64 x_a.Timer, .bool x_a.Waits, .bool x_a.User, .bool x_a.On, .bool x_a.Stopped]⟩), (1, some ⟨39, [bo (eI .i64) x_b.Regs, .int .i64 x_b.Pc, .int .i64 x_b.Root, .int .i64 x_b.Vector, .int .i64 x_b.Saved, .bool x_b.SavedUser, .int .i64 x_b.Cause, .int .i64 x_b.Bad, .int .i64 x_b.Timer, .bool x_b.Waits, .bool x_b.User, .bool x_b.On, .bool x_b.Stopped]⟩)]) (n' := 2) (fun K => by kernel_rfl) .nil ?_
    rcases cond_some hh with ⟨hb, hh⟩ | ⟨hb, hh⟩
    · refine Aw.condT (by kernel_rfl) hb ?_
      refine Aw.sreg [4] [] ?_
      refine yct (cs := []) (E' := (sp 71 [(4, .bool false)])) (H' := []) (n' := 2) (fun K => by kernel_rfl) .nil ?_
      refine Aw.ret ?_
      refine then_r ?_
      rw [some_some hh]
      exact gives (r' := .bool false) (by kernel_rfl) (Ent.list [] rfl rfl (Nat.zero_le _) (rens_1 ren_b) hs_nil)
    · refine Aw.condF (by kernel_rfl) hb ?_
      refine Aw.xskip (fun _ _ _ hq => then_m hq) ?_
      refine Aw.seq ?_
      refine Aw.sreg [2, 3, 20] [0, 1] ?_
      refine yct (cs := []) (E' := (sp 71 [(2, .ptr 0 [] 0), (3, .ptr 1 [] 0), (20, .bool (!decide (x_a.Root = x_b.Root)))])) (H' := [(0, some ⟨39, [bo (eI .i64) x_a.Regs, .int .i64 x_a.Pc, .int .i64 x_a.Root, .int .i64 x_a.Vector, .int .i64 x_a.Saved, .bool x_a.SavedUser, .int .i64 x_a.Cause, .int .i64 x_a.Bad, .int .i64 x_a.Timer, .bool x_a.Waits, .bool x_a.User, .bool x_a.On, .bool x_a.Stopped]⟩), (1, some ⟨39, [bo (eI .i64) x_b.Regs, .int .i64 x_b.Pc, .int .i64 x_b.Root, .int .i64 x_b.Vector, .int .i64 x_b.Saved, .bool x_b.SavedUser, .int .i64 x_b.Cause, .int .i64 x_b.Bad, .int .i64 x_b.Timer, .bool x_b.Waits, .bool x_b.User, .bool x_b.On, .bool x_b.Stopped]⟩)]) (n' := 2) (fun K => by kernel_rfl) .nil ?_
      rcases cond_some hh with ⟨hb, hh⟩ | ⟨hb, hh⟩
      · refine Aw.condT (by kernel_rfl) hb ?_
        refine Aw.sreg [4] [] ?_
        refine yct (cs := []) (E' := (sp 71 [(4, .bool false)])) (H' := []) (n' := 2) (fun K => by kernel_rfl) .nil ?_
        refine Aw.ret ?_
        refine then_r ?_
        rw [some_some hh]
        exact gives (r' := .bool false) (by kernel_rfl) (Ent.list [] rfl rfl (Nat.zero_le _) (rens_1 ren_b) hs_nil)
      · refine Aw.condF (by kernel_rfl) hb ?_
        refine Aw.xskip (fun _ _ _ hq => then_m hq) ?_
        refine Aw.seq ?_
        refine Aw.sreg [2, 3, 25] [0, 1] ?_
        refine yct (cs := []) (E' := (sp 71 [(2, .ptr 0 [] 0), (3, .ptr 1 [] 0), (25, .bool (!decide (x_a.Vector = x_b.Vector)))])) (H' := [(0, some ⟨39, [bo (eI .i64) x_a.Regs, .int .i64 x_a.Pc, .int .i64 x_a.Root, .int .i64 x_a.Vector, .int .i64 x_a.Saved, .bool x_a.SavedUser, .int .i64 x_a.Cause, .int .i64 x_a.Bad, .int .i64 x_a.Timer, .bool x_a.Waits, .bool x_a.User, .bool x_a.On, .bool x_a.Stopped]⟩), (1, some ⟨39, [bo (eI .i64) x_b.Regs, .int .i64 x_b.Pc, .int .i64 x_b.Root, .int .i64 x_b.Vector, .int .i64 x_b.Saved, .bool x_b.SavedUser, .int .i64 x_b.Cause, .int .i64 x_b.Bad, .int .i64 x_b.Timer, .bool x_b.Waits, .bool x_b.User, .bool x_b.On, .bool x_b.Stopped]⟩)]) (n' := 2) (fun K => by kernel_rfl) .nil ?_
        rcases cond_some hh with ⟨hb, hh⟩ | ⟨hb, hh⟩
        · refine Aw.condT (by kernel_rfl) hb ?_
          refine Aw.sreg [4] [] ?_
          refine yct (cs := []) (E' := (sp 71 [(4, .bool false)])) (H' := []) (n' := 2) (fun K => by kernel_rfl) .nil ?_
          refine Aw.ret ?_
          refine then_r ?_
          rw [some_some hh]
          exact gives (r' := .bool false) (by kernel_rfl) (Ent.list [] rfl rfl (Nat.zero_le _) (rens_1 ren_b) hs_nil)
        · refine Aw.condF (by kernel_rfl) hb ?_
          refine Aw.xskip (fun _ _ _ hq => then_m hq) ?_
          refine Aw.seq ?_
          refine Aw.sreg [2, 3, 30] [0, 1] ?_
          refine yct (cs := []) (E' := (sp 71 [(2, .ptr 0 [] 0), (3, .ptr 1 [] 0), (30, .bool (!decide (x_a.Saved = x_b.Saved)))])) (H' := [(0, some ⟨39, [bo (eI .i64) x_a.Regs, .int .i64 x_a.Pc, .int .i64 x_a.Root, .int .i64 x_a.Vector, .int .i64 x_a.Saved, .bool x_a.SavedUser, .int .i64 x_a.Cause, .int .i64 x_a.Bad, .int .i64 x_a.Timer, .bool x_a.Waits, .bool x_a.User, .bool x_a.On, .bool x_a.Stopped]⟩), (1, some ⟨39, [bo (eI .i64) x_b.Regs, .int .i64 x_b.Pc, .int .i64 x_b.Root, .int .i64 x_b.Vector, .int .i64 x_b.Saved, .bool x_b.SavedUser, .int .i64 x_b.Cause, .int .i64 x_b.Bad, .int .i64 x_b.Timer, .bool x_b.Waits, .bool x_b.User, .bool x_b.On, .bool x_b.Stopped]⟩)]) (n' := 2) (fun K => by kernel_rfl) .nil ?_
          rcases cond_some hh with ⟨hb, hh⟩ | ⟨hb, hh⟩
          · refine Aw.condT (by kernel_rfl) hb ?_
            refine Aw.sreg [4] [] ?_
            refine yct (cs := []) (E' := (sp 71 [(4, .bool false)])) (H' := []) (n' := 2) (fun K => by kernel_rfl) .nil ?_
            refine Aw.ret ?_
            refine then_r ?_
            rw [some_some hh]
            exact gives (r' := .bool false) (by kernel_rfl) (Ent.list [] rfl rfl (Nat.zero_le _) (rens_1 ren_b) hs_nil)
          · refine Aw.condF (by kernel_rfl) hb ?_
            refine Aw.xskip (fun _ _ _ hq => then_m hq) ?_
            refine Aw.seq ?_
            refine Aw.sreg [2, 3, 35] [0, 1] ?_
            refine yct (cs := []) (E' := (sp 71 [(2, .ptr 0 [] 0), (3, .ptr 1 [] 0), (35, .bool (!(x_a.SavedUser == x_b.SavedUser)))])) (H' := [(0, some ⟨39, [bo (eI .i64) x_a.Regs, .int .i64 x_a.Pc, .int .i64 x_a.Root, .int .i64 x_a.Vector, .int .i64 x_a.Saved, .bool x_a.SavedUser, .int .i64 x_a.Cause, .int .i64 x_a.Bad, .int .i64 x_a.Timer, .bool x_a.Waits, .bool x_a.User, .bool x_a.On, .bool x_a.Stopped]⟩), (1, some ⟨39, [bo (eI .i64) x_b.Regs, .int .i64 x_b.Pc, .int .i64 x_b.Root, .int .i64 x_b.Vector, .int .i64 x_b.Saved, .bool x_b.SavedUser, .int .i64 x_b.Cause, .int .i64 x_b.Bad, .int .i64 x_b.Timer, .bool x_b.Waits, .bool x_b.User, .bool x_b.On, .bool x_b.Stopped]⟩)]) (n' := 2) (fun K => by kernel_rfl) .nil ?_
            rcases cond_some hh with ⟨hb, hh⟩ | ⟨hb, hh⟩
            · refine Aw.condT (by kernel_rfl) hb ?_
              refine Aw.sreg [4] [] ?_
              refine yct (cs := []) (E' := (sp 71 [(4, .bool false)])) (H' := []) (n' := 2) (fun K => by kernel_rfl) .nil ?_
              refine Aw.ret ?_
              refine then_r ?_
              rw [some_some hh]
              exact gives (r' := .bool false) (by kernel_rfl) (Ent.list [] rfl rfl (Nat.zero_le _) (rens_1 ren_b) hs_nil)
            · refine Aw.condF (by kernel_rfl) hb ?_
              refine Aw.xskip (fun _ _ _ hq => then_m hq) ?_
              refine Aw.seq ?_
              refine Aw.sreg [2, 3, 40] [0, 1] ?_
              refine yct (cs := []) (E' := (sp 71 [(2, .ptr 0 [] 0), (3, .ptr 1 [] 0), (40, .bool (!decide (x_a.Cause = x_b.Cause)))])) (H' := [(0, some ⟨39, [bo (eI .i64) x_a.Regs, .int .i64 x_a.Pc, .int .i64 x_a.Root, .int .i64 x_a.Vector, .int .i64 x_a.Saved, .bool x_a.SavedUser, .int .i64 x_a.Cause, .int .i64 x_a.Bad, .int .i64 x_a.Timer, .bool x_a.Waits, .bool x_a.User, .bool x_a.On, .bool x_a.Stopped]⟩), (1, some ⟨39, [bo (eI .i64) x_b.Regs, .int .i64 x_b.Pc, .int .i64 x_b.Root, .int .i64 x_b.Vector, .int .i64 x_b.Saved, .bool x_b.SavedUser, .int .i64 x_b.Cause, .int .i64 x_b.Bad, .int .i64 x_b.Timer, .bool x_b.Waits, .bool x_b.User, .bool x_b.On, .bool x_b.Stopped]⟩)]) (n' := 2) (fun K => by kernel_rfl) .nil ?_
              rcases cond_some hh with ⟨hb, hh⟩ | ⟨hb, hh⟩
              · refine Aw.condT (by kernel_rfl) hb ?_
                refine Aw.sreg [4] [] ?_
                refine yct (cs := []) (E' := (sp 71 [(4, .bool false)])) (H' := []) (n' := 2) (fun K => by kernel_rfl) .nil ?_
                refine Aw.ret ?_
                refine then_r ?_
                rw [some_some hh]
                exact gives (r' := .bool false) (by kernel_rfl) (Ent.list [] rfl rfl (Nat.zero_le _) (rens_1 ren_b) hs_nil)
              · refine Aw.condF (by kernel_rfl) hb ?_
                refine Aw.xskip (fun _ _ _ hq => then_m hq) ?_
                refine Aw.seq ?_
                refine Aw.sreg [2, 3, 45] [0, 1] ?_
                refine yct (cs := []) (E' := (sp 71 [(2, .ptr 0 [] 0), (3, .ptr 1 [] 0), (45, .bool (!decide (x_a.Bad = x_b.Bad)))])) (H' := [(0, some ⟨39, [bo (eI .i64) x_a.Regs, .int .i64 x_a.Pc, .int .i64 x_a.Root, .int .i64 x_a.Vector, .int .i64 x_a.Saved, .bool x_a.SavedUser, .int .i64 x_a.Cause, .int .i64 x_a.Bad, .int .i64 x_a.Timer, .bool x_a.Waits, .bool x_a.User, .bool x_a.On, .bool x_a.Stopped]⟩), (1, some ⟨39, [bo (eI .i64) x_b.Regs, .int .i64 x_b.Pc, .int .i64 x_b.Root, .int .i64 x_b.Vector, .int .i64 x_b.Saved, .bool x_b.SavedUser, .int .i64 x_b.Cause, .int .i64 x_b.Bad, .int .i64 x_b.Timer, .bool x_b.Waits, .bool x_b.User, .bool x_b.On, .bool x_b.Stopped]⟩)]) (n' := 2) (fun K => by kernel_rfl) .nil ?_
                rcases cond_some hh with ⟨hb, hh⟩ | ⟨hb, hh⟩
                · refine Aw.condT (by kernel_rfl) hb ?_
                  refine Aw.sreg [4] [] ?_
                  refine yct (cs := []) (E' := (sp 71 [(4, .bool false)])) (H' := []) (n' := 2) (fun K => by kernel_rfl) .nil ?_
                  refine Aw.ret ?_
                  refine then_r ?_
                  rw [some_some hh]
                  exact gives (r' := .bool false) (by kernel_rfl) (Ent.list [] rfl rfl (Nat.zero_le _) (rens_1 ren_b) hs_nil)
                · refine Aw.condF (by kernel_rfl) hb ?_
                  refine Aw.xskip (fun _ _ _ hq => then_m hq) ?_
                  refine Aw.seq ?_
                  refine Aw.sreg [2, 3, 50] [0, 1] ?_
                  refine yct (cs := []) (E' := (sp 71 [(2, .ptr 0 [] 0), (3, .ptr 1 [] 0), (50, .bool (!decide (x_a.Timer = x_b.Timer)))])) (H' := [(0, some ⟨39, [bo (eI .i64) x_a.Regs, .int .i64 x_a.Pc, .int .i64 x_a.Root, .int .i64 x_a.Vector, .int .i64 x_a.Saved, .bool x_a.SavedUser, .int .i64 x_a.Cause, .int .i64 x_a.Bad, .int .i64 x_a.Timer, .bool x_a.Waits, .bool x_a.User, .bool x_a.On, .bool x_a.Stopped]⟩), (1, some ⟨39, [bo (eI .i64) x_b.Regs, .int .i64 x_b.Pc, .int .i64 x_b.Root, .int .i64 x_b.Vector, .int .i64 x_b.Saved, .bool x_b.SavedUser, .int .i64 x_b.Cause, .int .i64 x_b.Bad, .int .i64 x_b.Timer, .bool x_b.Waits, .bool x_b.User, .bool x_b.On, .bool x_b.Stopped]⟩)]) (n' := 2) (fun K => by kernel_rfl) .nil ?_
                  rcases cond_some hh with ⟨hb, hh⟩ | ⟨hb, hh⟩
                  · refine Aw.condT (by kernel_rfl) hb ?_
                    refine Aw.sreg [4] [] ?_
                    refine yct (cs := []) (E' := (sp 71 [(4, .bool false)])) (H' := []) (n' := 2) (fun K => by kernel_rfl) .nil ?_
                    refine Aw.ret ?_
                    refine then_r ?_
                    rw [some_some hh]
                    exact gives (r' := .bool false) (by kernel_rfl) (Ent.list [] rfl rfl (Nat.zero_le _) (rens_1 ren_b) hs_nil)
                  · refine Aw.condF (by kernel_rfl) hb ?_
                    refine Aw.xskip (fun _ _ _ hq => then_m hq) ?_
                    refine Aw.seq ?_
                    refine Aw.sreg [2, 3, 55] [0, 1] ?_
                    refine yct (cs := []) (E' := (sp 71 [(2, .ptr 0 [] 0), (3, .ptr 1 [] 0), (55, .bool (!(x_a.Waits == x_b.Waits)))])) (H' := [(0, some ⟨39, [bo (eI .i64) x_a.Regs, .int .i64 x_a.Pc, .int .i64 x_a.Root, .int .i64 x_a.Vector, .int .i64 x_a.Saved, .bool x_a.SavedUser, .int .i64 x_a.Cause, .int .i64 x_a.Bad, .int .i64 x_a.Timer, .bool x_a.Waits, .bool x_a.User, .bool x_a.On, .bool x_a.Stopped]⟩), (1, some ⟨39, [bo (eI .i64) x_b.Regs, .int .i64 x_b.Pc, .int .i64 x_b.Root, .int .i64 x_b.Vector, .int .i64 x_b.Saved, .bool x_b.SavedUser, .int .i64 x_b.Cause, .int .i64 x_b.Bad, .int .i64 x_b.Timer, .bool x_b.Waits, .bool x_b.User, .bool x_b.On, .bool x_b.Stopped]⟩)]) (n' := 2) (fun K => by kernel_rfl) .nil ?_
                    rcases cond_some hh with ⟨hb, hh⟩ | ⟨hb, hh⟩
                    · refine Aw.condT (by kernel_rfl) hb ?_
                      refine Aw.sreg [4] [] ?_
                      refine yct (cs := []) (E' := (sp 71 [(4, .bool false)])) (H' := []) (n' := 2) (fun K => by kernel_rfl) .nil ?_
                      refine Aw.ret ?_
                      refine then_r ?_
                      rw [some_some hh]
                      exact gives (r' := .bool false) (by kernel_rfl) (Ent.list [] rfl rfl (Nat.zero_le _) (rens_1 ren_b) hs_nil)
                    · refine Aw.condF (by kernel_rfl) hb ?_
                      refine Aw.xskip (fun _ _ _ hq => then_m hq) ?_
                      refine Aw.seq ?_
                      refine Aw.sreg [2, 3, 60] [0, 1] ?_
                      refine yct (cs := []) (E' := (sp 71 [(2, .ptr 0 [] 0), (3, .ptr 1 [] 0), (60, .bool (!(x_a.User == x_b.User)))])) (H' := [(0, some ⟨39, [bo (eI .i64) x_a.Regs, .int .i64 x_a.Pc, .int .i64 x_a.Root, .int .i64 x_a.Vector, .int .i64 x_a.Saved, .bool x_a.SavedUser, .int .i64 x_a.Cause, .int .i64 x_a.Bad, .int .i64 x_a.Timer, .bool x_a.Waits, .bool x_a.User, .bool x_a.On, .bool x_a.Stopped]⟩), (1, some ⟨39, [bo (eI .i64) x_b.Regs, .int .i64 x_b.Pc, .int .i64 x_b.Root, .int .i64 x_b.Vector, .int .i64 x_b.Saved, .bool x_b.SavedUser, .int .i64 x_b.Cause, .int .i64 x_b.Bad, .int .i64 x_b.Timer, .bool x_b.Waits, .bool x_b.User, .bool x_b.On, .bool x_b.Stopped]⟩)]) (n' := 2) (fun K => by kernel_rfl) .nil ?_
                      rcases cond_some hh with ⟨hb, hh⟩ | ⟨hb, hh⟩
                      · refine Aw.condT (by kernel_rfl) hb ?_
                        refine Aw.sreg [4] [] ?_
                        refine yct (cs := []) (E' := (sp 71 [(4, .bool false)])) (H' := []) (n' := 2) (fun K => by kernel_rfl) .nil ?_
                        refine Aw.ret ?_
                        refine then_r ?_
                        rw [some_some hh]
                        exact gives (r' := .bool false) (by kernel_rfl) (Ent.list [] rfl rfl (Nat.zero_le _) (rens_1 ren_b) hs_nil)
                      · refine Aw.condF (by kernel_rfl) hb ?_
                        refine Aw.xskip (fun _ _ _ hq => then_m hq) ?_
                        refine Aw.seq ?_
                        refine Aw.sreg [2, 3, 65] [0, 1] ?_
                        refine yct (cs := []) (E' := (sp 71 [(2, .ptr 0 [] 0), (3, .ptr 1 [] 0), (65, .bool (!(x_a.On == x_b.On)))])) (H' := [(0, some ⟨39, [bo (eI .i64) x_a.Regs, .int .i64 x_a.Pc, .int .i64 x_a.Root, .int .i64 x_a.Vector, .int .i64 x_a.Saved, .bool x_a.SavedUser, .int .i64 x_a.Cause, .int .i64 x_a.Bad, .int .i64 x_a.Timer, .bool x_a.Waits, .bool x_a.User, .bool x_a.On, .bool x_a.Stopped]⟩), (1, some ⟨39, [bo (eI .i64) x_b.Regs, .int .i64 x_b.Pc, .int .i64 x_b.Root, .int .i64 x_b.Vector, .int .i64 x_b.Saved, .bool x_b.SavedUser, .int .i64 x_b.Cause, .int .i64 x_b.Bad, .int .i64 x_b.Timer, .bool x_b.Waits, .bool x_b.User, .bool x_b.On, .bool x_b.Stopped]⟩)]) (n' := 2) (fun K => by kernel_rfl) .nil ?_
                        rcases cond_some hh with ⟨hb, hh⟩ | ⟨hb, hh⟩
                        · refine Aw.condT (by kernel_rfl) hb ?_
                          refine Aw.sreg [4] [] ?_
                          refine yct (cs := []) (E' := (sp 71 [(4, .bool false)])) (H' := []) (n' := 2) (fun K => by kernel_rfl) .nil ?_
                          refine Aw.ret ?_
                          refine then_r ?_
                          rw [some_some hh]
                          exact gives (r' := .bool false) (by kernel_rfl) (Ent.list [] rfl rfl (Nat.zero_le _) (rens_1 ren_b) hs_nil)
                        · refine Aw.condF (by kernel_rfl) hb ?_
                          refine Aw.xskip (fun _ _ _ hq => then_m hq) ?_
                          refine Aw.seq ?_
                          refine Aw.sreg [70] [] ?_
                          refine yct (cs := []) (E' := (sp 71 [(70, .bool (!(x_a.Stopped == x_b.Stopped)))])) (H' := []) (n' := 2) (fun K => by kernel_rfl) .nil ?_
                          rcases cond_some hh with ⟨hb, hh⟩ | ⟨hb, hh⟩
                          · refine Aw.condT (by kernel_rfl) hb ?_
                            refine Aw.sreg [4] [] ?_
                            refine yct (cs := []) (E' := (sp 71 [(4, .bool false)])) (H' := []) (n' := 2) (fun K => by kernel_rfl) .nil ?_
                            refine Aw.ret ?_
                            refine then_r ?_
                            rw [some_some hh]
                            exact gives (r' := .bool false) (by kernel_rfl) (Ent.list [] rfl rfl (Nat.zero_le _) (rens_1 ren_b) hs_nil)
                          · refine Aw.condF (by kernel_rfl) hb ?_
                            refine Aw.xskip (fun _ _ _ hq => then_m hq) ?_
                            refine Aw.sreg [4] [] ?_
                            refine yct (cs := []) (E' := (sp 71 [(4, .bool true)])) (H' := []) (n' := 2) (fun K => by kernel_rfl) .nil ?_
                            refine Aw.ret ?_
                            rw [some_some hh]
                            exact gives (r' := .bool true) (by kernel_rfl) (Ent.list [] rfl rfl (Nat.zero_le _) (rens_1 ren_b) hs_nil)

noncomputable def F_laws_FnExactCoreOk (x_aC : DCore) : Option Bool :=
  Option.bind (F_laws_szCore x_aC (1048576 : Int)) fun v1 =>
  cond (decide (v1 < (0 : Int)))
    (some true)
    (Option.bind (F_laws_toCore x_aC) fun v2 =>
    Option.bind (F_spec_CoreOk v2) fun v3 =>
    Option.bind (F_laws_toCore x_aC) fun v4 =>
    Option.bind (F_impl_CoreOk v4) fun v5 =>
    cond (!(v5 == v3))
      (some false)
      (Option.bind (F_laws_toCore x_aC) fun v6 =>
      Option.bind (F_laws_eqCore v4 v6) fun v7 =>
      cond (!v7)
        (some false)
        (some true)))
theorem laws_FnExactCoreOk_fn {x_aC : DCore} {R_ : Bool} (hh : F_laws_FnExactCoreOk x_aC = some R_) : Fn Try.prog 11 [.agg (B_39 x_aC)] (.bool R_) := by
  unfold F_laws_FnExactCoreOk at hh
  refine Fn.start low_laws_FnExactCoreOk [0] (E := sp 27 [(0, .agg (B_39 x_aC))]) (by kernel_rfl) (v := .bool R_) (Hr := []) (k := 0) (by kernel_rfl) ?_
  refine Aw.sreg [1] [0] ?_
  refine yct (cs := []) (E' := (sp 27 [(1, .ptr 0 [] 0)])) (H' := [(0, some ⟨52, (B_39 x_aC)⟩)]) (n' := 1) (fun K => by kernel_rfl) .nil ?_
  refine Aw.sreg [1, 3] [0] ?_
  refine yct (cs := []) (E' := (sp 27 [(1, .ptr 0 [] 0), (3, .int .i64 (1048576 : Int))])) (H' := [(0, some ⟨52, (B_39 x_aC)⟩)]) (n' := 1) (fun K => by kernel_rfl) .nil ?_
  refine Aw.sreg [1, 3] [0] ?_
  refine yc (cs := []) (E' := (sp 27 [(1, .ptr 0 [] 0), (3, .int .i64 (1048576 : Int)), (7, .agg (B_39 x_aC)), (8, .int .i64 (1048576 : Int))])) (H' := [(0, some ⟨52, (B_39 x_aC)⟩)]) (n' := 1) (pre := (List.take 2 L_laws_FnExactCoreOk_r2)) (L' := (List.drop 2 L_laws_FnExactCoreOk_r2)) (by kernel_rfl) (fun K => by kernel_rfl) .nil ?_
  obtain ⟨v1, hv1, hh⟩ := bind_some hh
  refine yso (op := (.call 43 [(.t 7), (.t 8)])) (d := (some 9)) (os := (List.drop 3 L_laws_FnExactCoreOk_r2)) (by kernel_rfl) (op_call (r := .int .i64 v1) (v := .int .i64 v1) (Hr := []) (n' := 1) (laws_szCore_fn hv1) (clz_v (vs := [.agg (B_39 x_aC), .int .i64 (1048576 : Int)]) (by kernel_rfl) (clz_c (clo_same (clean_agg (cl_B_39 _))) (clz_c (clo_same rfl) clz_n))) rfl rfl (by kernel_rfl) ?_)
  refine yct (cs := []) (E' := (sp 27 [(1, .ptr 0 [] 0), (3, .int .i64 v1)])) (H' := [(0, some ⟨52, (B_39 x_aC)⟩)]) (n' := 1) (fun K => by kernel_rfl) .nil ?_
  refine Aw.seq ?_
  refine Aw.sreg [1, 11] [0] ?_
  refine yct (cs := []) (E' := (sp 27 [(1, .ptr 0 [] 0), (11, .bool (decide (v1 < (0 : Int))))])) (H' := [(0, some ⟨52, (B_39 x_aC)⟩)]) (n' := 1) (fun K => by kernel_rfl) .nil ?_
  rcases cond_some hh with ⟨hb, hh⟩ | ⟨hb, hh⟩
  · refine Aw.condT (by kernel_rfl) hb ?_
    refine Aw.sreg [2] [] ?_
    refine yct (cs := []) (E' := (sp 27 [(2, .bool true)])) (H' := []) (n' := 1) (fun K => by kernel_rfl) .nil ?_
    refine Aw.ret ?_
    refine then_r ?_
    rw [some_some hh]
    exact gives (r' := .bool true) (by kernel_rfl) (Ent.list [] rfl rfl (Nat.zero_le _) (rens_1 ren_b) hs_nil)
  · refine Aw.condF (by kernel_rfl) hb ?_
    refine Aw.xskip (fun _ _ _ hq => then_m hq) ?_
    refine Aw.sreg [1, 4] [0] ?_
    refine yc (cs := []) (E' := (sp 27 [(1, .ptr 0 [] 0), (11, .bool (decide (v1 < (0 : Int)))), (12, .agg (B_39 x_aC))])) (H' := [(0, some ⟨52, (B_39 x_aC)⟩)]) (n' := 1) (pre := (List.take 1 L_laws_FnExactCoreOk_r5)) (L' := (List.drop 1 L_laws_FnExactCoreOk_r5)) (by kernel_rfl) (fun K => by kernel_rfl) .nil ?_
    obtain ⟨v2, hv2, hh⟩ := bind_some hh
    refine yso (op := (.call 44 [(.t 12)])) (d := (some 13)) (os := (List.drop 2 L_laws_FnExactCoreOk_r5)) (by kernel_rfl) (op_call (r := .agg [.own 3 1 (List.length v2.Regs) (fl (eI .i64) v2.Regs), .int .i64 v2.Pc, .int .i64 v2.Root, .int .i64 v2.Vector, .int .i64 v2.Saved, .bool v2.SavedUser, .int .i64 v2.Cause, .int .i64 v2.Bad, .int .i64 v2.Timer, .bool v2.Waits, .bool v2.User, .bool v2.On, .bool v2.Stopped]) (v := .agg [.sref 1 [] 0 (List.length v2.Regs) 1, .int .i64 v2.Pc, .int .i64 v2.Root, .int .i64 v2.Vector, .int .i64 v2.Saved, .bool v2.SavedUser, .int .i64 v2.Cause, .int .i64 v2.Bad, .int .i64 v2.Timer, .bool v2.Waits, .bool v2.User, .bool v2.On, .bool v2.Stopped]) (Hr := [(1, some ⟨3, (fl (eI .i64) v2.Regs)⟩)]) (n' := 2) (laws_toCore_fn hv2) (clz_v (vs := [.agg (B_39 x_aC)]) (by kernel_rfl) (clz_c (clo_same (clean_agg (cl_B_39 _))) clz_n)) (by simp only [AV.noRef, noRefs, Bool.and_self, noRefs_fl nr_eI]) (by simp only [AV.noBor, noBors, Bool.and_self, noBors_fl nb_eI]) (by kernel_rfl) ?_)
    obtain ⟨v3, hv3, hh⟩ := bind_some hh
    refine yso (op := (.call 31 [(.t 13)])) (d := (some 14)) (os := (List.drop 3 L_laws_FnExactCoreOk_r5)) (by kernel_rfl) (op_call (r := .bool v3) (v := .bool v3) (Hr := []) (n' := 2) (spec_CoreOk_fn hv3) (clz_v (vs := [.agg [.sref 1 [] 0 (List.length v2.Regs) 1, .int .i64 v2.Pc, .int .i64 v2.Root, .int .i64 v2.Vector, .int .i64 v2.Saved, .bool v2.SavedUser, .int .i64 v2.Cause, .int .i64 v2.Bad, .int .i64 v2.Timer, .bool v2.Waits, .bool v2.User, .bool v2.On, .bool v2.Stopped]]) (by kernel_rfl) (clz_c (clo_agg (clos_c (clo_own (c := (eI .i64)) (xs := v2.Regs) (e := 3) (by first | rfl | omega | (simp only [List.length_set, over_len, List.length_replicate, List.length_append, List.length_cons, List.length_nil, List.length_take, List.length_drop] <;> omega)) len_eI no_eI cl_eI (by kernel_rfl)) (clos_c (clo_same rfl) (clos_c (clo_same rfl) (clos_c (clo_same rfl) (clos_c (clo_same rfl) (clos_c (clo_same rfl) (clos_c (clo_same rfl) (clos_c (clo_same rfl) (clos_c (clo_same rfl) (clos_c (clo_same rfl) (clos_c (clo_same rfl) (clos_c (clo_same rfl) (clos_c (clo_same rfl) clos_n)))))))))))))) clz_n)) rfl rfl (by kernel_rfl) ?_)
    refine yct (cs := []) (E' := (sp 27 [(1, .ptr 0 [] 0), (4, .bool v3)])) (H' := [(0, some ⟨52, (B_39 x_aC)⟩)]) (n' := 2) (fun K => by kernel_rfl) .nil ?_
    refine Aw.sreg [1, 4, 5] [0, 2, 3] ?_
    refine yc (cs := []) (E' := (sp 27 [(1, .ptr 0 [] 0), (4, .bool v3), (15, .agg (B_39 x_aC))])) (H' := [(0, some ⟨52, (B_39 x_aC)⟩)]) (n' := 2) (pre := (List.take 1 L_laws_FnExactCoreOk_r6)) (L' := (List.drop 1 L_laws_FnExactCoreOk_r6)) (by kernel_rfl) (fun K => by kernel_rfl) .nil ?_
    obtain ⟨v4, hv4, hh⟩ := bind_some hh
    refine yso (op := (.call 44 [(.t 15)])) (d := (some 16)) (os := (List.drop 2 L_laws_FnExactCoreOk_r6)) (by kernel_rfl) (op_call (r := .agg [.own 3 1 (List.length v4.Regs) (fl (eI .i64) v4.Regs), .int .i64 v4.Pc, .int .i64 v4.Root, .int .i64 v4.Vector, .int .i64 v4.Saved, .bool v4.SavedUser, .int .i64 v4.Cause, .int .i64 v4.Bad, .int .i64 v4.Timer, .bool v4.Waits, .bool v4.User, .bool v4.On, .bool v4.Stopped]) (v := .agg [.sref 2 [] 0 (List.length v4.Regs) 1, .int .i64 v4.Pc, .int .i64 v4.Root, .int .i64 v4.Vector, .int .i64 v4.Saved, .bool v4.SavedUser, .int .i64 v4.Cause, .int .i64 v4.Bad, .int .i64 v4.Timer, .bool v4.Waits, .bool v4.User, .bool v4.On, .bool v4.Stopped]) (Hr := [(2, some ⟨3, (fl (eI .i64) v4.Regs)⟩)]) (n' := 3) (laws_toCore_fn hv4) (clz_v (vs := [.agg (B_39 x_aC)]) (by kernel_rfl) (clz_c (clo_same (clean_agg (cl_B_39 _))) clz_n)) (by simp only [AV.noRef, noRefs, Bool.and_self, noRefs_fl nr_eI]) (by simp only [AV.noBor, noBors, Bool.and_self, noBors_fl nb_eI]) (by kernel_rfl) ?_)
    refine yct (cs := []) (E' := (sp 27 [(1, .ptr 0 [] 0), (4, .bool v3), (5, .ptr 3 [] 0)])) (H' := [(0, some ⟨52, (B_39 x_aC)⟩), (2, some ⟨3, (fl (eI .i64) v4.Regs)⟩), (3, some ⟨39, [.sref 2 [] 0 (List.length v4.Regs) 1, .int .i64 v4.Pc, .int .i64 v4.Root, .int .i64 v4.Vector, .int .i64 v4.Saved, .bool v4.SavedUser, .int .i64 v4.Cause, .int .i64 v4.Bad, .int .i64 v4.Timer, .bool v4.Waits, .bool v4.User, .bool v4.On, .bool v4.Stopped]⟩)]) (n' := 4) (fun K => by kernel_rfl) .nil ?_
    refine Aw.sreg [1, 4, 5, 6] [0, 2, 3] ?_
    refine yc (cs := []) (E' := (sp 27 [(1, .ptr 0 [] 0), (4, .bool v3), (5, .ptr 3 [] 0), (17, .agg [.sref 2 [] 0 (List.length v4.Regs) 1, .int .i64 v4.Pc, .int .i64 v4.Root, .int .i64 v4.Vector, .int .i64 v4.Saved, .bool v4.SavedUser, .int .i64 v4.Cause, .int .i64 v4.Bad, .int .i64 v4.Timer, .bool v4.Waits, .bool v4.User, .bool v4.On, .bool v4.Stopped])])) (H' := [(0, some ⟨52, (B_39 x_aC)⟩), (2, some ⟨3, (fl (eI .i64) v4.Regs)⟩), (3, some ⟨39, [.sref 2 [] 0 (List.length v4.Regs) 1, .int .i64 v4.Pc, .int .i64 v4.Root, .int .i64 v4.Vector, .int .i64 v4.Saved, .bool v4.SavedUser, .int .i64 v4.Cause, .int .i64 v4.Bad, .int .i64 v4.Timer, .bool v4.Waits, .bool v4.User, .bool v4.On, .bool v4.Stopped]⟩)]) (n' := 4) (pre := (List.take 1 L_laws_FnExactCoreOk_r7)) (L' := (List.drop 1 L_laws_FnExactCoreOk_r7)) (by kernel_rfl) (fun K => by kernel_rfl) .nil ?_
    obtain ⟨v5, hv5, hh⟩ := bind_some hh
    refine yso (op := (.call 30 [(.t 17)])) (d := (some 18)) (os := (List.drop 2 L_laws_FnExactCoreOk_r7)) (by kernel_rfl) (op_call (r := .bool v5) (v := .bool v5) (Hr := []) (n' := 4) (impl_CoreOk_fn hv5) (clz_v (vs := [.agg [.sref 2 [] 0 (List.length v4.Regs) 1, .int .i64 v4.Pc, .int .i64 v4.Root, .int .i64 v4.Vector, .int .i64 v4.Saved, .bool v4.SavedUser, .int .i64 v4.Cause, .int .i64 v4.Bad, .int .i64 v4.Timer, .bool v4.Waits, .bool v4.User, .bool v4.On, .bool v4.Stopped]]) (by kernel_rfl) (clz_c (clo_agg (clos_c (clo_own (c := (eI .i64)) (xs := v4.Regs) (e := 3) (by first | rfl | omega | (simp only [List.length_set, over_len, List.length_replicate, List.length_append, List.length_cons, List.length_nil, List.length_take, List.length_drop] <;> omega)) len_eI no_eI cl_eI (by kernel_rfl)) (clos_c (clo_same rfl) (clos_c (clo_same rfl) (clos_c (clo_same rfl) (clos_c (clo_same rfl) (clos_c (clo_same rfl) (clos_c (clo_same rfl) (clos_c (clo_same rfl) (clos_c (clo_same rfl) (clos_c (clo_same rfl) (clos_c (clo_same rfl) (clos_c (clo_same rfl) (clos_c (clo_same rfl) clos_n)))))))))))))) clz_n)) rfl rfl (by kernel_rfl) ?_)
    refine yct (cs := []) (E' := (sp 27 [(1, .ptr 0 [] 0), (4, .bool v3), (5, .ptr 3 [] 0), (6, .bool v5)])) (H' := [(0, some ⟨52, (B_39 x_aC)⟩), (2, some ⟨3, (fl (eI .i64) v4.Regs)⟩), (3, some ⟨39, [.sref 2 [] 0 (List.length v4.Regs) 1, .int .i64 v4.Pc, .int .i64 v4.Root, .int .i64 v4.Vector, .int .i64 v4.Saved, .bool v4.SavedUser, .int .i64 v4.Cause, .int .i64 v4.Bad, .int .i64 v4.Timer, .bool v4.Waits, .bool v4.User, .bool v4.On, .bool v4.Stopped]⟩)]) (n' := 4) (fun K => by kernel_rfl) .nil ?_
    refine Aw.seq ?_
    refine Aw.sreg [1, 5, 21] [0, 2, 3] ?_
    refine yct (cs := []) (E' := (sp 27 [(1, .ptr 0 [] 0), (5, .ptr 3 [] 0), (21, .bool (!(v5 == v3)))])) (H' := [(0, some ⟨52, (B_39 x_aC)⟩), (2, some ⟨3, (fl (eI .i64) v4.Regs)⟩), (3, some ⟨39, [.sref 2 [] 0 (List.length v4.Regs) 1, .int .i64 v4.Pc, .int .i64 v4.Root, .int .i64 v4.Vector, .int .i64 v4.Saved, .bool v4.SavedUser, .int .i64 v4.Cause, .int .i64 v4.Bad, .int .i64 v4.Timer, .bool v4.Waits, .bool v4.User, .bool v4.On, .bool v4.Stopped]⟩)]) (n' := 4) (fun K => by kernel_rfl) .nil ?_
    rcases cond_some hh with ⟨hb, hh⟩ | ⟨hb, hh⟩
    · refine Aw.condT (by kernel_rfl) hb ?_
      refine Aw.sreg [2] [] ?_
      refine yct (cs := []) (E' := (sp 27 [(2, .bool false)])) (H' := []) (n' := 4) (fun K => by kernel_rfl) .nil ?_
      refine Aw.ret ?_
      refine then_r ?_
      rw [some_some hh]
      exact gives (r' := .bool false) (by kernel_rfl) (Ent.list [] rfl rfl (Nat.zero_le _) (rens_1 ren_b) hs_nil)
    · refine Aw.condF (by kernel_rfl) hb ?_
      refine Aw.xskip (fun _ _ _ hq => then_m hq) ?_
      refine Aw.seq ?_
      refine Aw.sregd [26] [] [] (by kernel_rfl) ?_
      refine dc (cs := []) (E' := (sp 27 [(1, .ptr 0 [] 0), (5, .ptr 3 [] 0), (21, .bool (!(v5 == v3))), (22, .agg [.sref 2 [] 0 (List.length v4.Regs) 1, .int .i64 v4.Pc, .int .i64 v4.Root, .int .i64 v4.Vector, .int .i64 v4.Saved, .bool v4.SavedUser, .int .i64 v4.Cause, .int .i64 v4.Bad, .int .i64 v4.Timer, .bool v4.Waits, .bool v4.User, .bool v4.On, .bool v4.Stopped]), (23, .agg (B_39 x_aC))])) (H' := [(0, some ⟨52, (B_39 x_aC)⟩), (2, some ⟨3, (fl (eI .i64) v4.Regs)⟩), (3, some ⟨39, [.sref 2 [] 0 (List.length v4.Regs) 1, .int .i64 v4.Pc, .int .i64 v4.Root, .int .i64 v4.Vector, .int .i64 v4.Saved, .bool v4.SavedUser, .int .i64 v4.Cause, .int .i64 v4.Bad, .int .i64 v4.Timer, .bool v4.Waits, .bool v4.User, .bool v4.On, .bool v4.Stopped]⟩)]) (n' := 4) (fs' := none) (pre := (List.take 2 L_laws_FnExactCoreOk_r10)) (L' := (List.drop 2 L_laws_FnExactCoreOk_r10)) (by kernel_rfl) (fun K => by kernel_rfl) .nil ?_
      obtain ⟨v6, hv6, hh⟩ := bind_some hh
      refine dso (op := (.call 44 [(.t 23)])) (d := (some 24)) (os := (List.drop 3 L_laws_FnExactCoreOk_r10)) (by kernel_rfl) rfl (ydo_n rfl (op_call (r := .agg [.own 3 1 (List.length v6.Regs) (fl (eI .i64) v6.Regs), .int .i64 v6.Pc, .int .i64 v6.Root, .int .i64 v6.Vector, .int .i64 v6.Saved, .bool v6.SavedUser, .int .i64 v6.Cause, .int .i64 v6.Bad, .int .i64 v6.Timer, .bool v6.Waits, .bool v6.User, .bool v6.On, .bool v6.Stopped]) (v := .agg [.sref 4 [] 0 (List.length v6.Regs) 1, .int .i64 v6.Pc, .int .i64 v6.Root, .int .i64 v6.Vector, .int .i64 v6.Saved, .bool v6.SavedUser, .int .i64 v6.Cause, .int .i64 v6.Bad, .int .i64 v6.Timer, .bool v6.Waits, .bool v6.User, .bool v6.On, .bool v6.Stopped]) (Hr := [(4, some ⟨3, (fl (eI .i64) v6.Regs)⟩)]) (n' := 5) (laws_toCore_fn hv6) (clz_v (vs := [.agg (B_39 x_aC)]) (by kernel_rfl) (clz_c (clo_same (clean_agg (cl_B_39 _))) clz_n)) (by simp only [AV.noRef, noRefs, Bool.and_self, noRefs_fl nr_eI]) (by simp only [AV.noBor, noBors, Bool.and_self, noBors_fl nb_eI]) (by kernel_rfl) ⟨⟨agr_name (n := 4) (n0 := 4) (r := .agg [.own 3 1 (List.length v6.Regs) (fl (eI .i64) v6.Regs), .int .i64 v6.Pc, .int .i64 v6.Root, .int .i64 v6.Vector, .int .i64 v6.Saved, .bool v6.SavedUser, .int .i64 v6.Cause, .int .i64 v6.Bad, .int .i64 v6.Timer, .bool v6.Waits, .bool v6.User, .bool v6.On, .bool v6.Stopped]) (v := .agg [.sref 4 [] 0 (List.length v6.Regs) 1, .int .i64 v6.Pc, .int .i64 v6.Root, .int .i64 v6.Vector, .int .i64 v6.Saved, .bool v6.SavedUser, .int .i64 v6.Cause, .int .i64 v6.Bad, .int .i64 v6.Timer, .bool v6.Waits, .bool v6.User, .bool v6.On, .bool v6.Stopped]) (Hr := [(4, some ⟨3, (fl (eI .i64) v6.Regs)⟩)]) (n' := 5) (by kernel_rfl) (by decide), Hld.un ?_⟩⟩))
      obtain ⟨v7, hv7, hh⟩ := bind_some hh
      refine dso (op := (.call 45 [(.t 22), (.t 24)])) (d := (some 25)) (os := (List.drop 4 L_laws_FnExactCoreOk_r10)) (by kernel_rfl) rfl (ydo_n rfl (op_call (r := .bool v7) (v := .bool v7) (Hr := []) (n' := 5) (laws_eqCore_fn hv7) (clz_v (vs := [.agg [.sref 2 [] 0 (List.length v4.Regs) 1, .int .i64 v4.Pc, .int .i64 v4.Root, .int .i64 v4.Vector, .int .i64 v4.Saved, .bool v4.SavedUser, .int .i64 v4.Cause, .int .i64 v4.Bad, .int .i64 v4.Timer, .bool v4.Waits, .bool v4.User, .bool v4.On, .bool v4.Stopped], .agg [.sref 4 [] 0 (List.length v6.Regs) 1, .int .i64 v6.Pc, .int .i64 v6.Root, .int .i64 v6.Vector, .int .i64 v6.Saved, .bool v6.SavedUser, .int .i64 v6.Cause, .int .i64 v6.Bad, .int .i64 v6.Timer, .bool v6.Waits, .bool v6.User, .bool v6.On, .bool v6.Stopped]]) (by kernel_rfl) (clz_c (clo_agg (clos_c (clo_own (c := (eI .i64)) (xs := v4.Regs) (e := 3) (by first | rfl | omega | (simp only [List.length_set, over_len, List.length_replicate, List.length_append, List.length_cons, List.length_nil, List.length_take, List.length_drop] <;> omega)) len_eI no_eI cl_eI (by kernel_rfl)) (clos_c (clo_same rfl) (clos_c (clo_same rfl) (clos_c (clo_same rfl) (clos_c (clo_same rfl) (clos_c (clo_same rfl) (clos_c (clo_same rfl) (clos_c (clo_same rfl) (clos_c (clo_same rfl) (clos_c (clo_same rfl) (clos_c (clo_same rfl) (clos_c (clo_same rfl) (clos_c (clo_same rfl) clos_n)))))))))))))) (clz_c (clo_agg (clos_c (clo_own (c := (eI .i64)) (xs := v6.Regs) (e := 3) (by first | rfl | omega | (simp only [List.length_set, over_len, List.length_replicate, List.length_append, List.length_cons, List.length_nil, List.length_take, List.length_drop] <;> omega)) len_eI no_eI cl_eI (by kernel_rfl)) (clos_c (clo_same rfl) (clos_c (clo_same rfl) (clos_c (clo_same rfl) (clos_c (clo_same rfl) (clos_c (clo_same rfl) (clos_c (clo_same rfl) (clos_c (clo_same rfl) (clos_c (clo_same rfl) (clos_c (clo_same rfl) (clos_c (clo_same rfl) (clos_c (clo_same rfl) (clos_c (clo_same rfl) clos_n)))))))))))))) clz_n))) rfl rfl (by kernel_rfl) ⟨⟨agr_name (n := 5) (n0 := 4) (r := .bool v7) (v := .bool v7) (Hr := []) (n' := 5) (by kernel_rfl) (by decide), Hld.un ?_⟩⟩))
      refine dct (cs := []) (E' := (sp 27 [(1, .ptr 0 [] 0), (5, .ptr 3 [] 0), (21, .bool (!(v5 == v3))), (22, .agg [.sref 2 [] 0 (List.length v4.Regs) 1, .int .i64 v4.Pc, .int .i64 v4.Root, .int .i64 v4.Vector, .int .i64 v4.Saved, .bool v4.SavedUser, .int .i64 v4.Cause, .int .i64 v4.Bad, .int .i64 v4.Timer, .bool v4.Waits, .bool v4.User, .bool v4.On, .bool v4.Stopped]), (23, .agg (B_39 x_aC)), (24, .agg [.sref 4 [] 0 (List.length v6.Regs) 1, .int .i64 v6.Pc, .int .i64 v6.Root, .int .i64 v6.Vector, .int .i64 v6.Saved, .bool v6.SavedUser, .int .i64 v6.Cause, .int .i64 v6.Bad, .int .i64 v6.Timer, .bool v6.Waits, .bool v6.User, .bool v6.On, .bool v6.Stopped]), (25, .bool v7)])) (H' := [(4, some ⟨3, (fl (eI .i64) v6.Regs)⟩), (0, some ⟨52, (B_39 x_aC)⟩), (2, some ⟨3, (fl (eI .i64) v4.Regs)⟩), (3, some ⟨39, [.sref 2 [] 0 (List.length v4.Regs) 1, .int .i64 v4.Pc, .int .i64 v4.Root, .int .i64 v4.Vector, .int .i64 v4.Saved, .bool v4.SavedUser, .int .i64 v4.Cause, .int .i64 v4.Bad, .int .i64 v4.Timer, .bool v4.Waits, .bool v4.User, .bool v4.On, .bool v4.Stopped]⟩)]) (n' := 5) (fun K => by kernel_rfl) .nil ?_
      refine yct (cs := []) (E' := (sp 27 [(26, .bool (!v7))])) (H' := []) (n' := 5) (fun K => by kernel_rfl) .nil ?_
      rcases cond_some hh with ⟨hb, hh⟩ | ⟨hb, hh⟩
      · refine Aw.condT (by kernel_rfl) hb ?_
        refine Aw.sreg [2] [] ?_
        refine yct (cs := []) (E' := (sp 27 [(2, .bool false)])) (H' := []) (n' := 5) (fun K => by kernel_rfl) .nil ?_
        refine Aw.ret ?_
        refine then_r ?_
        rw [some_some hh]
        exact gives (r' := .bool false) (by kernel_rfl) (Ent.list [] rfl rfl (Nat.zero_le _) (rens_1 ren_b) hs_nil)
      · refine Aw.condF (by kernel_rfl) hb ?_
        refine Aw.xskip (fun _ _ _ hq => then_m hq) ?_
        refine Aw.sreg [2] [] ?_
        refine yct (cs := []) (E' := (sp 27 [(2, .bool true)])) (H' := []) (n' := 5) (fun K => by kernel_rfl) .nil ?_
        refine Aw.ret ?_
        rw [some_some hh]
        exact gives (r' := .bool true) (by kernel_rfl) (Ent.list [] rfl rfl (Nat.zero_le _) (rens_1 ren_b) hs_nil)

noncomputable def F_impl_MemOk (x_mem : List Int) : Option Bool :=
  cond (decide ((((List.length x_mem) : Nat) : Int) = (64 : Int)))
    (Option.bind (F_impl_wordsOk x_mem) fun v1 =>
    some v1)
    (some false)
theorem impl_MemOk_fn {x_mem : List Int} {R_ : Bool} (hh : F_impl_MemOk x_mem = some R_) : Fn Try.prog 16 [bo (eI .i64) x_mem] (.bool R_) := by
  unfold F_impl_MemOk at hh
  refine Fn.start low_impl_MemOk [0] (E := sp 10 [(0, bo (eI .i64) x_mem)]) (by kernel_rfl) (v := .bool R_) (Hr := []) (k := 0) (by kernel_rfl) ?_
  refine Aw.sreg [0] [] ?_
  refine yct (cs := []) (E' := (sp 10 [(0, bo (eI .i64) x_mem)])) (H' := []) (n' := 0) (fun K => by kernel_rfl) .nil ?_
  refine Aw.sreg [2] [] ?_
  refine yc (cs := []) (E' := (sp 10 [(0, bo (eI .i64) x_mem), (3, bo (eI .i64) x_mem), (4, .int .i64 (((List.length x_mem) : Nat) : Int)), (5, .bool (decide ((((List.length x_mem) : Nat) : Int) = (64 : Int)))), (6, .bool (decide ((((List.length x_mem) : Nat) : Int) = (64 : Int))))])) (H' := []) (n' := 0) (pre := (List.take 4 L_impl_MemOk_r1)) (L' := (List.drop 4 L_impl_MemOk_r1)) (by kernel_rfl) (fun K => by kernel_rfl) .nil ?_
  rcases cond_some hh with ⟨hb, hh⟩ | ⟨hb, hh⟩
  · refine ybs (t := 5) hb (by kernel_rfl) ?_
    refine ybs (t := 6) hb (by kernel_rfl) ?_
    refine yc (cs := []) (E' := (sp 10 [(0, bo (eI .i64) x_mem), (3, bo (eI .i64) x_mem), (4, .int .i64 (((List.length x_mem) : Nat) : Int)), (5, .bool true), (6, .bool true), (7, bo (eI .i64) x_mem)])) (H' := []) (n' := 0) (pre := (List.take 1 (List.drop 4 L_impl_MemOk_r1))) (L' := (List.drop 5 L_impl_MemOk_r1)) (by kernel_rfl) (fun K => by kernel_rfl) .nil ?_
    obtain ⟨v1, hv1, hh⟩ := bind_some hh
    refine ysg (op := (.call 53 [(.t 7)])) (d := (some 8)) (t := 6) (want := true) (os := (List.drop 6 L_impl_MemOk_r1)) (by kernel_rfl) (by kernel_rfl) (op_call (r := .bool v1) (v := .bool v1) (Hr := []) (n' := 0) (impl_wordsOk_fn hv1) (clz_v (vs := [bo (eI .i64) x_mem]) (by kernel_rfl) (clz_c (clo_same (clean_bor (cleans_fl cl_eI))) clz_n)) rfl rfl (by kernel_rfl) ?_)
    refine yct (cs := []) (E' := (sp 10 [(2, .bool v1)])) (H' := []) (n' := 0) (fun K => by kernel_rfl) .nil ?_
    refine Aw.ret ?_
    rw [some_some hh]
    exact gives (r' := .bool v1) (by kernel_rfl) (Ent.list [] rfl rfl (Nat.zero_le _) (rens_1 ren_b) hs_nil)
  · refine ybs (t := 5) hb (by kernel_rfl) ?_
    refine ybs (t := 6) hb (by kernel_rfl) ?_
    refine yct (cs := []) (E' := (sp 10 [(2, .bool false)])) (H' := []) (n' := 0) (fun K => by kernel_rfl) .nil ?_
    refine Aw.ret ?_
    rw [some_some hh]
    exact gives (r' := .bool false) (by kernel_rfl) (Ent.list [] rfl rfl (Nat.zero_le _) (rens_1 ren_b) hs_nil)

noncomputable def F_impl_rowOk (x_words : List Int) : Option Bool :=
  cond (decide ((((List.length x_words) : Nat) : Int) ≤ (30 : Int)))
    (Option.bind (F_impl_wordsOk x_words) fun v1 =>
    some v1)
    (some false)
theorem impl_rowOk_fn {x_words : List Int} {R_ : Bool} (hh : F_impl_rowOk x_words = some R_) : Fn Try.prog 64 [bo (eI .i64) x_words] (.bool R_) := by
  unfold F_impl_rowOk at hh
  refine Fn.start low_impl_rowOk [0] (E := sp 10 [(0, bo (eI .i64) x_words)]) (by kernel_rfl) (v := .bool R_) (Hr := []) (k := 0) (by kernel_rfl) ?_
  refine Aw.sreg [0] [] ?_
  refine yct (cs := []) (E' := (sp 10 [(0, bo (eI .i64) x_words)])) (H' := []) (n' := 0) (fun K => by kernel_rfl) .nil ?_
  refine Aw.sreg [2] [] ?_
  refine yc (cs := []) (E' := (sp 10 [(0, bo (eI .i64) x_words), (3, bo (eI .i64) x_words), (4, .int .i64 (((List.length x_words) : Nat) : Int)), (5, .bool (decide ((((List.length x_words) : Nat) : Int) ≤ (30 : Int)))), (6, .bool (decide ((((List.length x_words) : Nat) : Int) ≤ (30 : Int))))])) (H' := []) (n' := 0) (pre := (List.take 4 L_impl_rowOk_r1)) (L' := (List.drop 4 L_impl_rowOk_r1)) (by kernel_rfl) (fun K => by kernel_rfl) .nil ?_
  rcases cond_some hh with ⟨hb, hh⟩ | ⟨hb, hh⟩
  · refine ybs (t := 5) hb (by kernel_rfl) ?_
    refine ybs (t := 6) hb (by kernel_rfl) ?_
    refine yc (cs := []) (E' := (sp 10 [(0, bo (eI .i64) x_words), (3, bo (eI .i64) x_words), (4, .int .i64 (((List.length x_words) : Nat) : Int)), (5, .bool true), (6, .bool true), (7, bo (eI .i64) x_words)])) (H' := []) (n' := 0) (pre := (List.take 1 (List.drop 4 L_impl_rowOk_r1))) (L' := (List.drop 5 L_impl_rowOk_r1)) (by kernel_rfl) (fun K => by kernel_rfl) .nil ?_
    obtain ⟨v1, hv1, hh⟩ := bind_some hh
    refine ysg (op := (.call 53 [(.t 7)])) (d := (some 8)) (t := 6) (want := true) (os := (List.drop 6 L_impl_rowOk_r1)) (by kernel_rfl) (by kernel_rfl) (op_call (r := .bool v1) (v := .bool v1) (Hr := []) (n' := 0) (impl_wordsOk_fn hv1) (clz_v (vs := [bo (eI .i64) x_words]) (by kernel_rfl) (clz_c (clo_same (clean_bor (cleans_fl cl_eI))) clz_n)) rfl rfl (by kernel_rfl) ?_)
    refine yct (cs := []) (E' := (sp 10 [(2, .bool v1)])) (H' := []) (n' := 0) (fun K => by kernel_rfl) .nil ?_
    refine Aw.ret ?_
    rw [some_some hh]
    exact gives (r' := .bool v1) (by kernel_rfl) (Ent.list [] rfl rfl (Nat.zero_le _) (rens_1 ren_b) hs_nil)
  · refine ybs (t := 5) hb (by kernel_rfl) ?_
    refine ybs (t := 6) hb (by kernel_rfl) ?_
    refine yct (cs := []) (E' := (sp 10 [(2, .bool false)])) (H' := []) (n' := 0) (fun K => by kernel_rfl) .nil ?_
    refine Aw.ret ?_
    rw [some_some hh]
    exact gives (r' := .bool false) (by kernel_rfl) (Ent.list [] rfl rfl (Nat.zero_le _) (rens_1 ren_b) hs_nil)

noncomputable def F_impl_BareOk (x_b : DBare) : Option Bool :=
  Option.bind (F_impl_CoreOk x_b.C) fun v1 =>
  cond v1
    (Option.bind (F_impl_MemOk x_b.Mem) fun v2 =>
    cond v2
      (Option.bind (F_impl_rowOk x_b.In) fun v3 =>
      cond v3
        (Option.bind (F_impl_rowOk x_b.Out) fun v4 =>
        some v4)
        (some false))
      (some false))
    (some false)
theorem impl_BareOk_fn {x_b : DBare} {R_ : Bool} (hh : F_impl_BareOk x_b = some R_) : Fn Try.prog 33 [.agg (B_43 x_b)] (.bool R_) := by
  unfold F_impl_BareOk at hh
  refine Fn.start low_impl_BareOk [0] (E := sp 21 [(0, .agg (B_43 x_b))]) (by kernel_rfl) (v := .bool R_) (Hr := []) (k := 0) (by kernel_rfl) ?_
  refine Aw.sreg [1] [0] ?_
  refine yct (cs := []) (E' := (sp 21 [(1, .ptr 0 [] 0)])) (H' := [(0, some ⟨43, (B_43 x_b)⟩)]) (n' := 1) (fun K => by kernel_rfl) .nil ?_
  refine Aw.sreg [2] [] ?_
  refine yc (cs := []) (E' := (sp 21 [(1, .ptr 0 [] 0), (3, .ptr 0 [] 0), (4, .agg (B_39 x_b.C))])) (H' := [(0, some ⟨43, (B_43 x_b)⟩)]) (n' := 1) (pre := (List.take 2 L_impl_BareOk_r1)) (L' := (List.drop 2 L_impl_BareOk_r1)) (by kernel_rfl) (fun K => by kernel_rfl) .nil ?_
  obtain ⟨v1, hv1, hh⟩ := bind_some hh
  refine yso (op := (.call 30 [(.t 4)])) (d := (some 5)) (os := (List.drop 3 L_impl_BareOk_r1)) (by kernel_rfl) (op_call (r := .bool v1) (v := .bool v1) (Hr := []) (n' := 1) (impl_CoreOk_fn hv1) (clz_v (vs := [.agg (B_39 x_b.C)]) (by kernel_rfl) (clz_c (clo_same (clean_agg (cl_B_39 _))) clz_n)) rfl rfl (by kernel_rfl) ?_)
  refine yc (cs := []) (E' := (sp 21 [(1, .ptr 0 [] 0), (3, .ptr 0 [] 0), (4, .agg (B_39 x_b.C)), (5, .bool v1), (6, .bool v1)])) (H' := [(0, some ⟨43, (B_43 x_b)⟩)]) (n' := 1) (pre := (List.take 1 (List.drop 3 L_impl_BareOk_r1))) (L' := (List.drop 4 L_impl_BareOk_r1)) (by kernel_rfl) (fun K => by kernel_rfl) .nil ?_
  rcases cond_some hh with ⟨hb, hh⟩ | ⟨hb, hh⟩
  · refine ybs (t := 5) hb (by kernel_rfl) ?_
    refine ybs (t := 6) hb (by kernel_rfl) ?_
    refine yc (cs := []) (E' := (sp 21 [(1, .ptr 0 [] 0), (3, .ptr 0 [] 0), (4, .agg (B_39 x_b.C)), (5, .bool true), (6, .bool true), (7, .ptr 0 [] 13), (8, bo (eI .i64) x_b.Mem)])) (H' := [(0, some ⟨43, (B_43 x_b)⟩)]) (n' := 1) (pre := (List.take 2 (List.drop 4 L_impl_BareOk_r1))) (L' := (List.drop 6 L_impl_BareOk_r1)) (by kernel_rfl) (fun K => by kernel_rfl) .nil ?_
    obtain ⟨v2, hv2, hh⟩ := bind_some hh
    refine ysg (op := (.call 16 [(.t 8)])) (d := (some 9)) (t := 6) (want := true) (os := (List.drop 7 L_impl_BareOk_r1)) (by kernel_rfl) (by kernel_rfl) (op_call (r := .bool v2) (v := .bool v2) (Hr := []) (n' := 1) (impl_MemOk_fn hv2) (clz_v (vs := [bo (eI .i64) x_b.Mem]) (by kernel_rfl) (clz_c (clo_same (clean_bor (cleans_fl cl_eI))) clz_n)) rfl rfl (by kernel_rfl) ?_)
    refine yc (cs := []) (E' := (sp 21 [(1, .ptr 0 [] 0), (3, .ptr 0 [] 0), (4, .agg (B_39 x_b.C)), (5, .bool true), (6, .bool true), (7, .ptr 0 [] 13), (8, bo (eI .i64) x_b.Mem), (9, .bool v2), (10, .bool v2), (11, .bool v2)])) (H' := [(0, some ⟨43, (B_43 x_b)⟩)]) (n' := 1) (pre := (List.take 2 (List.drop 7 L_impl_BareOk_r1))) (L' := (List.drop 9 L_impl_BareOk_r1)) (by kernel_rfl) (fun K => by kernel_rfl) .nil ?_
    rcases cond_some hh with ⟨hb, hh⟩ | ⟨hb, hh⟩
    · refine ybs (t := 9) hb (by kernel_rfl) ?_
      refine ybs (t := 10) hb (by kernel_rfl) ?_
      refine ybs (t := 11) hb (by kernel_rfl) ?_
      refine yc (cs := []) (E' := (sp 21 [(1, .ptr 0 [] 0), (3, .ptr 0 [] 0), (4, .agg (B_39 x_b.C)), (5, .bool true), (6, .bool true), (7, .ptr 0 [] 13), (8, bo (eI .i64) x_b.Mem), (9, .bool true), (10, .bool true), (11, .bool true), (12, .ptr 0 [] 14), (13, bo (eI .i64) x_b.In)])) (H' := [(0, some ⟨43, (B_43 x_b)⟩)]) (n' := 1) (pre := (List.take 2 (List.drop 9 L_impl_BareOk_r1))) (L' := (List.drop 11 L_impl_BareOk_r1)) (by kernel_rfl) (fun K => by kernel_rfl) .nil ?_
      obtain ⟨v3, hv3, hh⟩ := bind_some hh
      refine ysg (op := (.call 64 [(.t 13)])) (d := (some 14)) (t := 11) (want := true) (os := (List.drop 12 L_impl_BareOk_r1)) (by kernel_rfl) (by kernel_rfl) (op_call (r := .bool v3) (v := .bool v3) (Hr := []) (n' := 1) (impl_rowOk_fn hv3) (clz_v (vs := [bo (eI .i64) x_b.In]) (by kernel_rfl) (clz_c (clo_same (clean_bor (cleans_fl cl_eI))) clz_n)) rfl rfl (by kernel_rfl) ?_)
      refine yc (cs := []) (E' := (sp 21 [(1, .ptr 0 [] 0), (3, .ptr 0 [] 0), (4, .agg (B_39 x_b.C)), (5, .bool true), (6, .bool true), (7, .ptr 0 [] 13), (8, bo (eI .i64) x_b.Mem), (9, .bool true), (10, .bool true), (11, .bool true), (12, .ptr 0 [] 14), (13, bo (eI .i64) x_b.In), (14, .bool v3), (15, .bool v3), (16, .bool v3)])) (H' := [(0, some ⟨43, (B_43 x_b)⟩)]) (n' := 1) (pre := (List.take 2 (List.drop 12 L_impl_BareOk_r1))) (L' := (List.drop 14 L_impl_BareOk_r1)) (by kernel_rfl) (fun K => by kernel_rfl) .nil ?_
      rcases cond_some hh with ⟨hb, hh⟩ | ⟨hb, hh⟩
      · refine ybs (t := 14) hb (by kernel_rfl) ?_
        refine ybs (t := 15) hb (by kernel_rfl) ?_
        refine ybs (t := 16) hb (by kernel_rfl) ?_
        refine yc (cs := []) (E' := (sp 21 [(1, .ptr 0 [] 0), (3, .ptr 0 [] 0), (4, .agg (B_39 x_b.C)), (5, .bool true), (6, .bool true), (7, .ptr 0 [] 13), (8, bo (eI .i64) x_b.Mem), (9, .bool true), (10, .bool true), (11, .bool true), (12, .ptr 0 [] 14), (13, bo (eI .i64) x_b.In), (14, .bool true), (15, .bool true), (16, .bool true), (17, .ptr 0 [] 15), (18, bo (eI .i64) x_b.Out)])) (H' := [(0, some ⟨43, (B_43 x_b)⟩)]) (n' := 1) (pre := (List.take 2 (List.drop 14 L_impl_BareOk_r1))) (L' := (List.drop 16 L_impl_BareOk_r1)) (by kernel_rfl) (fun K => by kernel_rfl) .nil ?_
        obtain ⟨v4, hv4, hh⟩ := bind_some hh
        refine ysg (op := (.call 64 [(.t 18)])) (d := (some 19)) (t := 16) (want := true) (os := (List.drop 17 L_impl_BareOk_r1)) (by kernel_rfl) (by kernel_rfl) (op_call (r := .bool v4) (v := .bool v4) (Hr := []) (n' := 1) (impl_rowOk_fn hv4) (clz_v (vs := [bo (eI .i64) x_b.Out]) (by kernel_rfl) (clz_c (clo_same (clean_bor (cleans_fl cl_eI))) clz_n)) rfl rfl (by kernel_rfl) ?_)
        refine yct (cs := []) (E' := (sp 21 [(2, .bool v4)])) (H' := []) (n' := 1) (fun K => by kernel_rfl) .nil ?_
        refine Aw.ret ?_
        rw [some_some hh]
        exact gives (r' := .bool v4) (by kernel_rfl) (Ent.list [] rfl rfl (Nat.zero_le _) (rens_1 ren_b) hs_nil)
      · refine ybs (t := 14) hb (by kernel_rfl) ?_
        refine ybs (t := 15) hb (by kernel_rfl) ?_
        refine ybs (t := 16) hb (by kernel_rfl) ?_
        refine yct (cs := []) (E' := (sp 21 [(2, .bool false)])) (H' := []) (n' := 1) (fun K => by kernel_rfl) .nil ?_
        refine Aw.ret ?_
        rw [some_some hh]
        exact gives (r' := .bool false) (by kernel_rfl) (Ent.list [] rfl rfl (Nat.zero_le _) (rens_1 ren_b) hs_nil)
    · refine ybs (t := 9) hb (by kernel_rfl) ?_
      refine ybs (t := 10) hb (by kernel_rfl) ?_
      refine ybs (t := 11) hb (by kernel_rfl) ?_
      refine yct (cs := []) (E' := (sp 21 [(2, .bool false)])) (H' := []) (n' := 1) (fun K => by kernel_rfl) .nil ?_
      refine Aw.ret ?_
      rw [some_some hh]
      exact gives (r' := .bool false) (by kernel_rfl) (Ent.list [] rfl rfl (Nat.zero_le _) (rens_1 ren_b) hs_nil)
  · refine ybs (t := 5) hb (by kernel_rfl) ?_
    refine ybs (t := 6) hb (by kernel_rfl) ?_
    refine yct (cs := []) (E' := (sp 21 [(2, .bool false)])) (H' := []) (n' := 1) (fun K => by kernel_rfl) .nil ?_
    refine Aw.ret ?_
    rw [some_some hh]
    exact gives (r' := .bool false) (by kernel_rfl) (Ent.list [] rfl rfl (Nat.zero_le _) (rens_1 ren_b) hs_nil)

noncomputable def F_spec_MemOk_j1 (x_mem : List Int) (s1 : Unit) : Option Bool :=
  some (decide ((((List.length x_mem) : Nat) : Int) = (64 : Int)))
noncomputable def F_spec_MemOk_l2 (x_mem : List Int) (s2 : Int) : Option (LO Int (JO Unit Bool)) :=
  cond (decide (s2 < (((List.length x_mem) : Nat) : Int)))
    (grd ((0 : Int) ≤ s2 ∧ s2 < ((List.length x_mem : Nat) : Int)) (Option.bind (F_spec_WordOk (List.getD x_mem (Int.toNat s2) default)) fun v3 =>
      cond (!v3)
        (some (.ret (.out false)))
        (some (.next (w64 (s2 + (1 : Int)))))))
    (some (.ret (.go ())))
noncomputable def F_spec_MemOk (x_mem : List Int) : Option Bool :=
  Option.bind (Option.bind (iter (F_spec_MemOk_l2 x_mem) (0 : Int)) LO.val) fun j1 =>
    JO.run j1 (F_spec_MemOk_j1 x_mem)
theorem spec_MemOk_fn {x_mem : List Int} {R_ : Bool} (hh : F_spec_MemOk x_mem = some R_) : Fn Try.prog 17 [bo (eI .i64) x_mem] (.bool R_) := by
  unfold F_spec_MemOk at hh
  refine Fn.start low_spec_MemOk [0] (E := sp 19 [(0, bo (eI .i64) x_mem)]) (by kernel_rfl) (v := .bool R_) (Hr := []) (k := 0) (by kernel_rfl) ?_
  refine Aw.sreg [0] [] ?_
  refine yct (cs := []) (E' := (sp 19 [(0, bo (eI .i64) x_mem)])) (H' := []) (n' := 0) (fun K => by kernel_rfl) .nil ?_
  obtain ⟨j1, hh, hk1⟩ := bind_some hh
  refine Aw.join (S := Unit) (fun s1 => sp 19 [(0, bo (eI .i64) x_mem)]) (fun s1 => []) 0 (fun s1 => F_spec_MemOk_j1 x_mem s1 = some R_) ?_ ?_
  · intro s1 hh
    unfold F_spec_MemOk_j1 at hh
    refine Aw.sreg [2] [] ?_
    refine yct (cs := []) (E' := (sp 19 [(2, .bool (decide ((((List.length x_mem) : Nat) : Int) = (64 : Int))))])) (H' := []) (n' := 0) (fun K => by kernel_rfl) .nil ?_
    refine Aw.ret ?_
    rw [some_some hh]
    exact gives (r' := .bool (decide ((((List.length x_mem) : Nat) : Int) = (64 : Int)))) (by kernel_rfl) (Ent.list [] rfl rfl (Nat.zero_le _) (rens_1 ren_b) hs_nil)
  · intro Q1 hN1 hR1 hE1
    refine Aw.sreg [0, 3] [] ?_
    refine yct (cs := []) (E' := (sp 19 [(0, bo (eI .i64) x_mem), (3, .int .i64 (0 : Int))])) (H' := []) (n' := 0) (fun K => by kernel_rfl) .nil ?_
    refine Aw.block ?_
    obtain ⟨o2, hi2, hk2⟩ := bind_some hh
    refine Aw.iter (fun (s2 : Int) => sp 19 [(0, bo (eI .i64) x_mem), (3, .int .i64 s2)]) (fun (s2 : Int) => []) 0 hi2 (Ent.list2 [] rfl rfl (by decide) (rens_sp (by kernel_rfl) (rl_c (u := bo (eI .i64) x_mem) (by kernel_rfl) (ren_bor (rens_same (noRefs_fl nr_eI))) (rl_c (u := .int .i64 (0 : Int)) (by kernel_rfl) ren_i rl_n))) hs_nil) ?_
    intro s2 u2 Q2 hh hN2 hX2 hR2
    unfold F_spec_MemOk_l2 at hh
    refine Aw.seq ?_
    refine Aw.sreg [0, 3, 7] [] ?_
    refine yct (cs := []) (E' := (sp 19 [(0, bo (eI .i64) x_mem), (3, .int .i64 s2), (7, .bool (decide (s2 < (((List.length x_mem) : Nat) : Int))))])) (H' := []) (n' := 0) (fun K => by kernel_rfl) .nil ?_
    rcases cond_some hh with ⟨hb, hh⟩ | ⟨hb, hh⟩
    · refine Aw.condT (by kernel_rfl) hb ?_
      refine Aw.xskip (fun _ _ _ hq => then_m hq) ?_
      refine Aw.seq ?_
      refine Aw.block ?_
      refine Aw.sreg [0, 3, 15] [] ?_
      refine yc (cs := []) (E' := (sp 19 [(0, bo (eI .i64) x_mem), (3, .int .i64 s2), (7, .bool (decide (s2 < (((List.length x_mem) : Nat) : Int)))), (10, bo (eI .i64) x_mem), (11, .int .i64 s2)])) (H' := []) (n' := 0) (pre := (List.take 2 L_spec_MemOk_r3)) (L' := (List.drop 2 L_spec_MemOk_r3)) (by kernel_rfl) (fun K => by kernel_rfl) .nil ?_
      obtain ⟨hg24, hh⟩ := grd_some hh
      refine yso (op := (.iadr 1 (.t 10) (.t 11))) (d := (some 12)) (os := (List.drop 3 L_spec_MemOk_r3)) (by kernel_rfl) (op_iadr (kd := .i64) (c := (eI .i64)) (xs := x_mem) len_eI (by decide) (by kernel_rfl) (by kernel_rfl) hg24 ?_)
      refine yso (op := (.load false 1 (.t 12))) (d := (some 13)) (os := (List.drop 4 L_spec_MemOk_r3)) (by kernel_rfl) (op_loadb (c := (eI .i64)) (xs := x_mem) (o := Int.toNat s2 * 1) (i := (Int.toNat s2)) (off := 0) (v := .int .i64 (List.getD x_mem (Int.toNat s2) default)) len_eI (by kernel_rfl) (by omega) (by omega) (by decide) (by kernel_rfl) ?_)
      obtain ⟨v3, hv3, hh⟩ := bind_some hh
      refine yso (op := (.call 54 [(.t 13)])) (d := (some 14)) (os := (List.drop 5 L_spec_MemOk_r3)) (by kernel_rfl) (op_call (r := .bool v3) (v := .bool v3) (Hr := []) (n' := 0) (spec_WordOk_fn hv3) (clz_v (vs := [.int .i64 (List.getD x_mem (Int.toNat s2) default)]) (by kernel_rfl) (clz_c (clo_same rfl) clz_n)) rfl rfl (by kernel_rfl) ?_)
      refine yct (cs := []) (E' := (sp 19 [(0, bo (eI .i64) x_mem), (3, .int .i64 s2), (15, .bool (!v3))])) (H' := []) (n' := 0) (fun K => by kernel_rfl) .nil ?_
      rcases cond_some hh with ⟨hb, hh⟩ | ⟨hb, hh⟩
      · refine Aw.condT (by kernel_rfl) hb ?_
        refine Aw.sreg [2] [] ?_
        refine yct (cs := []) (E' := (sp 19 [(2, .bool false)])) (H' := []) (n' := 0) (fun K => by kernel_rfl) .nil ?_
        refine Aw.ret ?_
        refine blk_r (then_r ?_)
        refine hR2 _ _ _ _ (some_some hh) ?_
        intro hout
        rw [hout] at hk2
        refine blk_r ?_
        obtain rfl := some_some hk2
        refine hR1 _ _ _ ?_
        refine ?_
        rw [some_some hk1]
        exact gives (r' := .bool false) (by kernel_rfl) (Ent.list [] rfl rfl (Nat.zero_le _) (rens_1 ren_b) hs_nil)
      · refine Aw.condF (by kernel_rfl) hb ?_
        refine Aw.xskip (fun _ _ _ hq => blk_m (then_m hq)) ?_
        refine Aw.oreg ?_
        refine yce (cs := []) (E' := (sp 19 [(0, bo (eI .i64) x_mem), (3, .int .i64 (w64 (s2 + (1 : Int)))), (8, .int .i64 s2), (9, .int .i64 (w64 (s2 + (1 : Int)))), (15, .bool (!v3))])) (H' := []) (n' := 0) (fun K => by kernel_rfl) .nil ?_
        exact hN2 (w64 (s2 + (1 : Int))) _ _ _ (some_some hh) (Ent.list2 [] rfl rfl (by decide) (rens_sp (by kernel_rfl) (rl_c (u := bo (eI .i64) x_mem) (by kernel_rfl) (ren_bor (rens_same (noRefs_fl nr_eI))) (rl_c (u := .int .i64 (w64 (s2 + (1 : Int)))) (by kernel_rfl) ren_i rl_n))) hs_nil)
    · refine Aw.condF (by kernel_rfl) hb ?_
      refine Aw.exit ?_
      refine then_x ?_
      refine hX2 _ _ _ _ _ (some_some hh) ?_
      intro hout
      rw [hout] at hk2
      refine blk_x ?_
      obtain rfl := some_some hk2
      exact hN1 () _ _ _ hk1 (Ent.list2 [] rfl rfl (by decide) (rens_sp (by kernel_rfl) (rl_c (u := bo (eI .i64) x_mem) (by kernel_rfl) (ren_bor (rens_same (noRefs_fl nr_eI))) rl_n)) hs_nil)

noncomputable def F_spec_l3Words_j1 (x_list : List Int) (x_most : Int) (s1 : Unit) : Option Bool :=
  some (decide ((((List.length x_list) : Nat) : Int) ≤ x_most))
noncomputable def F_spec_l3Words_l2 (x_list : List Int) (s2 : Int) : Option (LO Int (JO Unit Bool)) :=
  cond (decide (s2 < (((List.length x_list) : Nat) : Int)))
    (grd ((0 : Int) ≤ s2 ∧ s2 < ((List.length x_list : Nat) : Int)) (Option.bind (F_spec_WordOk (List.getD x_list (Int.toNat s2) default)) fun v3 =>
      cond (!v3)
        (some (.ret (.out false)))
        (some (.next (w64 (s2 + (1 : Int)))))))
    (some (.ret (.go ())))
noncomputable def F_spec_l3Words (x_list : List Int) (x_most : Int) : Option Bool :=
  Option.bind (Option.bind (iter (F_spec_l3Words_l2 x_list) (0 : Int)) LO.val) fun j1 =>
    JO.run j1 (F_spec_l3Words_j1 x_list x_most)
theorem spec_l3Words_fn {x_list : List Int} {x_most : Int} {R_ : Bool} (hh : F_spec_l3Words x_list x_most = some R_) : Fn Try.prog 65 [bo (eI .i64) x_list, .int .i64 x_most] (.bool R_) := by
  unfold F_spec_l3Words at hh
  refine Fn.start low_spec_l3Words [0, 1] (E := sp 22 [(0, bo (eI .i64) x_list), (1, .int .i64 x_most)]) (by kernel_rfl) (v := .bool R_) (Hr := []) (k := 0) (by kernel_rfl) ?_
  refine Aw.sreg [0, 1] [] ?_
  refine yct (cs := []) (E' := (sp 22 [(0, bo (eI .i64) x_list), (1, .int .i64 x_most)])) (H' := []) (n' := 0) (fun K => by kernel_rfl) .nil ?_
  obtain ⟨j1, hh, hk1⟩ := bind_some hh
  refine Aw.join (S := Unit) (fun s1 => sp 22 [(0, bo (eI .i64) x_list), (1, .int .i64 x_most)]) (fun s1 => []) 0 (fun s1 => F_spec_l3Words_j1 x_list x_most s1 = some R_) ?_ ?_
  · intro s1 hh
    unfold F_spec_l3Words_j1 at hh
    refine Aw.sreg [4] [] ?_
    refine yct (cs := []) (E' := (sp 22 [(4, .bool (decide ((((List.length x_list) : Nat) : Int) ≤ x_most)))])) (H' := []) (n' := 0) (fun K => by kernel_rfl) .nil ?_
    refine Aw.ret ?_
    rw [some_some hh]
    exact gives (r' := .bool (decide ((((List.length x_list) : Nat) : Int) ≤ x_most))) (by kernel_rfl) (Ent.list [] rfl rfl (Nat.zero_le _) (rens_1 ren_b) hs_nil)
  · intro Q1 hN1 hR1 hE1
    refine Aw.sreg [0, 1, 5] [] ?_
    refine yct (cs := []) (E' := (sp 22 [(0, bo (eI .i64) x_list), (1, .int .i64 x_most), (5, .int .i64 (0 : Int))])) (H' := []) (n' := 0) (fun K => by kernel_rfl) .nil ?_
    refine Aw.block ?_
    obtain ⟨o2, hi2, hk2⟩ := bind_some hh
    refine Aw.iter (fun (s2 : Int) => sp 22 [(0, bo (eI .i64) x_list), (1, .int .i64 x_most), (5, .int .i64 s2)]) (fun (s2 : Int) => []) 0 hi2 (Ent.list2 [] rfl rfl (by decide) (rens_sp (by kernel_rfl) (rl_c (u := bo (eI .i64) x_list) (by kernel_rfl) (ren_bor (rens_same (noRefs_fl nr_eI))) (rl_c (u := .int .i64 x_most) (by kernel_rfl) ren_i (rl_c (u := .int .i64 (0 : Int)) (by kernel_rfl) ren_i rl_n)))) hs_nil) ?_
    intro s2 u2 Q2 hh hN2 hX2 hR2
    unfold F_spec_l3Words_l2 at hh
    refine Aw.seq ?_
    refine Aw.sreg [0, 1, 5, 9] [] ?_
    refine yct (cs := []) (E' := (sp 22 [(0, bo (eI .i64) x_list), (1, .int .i64 x_most), (5, .int .i64 s2), (9, .bool (decide (s2 < (((List.length x_list) : Nat) : Int))))])) (H' := []) (n' := 0) (fun K => by kernel_rfl) .nil ?_
    rcases cond_some hh with ⟨hb, hh⟩ | ⟨hb, hh⟩
    · refine Aw.condT (by kernel_rfl) hb ?_
      refine Aw.xskip (fun _ _ _ hq => then_m hq) ?_
      refine Aw.seq ?_
      refine Aw.block ?_
      refine Aw.sreg [0, 1, 5, 17] [] ?_
      refine yc (cs := []) (E' := (sp 22 [(0, bo (eI .i64) x_list), (1, .int .i64 x_most), (5, .int .i64 s2), (9, .bool (decide (s2 < (((List.length x_list) : Nat) : Int)))), (12, bo (eI .i64) x_list), (13, .int .i64 s2)])) (H' := []) (n' := 0) (pre := (List.take 2 L_spec_l3Words_r3)) (L' := (List.drop 2 L_spec_l3Words_r3)) (by kernel_rfl) (fun K => by kernel_rfl) .nil ?_
      obtain ⟨hg24, hh⟩ := grd_some hh
      refine yso (op := (.iadr 1 (.t 12) (.t 13))) (d := (some 14)) (os := (List.drop 3 L_spec_l3Words_r3)) (by kernel_rfl) (op_iadr (kd := .i64) (c := (eI .i64)) (xs := x_list) len_eI (by decide) (by kernel_rfl) (by kernel_rfl) hg24 ?_)
      refine yso (op := (.load false 1 (.t 14))) (d := (some 15)) (os := (List.drop 4 L_spec_l3Words_r3)) (by kernel_rfl) (op_loadb (c := (eI .i64)) (xs := x_list) (o := Int.toNat s2 * 1) (i := (Int.toNat s2)) (off := 0) (v := .int .i64 (List.getD x_list (Int.toNat s2) default)) len_eI (by kernel_rfl) (by omega) (by omega) (by decide) (by kernel_rfl) ?_)
      obtain ⟨v3, hv3, hh⟩ := bind_some hh
      refine yso (op := (.call 54 [(.t 15)])) (d := (some 16)) (os := (List.drop 5 L_spec_l3Words_r3)) (by kernel_rfl) (op_call (r := .bool v3) (v := .bool v3) (Hr := []) (n' := 0) (spec_WordOk_fn hv3) (clz_v (vs := [.int .i64 (List.getD x_list (Int.toNat s2) default)]) (by kernel_rfl) (clz_c (clo_same rfl) clz_n)) rfl rfl (by kernel_rfl) ?_)
      refine yct (cs := []) (E' := (sp 22 [(0, bo (eI .i64) x_list), (1, .int .i64 x_most), (5, .int .i64 s2), (17, .bool (!v3))])) (H' := []) (n' := 0) (fun K => by kernel_rfl) .nil ?_
      rcases cond_some hh with ⟨hb, hh⟩ | ⟨hb, hh⟩
      · refine Aw.condT (by kernel_rfl) hb ?_
        refine Aw.sreg [4] [] ?_
        refine yct (cs := []) (E' := (sp 22 [(4, .bool false)])) (H' := []) (n' := 0) (fun K => by kernel_rfl) .nil ?_
        refine Aw.ret ?_
        refine blk_r (then_r ?_)
        refine hR2 _ _ _ _ (some_some hh) ?_
        intro hout
        rw [hout] at hk2
        refine blk_r ?_
        obtain rfl := some_some hk2
        refine hR1 _ _ _ ?_
        refine ?_
        rw [some_some hk1]
        exact gives (r' := .bool false) (by kernel_rfl) (Ent.list [] rfl rfl (Nat.zero_le _) (rens_1 ren_b) hs_nil)
      · refine Aw.condF (by kernel_rfl) hb ?_
        refine Aw.xskip (fun _ _ _ hq => blk_m (then_m hq)) ?_
        refine Aw.oreg ?_
        refine yce (cs := []) (E' := (sp 22 [(0, bo (eI .i64) x_list), (1, .int .i64 x_most), (5, .int .i64 (w64 (s2 + (1 : Int)))), (10, .int .i64 s2), (11, .int .i64 (w64 (s2 + (1 : Int)))), (17, .bool (!v3))])) (H' := []) (n' := 0) (fun K => by kernel_rfl) .nil ?_
        exact hN2 (w64 (s2 + (1 : Int))) _ _ _ (some_some hh) (Ent.list2 [] rfl rfl (by decide) (rens_sp (by kernel_rfl) (rl_c (u := bo (eI .i64) x_list) (by kernel_rfl) (ren_bor (rens_same (noRefs_fl nr_eI))) (rl_c (u := .int .i64 x_most) (by kernel_rfl) ren_i (rl_c (u := .int .i64 (w64 (s2 + (1 : Int)))) (by kernel_rfl) ren_i rl_n)))) hs_nil)
    · refine Aw.condF (by kernel_rfl) hb ?_
      refine Aw.exit ?_
      refine then_x ?_
      refine hX2 _ _ _ _ _ (some_some hh) ?_
      intro hout
      rw [hout] at hk2
      refine blk_x ?_
      obtain rfl := some_some hk2
      exact hN1 () _ _ _ hk1 (Ent.list2 [] rfl rfl (by decide) (rens_sp (by kernel_rfl) (rl_c (u := bo (eI .i64) x_list) (by kernel_rfl) (ren_bor (rens_same (noRefs_fl nr_eI))) (rl_c (u := .int .i64 x_most) (by kernel_rfl) ren_i rl_n))) hs_nil)

noncomputable def F_spec_BareOk (x_b : DBare) : Option Bool :=
  Option.bind (F_spec_CoreOk x_b.C) fun v1 =>
  cond v1
    (Option.bind (F_spec_MemOk x_b.Mem) fun v2 =>
    cond v2
      (Option.bind (F_spec_l3Words x_b.In (30 : Int)) fun v3 =>
      cond v3
        (Option.bind (F_spec_l3Words x_b.Out (30 : Int)) fun v4 =>
        some v4)
        (some false))
      (some false))
    (some false)
theorem spec_BareOk_fn {x_b : DBare} {R_ : Bool} (hh : F_spec_BareOk x_b = some R_) : Fn Try.prog 34 [.agg (B_43 x_b)] (.bool R_) := by
  unfold F_spec_BareOk at hh
  refine Fn.start low_spec_BareOk [0] (E := sp 21 [(0, .agg (B_43 x_b))]) (by kernel_rfl) (v := .bool R_) (Hr := []) (k := 0) (by kernel_rfl) ?_
  refine Aw.sreg [1] [0] ?_
  refine yct (cs := []) (E' := (sp 21 [(1, .ptr 0 [] 0)])) (H' := [(0, some ⟨43, (B_43 x_b)⟩)]) (n' := 1) (fun K => by kernel_rfl) .nil ?_
  refine Aw.sreg [2] [] ?_
  refine yc (cs := []) (E' := (sp 21 [(1, .ptr 0 [] 0), (3, .ptr 0 [] 0), (4, .agg (B_39 x_b.C))])) (H' := [(0, some ⟨43, (B_43 x_b)⟩)]) (n' := 1) (pre := (List.take 2 L_spec_BareOk_r1)) (L' := (List.drop 2 L_spec_BareOk_r1)) (by kernel_rfl) (fun K => by kernel_rfl) .nil ?_
  obtain ⟨v1, hv1, hh⟩ := bind_some hh
  refine yso (op := (.call 31 [(.t 4)])) (d := (some 5)) (os := (List.drop 3 L_spec_BareOk_r1)) (by kernel_rfl) (op_call (r := .bool v1) (v := .bool v1) (Hr := []) (n' := 1) (spec_CoreOk_fn hv1) (clz_v (vs := [.agg (B_39 x_b.C)]) (by kernel_rfl) (clz_c (clo_same (clean_agg (cl_B_39 _))) clz_n)) rfl rfl (by kernel_rfl) ?_)
  refine yc (cs := []) (E' := (sp 21 [(1, .ptr 0 [] 0), (3, .ptr 0 [] 0), (4, .agg (B_39 x_b.C)), (5, .bool v1), (6, .bool v1)])) (H' := [(0, some ⟨43, (B_43 x_b)⟩)]) (n' := 1) (pre := (List.take 1 (List.drop 3 L_spec_BareOk_r1))) (L' := (List.drop 4 L_spec_BareOk_r1)) (by kernel_rfl) (fun K => by kernel_rfl) .nil ?_
  rcases cond_some hh with ⟨hb, hh⟩ | ⟨hb, hh⟩
  · refine ybs (t := 5) hb (by kernel_rfl) ?_
    refine ybs (t := 6) hb (by kernel_rfl) ?_
    refine yc (cs := []) (E' := (sp 21 [(1, .ptr 0 [] 0), (3, .ptr 0 [] 0), (4, .agg (B_39 x_b.C)), (5, .bool true), (6, .bool true), (7, .ptr 0 [] 13), (8, bo (eI .i64) x_b.Mem)])) (H' := [(0, some ⟨43, (B_43 x_b)⟩)]) (n' := 1) (pre := (List.take 2 (List.drop 4 L_spec_BareOk_r1))) (L' := (List.drop 6 L_spec_BareOk_r1)) (by kernel_rfl) (fun K => by kernel_rfl) .nil ?_
    obtain ⟨v2, hv2, hh⟩ := bind_some hh
    refine ysg (op := (.call 17 [(.t 8)])) (d := (some 9)) (t := 6) (want := true) (os := (List.drop 7 L_spec_BareOk_r1)) (by kernel_rfl) (by kernel_rfl) (op_call (r := .bool v2) (v := .bool v2) (Hr := []) (n' := 1) (spec_MemOk_fn hv2) (clz_v (vs := [bo (eI .i64) x_b.Mem]) (by kernel_rfl) (clz_c (clo_same (clean_bor (cleans_fl cl_eI))) clz_n)) rfl rfl (by kernel_rfl) ?_)
    refine yc (cs := []) (E' := (sp 21 [(1, .ptr 0 [] 0), (3, .ptr 0 [] 0), (4, .agg (B_39 x_b.C)), (5, .bool true), (6, .bool true), (7, .ptr 0 [] 13), (8, bo (eI .i64) x_b.Mem), (9, .bool v2), (10, .bool v2), (11, .bool v2)])) (H' := [(0, some ⟨43, (B_43 x_b)⟩)]) (n' := 1) (pre := (List.take 2 (List.drop 7 L_spec_BareOk_r1))) (L' := (List.drop 9 L_spec_BareOk_r1)) (by kernel_rfl) (fun K => by kernel_rfl) .nil ?_
    rcases cond_some hh with ⟨hb, hh⟩ | ⟨hb, hh⟩
    · refine ybs (t := 9) hb (by kernel_rfl) ?_
      refine ybs (t := 10) hb (by kernel_rfl) ?_
      refine ybs (t := 11) hb (by kernel_rfl) ?_
      refine yc (cs := []) (E' := (sp 21 [(1, .ptr 0 [] 0), (3, .ptr 0 [] 0), (4, .agg (B_39 x_b.C)), (5, .bool true), (6, .bool true), (7, .ptr 0 [] 13), (8, bo (eI .i64) x_b.Mem), (9, .bool true), (10, .bool true), (11, .bool true), (12, .ptr 0 [] 14), (13, bo (eI .i64) x_b.In)])) (H' := [(0, some ⟨43, (B_43 x_b)⟩)]) (n' := 1) (pre := (List.take 2 (List.drop 9 L_spec_BareOk_r1))) (L' := (List.drop 11 L_spec_BareOk_r1)) (by kernel_rfl) (fun K => by kernel_rfl) .nil ?_
      obtain ⟨v3, hv3, hh⟩ := bind_some hh
      refine ysg (op := (.call 65 [(.t 13), (.c (.int .i64 30))])) (d := (some 14)) (t := 11) (want := true) (os := (List.drop 12 L_spec_BareOk_r1)) (by kernel_rfl) (by kernel_rfl) (op_call (r := .bool v3) (v := .bool v3) (Hr := []) (n' := 1) (spec_l3Words_fn hv3) (clz_v (vs := [bo (eI .i64) x_b.In, .int .i64 (30 : Int)]) (by kernel_rfl) (clz_c (clo_same (clean_bor (cleans_fl cl_eI))) (clz_c (clo_same rfl) clz_n))) rfl rfl (by kernel_rfl) ?_)
      refine yc (cs := []) (E' := (sp 21 [(1, .ptr 0 [] 0), (3, .ptr 0 [] 0), (4, .agg (B_39 x_b.C)), (5, .bool true), (6, .bool true), (7, .ptr 0 [] 13), (8, bo (eI .i64) x_b.Mem), (9, .bool true), (10, .bool true), (11, .bool true), (12, .ptr 0 [] 14), (13, bo (eI .i64) x_b.In), (14, .bool v3), (15, .bool v3), (16, .bool v3)])) (H' := [(0, some ⟨43, (B_43 x_b)⟩)]) (n' := 1) (pre := (List.take 2 (List.drop 12 L_spec_BareOk_r1))) (L' := (List.drop 14 L_spec_BareOk_r1)) (by kernel_rfl) (fun K => by kernel_rfl) .nil ?_
      rcases cond_some hh with ⟨hb, hh⟩ | ⟨hb, hh⟩
      · refine ybs (t := 14) hb (by kernel_rfl) ?_
        refine ybs (t := 15) hb (by kernel_rfl) ?_
        refine ybs (t := 16) hb (by kernel_rfl) ?_
        refine yc (cs := []) (E' := (sp 21 [(1, .ptr 0 [] 0), (3, .ptr 0 [] 0), (4, .agg (B_39 x_b.C)), (5, .bool true), (6, .bool true), (7, .ptr 0 [] 13), (8, bo (eI .i64) x_b.Mem), (9, .bool true), (10, .bool true), (11, .bool true), (12, .ptr 0 [] 14), (13, bo (eI .i64) x_b.In), (14, .bool true), (15, .bool true), (16, .bool true), (17, .ptr 0 [] 15), (18, bo (eI .i64) x_b.Out)])) (H' := [(0, some ⟨43, (B_43 x_b)⟩)]) (n' := 1) (pre := (List.take 2 (List.drop 14 L_spec_BareOk_r1))) (L' := (List.drop 16 L_spec_BareOk_r1)) (by kernel_rfl) (fun K => by kernel_rfl) .nil ?_
        obtain ⟨v4, hv4, hh⟩ := bind_some hh
        refine ysg (op := (.call 65 [(.t 18), (.c (.int .i64 30))])) (d := (some 19)) (t := 16) (want := true) (os := (List.drop 17 L_spec_BareOk_r1)) (by kernel_rfl) (by kernel_rfl) (op_call (r := .bool v4) (v := .bool v4) (Hr := []) (n' := 1) (spec_l3Words_fn hv4) (clz_v (vs := [bo (eI .i64) x_b.Out, .int .i64 (30 : Int)]) (by kernel_rfl) (clz_c (clo_same (clean_bor (cleans_fl cl_eI))) (clz_c (clo_same rfl) clz_n))) rfl rfl (by kernel_rfl) ?_)
        refine yct (cs := []) (E' := (sp 21 [(2, .bool v4)])) (H' := []) (n' := 1) (fun K => by kernel_rfl) .nil ?_
        refine Aw.ret ?_
        rw [some_some hh]
        exact gives (r' := .bool v4) (by kernel_rfl) (Ent.list [] rfl rfl (Nat.zero_le _) (rens_1 ren_b) hs_nil)
      · refine ybs (t := 14) hb (by kernel_rfl) ?_
        refine ybs (t := 15) hb (by kernel_rfl) ?_
        refine ybs (t := 16) hb (by kernel_rfl) ?_
        refine yct (cs := []) (E' := (sp 21 [(2, .bool false)])) (H' := []) (n' := 1) (fun K => by kernel_rfl) .nil ?_
        refine Aw.ret ?_
        rw [some_some hh]
        exact gives (r' := .bool false) (by kernel_rfl) (Ent.list [] rfl rfl (Nat.zero_le _) (rens_1 ren_b) hs_nil)
    · refine ybs (t := 9) hb (by kernel_rfl) ?_
      refine ybs (t := 10) hb (by kernel_rfl) ?_
      refine ybs (t := 11) hb (by kernel_rfl) ?_
      refine yct (cs := []) (E' := (sp 21 [(2, .bool false)])) (H' := []) (n' := 1) (fun K => by kernel_rfl) .nil ?_
      refine Aw.ret ?_
      rw [some_some hh]
      exact gives (r' := .bool false) (by kernel_rfl) (Ent.list [] rfl rfl (Nat.zero_le _) (rens_1 ren_b) hs_nil)
  · refine ybs (t := 5) hb (by kernel_rfl) ?_
    refine ybs (t := 6) hb (by kernel_rfl) ?_
    refine yct (cs := []) (E' := (sp 21 [(2, .bool false)])) (H' := []) (n' := 1) (fun K => by kernel_rfl) .nil ?_
    refine Aw.ret ?_
    rw [some_some hh]
    exact gives (r' := .bool false) (by kernel_rfl) (Ent.list [] rfl rfl (Nat.zero_le _) (rens_1 ren_b) hs_nil)

noncomputable def F_laws_szBare (x_a : DBare) (x_left : Int) : Option Int :=
  Option.bind (F_laws_szCore x_a.C x_left) fun v1 =>
  cond (decide (v1 < (0 : Int)))
    (some (-1 : Int))
    (Option.bind (F_laws_szIntS x_a.Mem v1) fun v2 =>
    cond (decide (v2 < (0 : Int)))
      (some (-1 : Int))
      (Option.bind (F_laws_szIntS x_a.In v2) fun v3 =>
      cond (decide (v3 < (0 : Int)))
        (some (-1 : Int))
        (Option.bind (F_laws_szIntS x_a.Out v3) fun v4 =>
        cond (decide (v4 < (0 : Int)))
          (some (-1 : Int))
          (some v4))))
theorem laws_szBare_fn {x_a : DBare} {x_left : Int} {R_ : Int} (hh : F_laws_szBare x_a x_left = some R_) : Fn Try.prog 46 [.agg (B_43 x_a), .int .i64 x_left] (.int .i64 R_) := by
  unfold F_laws_szBare at hh
  refine Fn.start low_laws_szBare [0, 1] (E := sp 30 [(0, .agg (B_43 x_a)), (1, .int .i64 x_left)]) (by kernel_rfl) (v := .int .i64 R_) (Hr := []) (k := 0) (by kernel_rfl) ?_
  refine Aw.sreg [1, 2] [0] ?_
  refine yct (cs := []) (E' := (sp 30 [(1, .int .i64 x_left), (2, .ptr 0 [] 0)])) (H' := [(0, some ⟨58, (B_43 x_a)⟩)]) (n' := 1) (fun K => by kernel_rfl) .nil ?_
  refine Aw.sreg [1, 2] [0] ?_
  refine yc (cs := []) (E' := (sp 30 [(1, .int .i64 x_left), (2, .ptr 0 [] 0), (5, .ptr 0 [] 0), (6, .agg (B_39 x_a.C)), (7, .int .i64 x_left)])) (H' := [(0, some ⟨58, (B_43 x_a)⟩)]) (n' := 1) (pre := (List.take 3 L_laws_szBare_r1)) (L' := (List.drop 3 L_laws_szBare_r1)) (by kernel_rfl) (fun K => by kernel_rfl) .nil ?_
  obtain ⟨v1, hv1, hh⟩ := bind_some hh
  refine yso (op := (.call 43 [(.t 6), (.t 7)])) (d := (some 8)) (os := (List.drop 4 L_laws_szBare_r1)) (by kernel_rfl) (op_call (r := .int .i64 v1) (v := .int .i64 v1) (Hr := []) (n' := 1) (laws_szCore_fn hv1) (clz_v (vs := [.agg (B_39 x_a.C), .int .i64 x_left]) (by kernel_rfl) (clz_c (clo_same (clean_agg (cl_B_39 _))) (clz_c (clo_same rfl) clz_n))) rfl rfl (by kernel_rfl) ?_)
  refine yct (cs := []) (E' := (sp 30 [(1, .int .i64 v1), (2, .ptr 0 [] 0)])) (H' := [(0, some ⟨58, (B_43 x_a)⟩)]) (n' := 1) (fun K => by kernel_rfl) .nil ?_
  refine Aw.seq ?_
  refine Aw.sreg [1, 2, 10] [0] ?_
  refine yct (cs := []) (E' := (sp 30 [(1, .int .i64 v1), (2, .ptr 0 [] 0), (10, .bool (decide (v1 < (0 : Int))))])) (H' := [(0, some ⟨58, (B_43 x_a)⟩)]) (n' := 1) (fun K => by kernel_rfl) .nil ?_
  rcases cond_some hh with ⟨hb, hh⟩ | ⟨hb, hh⟩
  · refine Aw.condT (by kernel_rfl) hb ?_
    refine Aw.sreg [4] [] ?_
    refine yct (cs := []) (E' := (sp 30 [(4, .int .i64 (-1 : Int))])) (H' := []) (n' := 1) (fun K => by kernel_rfl) .nil ?_
    refine Aw.ret ?_
    refine then_r ?_
    rw [some_some hh]
    exact gives (r' := .int .i64 (-1 : Int)) (by kernel_rfl) (Ent.list [] rfl rfl (Nat.zero_le _) (rens_1 ren_i) hs_nil)
  · refine Aw.condF (by kernel_rfl) hb ?_
    refine Aw.xskip (fun _ _ _ hq => then_m hq) ?_
    refine Aw.sreg [1, 2] [0] ?_
    refine yc (cs := []) (E' := (sp 30 [(1, .int .i64 v1), (2, .ptr 0 [] 0), (10, .bool (decide (v1 < (0 : Int)))), (11, .ptr 0 [] 13), (12, bo (eI .i64) x_a.Mem), (13, .int .i64 v1)])) (H' := [(0, some ⟨58, (B_43 x_a)⟩)]) (n' := 1) (pre := (List.take 3 L_laws_szBare_r4)) (L' := (List.drop 3 L_laws_szBare_r4)) (by kernel_rfl) (fun K => by kernel_rfl) .nil ?_
    obtain ⟨v2, hv2, hh⟩ := bind_some hh
    refine yso (op := (.call 78 [(.t 12), (.t 13)])) (d := (some 14)) (os := (List.drop 4 L_laws_szBare_r4)) (by kernel_rfl) (op_call (r := .int .i64 v2) (v := .int .i64 v2) (Hr := []) (n' := 1) (laws_szIntS_fn hv2) (clz_v (vs := [bo (eI .i64) x_a.Mem, .int .i64 v1]) (by kernel_rfl) (clz_c (clo_same (clean_bor (cleans_fl cl_eI))) (clz_c (clo_same rfl) clz_n))) rfl rfl (by kernel_rfl) ?_)
    refine yct (cs := []) (E' := (sp 30 [(1, .int .i64 v2), (2, .ptr 0 [] 0)])) (H' := [(0, some ⟨58, (B_43 x_a)⟩)]) (n' := 1) (fun K => by kernel_rfl) .nil ?_
    refine Aw.seq ?_
    refine Aw.sreg [1, 2, 16] [0] ?_
    refine yct (cs := []) (E' := (sp 30 [(1, .int .i64 v2), (2, .ptr 0 [] 0), (16, .bool (decide (v2 < (0 : Int))))])) (H' := [(0, some ⟨58, (B_43 x_a)⟩)]) (n' := 1) (fun K => by kernel_rfl) .nil ?_
    rcases cond_some hh with ⟨hb, hh⟩ | ⟨hb, hh⟩
    · refine Aw.condT (by kernel_rfl) hb ?_
      refine Aw.sreg [4] [] ?_
      refine yct (cs := []) (E' := (sp 30 [(4, .int .i64 (-1 : Int))])) (H' := []) (n' := 1) (fun K => by kernel_rfl) .nil ?_
      refine Aw.ret ?_
      refine then_r ?_
      rw [some_some hh]
      exact gives (r' := .int .i64 (-1 : Int)) (by kernel_rfl) (Ent.list [] rfl rfl (Nat.zero_le _) (rens_1 ren_i) hs_nil)
    · refine Aw.condF (by kernel_rfl) hb ?_
      refine Aw.xskip (fun _ _ _ hq => then_m hq) ?_
      refine Aw.sreg [1, 2] [0] ?_
      refine yc (cs := []) (E' := (sp 30 [(1, .int .i64 v2), (2, .ptr 0 [] 0), (16, .bool (decide (v2 < (0 : Int)))), (17, .ptr 0 [] 14), (18, bo (eI .i64) x_a.In), (19, .int .i64 v2)])) (H' := [(0, some ⟨58, (B_43 x_a)⟩)]) (n' := 1) (pre := (List.take 3 L_laws_szBare_r7)) (L' := (List.drop 3 L_laws_szBare_r7)) (by kernel_rfl) (fun K => by kernel_rfl) .nil ?_
      obtain ⟨v3, hv3, hh⟩ := bind_some hh
      refine yso (op := (.call 78 [(.t 18), (.t 19)])) (d := (some 20)) (os := (List.drop 4 L_laws_szBare_r7)) (by kernel_rfl) (op_call (r := .int .i64 v3) (v := .int .i64 v3) (Hr := []) (n' := 1) (laws_szIntS_fn hv3) (clz_v (vs := [bo (eI .i64) x_a.In, .int .i64 v2]) (by kernel_rfl) (clz_c (clo_same (clean_bor (cleans_fl cl_eI))) (clz_c (clo_same rfl) clz_n))) rfl rfl (by kernel_rfl) ?_)
      refine yct (cs := []) (E' := (sp 30 [(1, .int .i64 v3), (2, .ptr 0 [] 0)])) (H' := [(0, some ⟨58, (B_43 x_a)⟩)]) (n' := 1) (fun K => by kernel_rfl) .nil ?_
      refine Aw.seq ?_
      refine Aw.sreg [1, 2, 22] [0] ?_
      refine yct (cs := []) (E' := (sp 30 [(1, .int .i64 v3), (2, .ptr 0 [] 0), (22, .bool (decide (v3 < (0 : Int))))])) (H' := [(0, some ⟨58, (B_43 x_a)⟩)]) (n' := 1) (fun K => by kernel_rfl) .nil ?_
      rcases cond_some hh with ⟨hb, hh⟩ | ⟨hb, hh⟩
      · refine Aw.condT (by kernel_rfl) hb ?_
        refine Aw.sreg [4] [] ?_
        refine yct (cs := []) (E' := (sp 30 [(4, .int .i64 (-1 : Int))])) (H' := []) (n' := 1) (fun K => by kernel_rfl) .nil ?_
        refine Aw.ret ?_
        refine then_r ?_
        rw [some_some hh]
        exact gives (r' := .int .i64 (-1 : Int)) (by kernel_rfl) (Ent.list [] rfl rfl (Nat.zero_le _) (rens_1 ren_i) hs_nil)
      · refine Aw.condF (by kernel_rfl) hb ?_
        refine Aw.xskip (fun _ _ _ hq => then_m hq) ?_
        refine Aw.sreg [1] [] ?_
        refine yc (cs := []) (E' := (sp 30 [(1, .int .i64 v3), (2, .ptr 0 [] 0), (22, .bool (decide (v3 < (0 : Int)))), (23, .ptr 0 [] 15), (24, bo (eI .i64) x_a.Out), (25, .int .i64 v3)])) (H' := [(0, some ⟨58, (B_43 x_a)⟩)]) (n' := 1) (pre := (List.take 3 L_laws_szBare_r10)) (L' := (List.drop 3 L_laws_szBare_r10)) (by kernel_rfl) (fun K => by kernel_rfl) .nil ?_
        obtain ⟨v4, hv4, hh⟩ := bind_some hh
        refine yso (op := (.call 78 [(.t 24), (.t 25)])) (d := (some 26)) (os := (List.drop 4 L_laws_szBare_r10)) (by kernel_rfl) (op_call (r := .int .i64 v4) (v := .int .i64 v4) (Hr := []) (n' := 1) (laws_szIntS_fn hv4) (clz_v (vs := [bo (eI .i64) x_a.Out, .int .i64 v3]) (by kernel_rfl) (clz_c (clo_same (clean_bor (cleans_fl cl_eI))) (clz_c (clo_same rfl) clz_n))) rfl rfl (by kernel_rfl) ?_)
        refine yct (cs := []) (E' := (sp 30 [(1, .int .i64 v4)])) (H' := []) (n' := 1) (fun K => by kernel_rfl) .nil ?_
        refine Aw.seq ?_
        refine Aw.sreg [1, 28] [] ?_
        refine yct (cs := []) (E' := (sp 30 [(1, .int .i64 v4), (28, .bool (decide (v4 < (0 : Int))))])) (H' := []) (n' := 1) (fun K => by kernel_rfl) .nil ?_
        rcases cond_some hh with ⟨hb, hh⟩ | ⟨hb, hh⟩
        · refine Aw.condT (by kernel_rfl) hb ?_
          refine Aw.sreg [4] [] ?_
          refine yct (cs := []) (E' := (sp 30 [(4, .int .i64 (-1 : Int))])) (H' := []) (n' := 1) (fun K => by kernel_rfl) .nil ?_
          refine Aw.ret ?_
          refine then_r ?_
          rw [some_some hh]
          exact gives (r' := .int .i64 (-1 : Int)) (by kernel_rfl) (Ent.list [] rfl rfl (Nat.zero_le _) (rens_1 ren_i) hs_nil)
        · refine Aw.condF (by kernel_rfl) hb ?_
          refine Aw.xskip (fun _ _ _ hq => then_m hq) ?_
          refine Aw.sreg [4] [] ?_
          refine yct (cs := []) (E' := (sp 30 [(4, .int .i64 v4)])) (H' := []) (n' := 1) (fun K => by kernel_rfl) .nil ?_
          refine Aw.ret ?_
          rw [some_some hh]
          exact gives (r' := .int .i64 v4) (by kernel_rfl) (Ent.list [] rfl rfl (Nat.zero_le _) (rens_1 ren_i) hs_nil)

noncomputable def F_laws_toBare (x_a : DBare) : Option DBare :=
  Option.bind (F_laws_toCore x_a.C) fun v1 =>
  Option.bind (F_laws_toIntS x_a.Mem) fun v2 =>
  Option.bind (F_laws_toIntS x_a.In) fun v3 =>
  Option.bind (F_laws_toIntS x_a.Out) fun v4 =>
  some (DBare.mk v1 v2 v3 v4)
theorem laws_toBare_fn {x_a : DBare} {R_ : DBare} (hh : F_laws_toBare x_a = some R_) : Fn Try.prog 47 [.agg (B_43 x_a)] (.agg [.own 3 1 (List.length R_.C.Regs) (fl (eI .i64) R_.C.Regs), .int .i64 R_.C.Pc, .int .i64 R_.C.Root, .int .i64 R_.C.Vector, .int .i64 R_.C.Saved, .bool R_.C.SavedUser, .int .i64 R_.C.Cause, .int .i64 R_.C.Bad, .int .i64 R_.C.Timer, .bool R_.C.Waits, .bool R_.C.User, .bool R_.C.On, .bool R_.C.Stopped, .own 3 1 (List.length R_.Mem) (fl (eI .i64) R_.Mem), .own 3 1 (List.length R_.In) (fl (eI .i64) R_.In), .own 3 1 (List.length R_.Out) (fl (eI .i64) R_.Out)]) := by
  unfold F_laws_toBare at hh
  refine Fn.start low_laws_toBare [0] (E := sp 21 [(0, .agg (B_43 x_a))]) (by kernel_rfl) (v := .agg [.sref 0 [] 0 (List.length R_.C.Regs) 1, .int .i64 R_.C.Pc, .int .i64 R_.C.Root, .int .i64 R_.C.Vector, .int .i64 R_.C.Saved, .bool R_.C.SavedUser, .int .i64 R_.C.Cause, .int .i64 R_.C.Bad, .int .i64 R_.C.Timer, .bool R_.C.Waits, .bool R_.C.User, .bool R_.C.On, .bool R_.C.Stopped, .sref 1 [] 0 (List.length R_.Mem) 1, .sref 2 [] 0 (List.length R_.In) 1, .sref 3 [] 0 (List.length R_.Out) 1]) (Hr := [(3, some ⟨3, (fl (eI .i64) R_.Out)⟩), (2, some ⟨3, (fl (eI .i64) R_.In)⟩), (1, some ⟨3, (fl (eI .i64) R_.Mem)⟩), (0, some ⟨3, (fl (eI .i64) R_.C.Regs)⟩)]) (k := 4) (by kernel_rfl) ?_
  refine Aw.sreg [1, 2] [0, 1] ?_
  refine yct (cs := []) (E' := (sp 21 [(1, .ptr 0 [] 0), (2, .ptr 1 [] 0)])) (H' := [(0, some ⟨58, (B_43 x_a)⟩), (1, some ⟨43, [.nil, .int .i64 (0 : Int), .int .i64 (0 : Int), .int .i64 (0 : Int), .int .i64 (0 : Int), .bool false, .int .i64 (0 : Int), .int .i64 (0 : Int), .int .i64 (0 : Int), .bool false, .bool false, .bool false, .bool false, .nil, .nil, .nil]⟩)]) (n' := 2) (fun K => by kernel_rfl) .nil ?_
  refine Aw.sreg [1, 2, 3] [0, 1, 2] ?_
  refine yct (cs := []) (E' := (sp 21 [(1, .ptr 0 [] 0), (2, .ptr 1 [] 0), (3, .ptr 2 [] 0)])) (H' := [(0, some ⟨58, (B_43 x_a)⟩), (1, some ⟨43, [.nil, .int .i64 (0 : Int), .int .i64 (0 : Int), .int .i64 (0 : Int), .int .i64 (0 : Int), .bool false, .int .i64 (0 : Int), .int .i64 (0 : Int), .int .i64 (0 : Int), .bool false, .bool false, .bool false, .bool false, .nil, .nil, .nil]⟩), (2, some ⟨43, [.nil, .int .i64 (0 : Int), .int .i64 (0 : Int), .int .i64 (0 : Int), .int .i64 (0 : Int), .bool false, .int .i64 (0 : Int), .int .i64 (0 : Int), .int .i64 (0 : Int), .bool false, .bool false, .bool false, .bool false, .nil, .nil, .nil]⟩)]) (n' := 3) (fun K => by kernel_rfl) .nil ?_
  refine Aw.sreg [1, 2, 3] [0, 1, 2, 3] ?_
  refine yc (cs := []) (E' := (sp 21 [(1, .ptr 0 [] 0), (2, .ptr 1 [] 0), (3, .ptr 2 [] 0), (4, .ptr 0 [] 0), (5, .agg (B_39 x_a.C))])) (H' := [(0, some ⟨58, (B_43 x_a)⟩), (1, some ⟨43, [.nil, .int .i64 (0 : Int), .int .i64 (0 : Int), .int .i64 (0 : Int), .int .i64 (0 : Int), .bool false, .int .i64 (0 : Int), .int .i64 (0 : Int), .int .i64 (0 : Int), .bool false, .bool false, .bool false, .bool false, .nil, .nil, .nil]⟩), (2, some ⟨43, [.nil, .int .i64 (0 : Int), .int .i64 (0 : Int), .int .i64 (0 : Int), .int .i64 (0 : Int), .bool false, .int .i64 (0 : Int), .int .i64 (0 : Int), .int .i64 (0 : Int), .bool false, .bool false, .bool false, .bool false, .nil, .nil, .nil]⟩)]) (n' := 3) (pre := (List.take 2 L_laws_toBare_r2)) (L' := (List.drop 2 L_laws_toBare_r2)) (by kernel_rfl) (fun K => by kernel_rfl) .nil ?_
  obtain ⟨v1, hv1, hh⟩ := bind_some hh
  refine yso (op := (.call 44 [(.t 5)])) (d := (some 6)) (os := (List.drop 3 L_laws_toBare_r2)) (by kernel_rfl) (op_call (r := .agg [.own 3 1 (List.length v1.Regs) (fl (eI .i64) v1.Regs), .int .i64 v1.Pc, .int .i64 v1.Root, .int .i64 v1.Vector, .int .i64 v1.Saved, .bool v1.SavedUser, .int .i64 v1.Cause, .int .i64 v1.Bad, .int .i64 v1.Timer, .bool v1.Waits, .bool v1.User, .bool v1.On, .bool v1.Stopped]) (v := .agg [.sref 3 [] 0 (List.length v1.Regs) 1, .int .i64 v1.Pc, .int .i64 v1.Root, .int .i64 v1.Vector, .int .i64 v1.Saved, .bool v1.SavedUser, .int .i64 v1.Cause, .int .i64 v1.Bad, .int .i64 v1.Timer, .bool v1.Waits, .bool v1.User, .bool v1.On, .bool v1.Stopped]) (Hr := [(3, some ⟨3, (fl (eI .i64) v1.Regs)⟩)]) (n' := 4) (laws_toCore_fn hv1) (clz_v (vs := [.agg (B_39 x_a.C)]) (by kernel_rfl) (clz_c (clo_same (clean_agg (cl_B_39 _))) clz_n)) (by simp only [AV.noRef, noRefs, Bool.and_self, noRefs_fl nr_eI]) (by simp only [AV.noBor, noBors, Bool.and_self, noBors_fl nb_eI]) (by kernel_rfl) ?_)
  refine yct (cs := []) (E' := (sp 21 [(1, .ptr 0 [] 0), (2, .ptr 1 [] 0), (3, .ptr 2 [] 0)])) (H' := [(0, some ⟨58, (B_43 x_a)⟩), (1, some ⟨43, [.nil, .int .i64 (0 : Int), .int .i64 (0 : Int), .int .i64 (0 : Int), .int .i64 (0 : Int), .bool false, .int .i64 (0 : Int), .int .i64 (0 : Int), .int .i64 (0 : Int), .bool false, .bool false, .bool false, .bool false, .nil, .nil, .nil]⟩), (2, some ⟨43, [.sref 3 [] 0 (List.length v1.Regs) 1, .int .i64 v1.Pc, .int .i64 v1.Root, .int .i64 v1.Vector, .int .i64 v1.Saved, .bool v1.SavedUser, .int .i64 v1.Cause, .int .i64 v1.Bad, .int .i64 v1.Timer, .bool v1.Waits, .bool v1.User, .bool v1.On, .bool v1.Stopped, .nil, .nil, .nil]⟩), (3, some ⟨3, (fl (eI .i64) v1.Regs)⟩)]) (n' := 4) (fun K => by kernel_rfl) .nil ?_
  refine Aw.sreg [1, 2, 3] [0, 1, 2, 3, 4] ?_
  refine yc (cs := []) (E' := (sp 21 [(1, .ptr 0 [] 0), (2, .ptr 1 [] 0), (3, .ptr 2 [] 0), (8, .ptr 0 [] 13), (9, bo (eI .i64) x_a.Mem)])) (H' := [(0, some ⟨58, (B_43 x_a)⟩), (1, some ⟨43, [.nil, .int .i64 (0 : Int), .int .i64 (0 : Int), .int .i64 (0 : Int), .int .i64 (0 : Int), .bool false, .int .i64 (0 : Int), .int .i64 (0 : Int), .int .i64 (0 : Int), .bool false, .bool false, .bool false, .bool false, .nil, .nil, .nil]⟩), (2, some ⟨43, [.sref 3 [] 0 (List.length v1.Regs) 1, .int .i64 v1.Pc, .int .i64 v1.Root, .int .i64 v1.Vector, .int .i64 v1.Saved, .bool v1.SavedUser, .int .i64 v1.Cause, .int .i64 v1.Bad, .int .i64 v1.Timer, .bool v1.Waits, .bool v1.User, .bool v1.On, .bool v1.Stopped, .nil, .nil, .nil]⟩), (3, some ⟨3, (fl (eI .i64) v1.Regs)⟩)]) (n' := 4) (pre := (List.take 2 L_laws_toBare_r3)) (L' := (List.drop 2 L_laws_toBare_r3)) (by kernel_rfl) (fun K => by kernel_rfl) .nil ?_
  obtain ⟨v2, hv2, hh⟩ := bind_some hh
  refine yso (op := (.call 79 [(.t 9)])) (d := (some 10)) (os := (List.drop 3 L_laws_toBare_r3)) (by kernel_rfl) (op_call (r := .own 3 1 (List.length v2) (fl (eI .i64) v2)) (v := .sref 4 [] 0 (List.length v2) 1) (Hr := [(4, some ⟨3, (fl (eI .i64) v2)⟩)]) (n' := 5) (laws_toIntS_fn hv2) (clz_v (vs := [bo (eI .i64) x_a.Mem]) (by kernel_rfl) (clz_c (clo_same (clean_bor (cleans_fl cl_eI))) clz_n)) (by simp only [AV.noRef, noRefs, Bool.and_self, noRefs_fl nr_eI]) (by simp only [AV.noBor, noBors, Bool.and_self, noBors_fl nb_eI]) (by kernel_rfl) ?_)
  refine yct (cs := []) (E' := (sp 21 [(1, .ptr 0 [] 0), (2, .ptr 1 [] 0), (3, .ptr 2 [] 0)])) (H' := [(0, some ⟨58, (B_43 x_a)⟩), (1, some ⟨43, [.nil, .int .i64 (0 : Int), .int .i64 (0 : Int), .int .i64 (0 : Int), .int .i64 (0 : Int), .bool false, .int .i64 (0 : Int), .int .i64 (0 : Int), .int .i64 (0 : Int), .bool false, .bool false, .bool false, .bool false, .nil, .nil, .nil]⟩), (2, some ⟨43, [.sref 3 [] 0 (List.length v1.Regs) 1, .int .i64 v1.Pc, .int .i64 v1.Root, .int .i64 v1.Vector, .int .i64 v1.Saved, .bool v1.SavedUser, .int .i64 v1.Cause, .int .i64 v1.Bad, .int .i64 v1.Timer, .bool v1.Waits, .bool v1.User, .bool v1.On, .bool v1.Stopped, .sref 4 [] 0 (List.length v2) 1, .nil, .nil]⟩), (3, some ⟨3, (fl (eI .i64) v1.Regs)⟩), (4, some ⟨3, (fl (eI .i64) v2)⟩)]) (n' := 5) (fun K => by kernel_rfl) .nil ?_
  refine Aw.sreg [1, 2, 3] [0, 1, 2, 3, 4, 5] ?_
  refine yc (cs := []) (E' := (sp 21 [(1, .ptr 0 [] 0), (2, .ptr 1 [] 0), (3, .ptr 2 [] 0), (12, .ptr 0 [] 14), (13, bo (eI .i64) x_a.In)])) (H' := [(0, some ⟨58, (B_43 x_a)⟩), (1, some ⟨43, [.nil, .int .i64 (0 : Int), .int .i64 (0 : Int), .int .i64 (0 : Int), .int .i64 (0 : Int), .bool false, .int .i64 (0 : Int), .int .i64 (0 : Int), .int .i64 (0 : Int), .bool false, .bool false, .bool false, .bool false, .nil, .nil, .nil]⟩), (2, some ⟨43, [.sref 3 [] 0 (List.length v1.Regs) 1, .int .i64 v1.Pc, .int .i64 v1.Root, .int .i64 v1.Vector, .int .i64 v1.Saved, .bool v1.SavedUser, .int .i64 v1.Cause, .int .i64 v1.Bad, .int .i64 v1.Timer, .bool v1.Waits, .bool v1.User, .bool v1.On, .bool v1.Stopped, .sref 4 [] 0 (List.length v2) 1, .nil, .nil]⟩), (3, some ⟨3, (fl (eI .i64) v1.Regs)⟩), (4, some ⟨3, (fl (eI .i64) v2)⟩)]) (n' := 5) (pre := (List.take 2 L_laws_toBare_r4)) (L' := (List.drop 2 L_laws_toBare_r4)) (by kernel_rfl) (fun K => by kernel_rfl) .nil ?_
  obtain ⟨v3, hv3, hh⟩ := bind_some hh
  refine yso (op := (.call 79 [(.t 13)])) (d := (some 14)) (os := (List.drop 3 L_laws_toBare_r4)) (by kernel_rfl) (op_call (r := .own 3 1 (List.length v3) (fl (eI .i64) v3)) (v := .sref 5 [] 0 (List.length v3) 1) (Hr := [(5, some ⟨3, (fl (eI .i64) v3)⟩)]) (n' := 6) (laws_toIntS_fn hv3) (clz_v (vs := [bo (eI .i64) x_a.In]) (by kernel_rfl) (clz_c (clo_same (clean_bor (cleans_fl cl_eI))) clz_n)) (by simp only [AV.noRef, noRefs, Bool.and_self, noRefs_fl nr_eI]) (by simp only [AV.noBor, noBors, Bool.and_self, noBors_fl nb_eI]) (by kernel_rfl) ?_)
  refine yct (cs := []) (E' := (sp 21 [(1, .ptr 0 [] 0), (2, .ptr 1 [] 0), (3, .ptr 2 [] 0)])) (H' := [(0, some ⟨58, (B_43 x_a)⟩), (1, some ⟨43, [.nil, .int .i64 (0 : Int), .int .i64 (0 : Int), .int .i64 (0 : Int), .int .i64 (0 : Int), .bool false, .int .i64 (0 : Int), .int .i64 (0 : Int), .int .i64 (0 : Int), .bool false, .bool false, .bool false, .bool false, .nil, .nil, .nil]⟩), (2, some ⟨43, [.sref 3 [] 0 (List.length v1.Regs) 1, .int .i64 v1.Pc, .int .i64 v1.Root, .int .i64 v1.Vector, .int .i64 v1.Saved, .bool v1.SavedUser, .int .i64 v1.Cause, .int .i64 v1.Bad, .int .i64 v1.Timer, .bool v1.Waits, .bool v1.User, .bool v1.On, .bool v1.Stopped, .sref 4 [] 0 (List.length v2) 1, .sref 5 [] 0 (List.length v3) 1, .nil]⟩), (3, some ⟨3, (fl (eI .i64) v1.Regs)⟩), (4, some ⟨3, (fl (eI .i64) v2)⟩), (5, some ⟨3, (fl (eI .i64) v3)⟩)]) (n' := 6) (fun K => by kernel_rfl) .nil ?_
  refine Aw.sreg [2, 3] [1, 2, 3, 4, 5, 6] ?_
  refine yc (cs := []) (E' := (sp 21 [(1, .ptr 0 [] 0), (2, .ptr 1 [] 0), (3, .ptr 2 [] 0), (16, .ptr 0 [] 15), (17, bo (eI .i64) x_a.Out)])) (H' := [(0, some ⟨58, (B_43 x_a)⟩), (1, some ⟨43, [.nil, .int .i64 (0 : Int), .int .i64 (0 : Int), .int .i64 (0 : Int), .int .i64 (0 : Int), .bool false, .int .i64 (0 : Int), .int .i64 (0 : Int), .int .i64 (0 : Int), .bool false, .bool false, .bool false, .bool false, .nil, .nil, .nil]⟩), (2, some ⟨43, [.sref 3 [] 0 (List.length v1.Regs) 1, .int .i64 v1.Pc, .int .i64 v1.Root, .int .i64 v1.Vector, .int .i64 v1.Saved, .bool v1.SavedUser, .int .i64 v1.Cause, .int .i64 v1.Bad, .int .i64 v1.Timer, .bool v1.Waits, .bool v1.User, .bool v1.On, .bool v1.Stopped, .sref 4 [] 0 (List.length v2) 1, .sref 5 [] 0 (List.length v3) 1, .nil]⟩), (3, some ⟨3, (fl (eI .i64) v1.Regs)⟩), (4, some ⟨3, (fl (eI .i64) v2)⟩), (5, some ⟨3, (fl (eI .i64) v3)⟩)]) (n' := 6) (pre := (List.take 2 L_laws_toBare_r5)) (L' := (List.drop 2 L_laws_toBare_r5)) (by kernel_rfl) (fun K => by kernel_rfl) .nil ?_
  obtain ⟨v4, hv4, hh⟩ := bind_some hh
  refine yso (op := (.call 79 [(.t 17)])) (d := (some 18)) (os := (List.drop 3 L_laws_toBare_r5)) (by kernel_rfl) (op_call (r := .own 3 1 (List.length v4) (fl (eI .i64) v4)) (v := .sref 6 [] 0 (List.length v4) 1) (Hr := [(6, some ⟨3, (fl (eI .i64) v4)⟩)]) (n' := 7) (laws_toIntS_fn hv4) (clz_v (vs := [bo (eI .i64) x_a.Out]) (by kernel_rfl) (clz_c (clo_same (clean_bor (cleans_fl cl_eI))) clz_n)) (by simp only [AV.noRef, noRefs, Bool.and_self, noRefs_fl nr_eI]) (by simp only [AV.noBor, noBors, Bool.and_self, noBors_fl nb_eI]) (by kernel_rfl) ?_)
  refine yct (cs := []) (E' := (sp 21 [(2, .ptr 1 [] 0), (3, .ptr 2 [] 0)])) (H' := [(1, some ⟨43, [.nil, .int .i64 (0 : Int), .int .i64 (0 : Int), .int .i64 (0 : Int), .int .i64 (0 : Int), .bool false, .int .i64 (0 : Int), .int .i64 (0 : Int), .int .i64 (0 : Int), .bool false, .bool false, .bool false, .bool false, .nil, .nil, .nil]⟩), (2, some ⟨43, [.sref 3 [] 0 (List.length v1.Regs) 1, .int .i64 v1.Pc, .int .i64 v1.Root, .int .i64 v1.Vector, .int .i64 v1.Saved, .bool v1.SavedUser, .int .i64 v1.Cause, .int .i64 v1.Bad, .int .i64 v1.Timer, .bool v1.Waits, .bool v1.User, .bool v1.On, .bool v1.Stopped, .sref 4 [] 0 (List.length v2) 1, .sref 5 [] 0 (List.length v3) 1, .sref 6 [] 0 (List.length v4) 1]⟩), (3, some ⟨3, (fl (eI .i64) v1.Regs)⟩), (4, some ⟨3, (fl (eI .i64) v2)⟩), (5, some ⟨3, (fl (eI .i64) v3)⟩), (6, some ⟨3, (fl (eI .i64) v4)⟩)]) (n' := 7) (fun K => by kernel_rfl) .nil ?_
  refine Aw.sreg [2] [1, 3, 4, 5, 6] ?_
  refine yct (cs := []) (E' := (sp 21 [(2, .ptr 1 [] 0)])) (H' := [(1, some ⟨43, [.sref 3 [] 0 (List.length v1.Regs) 1, .int .i64 v1.Pc, .int .i64 v1.Root, .int .i64 v1.Vector, .int .i64 v1.Saved, .bool v1.SavedUser, .int .i64 v1.Cause, .int .i64 v1.Bad, .int .i64 v1.Timer, .bool v1.Waits, .bool v1.User, .bool v1.On, .bool v1.Stopped, .sref 4 [] 0 (List.length v2) 1, .sref 5 [] 0 (List.length v3) 1, .sref 6 [] 0 (List.length v4) 1]⟩), (3, some ⟨3, (fl (eI .i64) v1.Regs)⟩), (4, some ⟨3, (fl (eI .i64) v2)⟩), (5, some ⟨3, (fl (eI .i64) v3)⟩), (6, some ⟨3, (fl (eI .i64) v4)⟩)]) (n' := 7) (fun K => by kernel_rfl) .nil ?_
  refine Aw.ret ?_
  rw [some_some hh]
  exact gives (r' := .agg [.sref 3 [] 0 (List.length v1.Regs) 1, .int .i64 v1.Pc, .int .i64 v1.Root, .int .i64 v1.Vector, .int .i64 v1.Saved, .bool v1.SavedUser, .int .i64 v1.Cause, .int .i64 v1.Bad, .int .i64 v1.Timer, .bool v1.Waits, .bool v1.User, .bool v1.On, .bool v1.Stopped, .sref 4 [] 0 (List.length v2) 1, .sref 5 [] 0 (List.length v3) 1, .sref 6 [] 0 (List.length v4) 1]) (by kernel_rfl) (Ent.list [some 3, some 4, some 5, some 6] rfl rfl (Nat.zero_le _) (rens_1 (ren_agg (rens_c (ren_se (by decide) rfl rfl) (rens_c ren_i (rens_c ren_i (rens_c ren_i (rens_c ren_i (rens_c ren_b (rens_c ren_i (rens_c ren_i (rens_c ren_i (rens_c ren_b (rens_c ren_b (rens_c ren_b (rens_c ren_b (rens_c (ren_se (by decide) rfl rfl) (rens_c (ren_se (by decide) rfl rfl) (rens_c (ren_se (by decide) rfl rfl) rens_n)))))))))))))))))) (hs_as (t := ⟨3, (fl (eI .i64) v4)⟩) (by decide) rfl (by kernel_rfl) rfl (rens_same (noRefs_fl nr_eI)) (hs_as (t := ⟨3, (fl (eI .i64) v3)⟩) (by decide) rfl (by kernel_rfl) rfl (rens_same (noRefs_fl nr_eI)) (hs_as (t := ⟨3, (fl (eI .i64) v2)⟩) (by decide) rfl (by kernel_rfl) rfl (rens_same (noRefs_fl nr_eI)) (hs_as (t := ⟨3, (fl (eI .i64) v1.Regs)⟩) (by decide) rfl (by kernel_rfl) rfl (rens_same (noRefs_fl nr_eI)) hs_nil)))))

noncomputable def F_laws_eqBare (x_a : DBare) (x_b : DBare) : Option Bool :=
  Option.bind (F_laws_eqCore x_a.C x_b.C) fun v1 =>
  cond (!v1)
    (some false)
    (Option.bind (F_laws_eqIntS x_a.Mem x_b.Mem) fun v2 =>
    cond (!v2)
      (some false)
      (Option.bind (F_laws_eqIntS x_a.In x_b.In) fun v3 =>
      cond (!v3)
        (some false)
        (Option.bind (F_laws_eqIntS x_a.Out x_b.Out) fun v4 =>
        cond (!v4)
          (some false)
          (some true))))
theorem laws_eqBare_fn {x_a : DBare} {x_b : DBare} {R_ : Bool} (hh : F_laws_eqBare x_a x_b = some R_) : Fn Try.prog 48 [.agg (B_43 x_a), .agg (B_43 x_b)] (.bool R_) := by
  unfold F_laws_eqBare at hh
  refine Fn.start low_laws_eqBare [0, 1] (E := sp 29 [(0, .agg (B_43 x_a)), (1, .agg (B_43 x_b))]) (by kernel_rfl) (v := .bool R_) (Hr := []) (k := 0) (by kernel_rfl) ?_
  refine Aw.sreg [2, 3] [0, 1] ?_
  refine yct (cs := []) (E' := (sp 29 [(2, .ptr 0 [] 0), (3, .ptr 1 [] 0)])) (H' := [(0, some ⟨43, (B_43 x_a)⟩), (1, some ⟨43, (B_43 x_b)⟩)]) (n' := 2) (fun K => by kernel_rfl) .nil ?_
  refine Aw.seq ?_
  refine Aw.sreg [2, 3, 10] [0, 1] ?_
  refine yc (cs := []) (E' := (sp 29 [(2, .ptr 0 [] 0), (3, .ptr 1 [] 0), (5, .ptr 0 [] 0), (6, .agg (B_39 x_a.C)), (7, .ptr 1 [] 0), (8, .agg (B_39 x_b.C))])) (H' := [(0, some ⟨43, (B_43 x_a)⟩), (1, some ⟨43, (B_43 x_b)⟩)]) (n' := 2) (pre := (List.take 4 L_laws_eqBare_r1)) (L' := (List.drop 4 L_laws_eqBare_r1)) (by kernel_rfl) (fun K => by kernel_rfl) .nil ?_
  obtain ⟨v1, hv1, hh⟩ := bind_some hh
  refine yso (op := (.call 45 [(.t 6), (.t 8)])) (d := (some 9)) (os := (List.drop 5 L_laws_eqBare_r1)) (by kernel_rfl) (op_call (r := .bool v1) (v := .bool v1) (Hr := []) (n' := 2) (laws_eqCore_fn hv1) (clz_v (vs := [.agg (B_39 x_a.C), .agg (B_39 x_b.C)]) (by kernel_rfl) (clz_c (clo_same (clean_agg (cl_B_39 _))) (clz_c (clo_same (clean_agg (cl_B_39 _))) clz_n))) rfl rfl (by kernel_rfl) ?_)
  refine yct (cs := []) (E' := (sp 29 [(2, .ptr 0 [] 0), (3, .ptr 1 [] 0), (10, .bool (!v1))])) (H' := [(0, some ⟨43, (B_43 x_a)⟩), (1, some ⟨43, (B_43 x_b)⟩)]) (n' := 2) (fun K => by kernel_rfl) .nil ?_
  rcases cond_some hh with ⟨hb, hh⟩ | ⟨hb, hh⟩
  · refine Aw.condT (by kernel_rfl) hb ?_
    refine Aw.sreg [4] [] ?_
    refine yct (cs := []) (E' := (sp 29 [(4, .bool false)])) (H' := []) (n' := 2) (fun K => by kernel_rfl) .nil ?_
    refine Aw.ret ?_
    refine then_r ?_
    rw [some_some hh]
    exact gives (r' := .bool false) (by kernel_rfl) (Ent.list [] rfl rfl (Nat.zero_le _) (rens_1 ren_b) hs_nil)
  · refine Aw.condF (by kernel_rfl) hb ?_
    refine Aw.xskip (fun _ _ _ hq => then_m hq) ?_
    refine Aw.seq ?_
    refine Aw.sreg [2, 3, 16] [0, 1] ?_
    refine yc (cs := []) (E' := (sp 29 [(2, .ptr 0 [] 0), (3, .ptr 1 [] 0), (10, .bool (!v1)), (11, .ptr 0 [] 13), (12, bo (eI .i64) x_a.Mem), (13, .ptr 1 [] 13), (14, bo (eI .i64) x_b.Mem)])) (H' := [(0, some ⟨43, (B_43 x_a)⟩), (1, some ⟨43, (B_43 x_b)⟩)]) (n' := 2) (pre := (List.take 4 L_laws_eqBare_r3)) (L' := (List.drop 4 L_laws_eqBare_r3)) (by kernel_rfl) (fun K => by kernel_rfl) .nil ?_
    obtain ⟨v2, hv2, hh⟩ := bind_some hh
    refine yso (op := (.call 80 [(.t 12), (.t 14)])) (d := (some 15)) (os := (List.drop 5 L_laws_eqBare_r3)) (by kernel_rfl) (op_call (r := .bool v2) (v := .bool v2) (Hr := []) (n' := 2) (laws_eqIntS_fn hv2) (clz_v (vs := [bo (eI .i64) x_a.Mem, bo (eI .i64) x_b.Mem]) (by kernel_rfl) (clz_c (clo_same (clean_bor (cleans_fl cl_eI))) (clz_c (clo_same (clean_bor (cleans_fl cl_eI))) clz_n))) rfl rfl (by kernel_rfl) ?_)
    refine yct (cs := []) (E' := (sp 29 [(2, .ptr 0 [] 0), (3, .ptr 1 [] 0), (16, .bool (!v2))])) (H' := [(0, some ⟨43, (B_43 x_a)⟩), (1, some ⟨43, (B_43 x_b)⟩)]) (n' := 2) (fun K => by kernel_rfl) .nil ?_
    rcases cond_some hh with ⟨hb, hh⟩ | ⟨hb, hh⟩
    · refine Aw.condT (by kernel_rfl) hb ?_
      refine Aw.sreg [4] [] ?_
      refine yct (cs := []) (E' := (sp 29 [(4, .bool false)])) (H' := []) (n' := 2) (fun K => by kernel_rfl) .nil ?_
      refine Aw.ret ?_
      refine then_r ?_
      rw [some_some hh]
      exact gives (r' := .bool false) (by kernel_rfl) (Ent.list [] rfl rfl (Nat.zero_le _) (rens_1 ren_b) hs_nil)
    · refine Aw.condF (by kernel_rfl) hb ?_
      refine Aw.xskip (fun _ _ _ hq => then_m hq) ?_
      refine Aw.seq ?_
      refine Aw.sreg [2, 3, 22] [0, 1] ?_
      refine yc (cs := []) (E' := (sp 29 [(2, .ptr 0 [] 0), (3, .ptr 1 [] 0), (16, .bool (!v2)), (17, .ptr 0 [] 14), (18, bo (eI .i64) x_a.In), (19, .ptr 1 [] 14), (20, bo (eI .i64) x_b.In)])) (H' := [(0, some ⟨43, (B_43 x_a)⟩), (1, some ⟨43, (B_43 x_b)⟩)]) (n' := 2) (pre := (List.take 4 L_laws_eqBare_r5)) (L' := (List.drop 4 L_laws_eqBare_r5)) (by kernel_rfl) (fun K => by kernel_rfl) .nil ?_
      obtain ⟨v3, hv3, hh⟩ := bind_some hh
      refine yso (op := (.call 80 [(.t 18), (.t 20)])) (d := (some 21)) (os := (List.drop 5 L_laws_eqBare_r5)) (by kernel_rfl) (op_call (r := .bool v3) (v := .bool v3) (Hr := []) (n' := 2) (laws_eqIntS_fn hv3) (clz_v (vs := [bo (eI .i64) x_a.In, bo (eI .i64) x_b.In]) (by kernel_rfl) (clz_c (clo_same (clean_bor (cleans_fl cl_eI))) (clz_c (clo_same (clean_bor (cleans_fl cl_eI))) clz_n))) rfl rfl (by kernel_rfl) ?_)
      refine yct (cs := []) (E' := (sp 29 [(2, .ptr 0 [] 0), (3, .ptr 1 [] 0), (22, .bool (!v3))])) (H' := [(0, some ⟨43, (B_43 x_a)⟩), (1, some ⟨43, (B_43 x_b)⟩)]) (n' := 2) (fun K => by kernel_rfl) .nil ?_
      rcases cond_some hh with ⟨hb, hh⟩ | ⟨hb, hh⟩
      · refine Aw.condT (by kernel_rfl) hb ?_
        refine Aw.sreg [4] [] ?_
        refine yct (cs := []) (E' := (sp 29 [(4, .bool false)])) (H' := []) (n' := 2) (fun K => by kernel_rfl) .nil ?_
        refine Aw.ret ?_
        refine then_r ?_
        rw [some_some hh]
        exact gives (r' := .bool false) (by kernel_rfl) (Ent.list [] rfl rfl (Nat.zero_le _) (rens_1 ren_b) hs_nil)
      · refine Aw.condF (by kernel_rfl) hb ?_
        refine Aw.xskip (fun _ _ _ hq => then_m hq) ?_
        refine Aw.seq ?_
        refine Aw.sreg [28] [] ?_
        refine yc (cs := []) (E' := (sp 29 [(2, .ptr 0 [] 0), (3, .ptr 1 [] 0), (22, .bool (!v3)), (23, .ptr 0 [] 15), (24, bo (eI .i64) x_a.Out), (25, .ptr 1 [] 15), (26, bo (eI .i64) x_b.Out)])) (H' := [(0, some ⟨43, (B_43 x_a)⟩), (1, some ⟨43, (B_43 x_b)⟩)]) (n' := 2) (pre := (List.take 4 L_laws_eqBare_r7)) (L' := (List.drop 4 L_laws_eqBare_r7)) (by kernel_rfl) (fun K => by kernel_rfl) .nil ?_
        obtain ⟨v4, hv4, hh⟩ := bind_some hh
        refine yso (op := (.call 80 [(.t 24), (.t 26)])) (d := (some 27)) (os := (List.drop 5 L_laws_eqBare_r7)) (by kernel_rfl) (op_call (r := .bool v4) (v := .bool v4) (Hr := []) (n' := 2) (laws_eqIntS_fn hv4) (clz_v (vs := [bo (eI .i64) x_a.Out, bo (eI .i64) x_b.Out]) (by kernel_rfl) (clz_c (clo_same (clean_bor (cleans_fl cl_eI))) (clz_c (clo_same (clean_bor (cleans_fl cl_eI))) clz_n))) rfl rfl (by kernel_rfl) ?_)
        refine yct (cs := []) (E' := (sp 29 [(28, .bool (!v4))])) (H' := []) (n' := 2) (fun K => by kernel_rfl) .nil ?_
        rcases cond_some hh with ⟨hb, hh⟩ | ⟨hb, hh⟩
        · refine Aw.condT (by kernel_rfl) hb ?_
          refine Aw.sreg [4] [] ?_
          refine yct (cs := []) (E' := (sp 29 [(4, .bool false)])) (H' := []) (n' := 2) (fun K => by kernel_rfl) .nil ?_
          refine Aw.ret ?_
          refine then_r ?_
          rw [some_some hh]
          exact gives (r' := .bool false) (by kernel_rfl) (Ent.list [] rfl rfl (Nat.zero_le _) (rens_1 ren_b) hs_nil)
        · refine Aw.condF (by kernel_rfl) hb ?_
          refine Aw.xskip (fun _ _ _ hq => then_m hq) ?_
          refine Aw.sreg [4] [] ?_
          refine yct (cs := []) (E' := (sp 29 [(4, .bool true)])) (H' := []) (n' := 2) (fun K => by kernel_rfl) .nil ?_
          refine Aw.ret ?_
          rw [some_some hh]
          exact gives (r' := .bool true) (by kernel_rfl) (Ent.list [] rfl rfl (Nat.zero_le _) (rens_1 ren_b) hs_nil)

noncomputable def F_laws_FnExactBareOk (x_aB : DBare) : Option Bool :=
  Option.bind (F_laws_szBare x_aB (1048576 : Int)) fun v1 =>
  cond (decide (v1 < (0 : Int)))
    (some true)
    (Option.bind (F_laws_toBare x_aB) fun v2 =>
    Option.bind (F_spec_BareOk v2) fun v3 =>
    Option.bind (F_laws_toBare x_aB) fun v4 =>
    Option.bind (F_impl_BareOk v4) fun v5 =>
    cond (!(v5 == v3))
      (some false)
      (Option.bind (F_laws_toBare x_aB) fun v6 =>
      Option.bind (F_laws_eqBare v4 v6) fun v7 =>
      cond (!v7)
        (some false)
        (some true)))
theorem laws_FnExactBareOk_fn {x_aB : DBare} {R_ : Bool} (hh : F_laws_FnExactBareOk x_aB = some R_) : Fn Try.prog 12 [.agg (B_43 x_aB)] (.bool R_) := by
  unfold F_laws_FnExactBareOk at hh
  refine Fn.start low_laws_FnExactBareOk [0] (E := sp 27 [(0, .agg (B_43 x_aB))]) (by kernel_rfl) (v := .bool R_) (Hr := []) (k := 0) (by kernel_rfl) ?_
  refine Aw.sreg [1] [0] ?_
  refine yct (cs := []) (E' := (sp 27 [(1, .ptr 0 [] 0)])) (H' := [(0, some ⟨58, (B_43 x_aB)⟩)]) (n' := 1) (fun K => by kernel_rfl) .nil ?_
  refine Aw.sreg [1, 3] [0] ?_
  refine yct (cs := []) (E' := (sp 27 [(1, .ptr 0 [] 0), (3, .int .i64 (1048576 : Int))])) (H' := [(0, some ⟨58, (B_43 x_aB)⟩)]) (n' := 1) (fun K => by kernel_rfl) .nil ?_
  refine Aw.sreg [1, 3] [0] ?_
  refine yc (cs := []) (E' := (sp 27 [(1, .ptr 0 [] 0), (3, .int .i64 (1048576 : Int)), (7, .agg (B_43 x_aB)), (8, .int .i64 (1048576 : Int))])) (H' := [(0, some ⟨58, (B_43 x_aB)⟩)]) (n' := 1) (pre := (List.take 2 L_laws_FnExactBareOk_r2)) (L' := (List.drop 2 L_laws_FnExactBareOk_r2)) (by kernel_rfl) (fun K => by kernel_rfl) .nil ?_
  obtain ⟨v1, hv1, hh⟩ := bind_some hh
  refine yso (op := (.call 46 [(.t 7), (.t 8)])) (d := (some 9)) (os := (List.drop 3 L_laws_FnExactBareOk_r2)) (by kernel_rfl) (op_call (r := .int .i64 v1) (v := .int .i64 v1) (Hr := []) (n' := 1) (laws_szBare_fn hv1) (clz_v (vs := [.agg (B_43 x_aB), .int .i64 (1048576 : Int)]) (by kernel_rfl) (clz_c (clo_same (clean_agg (cl_B_43 _))) (clz_c (clo_same rfl) clz_n))) rfl rfl (by kernel_rfl) ?_)
  refine yct (cs := []) (E' := (sp 27 [(1, .ptr 0 [] 0), (3, .int .i64 v1)])) (H' := [(0, some ⟨58, (B_43 x_aB)⟩)]) (n' := 1) (fun K => by kernel_rfl) .nil ?_
  refine Aw.seq ?_
  refine Aw.sreg [1, 11] [0] ?_
  refine yct (cs := []) (E' := (sp 27 [(1, .ptr 0 [] 0), (11, .bool (decide (v1 < (0 : Int))))])) (H' := [(0, some ⟨58, (B_43 x_aB)⟩)]) (n' := 1) (fun K => by kernel_rfl) .nil ?_
  rcases cond_some hh with ⟨hb, hh⟩ | ⟨hb, hh⟩
  · refine Aw.condT (by kernel_rfl) hb ?_
    refine Aw.sreg [2] [] ?_
    refine yct (cs := []) (E' := (sp 27 [(2, .bool true)])) (H' := []) (n' := 1) (fun K => by kernel_rfl) .nil ?_
    refine Aw.ret ?_
    refine then_r ?_
    rw [some_some hh]
    exact gives (r' := .bool true) (by kernel_rfl) (Ent.list [] rfl rfl (Nat.zero_le _) (rens_1 ren_b) hs_nil)
  · refine Aw.condF (by kernel_rfl) hb ?_
    refine Aw.xskip (fun _ _ _ hq => then_m hq) ?_
    refine Aw.sreg [1, 4] [0] ?_
    refine yc (cs := []) (E' := (sp 27 [(1, .ptr 0 [] 0), (11, .bool (decide (v1 < (0 : Int)))), (12, .agg (B_43 x_aB))])) (H' := [(0, some ⟨58, (B_43 x_aB)⟩)]) (n' := 1) (pre := (List.take 1 L_laws_FnExactBareOk_r5)) (L' := (List.drop 1 L_laws_FnExactBareOk_r5)) (by kernel_rfl) (fun K => by kernel_rfl) .nil ?_
    obtain ⟨v2, hv2, hh⟩ := bind_some hh
    refine yso (op := (.call 47 [(.t 12)])) (d := (some 13)) (os := (List.drop 2 L_laws_FnExactBareOk_r5)) (by kernel_rfl) (op_call (r := .agg [.own 3 1 (List.length v2.C.Regs) (fl (eI .i64) v2.C.Regs), .int .i64 v2.C.Pc, .int .i64 v2.C.Root, .int .i64 v2.C.Vector, .int .i64 v2.C.Saved, .bool v2.C.SavedUser, .int .i64 v2.C.Cause, .int .i64 v2.C.Bad, .int .i64 v2.C.Timer, .bool v2.C.Waits, .bool v2.C.User, .bool v2.C.On, .bool v2.C.Stopped, .own 3 1 (List.length v2.Mem) (fl (eI .i64) v2.Mem), .own 3 1 (List.length v2.In) (fl (eI .i64) v2.In), .own 3 1 (List.length v2.Out) (fl (eI .i64) v2.Out)]) (v := .agg [.sref 1 [] 0 (List.length v2.C.Regs) 1, .int .i64 v2.C.Pc, .int .i64 v2.C.Root, .int .i64 v2.C.Vector, .int .i64 v2.C.Saved, .bool v2.C.SavedUser, .int .i64 v2.C.Cause, .int .i64 v2.C.Bad, .int .i64 v2.C.Timer, .bool v2.C.Waits, .bool v2.C.User, .bool v2.C.On, .bool v2.C.Stopped, .sref 2 [] 0 (List.length v2.Mem) 1, .sref 3 [] 0 (List.length v2.In) 1, .sref 4 [] 0 (List.length v2.Out) 1]) (Hr := [(4, some ⟨3, (fl (eI .i64) v2.Out)⟩), (3, some ⟨3, (fl (eI .i64) v2.In)⟩), (2, some ⟨3, (fl (eI .i64) v2.Mem)⟩), (1, some ⟨3, (fl (eI .i64) v2.C.Regs)⟩)]) (n' := 5) (laws_toBare_fn hv2) (clz_v (vs := [.agg (B_43 x_aB)]) (by kernel_rfl) (clz_c (clo_same (clean_agg (cl_B_43 _))) clz_n)) (by simp only [AV.noRef, noRefs, Bool.and_self, noRefs_fl nr_eI]) (by simp only [AV.noBor, noBors, Bool.and_self, noBors_fl nb_eI]) (by kernel_rfl) ?_)
    obtain ⟨v3, hv3, hh⟩ := bind_some hh
    refine yso (op := (.call 34 [(.t 13)])) (d := (some 14)) (os := (List.drop 3 L_laws_FnExactBareOk_r5)) (by kernel_rfl) (op_call (r := .bool v3) (v := .bool v3) (Hr := []) (n' := 5) (spec_BareOk_fn hv3) (clz_v (vs := [.agg [.sref 1 [] 0 (List.length v2.C.Regs) 1, .int .i64 v2.C.Pc, .int .i64 v2.C.Root, .int .i64 v2.C.Vector, .int .i64 v2.C.Saved, .bool v2.C.SavedUser, .int .i64 v2.C.Cause, .int .i64 v2.C.Bad, .int .i64 v2.C.Timer, .bool v2.C.Waits, .bool v2.C.User, .bool v2.C.On, .bool v2.C.Stopped, .sref 2 [] 0 (List.length v2.Mem) 1, .sref 3 [] 0 (List.length v2.In) 1, .sref 4 [] 0 (List.length v2.Out) 1]]) (by kernel_rfl) (clz_c (clo_agg (clos_c (clo_own (c := (eI .i64)) (xs := v2.C.Regs) (e := 3) (by first | rfl | omega | (simp only [List.length_set, over_len, List.length_replicate, List.length_append, List.length_cons, List.length_nil, List.length_take, List.length_drop] <;> omega)) len_eI no_eI cl_eI (by kernel_rfl)) (clos_c (clo_same rfl) (clos_c (clo_same rfl) (clos_c (clo_same rfl) (clos_c (clo_same rfl) (clos_c (clo_same rfl) (clos_c (clo_same rfl) (clos_c (clo_same rfl) (clos_c (clo_same rfl) (clos_c (clo_same rfl) (clos_c (clo_same rfl) (clos_c (clo_same rfl) (clos_c (clo_same rfl) (clos_c (clo_own (c := (eI .i64)) (xs := v2.Mem) (e := 3) (by first | rfl | omega | (simp only [List.length_set, over_len, List.length_replicate, List.length_append, List.length_cons, List.length_nil, List.length_take, List.length_drop] <;> omega)) len_eI no_eI cl_eI (by kernel_rfl)) (clos_c (clo_own (c := (eI .i64)) (xs := v2.In) (e := 3) (by first | rfl | omega | (simp only [List.length_set, over_len, List.length_replicate, List.length_append, List.length_cons, List.length_nil, List.length_take, List.length_drop] <;> omega)) len_eI no_eI cl_eI (by kernel_rfl)) (clos_c (clo_own (c := (eI .i64)) (xs := v2.Out) (e := 3) (by first | rfl | omega | (simp only [List.length_set, over_len, List.length_replicate, List.length_append, List.length_cons, List.length_nil, List.length_take, List.length_drop] <;> omega)) len_eI no_eI cl_eI (by kernel_rfl)) clos_n))))))))))))))))) clz_n)) rfl rfl (by kernel_rfl) ?_)
    refine yct (cs := []) (E' := (sp 27 [(1, .ptr 0 [] 0), (4, .bool v3)])) (H' := [(0, some ⟨58, (B_43 x_aB)⟩)]) (n' := 5) (fun K => by kernel_rfl) .nil ?_
    refine Aw.sreg [1, 4, 5] [0, 5, 6, 7, 8, 9] ?_
    refine yc (cs := []) (E' := (sp 27 [(1, .ptr 0 [] 0), (4, .bool v3), (15, .agg (B_43 x_aB))])) (H' := [(0, some ⟨58, (B_43 x_aB)⟩)]) (n' := 5) (pre := (List.take 1 L_laws_FnExactBareOk_r6)) (L' := (List.drop 1 L_laws_FnExactBareOk_r6)) (by kernel_rfl) (fun K => by kernel_rfl) .nil ?_
    obtain ⟨v4, hv4, hh⟩ := bind_some hh
    refine yso (op := (.call 47 [(.t 15)])) (d := (some 16)) (os := (List.drop 2 L_laws_FnExactBareOk_r6)) (by kernel_rfl) (op_call (r := .agg [.own 3 1 (List.length v4.C.Regs) (fl (eI .i64) v4.C.Regs), .int .i64 v4.C.Pc, .int .i64 v4.C.Root, .int .i64 v4.C.Vector, .int .i64 v4.C.Saved, .bool v4.C.SavedUser, .int .i64 v4.C.Cause, .int .i64 v4.C.Bad, .int .i64 v4.C.Timer, .bool v4.C.Waits, .bool v4.C.User, .bool v4.C.On, .bool v4.C.Stopped, .own 3 1 (List.length v4.Mem) (fl (eI .i64) v4.Mem), .own 3 1 (List.length v4.In) (fl (eI .i64) v4.In), .own 3 1 (List.length v4.Out) (fl (eI .i64) v4.Out)]) (v := .agg [.sref 5 [] 0 (List.length v4.C.Regs) 1, .int .i64 v4.C.Pc, .int .i64 v4.C.Root, .int .i64 v4.C.Vector, .int .i64 v4.C.Saved, .bool v4.C.SavedUser, .int .i64 v4.C.Cause, .int .i64 v4.C.Bad, .int .i64 v4.C.Timer, .bool v4.C.Waits, .bool v4.C.User, .bool v4.C.On, .bool v4.C.Stopped, .sref 6 [] 0 (List.length v4.Mem) 1, .sref 7 [] 0 (List.length v4.In) 1, .sref 8 [] 0 (List.length v4.Out) 1]) (Hr := [(8, some ⟨3, (fl (eI .i64) v4.Out)⟩), (7, some ⟨3, (fl (eI .i64) v4.In)⟩), (6, some ⟨3, (fl (eI .i64) v4.Mem)⟩), (5, some ⟨3, (fl (eI .i64) v4.C.Regs)⟩)]) (n' := 9) (laws_toBare_fn hv4) (clz_v (vs := [.agg (B_43 x_aB)]) (by kernel_rfl) (clz_c (clo_same (clean_agg (cl_B_43 _))) clz_n)) (by simp only [AV.noRef, noRefs, Bool.and_self, noRefs_fl nr_eI]) (by simp only [AV.noBor, noBors, Bool.and_self, noBors_fl nb_eI]) (by kernel_rfl) ?_)
    refine yct (cs := []) (E' := (sp 27 [(1, .ptr 0 [] 0), (4, .bool v3), (5, .ptr 9 [] 0)])) (H' := [(0, some ⟨58, (B_43 x_aB)⟩), (5, some ⟨3, (fl (eI .i64) v4.C.Regs)⟩), (6, some ⟨3, (fl (eI .i64) v4.Mem)⟩), (7, some ⟨3, (fl (eI .i64) v4.In)⟩), (8, some ⟨3, (fl (eI .i64) v4.Out)⟩), (9, some ⟨43, [.sref 5 [] 0 (List.length v4.C.Regs) 1, .int .i64 v4.C.Pc, .int .i64 v4.C.Root, .int .i64 v4.C.Vector, .int .i64 v4.C.Saved, .bool v4.C.SavedUser, .int .i64 v4.C.Cause, .int .i64 v4.C.Bad, .int .i64 v4.C.Timer, .bool v4.C.Waits, .bool v4.C.User, .bool v4.C.On, .bool v4.C.Stopped, .sref 6 [] 0 (List.length v4.Mem) 1, .sref 7 [] 0 (List.length v4.In) 1, .sref 8 [] 0 (List.length v4.Out) 1]⟩)]) (n' := 10) (fun K => by kernel_rfl) .nil ?_
    refine Aw.sreg [1, 4, 5, 6] [0, 5, 6, 7, 8, 9] ?_
    refine yc (cs := []) (E' := (sp 27 [(1, .ptr 0 [] 0), (4, .bool v3), (5, .ptr 9 [] 0), (17, .agg [.sref 5 [] 0 (List.length v4.C.Regs) 1, .int .i64 v4.C.Pc, .int .i64 v4.C.Root, .int .i64 v4.C.Vector, .int .i64 v4.C.Saved, .bool v4.C.SavedUser, .int .i64 v4.C.Cause, .int .i64 v4.C.Bad, .int .i64 v4.C.Timer, .bool v4.C.Waits, .bool v4.C.User, .bool v4.C.On, .bool v4.C.Stopped, .sref 6 [] 0 (List.length v4.Mem) 1, .sref 7 [] 0 (List.length v4.In) 1, .sref 8 [] 0 (List.length v4.Out) 1])])) (H' := [(0, some ⟨58, (B_43 x_aB)⟩), (5, some ⟨3, (fl (eI .i64) v4.C.Regs)⟩), (6, some ⟨3, (fl (eI .i64) v4.Mem)⟩), (7, some ⟨3, (fl (eI .i64) v4.In)⟩), (8, some ⟨3, (fl (eI .i64) v4.Out)⟩), (9, some ⟨43, [.sref 5 [] 0 (List.length v4.C.Regs) 1, .int .i64 v4.C.Pc, .int .i64 v4.C.Root, .int .i64 v4.C.Vector, .int .i64 v4.C.Saved, .bool v4.C.SavedUser, .int .i64 v4.C.Cause, .int .i64 v4.C.Bad, .int .i64 v4.C.Timer, .bool v4.C.Waits, .bool v4.C.User, .bool v4.C.On, .bool v4.C.Stopped, .sref 6 [] 0 (List.length v4.Mem) 1, .sref 7 [] 0 (List.length v4.In) 1, .sref 8 [] 0 (List.length v4.Out) 1]⟩)]) (n' := 10) (pre := (List.take 1 L_laws_FnExactBareOk_r7)) (L' := (List.drop 1 L_laws_FnExactBareOk_r7)) (by kernel_rfl) (fun K => by kernel_rfl) .nil ?_
    obtain ⟨v5, hv5, hh⟩ := bind_some hh
    refine yso (op := (.call 33 [(.t 17)])) (d := (some 18)) (os := (List.drop 2 L_laws_FnExactBareOk_r7)) (by kernel_rfl) (op_call (r := .bool v5) (v := .bool v5) (Hr := []) (n' := 10) (impl_BareOk_fn hv5) (clz_v (vs := [.agg [.sref 5 [] 0 (List.length v4.C.Regs) 1, .int .i64 v4.C.Pc, .int .i64 v4.C.Root, .int .i64 v4.C.Vector, .int .i64 v4.C.Saved, .bool v4.C.SavedUser, .int .i64 v4.C.Cause, .int .i64 v4.C.Bad, .int .i64 v4.C.Timer, .bool v4.C.Waits, .bool v4.C.User, .bool v4.C.On, .bool v4.C.Stopped, .sref 6 [] 0 (List.length v4.Mem) 1, .sref 7 [] 0 (List.length v4.In) 1, .sref 8 [] 0 (List.length v4.Out) 1]]) (by kernel_rfl) (clz_c (clo_agg (clos_c (clo_own (c := (eI .i64)) (xs := v4.C.Regs) (e := 3) (by first | rfl | omega | (simp only [List.length_set, over_len, List.length_replicate, List.length_append, List.length_cons, List.length_nil, List.length_take, List.length_drop] <;> omega)) len_eI no_eI cl_eI (by kernel_rfl)) (clos_c (clo_same rfl) (clos_c (clo_same rfl) (clos_c (clo_same rfl) (clos_c (clo_same rfl) (clos_c (clo_same rfl) (clos_c (clo_same rfl) (clos_c (clo_same rfl) (clos_c (clo_same rfl) (clos_c (clo_same rfl) (clos_c (clo_same rfl) (clos_c (clo_same rfl) (clos_c (clo_same rfl) (clos_c (clo_own (c := (eI .i64)) (xs := v4.Mem) (e := 3) (by first | rfl | omega | (simp only [List.length_set, over_len, List.length_replicate, List.length_append, List.length_cons, List.length_nil, List.length_take, List.length_drop] <;> omega)) len_eI no_eI cl_eI (by kernel_rfl)) (clos_c (clo_own (c := (eI .i64)) (xs := v4.In) (e := 3) (by first | rfl | omega | (simp only [List.length_set, over_len, List.length_replicate, List.length_append, List.length_cons, List.length_nil, List.length_take, List.length_drop] <;> omega)) len_eI no_eI cl_eI (by kernel_rfl)) (clos_c (clo_own (c := (eI .i64)) (xs := v4.Out) (e := 3) (by first | rfl | omega | (simp only [List.length_set, over_len, List.length_replicate, List.length_append, List.length_cons, List.length_nil, List.length_take, List.length_drop] <;> omega)) len_eI no_eI cl_eI (by kernel_rfl)) clos_n))))))))))))))))) clz_n)) rfl rfl (by kernel_rfl) ?_)
    refine yct (cs := []) (E' := (sp 27 [(1, .ptr 0 [] 0), (4, .bool v3), (5, .ptr 9 [] 0), (6, .bool v5)])) (H' := [(0, some ⟨58, (B_43 x_aB)⟩), (5, some ⟨3, (fl (eI .i64) v4.C.Regs)⟩), (6, some ⟨3, (fl (eI .i64) v4.Mem)⟩), (7, some ⟨3, (fl (eI .i64) v4.In)⟩), (8, some ⟨3, (fl (eI .i64) v4.Out)⟩), (9, some ⟨43, [.sref 5 [] 0 (List.length v4.C.Regs) 1, .int .i64 v4.C.Pc, .int .i64 v4.C.Root, .int .i64 v4.C.Vector, .int .i64 v4.C.Saved, .bool v4.C.SavedUser, .int .i64 v4.C.Cause, .int .i64 v4.C.Bad, .int .i64 v4.C.Timer, .bool v4.C.Waits, .bool v4.C.User, .bool v4.C.On, .bool v4.C.Stopped, .sref 6 [] 0 (List.length v4.Mem) 1, .sref 7 [] 0 (List.length v4.In) 1, .sref 8 [] 0 (List.length v4.Out) 1]⟩)]) (n' := 10) (fun K => by kernel_rfl) .nil ?_
    refine Aw.seq ?_
    refine Aw.sreg [1, 5, 21] [0, 5, 6, 7, 8, 9] ?_
    refine yct (cs := []) (E' := (sp 27 [(1, .ptr 0 [] 0), (5, .ptr 9 [] 0), (21, .bool (!(v5 == v3)))])) (H' := [(0, some ⟨58, (B_43 x_aB)⟩), (5, some ⟨3, (fl (eI .i64) v4.C.Regs)⟩), (6, some ⟨3, (fl (eI .i64) v4.Mem)⟩), (7, some ⟨3, (fl (eI .i64) v4.In)⟩), (8, some ⟨3, (fl (eI .i64) v4.Out)⟩), (9, some ⟨43, [.sref 5 [] 0 (List.length v4.C.Regs) 1, .int .i64 v4.C.Pc, .int .i64 v4.C.Root, .int .i64 v4.C.Vector, .int .i64 v4.C.Saved, .bool v4.C.SavedUser, .int .i64 v4.C.Cause, .int .i64 v4.C.Bad, .int .i64 v4.C.Timer, .bool v4.C.Waits, .bool v4.C.User, .bool v4.C.On, .bool v4.C.Stopped, .sref 6 [] 0 (List.length v4.Mem) 1, .sref 7 [] 0 (List.length v4.In) 1, .sref 8 [] 0 (List.length v4.Out) 1]⟩)]) (n' := 10) (fun K => by kernel_rfl) .nil ?_
    rcases cond_some hh with ⟨hb, hh⟩ | ⟨hb, hh⟩
    · refine Aw.condT (by kernel_rfl) hb ?_
      refine Aw.sreg [2] [] ?_
      refine yct (cs := []) (E' := (sp 27 [(2, .bool false)])) (H' := []) (n' := 10) (fun K => by kernel_rfl) .nil ?_
      refine Aw.ret ?_
      refine then_r ?_
      rw [some_some hh]
      exact gives (r' := .bool false) (by kernel_rfl) (Ent.list [] rfl rfl (Nat.zero_le _) (rens_1 ren_b) hs_nil)
    · refine Aw.condF (by kernel_rfl) hb ?_
      refine Aw.xskip (fun _ _ _ hq => then_m hq) ?_
      refine Aw.seq ?_
      refine Aw.sregd [26] [] [] (by kernel_rfl) ?_
      refine dc (cs := []) (E' := (sp 27 [(1, .ptr 0 [] 0), (5, .ptr 9 [] 0), (21, .bool (!(v5 == v3))), (22, .agg [.sref 5 [] 0 (List.length v4.C.Regs) 1, .int .i64 v4.C.Pc, .int .i64 v4.C.Root, .int .i64 v4.C.Vector, .int .i64 v4.C.Saved, .bool v4.C.SavedUser, .int .i64 v4.C.Cause, .int .i64 v4.C.Bad, .int .i64 v4.C.Timer, .bool v4.C.Waits, .bool v4.C.User, .bool v4.C.On, .bool v4.C.Stopped, .sref 6 [] 0 (List.length v4.Mem) 1, .sref 7 [] 0 (List.length v4.In) 1, .sref 8 [] 0 (List.length v4.Out) 1]), (23, .agg (B_43 x_aB))])) (H' := [(0, some ⟨58, (B_43 x_aB)⟩), (5, some ⟨3, (fl (eI .i64) v4.C.Regs)⟩), (6, some ⟨3, (fl (eI .i64) v4.Mem)⟩), (7, some ⟨3, (fl (eI .i64) v4.In)⟩), (8, some ⟨3, (fl (eI .i64) v4.Out)⟩), (9, some ⟨43, [.sref 5 [] 0 (List.length v4.C.Regs) 1, .int .i64 v4.C.Pc, .int .i64 v4.C.Root, .int .i64 v4.C.Vector, .int .i64 v4.C.Saved, .bool v4.C.SavedUser, .int .i64 v4.C.Cause, .int .i64 v4.C.Bad, .int .i64 v4.C.Timer, .bool v4.C.Waits, .bool v4.C.User, .bool v4.C.On, .bool v4.C.Stopped, .sref 6 [] 0 (List.length v4.Mem) 1, .sref 7 [] 0 (List.length v4.In) 1, .sref 8 [] 0 (List.length v4.Out) 1]⟩)]) (n' := 10) (fs' := none) (pre := (List.take 2 L_laws_FnExactBareOk_r10)) (L' := (List.drop 2 L_laws_FnExactBareOk_r10)) (by kernel_rfl) (fun K => by kernel_rfl) .nil ?_
      obtain ⟨v6, hv6, hh⟩ := bind_some hh
      refine dso (op := (.call 47 [(.t 23)])) (d := (some 24)) (os := (List.drop 3 L_laws_FnExactBareOk_r10)) (by kernel_rfl) rfl (ydo_n rfl (op_call (r := .agg [.own 3 1 (List.length v6.C.Regs) (fl (eI .i64) v6.C.Regs), .int .i64 v6.C.Pc, .int .i64 v6.C.Root, .int .i64 v6.C.Vector, .int .i64 v6.C.Saved, .bool v6.C.SavedUser, .int .i64 v6.C.Cause, .int .i64 v6.C.Bad, .int .i64 v6.C.Timer, .bool v6.C.Waits, .bool v6.C.User, .bool v6.C.On, .bool v6.C.Stopped, .own 3 1 (List.length v6.Mem) (fl (eI .i64) v6.Mem), .own 3 1 (List.length v6.In) (fl (eI .i64) v6.In), .own 3 1 (List.length v6.Out) (fl (eI .i64) v6.Out)]) (v := .agg [.sref 10 [] 0 (List.length v6.C.Regs) 1, .int .i64 v6.C.Pc, .int .i64 v6.C.Root, .int .i64 v6.C.Vector, .int .i64 v6.C.Saved, .bool v6.C.SavedUser, .int .i64 v6.C.Cause, .int .i64 v6.C.Bad, .int .i64 v6.C.Timer, .bool v6.C.Waits, .bool v6.C.User, .bool v6.C.On, .bool v6.C.Stopped, .sref 11 [] 0 (List.length v6.Mem) 1, .sref 12 [] 0 (List.length v6.In) 1, .sref 13 [] 0 (List.length v6.Out) 1]) (Hr := [(13, some ⟨3, (fl (eI .i64) v6.Out)⟩), (12, some ⟨3, (fl (eI .i64) v6.In)⟩), (11, some ⟨3, (fl (eI .i64) v6.Mem)⟩), (10, some ⟨3, (fl (eI .i64) v6.C.Regs)⟩)]) (n' := 14) (laws_toBare_fn hv6) (clz_v (vs := [.agg (B_43 x_aB)]) (by kernel_rfl) (clz_c (clo_same (clean_agg (cl_B_43 _))) clz_n)) (by simp only [AV.noRef, noRefs, Bool.and_self, noRefs_fl nr_eI]) (by simp only [AV.noBor, noBors, Bool.and_self, noBors_fl nb_eI]) (by kernel_rfl) ⟨⟨agr_name (n := 10) (n0 := 10) (r := .agg [.own 3 1 (List.length v6.C.Regs) (fl (eI .i64) v6.C.Regs), .int .i64 v6.C.Pc, .int .i64 v6.C.Root, .int .i64 v6.C.Vector, .int .i64 v6.C.Saved, .bool v6.C.SavedUser, .int .i64 v6.C.Cause, .int .i64 v6.C.Bad, .int .i64 v6.C.Timer, .bool v6.C.Waits, .bool v6.C.User, .bool v6.C.On, .bool v6.C.Stopped, .own 3 1 (List.length v6.Mem) (fl (eI .i64) v6.Mem), .own 3 1 (List.length v6.In) (fl (eI .i64) v6.In), .own 3 1 (List.length v6.Out) (fl (eI .i64) v6.Out)]) (v := .agg [.sref 10 [] 0 (List.length v6.C.Regs) 1, .int .i64 v6.C.Pc, .int .i64 v6.C.Root, .int .i64 v6.C.Vector, .int .i64 v6.C.Saved, .bool v6.C.SavedUser, .int .i64 v6.C.Cause, .int .i64 v6.C.Bad, .int .i64 v6.C.Timer, .bool v6.C.Waits, .bool v6.C.User, .bool v6.C.On, .bool v6.C.Stopped, .sref 11 [] 0 (List.length v6.Mem) 1, .sref 12 [] 0 (List.length v6.In) 1, .sref 13 [] 0 (List.length v6.Out) 1]) (Hr := [(13, some ⟨3, (fl (eI .i64) v6.Out)⟩), (12, some ⟨3, (fl (eI .i64) v6.In)⟩), (11, some ⟨3, (fl (eI .i64) v6.Mem)⟩), (10, some ⟨3, (fl (eI .i64) v6.C.Regs)⟩)]) (n' := 14) (by kernel_rfl) (by decide), Hld.un ?_⟩⟩))
      obtain ⟨v7, hv7, hh⟩ := bind_some hh
      refine dso (op := (.call 48 [(.t 22), (.t 24)])) (d := (some 25)) (os := (List.drop 4 L_laws_FnExactBareOk_r10)) (by kernel_rfl) rfl (ydo_n rfl (op_call (r := .bool v7) (v := .bool v7) (Hr := []) (n' := 14) (laws_eqBare_fn hv7) (clz_v (vs := [.agg [.sref 5 [] 0 (List.length v4.C.Regs) 1, .int .i64 v4.C.Pc, .int .i64 v4.C.Root, .int .i64 v4.C.Vector, .int .i64 v4.C.Saved, .bool v4.C.SavedUser, .int .i64 v4.C.Cause, .int .i64 v4.C.Bad, .int .i64 v4.C.Timer, .bool v4.C.Waits, .bool v4.C.User, .bool v4.C.On, .bool v4.C.Stopped, .sref 6 [] 0 (List.length v4.Mem) 1, .sref 7 [] 0 (List.length v4.In) 1, .sref 8 [] 0 (List.length v4.Out) 1], .agg [.sref 10 [] 0 (List.length v6.C.Regs) 1, .int .i64 v6.C.Pc, .int .i64 v6.C.Root, .int .i64 v6.C.Vector, .int .i64 v6.C.Saved, .bool v6.C.SavedUser, .int .i64 v6.C.Cause, .int .i64 v6.C.Bad, .int .i64 v6.C.Timer, .bool v6.C.Waits, .bool v6.C.User, .bool v6.C.On, .bool v6.C.Stopped, .sref 11 [] 0 (List.length v6.Mem) 1, .sref 12 [] 0 (List.length v6.In) 1, .sref 13 [] 0 (List.length v6.Out) 1]]) (by kernel_rfl) (clz_c (clo_agg (clos_c (clo_own (c := (eI .i64)) (xs := v4.C.Regs) (e := 3) (by first | rfl | omega | (simp only [List.length_set, over_len, List.length_replicate, List.length_append, List.length_cons, List.length_nil, List.length_take, List.length_drop] <;> omega)) len_eI no_eI cl_eI (by kernel_rfl)) (clos_c (clo_same rfl) (clos_c (clo_same rfl) (clos_c (clo_same rfl) (clos_c (clo_same rfl) (clos_c (clo_same rfl) (clos_c (clo_same rfl) (clos_c (clo_same rfl) (clos_c (clo_same rfl) (clos_c (clo_same rfl) (clos_c (clo_same rfl) (clos_c (clo_same rfl) (clos_c (clo_same rfl) (clos_c (clo_own (c := (eI .i64)) (xs := v4.Mem) (e := 3) (by first | rfl | omega | (simp only [List.length_set, over_len, List.length_replicate, List.length_append, List.length_cons, List.length_nil, List.length_take, List.length_drop] <;> omega)) len_eI no_eI cl_eI (by kernel_rfl)) (clos_c (clo_own (c := (eI .i64)) (xs := v4.In) (e := 3) (by first | rfl | omega | (simp only [List.length_set, over_len, List.length_replicate, List.length_append, List.length_cons, List.length_nil, List.length_take, List.length_drop] <;> omega)) len_eI no_eI cl_eI (by kernel_rfl)) (clos_c (clo_own (c := (eI .i64)) (xs := v4.Out) (e := 3) (by first | rfl | omega | (simp only [List.length_set, over_len, List.length_replicate, List.length_append, List.length_cons, List.length_nil, List.length_take, List.length_drop] <;> omega)) len_eI no_eI cl_eI (by kernel_rfl)) clos_n))))))))))))))))) (clz_c (clo_agg (clos_c (clo_own (c := (eI .i64)) (xs := v6.C.Regs) (e := 3) (by first | rfl | omega | (simp only [List.length_set, over_len, List.length_replicate, List.length_append, List.length_cons, List.length_nil, List.length_take, List.length_drop] <;> omega)) len_eI no_eI cl_eI (by kernel_rfl)) (clos_c (clo_same rfl) (clos_c (clo_same rfl) (clos_c (clo_same rfl) (clos_c (clo_same rfl) (clos_c (clo_same rfl) (clos_c (clo_same rfl) (clos_c (clo_same rfl) (clos_c (clo_same rfl) (clos_c (clo_same rfl) (clos_c (clo_same rfl) (clos_c (clo_same rfl) (clos_c (clo_same rfl) (clos_c (clo_own (c := (eI .i64)) (xs := v6.Mem) (e := 3) (by first | rfl | omega | (simp only [List.length_set, over_len, List.length_replicate, List.length_append, List.length_cons, List.length_nil, List.length_take, List.length_drop] <;> omega)) len_eI no_eI cl_eI (by kernel_rfl)) (clos_c (clo_own (c := (eI .i64)) (xs := v6.In) (e := 3) (by first | rfl | omega | (simp only [List.length_set, over_len, List.length_replicate, List.length_append, List.length_cons, List.length_nil, List.length_take, List.length_drop] <;> omega)) len_eI no_eI cl_eI (by kernel_rfl)) (clos_c (clo_own (c := (eI .i64)) (xs := v6.Out) (e := 3) (by first | rfl | omega | (simp only [List.length_set, over_len, List.length_replicate, List.length_append, List.length_cons, List.length_nil, List.length_take, List.length_drop] <;> omega)) len_eI no_eI cl_eI (by kernel_rfl)) clos_n))))))))))))))))) clz_n))) rfl rfl (by kernel_rfl) ⟨⟨agr_name (n := 14) (n0 := 10) (r := .bool v7) (v := .bool v7) (Hr := []) (n' := 14) (by kernel_rfl) (by decide), Hld.un ?_⟩⟩))
      refine dct (cs := []) (E' := (sp 27 [(1, .ptr 0 [] 0), (5, .ptr 9 [] 0), (21, .bool (!(v5 == v3))), (22, .agg [.sref 5 [] 0 (List.length v4.C.Regs) 1, .int .i64 v4.C.Pc, .int .i64 v4.C.Root, .int .i64 v4.C.Vector, .int .i64 v4.C.Saved, .bool v4.C.SavedUser, .int .i64 v4.C.Cause, .int .i64 v4.C.Bad, .int .i64 v4.C.Timer, .bool v4.C.Waits, .bool v4.C.User, .bool v4.C.On, .bool v4.C.Stopped, .sref 6 [] 0 (List.length v4.Mem) 1, .sref 7 [] 0 (List.length v4.In) 1, .sref 8 [] 0 (List.length v4.Out) 1]), (23, .agg (B_43 x_aB)), (24, .agg [.sref 10 [] 0 (List.length v6.C.Regs) 1, .int .i64 v6.C.Pc, .int .i64 v6.C.Root, .int .i64 v6.C.Vector, .int .i64 v6.C.Saved, .bool v6.C.SavedUser, .int .i64 v6.C.Cause, .int .i64 v6.C.Bad, .int .i64 v6.C.Timer, .bool v6.C.Waits, .bool v6.C.User, .bool v6.C.On, .bool v6.C.Stopped, .sref 11 [] 0 (List.length v6.Mem) 1, .sref 12 [] 0 (List.length v6.In) 1, .sref 13 [] 0 (List.length v6.Out) 1]), (25, .bool v7)])) (H' := [(13, some ⟨3, (fl (eI .i64) v6.Out)⟩), (12, some ⟨3, (fl (eI .i64) v6.In)⟩), (11, some ⟨3, (fl (eI .i64) v6.Mem)⟩), (10, some ⟨3, (fl (eI .i64) v6.C.Regs)⟩), (0, some ⟨58, (B_43 x_aB)⟩), (5, some ⟨3, (fl (eI .i64) v4.C.Regs)⟩), (6, some ⟨3, (fl (eI .i64) v4.Mem)⟩), (7, some ⟨3, (fl (eI .i64) v4.In)⟩), (8, some ⟨3, (fl (eI .i64) v4.Out)⟩), (9, some ⟨43, [.sref 5 [] 0 (List.length v4.C.Regs) 1, .int .i64 v4.C.Pc, .int .i64 v4.C.Root, .int .i64 v4.C.Vector, .int .i64 v4.C.Saved, .bool v4.C.SavedUser, .int .i64 v4.C.Cause, .int .i64 v4.C.Bad, .int .i64 v4.C.Timer, .bool v4.C.Waits, .bool v4.C.User, .bool v4.C.On, .bool v4.C.Stopped, .sref 6 [] 0 (List.length v4.Mem) 1, .sref 7 [] 0 (List.length v4.In) 1, .sref 8 [] 0 (List.length v4.Out) 1]⟩)]) (n' := 14) (fun K => by kernel_rfl) .nil ?_
      refine yct (cs := []) (E' := (sp 27 [(26, .bool (!v7))])) (H' := []) (n' := 14) (fun K => by kernel_rfl) .nil ?_
      rcases cond_some hh with ⟨hb, hh⟩ | ⟨hb, hh⟩
      · refine Aw.condT (by kernel_rfl) hb ?_
        refine Aw.sreg [2] [] ?_
        refine yct (cs := []) (E' := (sp 27 [(2, .bool false)])) (H' := []) (n' := 14) (fun K => by kernel_rfl) .nil ?_
        refine Aw.ret ?_
        refine then_r ?_
        rw [some_some hh]
        exact gives (r' := .bool false) (by kernel_rfl) (Ent.list [] rfl rfl (Nat.zero_le _) (rens_1 ren_b) hs_nil)
      · refine Aw.condF (by kernel_rfl) hb ?_
        refine Aw.xskip (fun _ _ _ hq => then_m hq) ?_
        refine Aw.sreg [2] [] ?_
        refine yct (cs := []) (E' := (sp 27 [(2, .bool true)])) (H' := []) (n' := 14) (fun K => by kernel_rfl) .nil ?_
        refine Aw.ret ?_
        rw [some_some hh]
        exact gives (r' := .bool true) (by kernel_rfl) (Ent.list [] rfl rfl (Nat.zero_le _) (rens_1 ren_b) hs_nil)

end Go.Proofs.Ythbefahhpikcaaa
