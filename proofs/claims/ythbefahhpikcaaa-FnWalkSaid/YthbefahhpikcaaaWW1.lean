/- Plain functions of the program, and that it hands back what they say. Made by program. -/
import Derived.Test.YthbefahhpikcaaaWT
import Derived.Test.YthbefahhpikcaaaProg
import Derived.Test.YthbefahhpikcaaaWE1
import Derived.Test.YthbefahhpikcaaaWM1
import Derived.Test.YthbefahhpikcaaaWO1
namespace Go.Proofs.Ythbefahhpikcaaa
open Go.RowKit
set_option maxRecDepth 100000
set_option linter.all false
set_option maxHeartbeats 0

-- 26 loop.example/guesthouse/spec.DrawWalk
def L_spec_DrawWalk_r0 : List LOper := [⟨(some 2), (.mv (.c .nil)), none⟩, ⟨(some 3), (.mv (.c (.int .i64 0))), none⟩, ⟨(some 4), (.mv (.c (.int .i64 0))), none⟩, ⟨(some 5), (.mv (.c (.bool false))), none⟩, ⟨(some 6), (.mv (.c (.bool false))), none⟩]
def L_spec_DrawWalk_r1 : List LOper := [⟨(some 9), (.mv (.t 0)), none⟩, ⟨(some 10), (.call 52 [(.t 9)]), none⟩, ⟨(some 7), (.mv (.t 10)), none⟩]
def L_spec_DrawWalk_r2 : List LOper := [⟨(some 11), (.mv (.t 7)), none⟩, ⟨(some 12), (.call 55 [(.t 11), (.c (.int .i64 10))]), none⟩, ⟨(some 13), (.bin .sub (.t 12) (.c (.int .i64 1))), none⟩, ⟨(some 14), (.bsl 3 1 6 [(.int .i64 0)] [(0, (1, (.c (.int .i64 (-1))))), (1, (1, (.c (.int .i64 1)))), (2, (1, (.c (.int .i64 2)))), (3, (1, (.c (.int .i64 1)))), (4, (1, (.c (.int .i64 2)))), (5, (1, (.t 13)))]), none⟩, ⟨(some 15), (.mv (.t 7)), none⟩, ⟨(some 16), (.call 55 [(.t 15), (.c (.int .i64 6))]), none⟩, ⟨(some 17), (.iadr 1 (.t 14) (.t 16)), none⟩, ⟨(some 18), (.load false 1 (.t 17)), none⟩, ⟨(some 8), (.mv (.t 18)), none⟩]
def L_spec_DrawWalk_r3 : List LOper := [⟨(some 19), (.mv (.t 7)), none⟩, ⟨(some 20), (.call 51 [(.t 19), (.c (.int .i64 20))]), none⟩, ⟨(some 21), (.mv (.t 8)), none⟩, ⟨(some 22), (.mv (.t 7)), none⟩, ⟨(some 23), (.call 55 [(.t 22), (.c (.int .i64 66))]), none⟩, ⟨(some 24), (.bin .sub (.t 23) (.c (.int .i64 1))), none⟩, ⟨(some 25), (.mv (.t 7)), none⟩, ⟨(some 26), (.call 55 [(.t 25), (.c (.int .i64 2))]), none⟩, ⟨(some 27), (.bin .eql (.t 26) (.c (.int .i64 0))), none⟩, ⟨(some 28), (.mv (.t 7)), none⟩, ⟨(some 29), (.call 55 [(.t 28), (.c (.int .i64 2))]), none⟩, ⟨(some 30), (.bin .eql (.t 29) (.c (.int .i64 0))), none⟩, ⟨(some 2), (.mv (.t 20)), none⟩, ⟨(some 3), (.mv (.t 21)), none⟩, ⟨(some 4), (.mv (.t 24)), none⟩, ⟨(some 5), (.mv (.t 27)), none⟩, ⟨(some 6), (.mv (.t 30)), none⟩]
def L_spec_DrawWalk : LFun := ⟨31, [(.tmp 2), (.tmp 3), (.tmp 4), (.tmp 5), (.tmp 6)], (.seq (.reg false L_spec_DrawWalk_r0) (.seq (.reg false L_spec_DrawWalk_r1) (.seq (.reg false L_spec_DrawWalk_r2) (.seq (.reg false L_spec_DrawWalk_r3) .ret))))⟩
theorem low_spec_DrawWalk : lowFun Go.Proofs.Try.prog 26 = some L_spec_DrawWalk := by kernel_rfl
noncomputable def F_spec_DrawWalk (x_code : List Int) : Option ((List Int) × Int × Int × Bool × Bool) :=
  Option.bind (F_spec_l20Open x_code) fun v1 =>
  Option.bind (F___spec_l20Rd__pick v1 (10 : Int)) fun v2 =>
  Option.bind (F___spec_l20Rd__pick v2.1 (6 : Int)) fun v3 =>
  grd ((0 : Int) ≤ v3.2 ∧ v3.2 < ((6 : Nat) : Int)) (Option.bind (F_spec_l20Mem v3.1 (20 : Int)) fun v4 =>
    Option.bind (F___spec_l20Rd__pick v4.1 (66 : Int)) fun v5 =>
    Option.bind (F___spec_l20Rd__pick v5.1 (2 : Int)) fun v6 =>
    Option.bind (F___spec_l20Rd__pick v6.1 (2 : Int)) fun v7 =>
    some (v4.2, (List.getD ([(-1 : Int), (1 : Int), (2 : Int), (1 : Int), (2 : Int), (w64 (v2.2 - (1 : Int)))] : List Int) (Int.toNat v3.2) default), (w64 (v5.2 - (1 : Int))), (decide (v6.2 = (0 : Int))), (decide (v7.2 = (0 : Int)))))
theorem spec_DrawWalk_fn {x_code : List Int} {R_ : (List Int) × Int × Int × Bool × Bool} (hh : F_spec_DrawWalk x_code = some R_) : Fn Try.prog 26 [bo (eI .u8) x_code] (.tup [.own 3 1 (List.length R_.1) (fl (eI .i64) R_.1), .int .i64 R_.2.1, .int .i64 R_.2.2.1, .bool R_.2.2.2.1, .bool R_.2.2.2.2]) := by
  unfold F_spec_DrawWalk at hh
  refine Fn.start low_spec_DrawWalk [0] (E := sp 31 [(0, bo (eI .u8) x_code)]) (by kernel_rfl) (v := .tup [.sref 0 [] 0 (List.length R_.1) 1, .int .i64 R_.2.1, .int .i64 R_.2.2.1, .bool R_.2.2.2.1, .bool R_.2.2.2.2]) (Hr := [(0, some ⟨3, (fl (eI .i64) R_.1)⟩)]) (k := 1) (by kernel_rfl) ?_
  refine Aw.sreg [0] [] ?_
  refine yct (cs := []) (E' := (sp 31 [(0, bo (eI .u8) x_code)])) (H' := []) (n' := 0) (fun K => by kernel_rfl) .nil ?_
  refine Aw.sreg [7] [0] ?_
  refine yc (cs := []) (E' := (sp 31 [(0, bo (eI .u8) x_code), (9, bo (eI .u8) x_code)])) (H' := []) (n' := 0) (pre := (List.take 1 L_spec_DrawWalk_r1)) (L' := (List.drop 1 L_spec_DrawWalk_r1)) (by kernel_rfl) (fun K => by kernel_rfl) .nil ?_
  obtain ⟨v1, hv1, hh⟩ := bind_some hh
  refine yso (op := (.call 52 [(.t 9)])) (d := (some 10)) (os := (List.drop 2 L_spec_DrawWalk_r1)) (by kernel_rfl) (op_callf (v' := .ptr 0 [] 0) (Hp' := [(0, some ⟨90, (B_90 v1)⟩)]) (n' := 1) [] (spec_l20Open_fn hv1) (args' := [bo (eI .u8) x_code]) (by kernel_rfl) rfl rfl rfl (rens_c (ren_bor (rens_same (noRefs_fl nr_eI))) rens_n) rfl hs_nil (ren_p (by decide) rfl) rfl (hs_as (t := ⟨90, (B_90 v1)⟩) (by decide) rfl (by kernel_rfl) rfl (rens_same (nr_B_90 _)) hs_nil) rfl ?_)
  refine yct (cs := []) (E' := (sp 31 [(7, .ptr 0 [] 0)])) (H' := [(0, some ⟨90, (B_90 v1)⟩)]) (n' := 1) (fun K => by kernel_rfl) .nil ?_
  refine Aw.sreg [7, 8] [0] ?_
  refine yc (cs := []) (E' := (sp 31 [(7, .ptr 0 [] 0), (11, .ptr 0 [] 0)])) (H' := [(0, some ⟨90, (B_90 v1)⟩)]) (n' := 1) (pre := (List.take 1 L_spec_DrawWalk_r2)) (L' := (List.drop 1 L_spec_DrawWalk_r2)) (by kernel_rfl) (fun K => by kernel_rfl) .nil ?_
  obtain ⟨v2, hv2, hh⟩ := bind_some hh
  refine yso (op := (.call 55 [(.t 11), (.c (.int .i64 10))])) (d := (some 12)) (os := (List.drop 2 L_spec_DrawWalk_r2)) (by kernel_rfl) (op_callf (v' := .int .i64 v2.2) (Hp' := [(0, some ⟨90, (B_90 v2.1)⟩)]) (n' := 1) [0] (__spec_l20Rd__pick_fn hv2) (args' := [.ptr 0 [] 0, .int .i64 (10 : Int)]) (by kernel_rfl) rfl rfl rfl (rens_c (ren_p (by decide) rfl) (rens_c ren_i rens_n)) rfl (hs_as (t := ⟨90, (B_90 v1)⟩) (by decide) rfl (by kernel_rfl) rfl (rens_same (nr_B_90 _)) hs_nil) ren_i rfl (hs_as (t := ⟨90, (B_90 v2.1)⟩) (by decide) rfl (by kernel_rfl) rfl (rens_same (nr_B_90 _)) hs_nil) rfl ?_)
  refine yc (cs := []) (E' := (sp 31 [(7, .ptr 0 [] 0), (11, .ptr 0 [] 0), (12, .int .i64 v2.2), (13, .int .i64 (w64 (v2.2 - (1 : Int)))), (14, .sref 1 [] 0 6 1), (15, .ptr 0 [] 0)])) (H' := [(1, some ⟨3, [.int .i64 (-1 : Int), .int .i64 (1 : Int), .int .i64 (2 : Int), .int .i64 (1 : Int), .int .i64 (2 : Int), .int .i64 (w64 (v2.2 - (1 : Int)))]⟩), (0, some ⟨90, (B_90 v2.1)⟩), (0, none), (0, some ⟨90, (B_90 v1)⟩)]) (n' := 2) (pre := (List.take 3 (List.drop 2 L_spec_DrawWalk_r2))) (L' := (List.drop 5 L_spec_DrawWalk_r2)) (by kernel_rfl) (fun K => by kernel_rfl) .nil ?_
  obtain ⟨v3, hv3, hh⟩ := bind_some hh
  refine yso (op := (.call 55 [(.t 15), (.c (.int .i64 6))])) (d := (some 16)) (os := (List.drop 6 L_spec_DrawWalk_r2)) (by kernel_rfl) (op_callf (v' := .int .i64 v3.2) (Hp' := [(0, some ⟨90, (B_90 v3.1)⟩)]) (n' := 2) [0] (__spec_l20Rd__pick_fn hv3) (args' := [.ptr 0 [] 0, .int .i64 (6 : Int)]) (by kernel_rfl) rfl rfl rfl (rens_c (ren_p (by decide) rfl) (rens_c ren_i rens_n)) rfl (hs_as (t := ⟨90, (B_90 v2.1)⟩) (by decide) rfl (by kernel_rfl) rfl (rens_same (nr_B_90 _)) hs_nil) ren_i rfl (hs_as (t := ⟨90, (B_90 v3.1)⟩) (by decide) rfl (by kernel_rfl) rfl (rens_same (nr_B_90 _)) hs_nil) rfl ?_)
  obtain ⟨hg2, hh⟩ := grd_some hh
  refine yc (cs := [(0 : Int) ≤ v3.2 ∧ v3.2 < ((6 : Nat) : Int)]) (E' := (sp 31 [(7, .ptr 0 [] 0), (11, .ptr 0 [] 0), (12, .int .i64 v2.2), (13, .int .i64 (w64 (v2.2 - (1 : Int)))), (14, .sref 1 [] 0 6 1), (15, .ptr 0 [] 0), (16, .int .i64 v3.2), (17, .ptr 1 [] (0 + (Int.toNat v3.2) * 1))])) (H' := [(0, some ⟨90, (B_90 v3.1)⟩), (0, none), (1, some ⟨3, [.int .i64 (-1 : Int), .int .i64 (1 : Int), .int .i64 (2 : Int), .int .i64 (1 : Int), .int .i64 (2 : Int), .int .i64 (w64 (v2.2 - (1 : Int)))]⟩), (0, some ⟨90, (B_90 v2.1)⟩), (0, none), (0, some ⟨90, (B_90 v1)⟩)]) (n' := 2) (pre := (List.take 1 (List.drop 6 L_spec_DrawWalk_r2))) (L' := (List.drop 7 L_spec_DrawWalk_r2)) (by kernel_rfl) (fun K => by kernel_rfl) (.cons hg2 .nil) ?_
  refine yso (op := (.load false 1 (.t 17))) (d := (some 18)) (os := (List.drop 8 L_spec_DrawWalk_r2)) (by kernel_rfl) (op_load (c := (eI .i64)) (xs := ([(-1 : Int), (1 : Int), (2 : Int), (1 : Int), (2 : Int), (w64 (v2.2 - (1 : Int)))] : List Int)) (e := 3) (r := 1) (π := []) (o := 0 + (Int.toNat v3.2) * 1) (i := (Int.toNat v3.2)) (off := 0) (v := .int .i64 (List.getD ([(-1 : Int), (1 : Int), (2 : Int), (1 : Int), (2 : Int), (w64 (v2.2 - (1 : Int)))] : List Int) (Int.toNat v3.2) default)) len_eI (by kernel_rfl) (by kernel_rfl) (by omega) (by first | omega | (simp only [List.length_set, List.length_append, List.length_replicate, List.length_cons, List.length_nil, List.length_take, List.length_drop, over_len] at *; omega)) (by decide) (by kernel_rfl) ?_)
  refine yct (cs := []) (E' := (sp 31 [(7, .ptr 0 [] 0), (8, .int .i64 (List.getD ([(-1 : Int), (1 : Int), (2 : Int), (1 : Int), (2 : Int), (w64 (v2.2 - (1 : Int)))] : List Int) (Int.toNat v3.2) default))])) (H' := [(0, some ⟨90, (B_90 v3.1)⟩)]) (n' := 2) (fun K => by kernel_rfl) .nil ?_
  refine Aw.sreg [2, 3, 4, 5, 6] [2] ?_
  refine yc (cs := []) (E' := (sp 31 [(7, .ptr 0 [] 0), (8, .int .i64 (List.getD ([(-1 : Int), (1 : Int), (2 : Int), (1 : Int), (2 : Int), (w64 (v2.2 - (1 : Int)))] : List Int) (Int.toNat v3.2) default)), (19, .ptr 0 [] 0)])) (H' := [(0, some ⟨90, (B_90 v3.1)⟩)]) (n' := 2) (pre := (List.take 1 L_spec_DrawWalk_r3)) (L' := (List.drop 1 L_spec_DrawWalk_r3)) (by kernel_rfl) (fun K => by kernel_rfl) .nil ?_
  obtain ⟨v4, hv4, hh⟩ := bind_some hh
  refine yso (op := (.call 51 [(.t 19), (.c (.int .i64 20))])) (d := (some 20)) (os := (List.drop 2 L_spec_DrawWalk_r3)) (by kernel_rfl) (op_callf (v' := .sref 2 [] 0 (List.length v4.2) 1) (Hp' := [(2, some ⟨3, (fl (eI .i64) v4.2)⟩), (0, some ⟨90, (B_90 v4.1)⟩)]) (n' := 3) [0] (spec_l20Mem_fn hv4) (args' := [.ptr 0 [] 0, .int .i64 (20 : Int)]) (by kernel_rfl) rfl rfl rfl (rens_c (ren_p (by decide) rfl) (rens_c ren_i rens_n)) rfl (hs_as (t := ⟨90, (B_90 v3.1)⟩) (by decide) rfl (by kernel_rfl) rfl (rens_same (nr_B_90 _)) hs_nil) (ren_se (by decide) rfl (by first | rfl | omega | (simp only [List.length_set, over_len, List.length_replicate, List.length_append, List.length_cons, List.length_nil, List.length_take, List.length_drop] <;> omega))) rfl (hs_as (t := ⟨3, (fl (eI .i64) v4.2)⟩) (by decide) rfl (by kernel_rfl) rfl (rens_same (noRefs_fl nr_eI)) (hs_as (t := ⟨90, (B_90 v4.1)⟩) (by decide) rfl (by kernel_rfl) rfl (rens_same (nr_B_90 _)) hs_nil)) rfl ?_)
  refine yc (cs := []) (E' := (sp 31 [(7, .ptr 0 [] 0), (8, .int .i64 (List.getD ([(-1 : Int), (1 : Int), (2 : Int), (1 : Int), (2 : Int), (w64 (v2.2 - (1 : Int)))] : List Int) (Int.toNat v3.2) default)), (19, .ptr 0 [] 0), (20, .sref 2 [] 0 (List.length v4.2) 1), (21, .int .i64 (List.getD ([(-1 : Int), (1 : Int), (2 : Int), (1 : Int), (2 : Int), (w64 (v2.2 - (1 : Int)))] : List Int) (Int.toNat v3.2) default)), (22, .ptr 0 [] 0)])) (H' := [(2, some ⟨3, (fl (eI .i64) v4.2)⟩), (0, some ⟨90, (B_90 v4.1)⟩), (0, none), (0, some ⟨90, (B_90 v3.1)⟩)]) (n' := 3) (pre := (List.take 2 (List.drop 2 L_spec_DrawWalk_r3))) (L' := (List.drop 4 L_spec_DrawWalk_r3)) (by kernel_rfl) (fun K => by kernel_rfl) .nil ?_
  obtain ⟨v5, hv5, hh⟩ := bind_some hh
  refine yso (op := (.call 55 [(.t 22), (.c (.int .i64 66))])) (d := (some 23)) (os := (List.drop 5 L_spec_DrawWalk_r3)) (by kernel_rfl) (op_callf (v' := .int .i64 v5.2) (Hp' := [(0, some ⟨90, (B_90 v5.1)⟩)]) (n' := 3) [0] (__spec_l20Rd__pick_fn hv5) (args' := [.ptr 0 [] 0, .int .i64 (66 : Int)]) (by kernel_rfl) rfl rfl rfl (rens_c (ren_p (by decide) rfl) (rens_c ren_i rens_n)) rfl (hs_as (t := ⟨90, (B_90 v4.1)⟩) (by decide) rfl (by kernel_rfl) rfl (rens_same (nr_B_90 _)) hs_nil) ren_i rfl (hs_as (t := ⟨90, (B_90 v5.1)⟩) (by decide) rfl (by kernel_rfl) rfl (rens_same (nr_B_90 _)) hs_nil) rfl ?_)
  refine yc (cs := []) (E' := (sp 31 [(7, .ptr 0 [] 0), (8, .int .i64 (List.getD ([(-1 : Int), (1 : Int), (2 : Int), (1 : Int), (2 : Int), (w64 (v2.2 - (1 : Int)))] : List Int) (Int.toNat v3.2) default)), (19, .ptr 0 [] 0), (20, .sref 2 [] 0 (List.length v4.2) 1), (21, .int .i64 (List.getD ([(-1 : Int), (1 : Int), (2 : Int), (1 : Int), (2 : Int), (w64 (v2.2 - (1 : Int)))] : List Int) (Int.toNat v3.2) default)), (22, .ptr 0 [] 0), (23, .int .i64 v5.2), (24, .int .i64 (w64 (v5.2 - (1 : Int)))), (25, .ptr 0 [] 0)])) (H' := [(0, some ⟨90, (B_90 v5.1)⟩), (0, none), (2, some ⟨3, (fl (eI .i64) v4.2)⟩), (0, some ⟨90, (B_90 v4.1)⟩), (0, none), (0, some ⟨90, (B_90 v3.1)⟩)]) (n' := 3) (pre := (List.take 2 (List.drop 5 L_spec_DrawWalk_r3))) (L' := (List.drop 7 L_spec_DrawWalk_r3)) (by kernel_rfl) (fun K => by kernel_rfl) .nil ?_
  obtain ⟨v6, hv6, hh⟩ := bind_some hh
  refine yso (op := (.call 55 [(.t 25), (.c (.int .i64 2))])) (d := (some 26)) (os := (List.drop 8 L_spec_DrawWalk_r3)) (by kernel_rfl) (op_callf (v' := .int .i64 v6.2) (Hp' := [(0, some ⟨90, (B_90 v6.1)⟩)]) (n' := 3) [0] (__spec_l20Rd__pick_fn hv6) (args' := [.ptr 0 [] 0, .int .i64 (2 : Int)]) (by kernel_rfl) rfl rfl rfl (rens_c (ren_p (by decide) rfl) (rens_c ren_i rens_n)) rfl (hs_as (t := ⟨90, (B_90 v5.1)⟩) (by decide) rfl (by kernel_rfl) rfl (rens_same (nr_B_90 _)) hs_nil) ren_i rfl (hs_as (t := ⟨90, (B_90 v6.1)⟩) (by decide) rfl (by kernel_rfl) rfl (rens_same (nr_B_90 _)) hs_nil) rfl ?_)
  refine yc (cs := []) (E' := (sp 31 [(7, .ptr 0 [] 0), (8, .int .i64 (List.getD ([(-1 : Int), (1 : Int), (2 : Int), (1 : Int), (2 : Int), (w64 (v2.2 - (1 : Int)))] : List Int) (Int.toNat v3.2) default)), (19, .ptr 0 [] 0), (20, .sref 2 [] 0 (List.length v4.2) 1), (21, .int .i64 (List.getD ([(-1 : Int), (1 : Int), (2 : Int), (1 : Int), (2 : Int), (w64 (v2.2 - (1 : Int)))] : List Int) (Int.toNat v3.2) default)), (22, .ptr 0 [] 0), (23, .int .i64 v5.2), (24, .int .i64 (w64 (v5.2 - (1 : Int)))), (25, .ptr 0 [] 0), (26, .int .i64 v6.2), (27, .bool (decide (v6.2 = (0 : Int)))), (28, .ptr 0 [] 0)])) (H' := [(0, some ⟨90, (B_90 v6.1)⟩), (0, none), (0, some ⟨90, (B_90 v5.1)⟩), (0, none), (2, some ⟨3, (fl (eI .i64) v4.2)⟩), (0, some ⟨90, (B_90 v4.1)⟩), (0, none), (0, some ⟨90, (B_90 v3.1)⟩)]) (n' := 3) (pre := (List.take 2 (List.drop 8 L_spec_DrawWalk_r3))) (L' := (List.drop 10 L_spec_DrawWalk_r3)) (by kernel_rfl) (fun K => by kernel_rfl) .nil ?_
  obtain ⟨v7, hv7, hh⟩ := bind_some hh
  refine yso (op := (.call 55 [(.t 28), (.c (.int .i64 2))])) (d := (some 29)) (os := (List.drop 11 L_spec_DrawWalk_r3)) (by kernel_rfl) (op_callf (v' := .int .i64 v7.2) (Hp' := [(0, some ⟨90, (B_90 v7.1)⟩)]) (n' := 3) [0] (__spec_l20Rd__pick_fn hv7) (args' := [.ptr 0 [] 0, .int .i64 (2 : Int)]) (by kernel_rfl) rfl rfl rfl (rens_c (ren_p (by decide) rfl) (rens_c ren_i rens_n)) rfl (hs_as (t := ⟨90, (B_90 v6.1)⟩) (by decide) rfl (by kernel_rfl) rfl (rens_same (nr_B_90 _)) hs_nil) ren_i rfl (hs_as (t := ⟨90, (B_90 v7.1)⟩) (by decide) rfl (by kernel_rfl) rfl (rens_same (nr_B_90 _)) hs_nil) rfl ?_)
  refine yct (cs := []) (E' := (sp 31 [(2, .sref 2 [] 0 (List.length v4.2) 1), (3, .int .i64 (List.getD ([(-1 : Int), (1 : Int), (2 : Int), (1 : Int), (2 : Int), (w64 (v2.2 - (1 : Int)))] : List Int) (Int.toNat v3.2) default)), (4, .int .i64 (w64 (v5.2 - (1 : Int)))), (5, .bool (decide (v6.2 = (0 : Int)))), (6, .bool (decide (v7.2 = (0 : Int))))])) (H' := [(2, some ⟨3, (fl (eI .i64) v4.2)⟩)]) (n' := 3) (fun K => by kernel_rfl) .nil ?_
  refine Aw.ret ?_
  rw [some_some hh]
  exact gives (r' := .tup [.sref 2 [] 0 (List.length v4.2) 1, .int .i64 (List.getD ([(-1 : Int), (1 : Int), (2 : Int), (1 : Int), (2 : Int), (w64 (v2.2 - (1 : Int)))] : List Int) (Int.toNat v3.2) default), .int .i64 (w64 (v5.2 - (1 : Int))), .bool (decide (v6.2 = (0 : Int))), .bool (decide (v7.2 = (0 : Int)))]) (by kernel_rfl) (Ent.list [some 2] rfl rfl (Nat.zero_le _) (rens_1 (ren_tup (rens_c (ren_se (by decide) rfl rfl) (rens_c ren_i (rens_c ren_i (rens_c ren_b (rens_c ren_b rens_n))))))) (hs_as (t := ⟨3, (fl (eI .i64) v4.2)⟩) (by decide) rfl (by kernel_rfl) rfl (rens_same (noRefs_fl nr_eI)) hs_nil))

-- 61 loop.example/guesthouse/impl.entryLets
def L_impl_entryLets_r0 : List LOper := [⟨(some 3), (.box 29 (.t 0)), none⟩, ⟨(some 6), (.mv (.c (.bool false))), none⟩]
def L_impl_entryLets_r1 : List LOper := [⟨(some 7), (.fadr 0 (.t 3)), none⟩, ⟨(some 8), (.load false 1 (.t 7)), none⟩, ⟨(some 9), (.mv (.t 8)), none⟩, ⟨(some 10), (.fadr 1 (.t 3)), (some (9, true))⟩, ⟨(some 11), (.load false 1 (.t 10)), (some (9, true))⟩, ⟨(some 12), (.mv (.t 11)), (some (9, true))⟩, ⟨(some 13), (.mv (.t 2)), (some (12, false))⟩, ⟨(some 14), (.un .not (.t 13)), (some (12, false))⟩, ⟨(some 15), (.pick (.t 12) (.c (.bool true)) (.t 14)), (some (9, true))⟩, ⟨(some 16), (.pick (.t 9) (.t 15) (.c (.bool false))), none⟩, ⟨(some 17), (.mv (.t 16)), none⟩, ⟨(some 18), (.fadr 2 (.t 3)), (some (17, true))⟩, ⟨(some 19), (.load false 1 (.t 18)), (some (17, true))⟩, ⟨(some 20), (.mv (.t 19)), (some (17, true))⟩, ⟨(some 21), (.mv (.t 1)), (some (20, false))⟩, ⟨(some 22), (.un .not (.t 21)), (some (20, false))⟩, ⟨(some 23), (.pick (.t 20) (.c (.bool true)) (.t 22)), (some (17, true))⟩, ⟨(some 24), (.pick (.t 17) (.t 23) (.c (.bool false))), none⟩, ⟨(some 6), (.mv (.t 24)), none⟩]
def L_impl_entryLets : LFun := ⟨25, [(.tmp 6)], (.seq (.reg false L_impl_entryLets_r0) (.seq (.reg false L_impl_entryLets_r1) .ret))⟩
theorem low_impl_entryLets : lowFun Go.Proofs.Try.prog 61 = some L_impl_entryLets := by kernel_rfl
noncomputable def F_impl_entryLets (x_e : DEntry) (x_user : Bool) (x_write : Bool) : Option Bool :=
  cond x_e.There
    (cond x_e.Write
      (cond x_e.User
        (some true)
        (some (!x_user)))
      (cond (!x_write)
        (cond x_e.User
          (some true)
          (some (!x_user)))
        (some false)))
    (some false)
theorem impl_entryLets_fn {x_e : DEntry} {x_user : Bool} {x_write : Bool} {R_ : Bool} (hh : F_impl_entryLets x_e x_user x_write = some R_) : Fn Try.prog 61 [.agg (C_29 x_e), .bool x_user, .bool x_write] (.bool R_) := by
  unfold F_impl_entryLets at hh
  refine Fn.start low_impl_entryLets [0, 1, 2] (E := sp 25 [(0, .agg (C_29 x_e)), (1, .bool x_user), (2, .bool x_write)]) (by kernel_rfl) (v := .bool R_) (Hr := []) (k := 0) (by kernel_rfl) ?_
  refine Aw.sreg [1, 2, 3] [0] ?_
  refine yct (cs := []) (E' := (sp 25 [(1, .bool x_user), (2, .bool x_write), (3, .ptr 0 [] 0)])) (H' := [(0, some ⟨29, (C_29 x_e)⟩)]) (n' := 1) (fun K => by kernel_rfl) .nil ?_
  refine Aw.sreg [6] [] ?_
  refine yc (cs := []) (E' := (sp 25 [(1, .bool x_user), (2, .bool x_write), (3, .ptr 0 [] 0), (7, .ptr 0 [] 0), (8, .bool x_e.There), (9, .bool x_e.There)])) (H' := [(0, some ⟨29, (C_29 x_e)⟩)]) (n' := 1) (pre := (List.take 3 L_impl_entryLets_r1)) (L' := (List.drop 3 L_impl_entryLets_r1)) (by kernel_rfl) (fun K => by kernel_rfl) .nil ?_
  rcases cond_some hh with ⟨hb, hh⟩ | ⟨hb, hh⟩
  · refine ybs (t := 8) hb (by kernel_rfl) ?_
    refine ybs (t := 9) hb (by kernel_rfl) ?_
    refine yc (cs := []) (E' := (sp 25 [(1, .bool x_user), (2, .bool x_write), (3, .ptr 0 [] 0), (7, .ptr 0 [] 0), (8, .bool true), (9, .bool true), (10, .ptr 0 [] 1), (11, .bool x_e.Write), (12, .bool x_e.Write)])) (H' := [(0, some ⟨29, (C_29 x_e)⟩)]) (n' := 1) (pre := (List.take 3 (List.drop 3 L_impl_entryLets_r1))) (L' := (List.drop 6 L_impl_entryLets_r1)) (by kernel_rfl) (fun K => by kernel_rfl) .nil ?_
    rcases cond_some hh with ⟨hb, hh⟩ | ⟨hb, hh⟩
    · refine ybs (t := 11) hb (by kernel_rfl) ?_
      refine ybs (t := 12) hb (by kernel_rfl) ?_
      refine yc (cs := []) (E' := (sp 25 [(1, .bool x_user), (2, .bool x_write), (3, .ptr 0 [] 0), (7, .ptr 0 [] 0), (8, .bool true), (9, .bool true), (10, .ptr 0 [] 1), (11, .bool true), (12, .bool true), (13, .und), (14, .und), (15, .bool true), (16, .bool true), (17, .bool true), (18, .ptr 0 [] 2), (19, .bool x_e.User), (20, .bool x_e.User)])) (H' := [(0, some ⟨29, (C_29 x_e)⟩)]) (n' := 1) (pre := (List.take 8 (List.drop 6 L_impl_entryLets_r1))) (L' := (List.drop 14 L_impl_entryLets_r1)) (by kernel_rfl) (fun K => by kernel_rfl) .nil ?_
      rcases cond_some hh with ⟨hb, hh⟩ | ⟨hb, hh⟩
      · refine ybs (t := 19) hb (by kernel_rfl) ?_
        refine ybs (t := 20) hb (by kernel_rfl) ?_
        refine yct (cs := []) (E' := (sp 25 [(6, .bool true)])) (H' := []) (n' := 1) (fun K => by kernel_rfl) .nil ?_
        refine Aw.ret ?_
        rw [some_some hh]
        exact gives (r' := .bool true) (by kernel_rfl) (Ent.list [] rfl rfl (Nat.zero_le _) (rens_1 ren_b) hs_nil)
      · refine ybs (t := 19) hb (by kernel_rfl) ?_
        refine ybs (t := 20) hb (by kernel_rfl) ?_
        refine yct (cs := []) (E' := (sp 25 [(6, .bool (!x_user))])) (H' := []) (n' := 1) (fun K => by kernel_rfl) .nil ?_
        refine Aw.ret ?_
        rw [some_some hh]
        exact gives (r' := .bool (!x_user)) (by kernel_rfl) (Ent.list [] rfl rfl (Nat.zero_le _) (rens_1 ren_b) hs_nil)
    · refine ybs (t := 11) hb (by kernel_rfl) ?_
      refine ybs (t := 12) hb (by kernel_rfl) ?_
      refine yc (cs := []) (E' := (sp 25 [(1, .bool x_user), (2, .bool x_write), (3, .ptr 0 [] 0), (7, .ptr 0 [] 0), (8, .bool true), (9, .bool true), (10, .ptr 0 [] 1), (11, .bool false), (12, .bool false), (13, .bool x_write), (14, .bool (!x_write)), (15, .bool (!x_write)), (16, .bool (!x_write)), (17, .bool (!x_write))])) (H' := [(0, some ⟨29, (C_29 x_e)⟩)]) (n' := 1) (pre := (List.take 5 (List.drop 6 L_impl_entryLets_r1))) (L' := (List.drop 11 L_impl_entryLets_r1)) (by kernel_rfl) (fun K => by kernel_rfl) .nil ?_
      rcases cond_some hh with ⟨hb, hh⟩ | ⟨hb, hh⟩
      · refine ybs (t := 14) hb (by kernel_rfl) ?_
        refine ybs (t := 15) hb (by kernel_rfl) ?_
        refine ybs (t := 16) hb (by kernel_rfl) ?_
        refine ybs (t := 17) hb (by kernel_rfl) ?_
        refine yc (cs := []) (E' := (sp 25 [(1, .bool x_user), (2, .bool x_write), (3, .ptr 0 [] 0), (7, .ptr 0 [] 0), (8, .bool true), (9, .bool true), (10, .ptr 0 [] 1), (11, .bool false), (12, .bool false), (13, .bool x_write), (14, .bool true), (15, .bool true), (16, .bool true), (17, .bool true), (18, .ptr 0 [] 2), (19, .bool x_e.User), (20, .bool x_e.User)])) (H' := [(0, some ⟨29, (C_29 x_e)⟩)]) (n' := 1) (pre := (List.take 3 (List.drop 11 L_impl_entryLets_r1))) (L' := (List.drop 14 L_impl_entryLets_r1)) (by kernel_rfl) (fun K => by kernel_rfl) .nil ?_
        rcases cond_some hh with ⟨hb, hh⟩ | ⟨hb, hh⟩
        · refine ybs (t := 19) hb (by kernel_rfl) ?_
          refine ybs (t := 20) hb (by kernel_rfl) ?_
          refine yct (cs := []) (E' := (sp 25 [(6, .bool true)])) (H' := []) (n' := 1) (fun K => by kernel_rfl) .nil ?_
          refine Aw.ret ?_
          rw [some_some hh]
          exact gives (r' := .bool true) (by kernel_rfl) (Ent.list [] rfl rfl (Nat.zero_le _) (rens_1 ren_b) hs_nil)
        · refine ybs (t := 19) hb (by kernel_rfl) ?_
          refine ybs (t := 20) hb (by kernel_rfl) ?_
          refine yct (cs := []) (E' := (sp 25 [(6, .bool (!x_user))])) (H' := []) (n' := 1) (fun K => by kernel_rfl) .nil ?_
          refine Aw.ret ?_
          rw [some_some hh]
          exact gives (r' := .bool (!x_user)) (by kernel_rfl) (Ent.list [] rfl rfl (Nat.zero_le _) (rens_1 ren_b) hs_nil)
      · refine ybs (t := 14) hb (by kernel_rfl) ?_
        refine ybs (t := 15) hb (by kernel_rfl) ?_
        refine ybs (t := 16) hb (by kernel_rfl) ?_
        refine ybs (t := 17) hb (by kernel_rfl) ?_
        refine yct (cs := []) (E' := (sp 25 [(6, .bool false)])) (H' := []) (n' := 1) (fun K => by kernel_rfl) .nil ?_
        refine Aw.ret ?_
        rw [some_some hh]
        exact gives (r' := .bool false) (by kernel_rfl) (Ent.list [] rfl rfl (Nat.zero_le _) (rens_1 ren_b) hs_nil)
  · refine ybs (t := 8) hb (by kernel_rfl) ?_
    refine ybs (t := 9) hb (by kernel_rfl) ?_
    refine yct (cs := []) (E' := (sp 25 [(6, .bool false)])) (H' := []) (n' := 1) (fun K => by kernel_rfl) .nil ?_
    refine Aw.ret ?_
    rw [some_some hh]
    exact gives (r' := .bool false) (by kernel_rfl) (Ent.list [] rfl rfl (Nat.zero_le _) (rens_1 ren_b) hs_nil)

-- 27 loop.example/guesthouse/impl.Walk
def L_impl_Walk_r0 : List LOper := [⟨(some 10), (.mv (.c (.int .i64 0))), none⟩]
def L_impl_Walk_r1 : List LOper := [⟨(some 12), (.mv (.t 0)), none⟩, ⟨(some 13), (.call 16 [(.t 12)]), none⟩, ⟨(some 14), (.un .not (.t 13)), none⟩, ⟨(some 15), (.mv (.t 14)), none⟩, ⟨(some 16), (.mv (.t 1)), (some (15, false))⟩, ⟨(some 17), (.call 59 [(.t 16)]), (some (15, false))⟩, ⟨(some 18), (.un .not (.t 17)), (some (15, false))⟩, ⟨(some 19), (.pick (.t 15) (.c (.bool true)) (.t 18)), none⟩, ⟨(some 20), (.mv (.t 19)), none⟩, ⟨(some 21), (.mv (.t 2)), (some (20, false))⟩, ⟨(some 22), (.call 60 [(.t 21)]), (some (20, false))⟩, ⟨(some 23), (.un .not (.t 22)), (some (20, false))⟩, ⟨(some 24), (.pick (.t 20) (.c (.bool true)) (.t 23)), none⟩]
def L_impl_Walk_r2 : List LOper := [⟨(some 10), (.mv (.c (.int .i64 (-1)))), none⟩]
def L_impl_Walk_r3 : List LOper := [⟨(some 25), (.mv (.t 1)), none⟩, ⟨(some 26), (.bin .eql (.t 25) (.c (.int .i64 (-1)))), none⟩]
def L_impl_Walk_r4 : List LOper := [⟨(some 27), (.mv (.t 2)), none⟩, ⟨(some 10), (.mv (.t 27)), none⟩]
def L_impl_Walk_r5 : List LOper := [⟨(some 28), (.mv (.t 0)), none⟩, ⟨(some 29), (.mv (.t 1)), none⟩, ⟨(some 30), (.bin .mul (.t 29) (.c (.int .i64 8))), none⟩, ⟨(some 31), (.mv (.t 2)), none⟩, ⟨(some 32), (.bin .quo (.t 31) (.c (.int .i64 8))), none⟩, ⟨(some 33), (.bin .add (.t 30) (.t 32)), none⟩, ⟨(some 34), (.iadr 1 (.t 28) (.t 33)), none⟩, ⟨(some 35), (.load false 1 (.t 34)), none⟩, ⟨(some 36), (.call 22 [(.t 35)]), none⟩, ⟨(some 11), (.fresh 29 [(.bool false), (.bool false), (.bool false), (.int .i64 0)]), none⟩, ⟨none, (.store 4 (.t 11) (.t 36)), none⟩]
def L_impl_Walk_r6 : List LOper := [⟨(some 37), (.load true 4 (.t 11)), none⟩, ⟨(some 38), (.mv (.t 3)), none⟩, ⟨(some 39), (.mv (.t 4)), none⟩, ⟨(some 40), (.call 61 [(.t 37), (.t 38), (.t 39)]), none⟩, ⟨(some 41), (.un .not (.t 40)), none⟩]
def L_impl_Walk_r7 : List LOper := [⟨(some 10), (.mv (.c (.int .i64 (-1)))), none⟩]
def L_impl_Walk_r8 : List LOper := [⟨(some 42), (.fadr 3 (.t 11)), none⟩, ⟨(some 43), (.load false 1 (.t 42)), none⟩, ⟨(some 44), (.bin .mul (.t 43) (.c (.int .i64 8))), none⟩, ⟨(some 45), (.mv (.t 2)), none⟩, ⟨(some 46), (.bin .rem (.t 45) (.c (.int .i64 8))), none⟩, ⟨(some 47), (.bin .add (.t 44) (.t 46)), none⟩, ⟨(some 10), (.mv (.t 47)), none⟩]
def L_impl_Walk : LFun := ⟨48, [(.tmp 10)], (.seq (.reg false L_impl_Walk_r0) (.seq (.seq (.reg false L_impl_Walk_r1) (.cond (.t 24) (.seq (.reg false L_impl_Walk_r2) .ret) .skip)) (.seq (.seq (.reg false L_impl_Walk_r3) (.cond (.t 26) (.seq (.reg false L_impl_Walk_r4) .ret) .skip)) (.seq (.reg false L_impl_Walk_r5) (.seq (.seq (.reg false L_impl_Walk_r6) (.cond (.t 41) (.seq (.reg false L_impl_Walk_r7) .ret) .skip)) (.seq (.reg false L_impl_Walk_r8) .ret))))))⟩
theorem low_impl_Walk : lowFun Go.Proofs.Try.prog 27 = some L_impl_Walk := by kernel_rfl
noncomputable def F_impl_Walk (x_mem : List Int) (x_root : Int) (x_addr : Int) (x_user : Bool) (x_write : Bool) : Option Int :=
  Option.bind (F_impl_MemOk x_mem) fun v1 =>
  cond (!v1)
    (some (-1 : Int))
    (Option.bind (F_impl_rootOk x_root) fun v2 =>
    cond (!v2)
      (some (-1 : Int))
      (Option.bind (F_impl_addressOk x_addr) fun v3 =>
      cond (!v3)
        (some (-1 : Int))
        (cond (decide (x_root = (-1 : Int)))
          (some x_addr)
          (grd ((0 : Int) ≤ (w64 ((w64 (x_root * (8 : Int))) + (w64 (Int.tdiv x_addr (8 : Int))))) ∧ (w64 ((w64 (x_root * (8 : Int))) + (w64 (Int.tdiv x_addr (8 : Int))))) < ((List.length x_mem : Nat) : Int)) (Option.bind (F_impl_EntryFrom (List.getD x_mem (Int.toNat (w64 ((w64 (x_root * (8 : Int))) + (w64 (Int.tdiv x_addr (8 : Int)))))) default)) fun v4 =>
            Option.bind (F_impl_entryLets v4 x_user x_write) fun v5 =>
            cond (!v5)
              (some (-1 : Int))
              (some (w64 ((w64 (v4.Page * (8 : Int))) + (Int.tmod x_addr (8 : Int))))))))))
theorem impl_Walk_fn {x_mem : List Int} {x_root : Int} {x_addr : Int} {x_user : Bool} {x_write : Bool} {R_ : Int} (hh : F_impl_Walk x_mem x_root x_addr x_user x_write = some R_) : Fn Try.prog 27 [bo (eI .i64) x_mem, .int .i64 x_root, .int .i64 x_addr, .bool x_user, .bool x_write] (.int .i64 R_) := by
  unfold F_impl_Walk at hh
  refine Fn.start low_impl_Walk [0, 1, 2, 3, 4] (E := sp 48 [(0, bo (eI .i64) x_mem), (1, .int .i64 x_root), (2, .int .i64 x_addr), (3, .bool x_user), (4, .bool x_write)]) (by kernel_rfl) (v := .int .i64 R_) (Hr := []) (k := 0) (by kernel_rfl) ?_
  refine Aw.sreg [0, 1, 2, 3, 4] [] ?_
  refine yct (cs := []) (E' := (sp 48 [(0, bo (eI .i64) x_mem), (1, .int .i64 x_root), (2, .int .i64 x_addr), (3, .bool x_user), (4, .bool x_write)])) (H' := []) (n' := 0) (fun K => by kernel_rfl) .nil ?_
  refine Aw.seq ?_
  refine Aw.sreg [0, 1, 2, 3, 4, 24] [] ?_
  refine yc (cs := []) (E' := (sp 48 [(0, bo (eI .i64) x_mem), (1, .int .i64 x_root), (2, .int .i64 x_addr), (3, .bool x_user), (4, .bool x_write), (12, bo (eI .i64) x_mem)])) (H' := []) (n' := 0) (pre := (List.take 1 L_impl_Walk_r1)) (L' := (List.drop 1 L_impl_Walk_r1)) (by kernel_rfl) (fun K => by kernel_rfl) .nil ?_
  obtain ⟨v1, hv1, hh⟩ := bind_some hh
  refine yso (op := (.call 16 [(.t 12)])) (d := (some 13)) (os := (List.drop 2 L_impl_Walk_r1)) (by kernel_rfl) (op_call (r := .bool v1) (v := .bool v1) (Hr := []) (n' := 0) (impl_MemOk_fn hv1) (clz_v (vs := [bo (eI .i64) x_mem]) (by kernel_rfl) (clz_c (clo_same (clean_bor (cleans_fl cl_eI))) clz_n)) rfl rfl (by kernel_rfl) ?_)
  refine yc (cs := []) (E' := (sp 48 [(0, bo (eI .i64) x_mem), (1, .int .i64 x_root), (2, .int .i64 x_addr), (3, .bool x_user), (4, .bool x_write), (12, bo (eI .i64) x_mem), (13, .bool v1), (14, .bool (!v1)), (15, .bool (!v1))])) (H' := []) (n' := 0) (pre := (List.take 2 (List.drop 2 L_impl_Walk_r1))) (L' := (List.drop 4 L_impl_Walk_r1)) (by kernel_rfl) (fun K => by kernel_rfl) .nil ?_
  rcases cond_some hh with ⟨hb, hh⟩ | ⟨hb, hh⟩
  · refine ybs (t := 14) hb (by kernel_rfl) ?_
    refine ybs (t := 15) hb (by kernel_rfl) ?_
    refine yct (cs := []) (E' := (sp 48 [(0, bo (eI .i64) x_mem), (1, .int .i64 x_root), (2, .int .i64 x_addr), (3, .bool x_user), (4, .bool x_write), (24, .bool true)])) (H' := []) (n' := 0) (fun K => by kernel_rfl) .nil ?_
    refine Aw.condT (by kernel_rfl) rfl ?_
    refine Aw.sreg [10] [] ?_
    refine yct (cs := []) (E' := (sp 48 [(10, .int .i64 (-1 : Int))])) (H' := []) (n' := 0) (fun K => by kernel_rfl) .nil ?_
    refine Aw.ret ?_
    refine then_r ?_
    rw [some_some hh]
    exact gives (r' := .int .i64 (-1 : Int)) (by kernel_rfl) (Ent.list [] rfl rfl (Nat.zero_le _) (rens_1 ren_i) hs_nil)
  · refine ybs (t := 14) hb (by kernel_rfl) ?_
    refine ybs (t := 15) hb (by kernel_rfl) ?_
    refine yc (cs := []) (E' := (sp 48 [(0, bo (eI .i64) x_mem), (1, .int .i64 x_root), (2, .int .i64 x_addr), (3, .bool x_user), (4, .bool x_write), (12, bo (eI .i64) x_mem), (13, .bool v1), (14, .bool false), (15, .bool false), (16, .int .i64 x_root)])) (H' := []) (n' := 0) (pre := (List.take 1 (List.drop 4 L_impl_Walk_r1))) (L' := (List.drop 5 L_impl_Walk_r1)) (by kernel_rfl) (fun K => by kernel_rfl) .nil ?_
    obtain ⟨v2, hv2, hh⟩ := bind_some hh
    refine ysg (op := (.call 59 [(.t 16)])) (d := (some 17)) (t := 15) (want := false) (os := (List.drop 6 L_impl_Walk_r1)) (by kernel_rfl) (by kernel_rfl) (op_call (r := .bool v2) (v := .bool v2) (Hr := []) (n' := 0) (impl_rootOk_fn hv2) (clz_v (vs := [.int .i64 x_root]) (by kernel_rfl) (clz_c (clo_same rfl) clz_n)) rfl rfl (by kernel_rfl) ?_)
    refine yc (cs := []) (E' := (sp 48 [(0, bo (eI .i64) x_mem), (1, .int .i64 x_root), (2, .int .i64 x_addr), (3, .bool x_user), (4, .bool x_write), (12, bo (eI .i64) x_mem), (13, .bool v1), (14, .bool false), (15, .bool false), (16, .int .i64 x_root), (17, .bool v2), (18, .bool (!v2)), (19, .bool (!v2)), (20, .bool (!v2))])) (H' := []) (n' := 0) (pre := (List.take 3 (List.drop 6 L_impl_Walk_r1))) (L' := (List.drop 9 L_impl_Walk_r1)) (by kernel_rfl) (fun K => by kernel_rfl) .nil ?_
    rcases cond_some hh with ⟨hb, hh⟩ | ⟨hb, hh⟩
    · refine ybs (t := 18) hb (by kernel_rfl) ?_
      refine ybs (t := 19) hb (by kernel_rfl) ?_
      refine ybs (t := 20) hb (by kernel_rfl) ?_
      refine yct (cs := []) (E' := (sp 48 [(0, bo (eI .i64) x_mem), (1, .int .i64 x_root), (2, .int .i64 x_addr), (3, .bool x_user), (4, .bool x_write), (24, .bool true)])) (H' := []) (n' := 0) (fun K => by kernel_rfl) .nil ?_
      refine Aw.condT (by kernel_rfl) rfl ?_
      refine Aw.sreg [10] [] ?_
      refine yct (cs := []) (E' := (sp 48 [(10, .int .i64 (-1 : Int))])) (H' := []) (n' := 0) (fun K => by kernel_rfl) .nil ?_
      refine Aw.ret ?_
      refine then_r ?_
      rw [some_some hh]
      exact gives (r' := .int .i64 (-1 : Int)) (by kernel_rfl) (Ent.list [] rfl rfl (Nat.zero_le _) (rens_1 ren_i) hs_nil)
    · refine ybs (t := 18) hb (by kernel_rfl) ?_
      refine ybs (t := 19) hb (by kernel_rfl) ?_
      refine ybs (t := 20) hb (by kernel_rfl) ?_
      refine yc (cs := []) (E' := (sp 48 [(0, bo (eI .i64) x_mem), (1, .int .i64 x_root), (2, .int .i64 x_addr), (3, .bool x_user), (4, .bool x_write), (12, bo (eI .i64) x_mem), (13, .bool v1), (14, .bool false), (15, .bool false), (16, .int .i64 x_root), (17, .bool v2), (18, .bool false), (19, .bool false), (20, .bool false), (21, .int .i64 x_addr)])) (H' := []) (n' := 0) (pre := (List.take 1 (List.drop 9 L_impl_Walk_r1))) (L' := (List.drop 10 L_impl_Walk_r1)) (by kernel_rfl) (fun K => by kernel_rfl) .nil ?_
      obtain ⟨v3, hv3, hh⟩ := bind_some hh
      refine ysg (op := (.call 60 [(.t 21)])) (d := (some 22)) (t := 20) (want := false) (os := (List.drop 11 L_impl_Walk_r1)) (by kernel_rfl) (by kernel_rfl) (op_call (r := .bool v3) (v := .bool v3) (Hr := []) (n' := 0) (impl_addressOk_fn hv3) (clz_v (vs := [.int .i64 x_addr]) (by kernel_rfl) (clz_c (clo_same rfl) clz_n)) rfl rfl (by kernel_rfl) ?_)
      refine yct (cs := []) (E' := (sp 48 [(0, bo (eI .i64) x_mem), (1, .int .i64 x_root), (2, .int .i64 x_addr), (3, .bool x_user), (4, .bool x_write), (24, .bool (!v3))])) (H' := []) (n' := 0) (fun K => by kernel_rfl) .nil ?_
      rcases cond_some hh with ⟨hb, hh⟩ | ⟨hb, hh⟩
      · refine Aw.condT (by kernel_rfl) hb ?_
        refine Aw.sreg [10] [] ?_
        refine yct (cs := []) (E' := (sp 48 [(10, .int .i64 (-1 : Int))])) (H' := []) (n' := 0) (fun K => by kernel_rfl) .nil ?_
        refine Aw.ret ?_
        refine then_r ?_
        rw [some_some hh]
        exact gives (r' := .int .i64 (-1 : Int)) (by kernel_rfl) (Ent.list [] rfl rfl (Nat.zero_le _) (rens_1 ren_i) hs_nil)
      · refine Aw.condF (by kernel_rfl) hb ?_
        refine Aw.xskip (fun _ _ _ hq => then_m hq) ?_
        refine Aw.seq ?_
        refine Aw.sreg [0, 1, 2, 3, 4, 26] [] ?_
        refine yct (cs := []) (E' := (sp 48 [(0, bo (eI .i64) x_mem), (1, .int .i64 x_root), (2, .int .i64 x_addr), (3, .bool x_user), (4, .bool x_write), (26, .bool (decide (x_root = (-1 : Int))))])) (H' := []) (n' := 0) (fun K => by kernel_rfl) .nil ?_
        rcases cond_some hh with ⟨hb, hh⟩ | ⟨hb, hh⟩
        · refine Aw.condT (by kernel_rfl) hb ?_
          refine Aw.sreg [10] [] ?_
          refine yct (cs := []) (E' := (sp 48 [(10, .int .i64 x_addr)])) (H' := []) (n' := 0) (fun K => by kernel_rfl) .nil ?_
          refine Aw.ret ?_
          refine then_r ?_
          rw [some_some hh]
          exact gives (r' := .int .i64 x_addr) (by kernel_rfl) (Ent.list [] rfl rfl (Nat.zero_le _) (rens_1 ren_i) hs_nil)
        · refine Aw.condF (by kernel_rfl) hb ?_
          refine Aw.xskip (fun _ _ _ hq => then_m hq) ?_
          refine Aw.sreg [2, 3, 4, 11] [0] ?_
          refine yc (cs := [(8 : Int) ≠ 0]) (E' := (sp 48 [(0, bo (eI .i64) x_mem), (1, .int .i64 x_root), (2, .int .i64 x_addr), (3, .bool x_user), (4, .bool x_write), (26, .bool (decide (x_root = (-1 : Int)))), (28, bo (eI .i64) x_mem), (29, .int .i64 x_root), (30, .int .i64 (w64 (x_root * (8 : Int)))), (31, .int .i64 x_addr), (32, .int .i64 (w64 (Int.tdiv x_addr (8 : Int)))), (33, .int .i64 (w64 ((w64 (x_root * (8 : Int))) + (w64 (Int.tdiv x_addr (8 : Int))))))])) (H' := []) (n' := 0) (pre := (List.take 6 L_impl_Walk_r5)) (L' := (List.drop 6 L_impl_Walk_r5)) (by kernel_rfl) (fun K => by kernel_rfl) (.cons (by decide) .nil) ?_
          obtain ⟨hg2, hh⟩ := grd_some hh
          refine yso (op := (.iadr 1 (.t 28) (.t 33))) (d := (some 34)) (os := (List.drop 7 L_impl_Walk_r5)) (by kernel_rfl) (op_iadr (kd := .i64) (c := (eI .i64)) (xs := x_mem) len_eI (by decide) (by kernel_rfl) (by kernel_rfl) hg2 ?_)
          refine yso (op := (.load false 1 (.t 34))) (d := (some 35)) (os := (List.drop 8 L_impl_Walk_r5)) (by kernel_rfl) (op_loadb (c := (eI .i64)) (xs := x_mem) (o := Int.toNat (w64 ((w64 (x_root * (8 : Int))) + (w64 (Int.tdiv x_addr (8 : Int))))) * 1) (i := (Int.toNat (w64 ((w64 (x_root * (8 : Int))) + (w64 (Int.tdiv x_addr (8 : Int))))))) (off := 0) (v := .int .i64 (List.getD x_mem (Int.toNat (w64 ((w64 (x_root * (8 : Int))) + (w64 (Int.tdiv x_addr (8 : Int)))))) default)) len_eI (by kernel_rfl) (by omega) (by omega) (by decide) (by kernel_rfl) ?_)
          obtain ⟨v4, hv4, hh⟩ := bind_some hh
          refine yso (op := (.call 22 [(.t 35)])) (d := (some 36)) (os := (List.drop 9 L_impl_Walk_r5)) (by kernel_rfl) (op_call (r := .agg (C_29 v4)) (v := .agg (C_29 v4)) (Hr := []) (n' := 0) (impl_EntryFrom_fn hv4) (clz_v (vs := [.int .i64 (List.getD x_mem (Int.toNat (w64 ((w64 (x_root * (8 : Int))) + (w64 (Int.tdiv x_addr (8 : Int)))))) default)]) (by kernel_rfl) (clz_c (clo_same rfl) clz_n)) rfl rfl (by kernel_rfl) ?_)
          refine yct (cs := []) (E' := (sp 48 [(2, .int .i64 x_addr), (3, .bool x_user), (4, .bool x_write), (11, .ptr 0 [] 0)])) (H' := [(0, some ⟨29, (C_29 v4)⟩)]) (n' := 1) (fun K => by kernel_rfl) .nil ?_
          refine Aw.seq ?_
          refine Aw.sreg [2, 11, 41] [0] ?_
          refine yc (cs := []) (E' := (sp 48 [(2, .int .i64 x_addr), (3, .bool x_user), (4, .bool x_write), (11, .ptr 0 [] 0), (37, .agg (C_29 v4)), (38, .bool x_user), (39, .bool x_write)])) (H' := [(0, some ⟨29, (C_29 v4)⟩)]) (n' := 1) (pre := (List.take 3 L_impl_Walk_r6)) (L' := (List.drop 3 L_impl_Walk_r6)) (by kernel_rfl) (fun K => by kernel_rfl) .nil ?_
          obtain ⟨v5, hv5, hh⟩ := bind_some hh
          refine yso (op := (.call 61 [(.t 37), (.t 38), (.t 39)])) (d := (some 40)) (os := (List.drop 4 L_impl_Walk_r6)) (by kernel_rfl) (op_call (r := .bool v5) (v := .bool v5) (Hr := []) (n' := 1) (impl_entryLets_fn hv5) (clz_v (vs := [.agg (C_29 v4), .bool x_user, .bool x_write]) (by kernel_rfl) (clz_c (clo_same rfl) (clz_c (clo_same rfl) (clz_c (clo_same rfl) clz_n)))) rfl rfl (by kernel_rfl) ?_)
          refine yct (cs := []) (E' := (sp 48 [(2, .int .i64 x_addr), (11, .ptr 0 [] 0), (41, .bool (!v5))])) (H' := [(0, some ⟨29, (C_29 v4)⟩)]) (n' := 1) (fun K => by kernel_rfl) .nil ?_
          rcases cond_some hh with ⟨hb, hh⟩ | ⟨hb, hh⟩
          · refine Aw.condT (by kernel_rfl) hb ?_
            refine Aw.sreg [10] [] ?_
            refine yct (cs := []) (E' := (sp 48 [(10, .int .i64 (-1 : Int))])) (H' := []) (n' := 1) (fun K => by kernel_rfl) .nil ?_
            refine Aw.ret ?_
            refine then_r ?_
            rw [some_some hh]
            exact gives (r' := .int .i64 (-1 : Int)) (by kernel_rfl) (Ent.list [] rfl rfl (Nat.zero_le _) (rens_1 ren_i) hs_nil)
          · refine Aw.condF (by kernel_rfl) hb ?_
            refine Aw.xskip (fun _ _ _ hq => then_m hq) ?_
            refine Aw.sreg [10] [] ?_
            refine yct (cs := [(8 : Int) ≠ 0]) (E' := (sp 48 [(10, .int .i64 (w64 ((w64 (v4.Page * (8 : Int))) + (Int.tmod x_addr (8 : Int)))))])) (H' := []) (n' := 1) (fun K => by kernel_rfl) (.cons (by decide) .nil) ?_
            refine Aw.ret ?_
            rw [some_some hh]
            exact gives (r' := .int .i64 (w64 ((w64 (v4.Page * (8 : Int))) + (Int.tmod x_addr (8 : Int))))) (by kernel_rfl) (Ent.list [] rfl rfl (Nat.zero_le _) (rens_1 ren_i) hs_nil)

-- 28 loop.example/guesthouse/spec.Walk
def L_spec_Walk_r0 : List LOper := [⟨(some 10), (.mv (.c (.int .i64 0))), none⟩]
def L_spec_Walk_r1 : List LOper := [⟨(some 12), (.mv (.t 0)), none⟩, ⟨(some 13), (.call 17 [(.t 12)]), none⟩, ⟨(some 14), (.un .not (.t 13)), none⟩, ⟨(some 15), (.mv (.t 14)), none⟩, ⟨(some 16), (.mv (.t 1)), (some (15, false))⟩, ⟨(some 17), (.call 57 [(.t 16), (.c (.int .i64 (-1))), (.c (.int .i64 7))]), (some (15, false))⟩, ⟨(some 18), (.un .not (.t 17)), (some (15, false))⟩, ⟨(some 19), (.pick (.t 15) (.c (.bool true)) (.t 18)), none⟩, ⟨(some 20), (.mv (.t 19)), none⟩, ⟨(some 21), (.mv (.t 2)), (some (20, false))⟩, ⟨(some 22), (.call 57 [(.t 21), (.c (.int .i64 0)), (.c (.int .i64 63))]), (some (20, false))⟩, ⟨(some 23), (.un .not (.t 22)), (some (20, false))⟩, ⟨(some 24), (.pick (.t 20) (.c (.bool true)) (.t 23)), none⟩]
def L_spec_Walk_r2 : List LOper := [⟨(some 10), (.mv (.c (.int .i64 (-1)))), none⟩]
def L_spec_Walk_r3 : List LOper := [⟨(some 25), (.mv (.t 1)), none⟩, ⟨(some 26), (.bin .eql (.t 25) (.c (.int .i64 (-1)))), none⟩]
def L_spec_Walk_r4 : List LOper := [⟨(some 27), (.mv (.t 2)), none⟩, ⟨(some 10), (.mv (.t 27)), none⟩]
def L_spec_Walk_r5 : List LOper := [⟨(some 28), (.mv (.t 0)), none⟩, ⟨(some 29), (.mv (.t 1)), none⟩, ⟨(some 30), (.bin .mul (.t 29) (.c (.int .i64 8))), none⟩, ⟨(some 31), (.mv (.t 2)), none⟩, ⟨(some 32), (.bin .quo (.t 31) (.c (.int .i64 8))), none⟩, ⟨(some 33), (.bin .add (.t 30) (.t 32)), none⟩, ⟨(some 34), (.iadr 1 (.t 28) (.t 33)), none⟩, ⟨(some 35), (.load false 1 (.t 34)), none⟩, ⟨(some 36), (.call 24 [(.t 35)]), none⟩, ⟨(some 11), (.fresh 29 [(.bool false), (.bool false), (.bool false), (.int .i64 0)]), none⟩, ⟨none, (.store 4 (.t 11) (.t 36)), none⟩]
def L_spec_Walk_r6 : List LOper := [⟨(some 37), (.fadr 0 (.t 11)), none⟩, ⟨(some 38), (.load false 1 (.t 37)), none⟩, ⟨(some 39), (.un .not (.t 38)), none⟩, ⟨(some 40), (.mv (.t 39)), none⟩, ⟨(some 41), (.mv (.t 4)), (some (40, false))⟩, ⟨(some 42), (.mv (.t 41)), (some (40, false))⟩, ⟨(some 43), (.fadr 1 (.t 11)), (some (42, true))⟩, ⟨(some 44), (.load false 1 (.t 43)), (some (42, true))⟩, ⟨(some 45), (.un .not (.t 44)), (some (42, true))⟩, ⟨(some 46), (.pick (.t 42) (.t 45) (.c (.bool false))), (some (40, false))⟩, ⟨(some 47), (.pick (.t 40) (.c (.bool true)) (.t 46)), none⟩, ⟨(some 48), (.mv (.t 47)), none⟩, ⟨(some 49), (.mv (.t 3)), (some (48, false))⟩, ⟨(some 50), (.mv (.t 49)), (some (48, false))⟩, ⟨(some 51), (.fadr 2 (.t 11)), (some (50, true))⟩, ⟨(some 52), (.load false 1 (.t 51)), (some (50, true))⟩, ⟨(some 53), (.un .not (.t 52)), (some (50, true))⟩, ⟨(some 54), (.pick (.t 50) (.t 53) (.c (.bool false))), (some (48, false))⟩, ⟨(some 55), (.pick (.t 48) (.c (.bool true)) (.t 54)), none⟩]
def L_spec_Walk_r7 : List LOper := [⟨(some 10), (.mv (.c (.int .i64 (-1)))), none⟩]
def L_spec_Walk_r8 : List LOper := [⟨(some 56), (.fadr 3 (.t 11)), none⟩, ⟨(some 57), (.load false 1 (.t 56)), none⟩, ⟨(some 58), (.bin .mul (.t 57) (.c (.int .i64 8))), none⟩, ⟨(some 59), (.mv (.t 2)), none⟩, ⟨(some 60), (.bin .rem (.t 59) (.c (.int .i64 8))), none⟩, ⟨(some 61), (.bin .add (.t 58) (.t 60)), none⟩, ⟨(some 10), (.mv (.t 61)), none⟩]
def L_spec_Walk : LFun := ⟨62, [(.tmp 10)], (.seq (.reg false L_spec_Walk_r0) (.seq (.seq (.reg false L_spec_Walk_r1) (.cond (.t 24) (.seq (.reg false L_spec_Walk_r2) .ret) .skip)) (.seq (.seq (.reg false L_spec_Walk_r3) (.cond (.t 26) (.seq (.reg false L_spec_Walk_r4) .ret) .skip)) (.seq (.reg false L_spec_Walk_r5) (.seq (.seq (.reg false L_spec_Walk_r6) (.cond (.t 55) (.seq (.reg false L_spec_Walk_r7) .ret) .skip)) (.seq (.reg false L_spec_Walk_r8) .ret))))))⟩
theorem low_spec_Walk : lowFun Go.Proofs.Try.prog 28 = some L_spec_Walk := by kernel_rfl
noncomputable def F_spec_Walk_j5 (x_addr : Int) (v4 : DEntry) (s5 : Unit) : Option Int :=
  some (w64 ((w64 (v4.Page * (8 : Int))) + (Int.tmod x_addr (8 : Int))))
noncomputable def F_spec_Walk (x_mem : List Int) (x_root : Int) (x_addr : Int) (x_user : Bool) (x_write : Bool) : Option Int :=
  Option.bind (F_spec_MemOk x_mem) fun v1 =>
  cond (!v1)
    (some (-1 : Int))
    (Option.bind (F_spec_l1In x_root (-1 : Int) (7 : Int)) fun v2 =>
    cond (!v2)
      (some (-1 : Int))
      (Option.bind (F_spec_l1In x_addr (0 : Int) (63 : Int)) fun v3 =>
      cond (!v3)
        (some (-1 : Int))
        (cond (decide (x_root = (-1 : Int)))
          (some x_addr)
          (grd ((0 : Int) ≤ (w64 ((w64 (x_root * (8 : Int))) + (w64 (Int.tdiv x_addr (8 : Int))))) ∧ (w64 ((w64 (x_root * (8 : Int))) + (w64 (Int.tdiv x_addr (8 : Int))))) < ((List.length x_mem : Nat) : Int)) (Option.bind (F_spec_EntryFrom (List.getD x_mem (Int.toNat (w64 ((w64 (x_root * (8 : Int))) + (w64 (Int.tdiv x_addr (8 : Int)))))) default)) fun v4 =>
            Option.bind (cond (!v4.There)
                (some (.out (-1 : Int)))
                (cond x_write
                  (cond (!v4.Write)
                    (some (.out (-1 : Int)))
                    (cond x_user
                      (cond (!v4.User)
                        (some (.out (-1 : Int)))
                        (some (.go ())))
                      (some (.go ()))))
                  (cond x_user
                    (cond (!v4.User)
                      (some (.out (-1 : Int)))
                      (some (.go ())))
                    (some (.go ()))))) fun j5 =>
              JO.run j5 (F_spec_Walk_j5 x_addr v4))))))
theorem spec_Walk_fn {x_mem : List Int} {x_root : Int} {x_addr : Int} {x_user : Bool} {x_write : Bool} {R_ : Int} (hh : F_spec_Walk x_mem x_root x_addr x_user x_write = some R_) : Fn Try.prog 28 [bo (eI .i64) x_mem, .int .i64 x_root, .int .i64 x_addr, .bool x_user, .bool x_write] (.int .i64 R_) := by
  unfold F_spec_Walk at hh
  refine Fn.start low_spec_Walk [0, 1, 2, 3, 4] (E := sp 62 [(0, bo (eI .i64) x_mem), (1, .int .i64 x_root), (2, .int .i64 x_addr), (3, .bool x_user), (4, .bool x_write)]) (by kernel_rfl) (v := .int .i64 R_) (Hr := []) (k := 0) (by kernel_rfl) ?_
  refine Aw.sreg [0, 1, 2, 3, 4] [] ?_
  refine yct (cs := []) (E' := (sp 62 [(0, bo (eI .i64) x_mem), (1, .int .i64 x_root), (2, .int .i64 x_addr), (3, .bool x_user), (4, .bool x_write)])) (H' := []) (n' := 0) (fun K => by kernel_rfl) .nil ?_
  refine Aw.seq ?_
  refine Aw.sreg [0, 1, 2, 3, 4, 24] [] ?_
  refine yc (cs := []) (E' := (sp 62 [(0, bo (eI .i64) x_mem), (1, .int .i64 x_root), (2, .int .i64 x_addr), (3, .bool x_user), (4, .bool x_write), (12, bo (eI .i64) x_mem)])) (H' := []) (n' := 0) (pre := (List.take 1 L_spec_Walk_r1)) (L' := (List.drop 1 L_spec_Walk_r1)) (by kernel_rfl) (fun K => by kernel_rfl) .nil ?_
  obtain ⟨v1, hv1, hh⟩ := bind_some hh
  refine yso (op := (.call 17 [(.t 12)])) (d := (some 13)) (os := (List.drop 2 L_spec_Walk_r1)) (by kernel_rfl) (op_call (r := .bool v1) (v := .bool v1) (Hr := []) (n' := 0) (spec_MemOk_fn hv1) (clz_v (vs := [bo (eI .i64) x_mem]) (by kernel_rfl) (clz_c (clo_same (clean_bor (cleans_fl cl_eI))) clz_n)) rfl rfl (by kernel_rfl) ?_)
  refine yc (cs := []) (E' := (sp 62 [(0, bo (eI .i64) x_mem), (1, .int .i64 x_root), (2, .int .i64 x_addr), (3, .bool x_user), (4, .bool x_write), (12, bo (eI .i64) x_mem), (13, .bool v1), (14, .bool (!v1)), (15, .bool (!v1))])) (H' := []) (n' := 0) (pre := (List.take 2 (List.drop 2 L_spec_Walk_r1))) (L' := (List.drop 4 L_spec_Walk_r1)) (by kernel_rfl) (fun K => by kernel_rfl) .nil ?_
  rcases cond_some hh with ⟨hb, hh⟩ | ⟨hb, hh⟩
  · refine ybs (t := 14) hb (by kernel_rfl) ?_
    refine ybs (t := 15) hb (by kernel_rfl) ?_
    refine yct (cs := []) (E' := (sp 62 [(0, bo (eI .i64) x_mem), (1, .int .i64 x_root), (2, .int .i64 x_addr), (3, .bool x_user), (4, .bool x_write), (24, .bool true)])) (H' := []) (n' := 0) (fun K => by kernel_rfl) .nil ?_
    refine Aw.condT (by kernel_rfl) rfl ?_
    refine Aw.sreg [10] [] ?_
    refine yct (cs := []) (E' := (sp 62 [(10, .int .i64 (-1 : Int))])) (H' := []) (n' := 0) (fun K => by kernel_rfl) .nil ?_
    refine Aw.ret ?_
    refine then_r ?_
    rw [some_some hh]
    exact gives (r' := .int .i64 (-1 : Int)) (by kernel_rfl) (Ent.list [] rfl rfl (Nat.zero_le _) (rens_1 ren_i) hs_nil)
  · refine ybs (t := 14) hb (by kernel_rfl) ?_
    refine ybs (t := 15) hb (by kernel_rfl) ?_
    refine yc (cs := []) (E' := (sp 62 [(0, bo (eI .i64) x_mem), (1, .int .i64 x_root), (2, .int .i64 x_addr), (3, .bool x_user), (4, .bool x_write), (12, bo (eI .i64) x_mem), (13, .bool v1), (14, .bool false), (15, .bool false), (16, .int .i64 x_root)])) (H' := []) (n' := 0) (pre := (List.take 1 (List.drop 4 L_spec_Walk_r1))) (L' := (List.drop 5 L_spec_Walk_r1)) (by kernel_rfl) (fun K => by kernel_rfl) .nil ?_
    obtain ⟨v2, hv2, hh⟩ := bind_some hh
    refine ysg (op := (.call 57 [(.t 16), (.c (.int .i64 (-1))), (.c (.int .i64 7))])) (d := (some 17)) (t := 15) (want := false) (os := (List.drop 6 L_spec_Walk_r1)) (by kernel_rfl) (by kernel_rfl) (op_call (r := .bool v2) (v := .bool v2) (Hr := []) (n' := 0) (spec_l1In_fn hv2) (clz_v (vs := [.int .i64 x_root, .int .i64 (-1 : Int), .int .i64 (7 : Int)]) (by kernel_rfl) (clz_c (clo_same rfl) (clz_c (clo_same rfl) (clz_c (clo_same rfl) clz_n)))) rfl rfl (by kernel_rfl) ?_)
    refine yc (cs := []) (E' := (sp 62 [(0, bo (eI .i64) x_mem), (1, .int .i64 x_root), (2, .int .i64 x_addr), (3, .bool x_user), (4, .bool x_write), (12, bo (eI .i64) x_mem), (13, .bool v1), (14, .bool false), (15, .bool false), (16, .int .i64 x_root), (17, .bool v2), (18, .bool (!v2)), (19, .bool (!v2)), (20, .bool (!v2))])) (H' := []) (n' := 0) (pre := (List.take 3 (List.drop 6 L_spec_Walk_r1))) (L' := (List.drop 9 L_spec_Walk_r1)) (by kernel_rfl) (fun K => by kernel_rfl) .nil ?_
    rcases cond_some hh with ⟨hb, hh⟩ | ⟨hb, hh⟩
    · refine ybs (t := 18) hb (by kernel_rfl) ?_
      refine ybs (t := 19) hb (by kernel_rfl) ?_
      refine ybs (t := 20) hb (by kernel_rfl) ?_
      refine yct (cs := []) (E' := (sp 62 [(0, bo (eI .i64) x_mem), (1, .int .i64 x_root), (2, .int .i64 x_addr), (3, .bool x_user), (4, .bool x_write), (24, .bool true)])) (H' := []) (n' := 0) (fun K => by kernel_rfl) .nil ?_
      refine Aw.condT (by kernel_rfl) rfl ?_
      refine Aw.sreg [10] [] ?_
      refine yct (cs := []) (E' := (sp 62 [(10, .int .i64 (-1 : Int))])) (H' := []) (n' := 0) (fun K => by kernel_rfl) .nil ?_
      refine Aw.ret ?_
      refine then_r ?_
      rw [some_some hh]
      exact gives (r' := .int .i64 (-1 : Int)) (by kernel_rfl) (Ent.list [] rfl rfl (Nat.zero_le _) (rens_1 ren_i) hs_nil)
    · refine ybs (t := 18) hb (by kernel_rfl) ?_
      refine ybs (t := 19) hb (by kernel_rfl) ?_
      refine ybs (t := 20) hb (by kernel_rfl) ?_
      refine yc (cs := []) (E' := (sp 62 [(0, bo (eI .i64) x_mem), (1, .int .i64 x_root), (2, .int .i64 x_addr), (3, .bool x_user), (4, .bool x_write), (12, bo (eI .i64) x_mem), (13, .bool v1), (14, .bool false), (15, .bool false), (16, .int .i64 x_root), (17, .bool v2), (18, .bool false), (19, .bool false), (20, .bool false), (21, .int .i64 x_addr)])) (H' := []) (n' := 0) (pre := (List.take 1 (List.drop 9 L_spec_Walk_r1))) (L' := (List.drop 10 L_spec_Walk_r1)) (by kernel_rfl) (fun K => by kernel_rfl) .nil ?_
      obtain ⟨v3, hv3, hh⟩ := bind_some hh
      refine ysg (op := (.call 57 [(.t 21), (.c (.int .i64 0)), (.c (.int .i64 63))])) (d := (some 22)) (t := 20) (want := false) (os := (List.drop 11 L_spec_Walk_r1)) (by kernel_rfl) (by kernel_rfl) (op_call (r := .bool v3) (v := .bool v3) (Hr := []) (n' := 0) (spec_l1In_fn hv3) (clz_v (vs := [.int .i64 x_addr, .int .i64 (0 : Int), .int .i64 (63 : Int)]) (by kernel_rfl) (clz_c (clo_same rfl) (clz_c (clo_same rfl) (clz_c (clo_same rfl) clz_n)))) rfl rfl (by kernel_rfl) ?_)
      refine yct (cs := []) (E' := (sp 62 [(0, bo (eI .i64) x_mem), (1, .int .i64 x_root), (2, .int .i64 x_addr), (3, .bool x_user), (4, .bool x_write), (24, .bool (!v3))])) (H' := []) (n' := 0) (fun K => by kernel_rfl) .nil ?_
      rcases cond_some hh with ⟨hb, hh⟩ | ⟨hb, hh⟩
      · refine Aw.condT (by kernel_rfl) hb ?_
        refine Aw.sreg [10] [] ?_
        refine yct (cs := []) (E' := (sp 62 [(10, .int .i64 (-1 : Int))])) (H' := []) (n' := 0) (fun K => by kernel_rfl) .nil ?_
        refine Aw.ret ?_
        refine then_r ?_
        rw [some_some hh]
        exact gives (r' := .int .i64 (-1 : Int)) (by kernel_rfl) (Ent.list [] rfl rfl (Nat.zero_le _) (rens_1 ren_i) hs_nil)
      · refine Aw.condF (by kernel_rfl) hb ?_
        refine Aw.xskip (fun _ _ _ hq => then_m hq) ?_
        refine Aw.seq ?_
        refine Aw.sreg [0, 1, 2, 3, 4, 26] [] ?_
        refine yct (cs := []) (E' := (sp 62 [(0, bo (eI .i64) x_mem), (1, .int .i64 x_root), (2, .int .i64 x_addr), (3, .bool x_user), (4, .bool x_write), (26, .bool (decide (x_root = (-1 : Int))))])) (H' := []) (n' := 0) (fun K => by kernel_rfl) .nil ?_
        rcases cond_some hh with ⟨hb, hh⟩ | ⟨hb, hh⟩
        · refine Aw.condT (by kernel_rfl) hb ?_
          refine Aw.sreg [10] [] ?_
          refine yct (cs := []) (E' := (sp 62 [(10, .int .i64 x_addr)])) (H' := []) (n' := 0) (fun K => by kernel_rfl) .nil ?_
          refine Aw.ret ?_
          refine then_r ?_
          rw [some_some hh]
          exact gives (r' := .int .i64 x_addr) (by kernel_rfl) (Ent.list [] rfl rfl (Nat.zero_le _) (rens_1 ren_i) hs_nil)
        · refine Aw.condF (by kernel_rfl) hb ?_
          refine Aw.xskip (fun _ _ _ hq => then_m hq) ?_
          refine Aw.sreg [2, 3, 4, 11] [0] ?_
          refine yc (cs := [(8 : Int) ≠ 0]) (E' := (sp 62 [(0, bo (eI .i64) x_mem), (1, .int .i64 x_root), (2, .int .i64 x_addr), (3, .bool x_user), (4, .bool x_write), (26, .bool (decide (x_root = (-1 : Int)))), (28, bo (eI .i64) x_mem), (29, .int .i64 x_root), (30, .int .i64 (w64 (x_root * (8 : Int)))), (31, .int .i64 x_addr), (32, .int .i64 (w64 (Int.tdiv x_addr (8 : Int)))), (33, .int .i64 (w64 ((w64 (x_root * (8 : Int))) + (w64 (Int.tdiv x_addr (8 : Int))))))])) (H' := []) (n' := 0) (pre := (List.take 6 L_spec_Walk_r5)) (L' := (List.drop 6 L_spec_Walk_r5)) (by kernel_rfl) (fun K => by kernel_rfl) (.cons (by decide) .nil) ?_
          obtain ⟨hg2, hh⟩ := grd_some hh
          refine yso (op := (.iadr 1 (.t 28) (.t 33))) (d := (some 34)) (os := (List.drop 7 L_spec_Walk_r5)) (by kernel_rfl) (op_iadr (kd := .i64) (c := (eI .i64)) (xs := x_mem) len_eI (by decide) (by kernel_rfl) (by kernel_rfl) hg2 ?_)
          refine yso (op := (.load false 1 (.t 34))) (d := (some 35)) (os := (List.drop 8 L_spec_Walk_r5)) (by kernel_rfl) (op_loadb (c := (eI .i64)) (xs := x_mem) (o := Int.toNat (w64 ((w64 (x_root * (8 : Int))) + (w64 (Int.tdiv x_addr (8 : Int))))) * 1) (i := (Int.toNat (w64 ((w64 (x_root * (8 : Int))) + (w64 (Int.tdiv x_addr (8 : Int))))))) (off := 0) (v := .int .i64 (List.getD x_mem (Int.toNat (w64 ((w64 (x_root * (8 : Int))) + (w64 (Int.tdiv x_addr (8 : Int)))))) default)) len_eI (by kernel_rfl) (by omega) (by omega) (by decide) (by kernel_rfl) ?_)
          obtain ⟨v4, hv4, hh⟩ := bind_some hh
          refine yso (op := (.call 24 [(.t 35)])) (d := (some 36)) (os := (List.drop 9 L_spec_Walk_r5)) (by kernel_rfl) (op_call (r := .agg (C_29 v4)) (v := .agg (C_29 v4)) (Hr := []) (n' := 0) (spec_EntryFrom_fn hv4) (clz_v (vs := [.int .i64 (List.getD x_mem (Int.toNat (w64 ((w64 (x_root * (8 : Int))) + (w64 (Int.tdiv x_addr (8 : Int)))))) default)]) (by kernel_rfl) (clz_c (clo_same rfl) clz_n)) rfl rfl (by kernel_rfl) ?_)
          refine yct (cs := []) (E' := (sp 62 [(2, .int .i64 x_addr), (3, .bool x_user), (4, .bool x_write), (11, .ptr 0 [] 0)])) (H' := [(0, some ⟨29, (C_29 v4)⟩)]) (n' := 1) (fun K => by kernel_rfl) .nil ?_
          obtain ⟨j5, hh, hk5⟩ := bind_some hh
          refine Aw.join (S := Unit) (fun s5 => sp 62 [(2, .int .i64 x_addr), (11, .ptr 0 [] 0)]) (fun s5 => [(0, some ⟨29, (C_29 v4)⟩)]) 1 (fun s5 => F_spec_Walk_j5 x_addr v4 s5 = some R_) ?_ ?_
          · intro s5 hh
            unfold F_spec_Walk_j5 at hh
            refine Aw.sreg [10] [] ?_
            refine yct (cs := [(8 : Int) ≠ 0]) (E' := (sp 62 [(10, .int .i64 (w64 ((w64 (v4.Page * (8 : Int))) + (Int.tmod x_addr (8 : Int)))))])) (H' := []) (n' := 1) (fun K => by kernel_rfl) (.cons (by decide) .nil) ?_
            refine Aw.ret ?_
            rw [some_some hh]
            exact gives (r' := .int .i64 (w64 ((w64 (v4.Page * (8 : Int))) + (Int.tmod x_addr (8 : Int))))) (by kernel_rfl) (Ent.list [] rfl rfl (Nat.zero_le _) (rens_1 ren_i) hs_nil)
          · intro Q5 hN5 hR5 hE5
            refine Aw.sreg [2, 11, 55] [0] ?_
            refine yc (cs := []) (E' := (sp 62 [(2, .int .i64 x_addr), (3, .bool x_user), (4, .bool x_write), (11, .ptr 0 [] 0), (37, .ptr 0 [] 0), (38, .bool v4.There), (39, .bool (!v4.There)), (40, .bool (!v4.There))])) (H' := [(0, some ⟨29, (C_29 v4)⟩)]) (n' := 1) (pre := (List.take 4 L_spec_Walk_r6)) (L' := (List.drop 4 L_spec_Walk_r6)) (by kernel_rfl) (fun K => by kernel_rfl) .nil ?_
            rcases cond_some hh with ⟨hb, hh⟩ | ⟨hb, hh⟩
            · refine ybs (t := 39) hb (by kernel_rfl) ?_
              refine ybs (t := 40) hb (by kernel_rfl) ?_
              refine yct (cs := []) (E' := (sp 62 [(2, .int .i64 x_addr), (11, .ptr 0 [] 0), (55, .bool true)])) (H' := [(0, some ⟨29, (C_29 v4)⟩)]) (n' := 1) (fun K => by kernel_rfl) .nil ?_
              refine Aw.condT (by kernel_rfl) rfl ?_
              refine Aw.sreg [10] [] ?_
              refine yct (cs := []) (E' := (sp 62 [(10, .int .i64 (-1 : Int))])) (H' := []) (n' := 1) (fun K => by kernel_rfl) .nil ?_
              refine Aw.ret ?_
              obtain rfl := some_some hh
              refine hR5 _ _ _ ?_
              refine ?_
              rw [some_some hk5]
              exact gives (r' := .int .i64 (-1 : Int)) (by kernel_rfl) (Ent.list [] rfl rfl (Nat.zero_le _) (rens_1 ren_i) hs_nil)
            · refine ybs (t := 39) hb (by kernel_rfl) ?_
              refine ybs (t := 40) hb (by kernel_rfl) ?_
              refine yc (cs := []) (E' := (sp 62 [(2, .int .i64 x_addr), (3, .bool x_user), (4, .bool x_write), (11, .ptr 0 [] 0), (37, .ptr 0 [] 0), (38, .bool v4.There), (39, .bool false), (40, .bool false), (41, .bool x_write), (42, .bool x_write)])) (H' := [(0, some ⟨29, (C_29 v4)⟩)]) (n' := 1) (pre := (List.take 2 (List.drop 4 L_spec_Walk_r6))) (L' := (List.drop 6 L_spec_Walk_r6)) (by kernel_rfl) (fun K => by kernel_rfl) .nil ?_
              rcases cond_some hh with ⟨hb, hh⟩ | ⟨hb, hh⟩
              · refine ybs (t := 4) hb (by kernel_rfl) ?_
                refine ybs (t := 41) hb (by kernel_rfl) ?_
                refine ybs (t := 42) hb (by kernel_rfl) ?_
                refine yc (cs := []) (E' := (sp 62 [(2, .int .i64 x_addr), (3, .bool x_user), (4, .bool true), (11, .ptr 0 [] 0), (37, .ptr 0 [] 0), (38, .bool v4.There), (39, .bool false), (40, .bool false), (41, .bool true), (42, .bool true), (43, .ptr 0 [] 1), (44, .bool v4.Write), (45, .bool (!v4.Write)), (46, .bool (!v4.Write)), (47, .bool (!v4.Write)), (48, .bool (!v4.Write))])) (H' := [(0, some ⟨29, (C_29 v4)⟩)]) (n' := 1) (pre := (List.take 6 (List.drop 6 L_spec_Walk_r6))) (L' := (List.drop 12 L_spec_Walk_r6)) (by kernel_rfl) (fun K => by kernel_rfl) .nil ?_
                rcases cond_some hh with ⟨hb, hh⟩ | ⟨hb, hh⟩
                · refine ybs (t := 45) hb (by kernel_rfl) ?_
                  refine ybs (t := 46) hb (by kernel_rfl) ?_
                  refine ybs (t := 47) hb (by kernel_rfl) ?_
                  refine ybs (t := 48) hb (by kernel_rfl) ?_
                  refine yct (cs := []) (E' := (sp 62 [(2, .int .i64 x_addr), (11, .ptr 0 [] 0), (55, .bool true)])) (H' := [(0, some ⟨29, (C_29 v4)⟩)]) (n' := 1) (fun K => by kernel_rfl) .nil ?_
                  refine Aw.condT (by kernel_rfl) rfl ?_
                  refine Aw.sreg [10] [] ?_
                  refine yct (cs := []) (E' := (sp 62 [(10, .int .i64 (-1 : Int))])) (H' := []) (n' := 1) (fun K => by kernel_rfl) .nil ?_
                  refine Aw.ret ?_
                  obtain rfl := some_some hh
                  refine hR5 _ _ _ ?_
                  refine ?_
                  rw [some_some hk5]
                  exact gives (r' := .int .i64 (-1 : Int)) (by kernel_rfl) (Ent.list [] rfl rfl (Nat.zero_le _) (rens_1 ren_i) hs_nil)
                · refine ybs (t := 45) hb (by kernel_rfl) ?_
                  refine ybs (t := 46) hb (by kernel_rfl) ?_
                  refine ybs (t := 47) hb (by kernel_rfl) ?_
                  refine ybs (t := 48) hb (by kernel_rfl) ?_
                  refine yc (cs := []) (E' := (sp 62 [(2, .int .i64 x_addr), (3, .bool x_user), (4, .bool true), (11, .ptr 0 [] 0), (37, .ptr 0 [] 0), (38, .bool v4.There), (39, .bool false), (40, .bool false), (41, .bool true), (42, .bool true), (43, .ptr 0 [] 1), (44, .bool v4.Write), (45, .bool false), (46, .bool false), (47, .bool false), (48, .bool false), (49, .bool x_user), (50, .bool x_user)])) (H' := [(0, some ⟨29, (C_29 v4)⟩)]) (n' := 1) (pre := (List.take 2 (List.drop 12 L_spec_Walk_r6))) (L' := (List.drop 14 L_spec_Walk_r6)) (by kernel_rfl) (fun K => by kernel_rfl) .nil ?_
                  rcases cond_some hh with ⟨hb, hh⟩ | ⟨hb, hh⟩
                  · refine ybs (t := 3) hb (by kernel_rfl) ?_
                    refine ybs (t := 49) hb (by kernel_rfl) ?_
                    refine ybs (t := 50) hb (by kernel_rfl) ?_
                    refine yct (cs := []) (E' := (sp 62 [(2, .int .i64 x_addr), (11, .ptr 0 [] 0), (55, .bool (!v4.User))])) (H' := [(0, some ⟨29, (C_29 v4)⟩)]) (n' := 1) (fun K => by kernel_rfl) .nil ?_
                    rcases cond_some hh with ⟨hb, hh⟩ | ⟨hb, hh⟩
                    · refine Aw.condT (by kernel_rfl) hb ?_
                      refine Aw.sreg [10] [] ?_
                      refine yct (cs := []) (E' := (sp 62 [(10, .int .i64 (-1 : Int))])) (H' := []) (n' := 1) (fun K => by kernel_rfl) .nil ?_
                      refine Aw.ret ?_
                      obtain rfl := some_some hh
                      refine hR5 _ _ _ ?_
                      refine ?_
                      rw [some_some hk5]
                      exact gives (r' := .int .i64 (-1 : Int)) (by kernel_rfl) (Ent.list [] rfl rfl (Nat.zero_le _) (rens_1 ren_i) hs_nil)
                    · refine Aw.condF (by kernel_rfl) hb ?_
                      refine Aw.skip ?_
                      obtain rfl := some_some hh
                      exact hN5 () _ _ _ hk5 (Ent.list2 [some 0] rfl rfl (by decide) (rens_sp (by kernel_rfl) (rl_c (u := .int .i64 x_addr) (by kernel_rfl) ren_i (rl_c (u := .ptr 0 [] 0) (by kernel_rfl) (ren_p (by decide) rfl) rl_n))) (hs_as (t := ⟨29, (C_29 v4)⟩) (by decide) rfl (by kernel_rfl) rfl (rens_same (nr_C_29 _)) hs_nil))
                  · refine ybs (t := 3) hb (by kernel_rfl) ?_
                    refine ybs (t := 49) hb (by kernel_rfl) ?_
                    refine ybs (t := 50) hb (by kernel_rfl) ?_
                    refine yct (cs := []) (E' := (sp 62 [(2, .int .i64 x_addr), (11, .ptr 0 [] 0), (55, .bool false)])) (H' := [(0, some ⟨29, (C_29 v4)⟩)]) (n' := 1) (fun K => by kernel_rfl) .nil ?_
                    refine Aw.condF (by kernel_rfl) rfl ?_
                    refine Aw.skip ?_
                    obtain rfl := some_some hh
                    exact hN5 () _ _ _ hk5 (Ent.list2 [some 0] rfl rfl (by decide) (rens_sp (by kernel_rfl) (rl_c (u := .int .i64 x_addr) (by kernel_rfl) ren_i (rl_c (u := .ptr 0 [] 0) (by kernel_rfl) (ren_p (by decide) rfl) rl_n))) (hs_as (t := ⟨29, (C_29 v4)⟩) (by decide) rfl (by kernel_rfl) rfl (rens_same (nr_C_29 _)) hs_nil))
              · refine ybs (t := 4) hb (by kernel_rfl) ?_
                refine ybs (t := 41) hb (by kernel_rfl) ?_
                refine ybs (t := 42) hb (by kernel_rfl) ?_
                refine yc (cs := []) (E' := (sp 62 [(2, .int .i64 x_addr), (3, .bool x_user), (4, .bool false), (11, .ptr 0 [] 0), (37, .ptr 0 [] 0), (38, .bool v4.There), (39, .bool false), (40, .bool false), (41, .bool false), (42, .bool false), (43, .und), (44, .und), (45, .und), (46, .bool false), (47, .bool false), (48, .bool false), (49, .bool x_user), (50, .bool x_user)])) (H' := [(0, some ⟨29, (C_29 v4)⟩)]) (n' := 1) (pre := (List.take 8 (List.drop 6 L_spec_Walk_r6))) (L' := (List.drop 14 L_spec_Walk_r6)) (by kernel_rfl) (fun K => by kernel_rfl) .nil ?_
                rcases cond_some hh with ⟨hb, hh⟩ | ⟨hb, hh⟩
                · refine ybs (t := 3) hb (by kernel_rfl) ?_
                  refine ybs (t := 49) hb (by kernel_rfl) ?_
                  refine ybs (t := 50) hb (by kernel_rfl) ?_
                  refine yct (cs := []) (E' := (sp 62 [(2, .int .i64 x_addr), (11, .ptr 0 [] 0), (55, .bool (!v4.User))])) (H' := [(0, some ⟨29, (C_29 v4)⟩)]) (n' := 1) (fun K => by kernel_rfl) .nil ?_
                  rcases cond_some hh with ⟨hb, hh⟩ | ⟨hb, hh⟩
                  · refine Aw.condT (by kernel_rfl) hb ?_
                    refine Aw.sreg [10] [] ?_
                    refine yct (cs := []) (E' := (sp 62 [(10, .int .i64 (-1 : Int))])) (H' := []) (n' := 1) (fun K => by kernel_rfl) .nil ?_
                    refine Aw.ret ?_
                    obtain rfl := some_some hh
                    refine hR5 _ _ _ ?_
                    refine ?_
                    rw [some_some hk5]
                    exact gives (r' := .int .i64 (-1 : Int)) (by kernel_rfl) (Ent.list [] rfl rfl (Nat.zero_le _) (rens_1 ren_i) hs_nil)
                  · refine Aw.condF (by kernel_rfl) hb ?_
                    refine Aw.skip ?_
                    obtain rfl := some_some hh
                    exact hN5 () _ _ _ hk5 (Ent.list2 [some 0] rfl rfl (by decide) (rens_sp (by kernel_rfl) (rl_c (u := .int .i64 x_addr) (by kernel_rfl) ren_i (rl_c (u := .ptr 0 [] 0) (by kernel_rfl) (ren_p (by decide) rfl) rl_n))) (hs_as (t := ⟨29, (C_29 v4)⟩) (by decide) rfl (by kernel_rfl) rfl (rens_same (nr_C_29 _)) hs_nil))
                · refine ybs (t := 3) hb (by kernel_rfl) ?_
                  refine ybs (t := 49) hb (by kernel_rfl) ?_
                  refine ybs (t := 50) hb (by kernel_rfl) ?_
                  refine yct (cs := []) (E' := (sp 62 [(2, .int .i64 x_addr), (11, .ptr 0 [] 0), (55, .bool false)])) (H' := [(0, some ⟨29, (C_29 v4)⟩)]) (n' := 1) (fun K => by kernel_rfl) .nil ?_
                  refine Aw.condF (by kernel_rfl) rfl ?_
                  refine Aw.skip ?_
                  obtain rfl := some_some hh
                  exact hN5 () _ _ _ hk5 (Ent.list2 [some 0] rfl rfl (by decide) (rens_sp (by kernel_rfl) (rl_c (u := .int .i64 x_addr) (by kernel_rfl) ren_i (rl_c (u := .ptr 0 [] 0) (by kernel_rfl) (ren_p (by decide) rfl) rl_n))) (hs_as (t := ⟨29, (C_29 v4)⟩) (by decide) rfl (by kernel_rfl) rfl (rens_same (nr_C_29 _)) hs_nil))

-- 6 loop.example/guesthouse/laws.FnWalk
def L_laws_FnWalk_r0 : List LOper := [⟨(some 2), (.mv (.c (.bool false))), none⟩]
def L_laws_FnWalk_r1 : List LOper := [⟨(some 10), (.mv (.t 0)), none⟩, ⟨(some 11), (.len (.t 10)), none⟩, ⟨(some 12), (.bin .gtr (.t 11) (.c (.int .i64 1048576))), none⟩]
def L_laws_FnWalk_r2 : List LOper := [⟨(some 2), (.mv (.c (.bool true))), none⟩]
def L_laws_FnWalk_r3 : List LOper := [⟨(some 14), (.mv (.t 0)), none⟩, ⟨(some 15), (.call 26 [(.t 14)]), none⟩, ⟨(some 13), (.mv (.t 15)), none⟩, ⟨(some 16), (.ext (.t 13) 0), none⟩, ⟨(some 17), (.ext (.t 13) 1), none⟩, ⟨(some 18), (.ext (.t 13) 2), none⟩, ⟨(some 19), (.ext (.t 13) 3), none⟩, ⟨(some 20), (.ext (.t 13) 4), none⟩, ⟨(some 3), (.mv (.t 16)), none⟩, ⟨(some 4), (.mv (.t 17)), none⟩, ⟨(some 5), (.mv (.t 18)), none⟩, ⟨(some 6), (.mv (.t 19)), none⟩, ⟨(some 7), (.mv (.t 20)), none⟩]
def L_laws_FnWalk_r4 : List LOper := [⟨(some 21), (.mv (.t 3)), none⟩, ⟨(some 22), (.mv (.t 4)), none⟩, ⟨(some 23), (.mv (.t 5)), none⟩, ⟨(some 24), (.mv (.t 6)), none⟩, ⟨(some 25), (.mv (.t 7)), none⟩, ⟨(some 26), (.call 27 [(.t 21), (.t 22), (.t 23), (.t 24), (.t 25)]), none⟩, ⟨(some 8), (.mv (.t 26)), none⟩]
def L_laws_FnWalk_r5 : List LOper := [⟨(some 27), (.mv (.t 8)), none⟩, ⟨(some 28), (.mv (.t 3)), none⟩, ⟨(some 29), (.mv (.t 4)), none⟩, ⟨(some 30), (.mv (.t 5)), none⟩, ⟨(some 31), (.mv (.t 6)), none⟩, ⟨(some 32), (.mv (.t 7)), none⟩, ⟨(some 33), (.call 28 [(.t 28), (.t 29), (.t 30), (.t 31), (.t 32)]), none⟩, ⟨(some 34), (.bin .neq (.t 27) (.t 33)), none⟩]
def L_laws_FnWalk_r6 : List LOper := [⟨(some 2), (.mv (.c (.bool false))), none⟩]
def L_laws_FnWalk_r7 : List LOper := [⟨(some 35), (.mv (.t 8)), none⟩, ⟨(some 36), (.bin .lss (.t 35) (.c (.int .i64 0))), none⟩]
def L_laws_FnWalk_r8 : List LOper := [⟨(some 37), (.mv (.t 8)), none⟩, ⟨(some 38), (.bin .eql (.t 37) (.c (.int .i64 (-1)))), none⟩, ⟨(some 39), (.mv (.t 38)), none⟩, ⟨(some 40), (.call 18 []), (some (39, true))⟩, ⟨(some 41), (.pick (.t 39) (.t 40) (.c (.bool false))), none⟩, ⟨(some 2), (.mv (.t 41)), none⟩]
def L_laws_FnWalk_r9 : List LOper := [⟨(some 42), (.mv (.t 5)), none⟩, ⟨(some 43), (.mv (.t 5)), none⟩, ⟨(some 44), (.bin .rem (.t 43) (.c (.int .i64 8))), none⟩, ⟨(some 45), (.bin .sub (.t 42) (.t 44)), none⟩, ⟨(some 9), (.mv (.t 45)), none⟩]
def L_laws_FnWalk_r10 : List LOper := [⟨(some 46), (.mv (.t 3)), none⟩, ⟨(some 47), (.mv (.t 4)), none⟩, ⟨(some 48), (.mv (.t 5)), none⟩, ⟨(some 49), (.call 27 [(.t 46), (.t 47), (.t 48), (.c (.bool false)), (.c (.bool false))]), none⟩, ⟨(some 50), (.mv (.t 8)), none⟩, ⟨(some 51), (.bin .eql (.t 49) (.t 50)), none⟩, ⟨(some 52), (.mv (.t 51)), none⟩, ⟨(some 53), (.mv (.t 3)), (some (52, true))⟩, ⟨(some 54), (.mv (.t 4)), (some (52, true))⟩, ⟨(some 55), (.mv (.t 5)), (some (52, true))⟩, ⟨(some 56), (.mv (.t 6)), (some (52, true))⟩, ⟨(some 57), (.call 27 [(.t 53), (.t 54), (.t 55), (.t 56), (.c (.bool false))]), (some (52, true))⟩, ⟨(some 58), (.mv (.t 8)), (some (52, true))⟩, ⟨(some 59), (.bin .eql (.t 57) (.t 58)), (some (52, true))⟩, ⟨(some 60), (.pick (.t 52) (.t 59) (.c (.bool false))), none⟩, ⟨(some 61), (.mv (.t 60)), none⟩, ⟨(some 62), (.mv (.t 3)), (some (61, true))⟩, ⟨(some 63), (.mv (.t 4)), (some (61, true))⟩, ⟨(some 64), (.mv (.t 9)), (some (61, true))⟩, ⟨(some 65), (.mv (.t 6)), (some (61, true))⟩, ⟨(some 66), (.mv (.t 7)), (some (61, true))⟩, ⟨(some 67), (.call 27 [(.t 62), (.t 63), (.t 64), (.t 65), (.t 66)]), (some (61, true))⟩, ⟨(some 68), (.mv (.t 8)), (some (61, true))⟩, ⟨(some 69), (.mv (.t 5)), (some (61, true))⟩, ⟨(some 70), (.bin .rem (.t 69) (.c (.int .i64 8))), (some (61, true))⟩, ⟨(some 71), (.bin .sub (.t 68) (.t 70)), (some (61, true))⟩, ⟨(some 72), (.bin .eql (.t 67) (.t 71)), (some (61, true))⟩, ⟨(some 73), (.pick (.t 61) (.t 72) (.c (.bool false))), none⟩, ⟨(some 74), (.mv (.t 73)), none⟩, ⟨(some 75), (.mv (.t 8)), (some (74, true))⟩, ⟨(some 76), (.mv (.t 3)), (some (74, true))⟩, ⟨(some 77), (.len (.t 76)), (some (74, true))⟩, ⟨(some 78), (.bin .lss (.t 75) (.t 77)), (some (74, true))⟩, ⟨(some 79), (.pick (.t 74) (.t 78) (.c (.bool false))), none⟩, ⟨(some 2), (.mv (.t 79)), none⟩]
def L_laws_FnWalk : LFun := ⟨80, [(.tmp 2)], (.seq (.reg false L_laws_FnWalk_r0) (.seq (.seq (.reg false L_laws_FnWalk_r1) (.cond (.t 12) (.seq (.reg false L_laws_FnWalk_r2) .ret) .skip)) (.seq (.reg false L_laws_FnWalk_r3) (.seq (.reg false L_laws_FnWalk_r4) (.seq (.seq (.reg false L_laws_FnWalk_r5) (.cond (.t 34) (.seq (.reg false L_laws_FnWalk_r6) .ret) .skip)) (.seq (.seq (.reg false L_laws_FnWalk_r7) (.cond (.t 36) (.seq (.reg false L_laws_FnWalk_r8) .ret) .skip)) (.seq (.reg false L_laws_FnWalk_r9) (.seq (.reg false L_laws_FnWalk_r10) .ret))))))))⟩
theorem low_laws_FnWalk : lowFun Go.Proofs.Try.prog 6 = some L_laws_FnWalk := by kernel_rfl
noncomputable def F_laws_FnWalk (x_code : List Int) : Option Bool :=
  cond (decide ((1048576 : Int) < (((List.length x_code) : Nat) : Int)))
    (some true)
    (Option.bind (F_spec_DrawWalk x_code) fun v1 =>
    Option.bind (F_impl_Walk v1.1 v1.2.1 v1.2.2.1 v1.2.2.2.1 v1.2.2.2.2) fun v2 =>
    Option.bind (F_spec_Walk v1.1 v1.2.1 v1.2.2.1 v1.2.2.2.1 v1.2.2.2.2) fun v3 =>
    cond (!decide (v2 = v3))
      (some false)
      (cond (decide (v2 < (0 : Int)))
        (cond (decide (v2 = (-1 : Int)))
          (Option.bind (F_laws_alive ) fun v4 =>
          some v4)
          (some false))
        (Option.bind (F_impl_Walk v1.1 v1.2.1 v1.2.2.1 false false) fun v5 =>
        cond (decide (v5 = v2))
          (Option.bind (F_impl_Walk v1.1 v1.2.1 v1.2.2.1 v1.2.2.2.1 false) fun v6 =>
          cond (decide (v6 = v2))
            (Option.bind (F_impl_Walk v1.1 v1.2.1 (w64 (v1.2.2.1 - (Int.tmod v1.2.2.1 (8 : Int)))) v1.2.2.2.1 v1.2.2.2.2) fun v7 =>
            cond (decide (v7 = (w64 (v2 - (Int.tmod v1.2.2.1 (8 : Int))))))
              (some (decide (v2 < (((List.length v1.1) : Nat) : Int))))
              (some false))
            (some false))
          (some false))))
theorem laws_FnWalk_fn {x_code : List Int} {R_ : Bool} (hh : F_laws_FnWalk x_code = some R_) : Fn Try.prog 6 [bo (eI .u8) x_code] (.bool R_) := by
  unfold F_laws_FnWalk at hh
  refine Fn.start low_laws_FnWalk [0] (E := sp 80 [(0, bo (eI .u8) x_code)]) (by kernel_rfl) (v := .bool R_) (Hr := []) (k := 0) (by kernel_rfl) ?_
  refine Aw.sreg [0] [] ?_
  refine yct (cs := []) (E' := (sp 80 [(0, bo (eI .u8) x_code)])) (H' := []) (n' := 0) (fun K => by kernel_rfl) .nil ?_
  refine Aw.seq ?_
  refine Aw.sreg [0, 12] [] ?_
  refine yct (cs := []) (E' := (sp 80 [(0, bo (eI .u8) x_code), (12, .bool (decide ((1048576 : Int) < (((List.length x_code) : Nat) : Int))))])) (H' := []) (n' := 0) (fun K => by kernel_rfl) .nil ?_
  rcases cond_some hh with ⟨hb, hh⟩ | ⟨hb, hh⟩
  · refine Aw.condT (by kernel_rfl) hb ?_
    refine Aw.sreg [2] [] ?_
    refine yct (cs := []) (E' := (sp 80 [(2, .bool true)])) (H' := []) (n' := 0) (fun K => by kernel_rfl) .nil ?_
    refine Aw.ret ?_
    refine then_r ?_
    rw [some_some hh]
    exact gives (r' := .bool true) (by kernel_rfl) (Ent.list [] rfl rfl (Nat.zero_le _) (rens_1 ren_b) hs_nil)
  · refine Aw.condF (by kernel_rfl) hb ?_
    refine Aw.xskip (fun _ _ _ hq => then_m hq) ?_
    refine Aw.sreg [3, 4, 5, 6, 7] [0] ?_
    refine yc (cs := []) (E' := (sp 80 [(0, bo (eI .u8) x_code), (12, .bool (decide ((1048576 : Int) < (((List.length x_code) : Nat) : Int)))), (14, bo (eI .u8) x_code)])) (H' := []) (n' := 0) (pre := (List.take 1 L_laws_FnWalk_r3)) (L' := (List.drop 1 L_laws_FnWalk_r3)) (by kernel_rfl) (fun K => by kernel_rfl) .nil ?_
    obtain ⟨v1, hv1, hh⟩ := bind_some hh
    refine yso (op := (.call 26 [(.t 14)])) (d := (some 15)) (os := (List.drop 2 L_laws_FnWalk_r3)) (by kernel_rfl) (op_call (r := .tup [.own 3 1 (List.length v1.1) (fl (eI .i64) v1.1), .int .i64 v1.2.1, .int .i64 v1.2.2.1, .bool v1.2.2.2.1, .bool v1.2.2.2.2]) (v := .tup [.sref 0 [] 0 (List.length v1.1) 1, .int .i64 v1.2.1, .int .i64 v1.2.2.1, .bool v1.2.2.2.1, .bool v1.2.2.2.2]) (Hr := [(0, some ⟨3, (fl (eI .i64) v1.1)⟩)]) (n' := 1) (spec_DrawWalk_fn hv1) (clz_v (vs := [bo (eI .u8) x_code]) (by kernel_rfl) (clz_c (clo_same (clean_bor (cleans_fl cl_eI))) clz_n)) (by simp only [AV.noRef, noRefs, Bool.and_self, noRefs_fl nr_eI]) (by simp only [AV.noBor, noBors, Bool.and_self, noBors_fl nb_eI]) (by kernel_rfl) ?_)
    refine yct (cs := []) (E' := (sp 80 [(3, .sref 0 [] 0 (List.length v1.1) 1), (4, .int .i64 v1.2.1), (5, .int .i64 v1.2.2.1), (6, .bool v1.2.2.2.1), (7, .bool v1.2.2.2.2)])) (H' := [(0, some ⟨3, (fl (eI .i64) v1.1)⟩)]) (n' := 1) (fun K => by kernel_rfl) .nil ?_
    refine Aw.sreg [3, 4, 5, 6, 7, 8] [0] ?_
    refine yc (cs := []) (E' := (sp 80 [(3, .sref 0 [] 0 (List.length v1.1) 1), (4, .int .i64 v1.2.1), (5, .int .i64 v1.2.2.1), (6, .bool v1.2.2.2.1), (7, .bool v1.2.2.2.2), (21, .sref 0 [] 0 (List.length v1.1) 1), (22, .int .i64 v1.2.1), (23, .int .i64 v1.2.2.1), (24, .bool v1.2.2.2.1), (25, .bool v1.2.2.2.2)])) (H' := [(0, some ⟨3, (fl (eI .i64) v1.1)⟩)]) (n' := 1) (pre := (List.take 5 L_laws_FnWalk_r4)) (L' := (List.drop 5 L_laws_FnWalk_r4)) (by kernel_rfl) (fun K => by kernel_rfl) .nil ?_
    obtain ⟨v2, hv2, hh⟩ := bind_some hh
    refine yso (op := (.call 27 [(.t 21), (.t 22), (.t 23), (.t 24), (.t 25)])) (d := (some 26)) (os := (List.drop 6 L_laws_FnWalk_r4)) (by kernel_rfl) (op_call (r := .int .i64 v2) (v := .int .i64 v2) (Hr := []) (n' := 1) (impl_Walk_fn hv2) (clz_v (vs := [.sref 0 [] 0 (List.length v1.1) 1, .int .i64 v1.2.1, .int .i64 v1.2.2.1, .bool v1.2.2.2.1, .bool v1.2.2.2.2]) (by kernel_rfl) (clz_c (clo_own (c := (eI .i64)) (xs := v1.1) (e := 3) (by first | rfl | omega | (simp only [List.length_set, over_len, List.length_replicate, List.length_append, List.length_cons, List.length_nil, List.length_take, List.length_drop] <;> omega)) len_eI no_eI cl_eI (by kernel_rfl)) (clz_c (clo_same rfl) (clz_c (clo_same rfl) (clz_c (clo_same rfl) (clz_c (clo_same rfl) clz_n)))))) rfl rfl (by kernel_rfl) ?_)
    refine yct (cs := []) (E' := (sp 80 [(3, .sref 0 [] 0 (List.length v1.1) 1), (4, .int .i64 v1.2.1), (5, .int .i64 v1.2.2.1), (6, .bool v1.2.2.2.1), (7, .bool v1.2.2.2.2), (8, .int .i64 v2)])) (H' := [(0, some ⟨3, (fl (eI .i64) v1.1)⟩)]) (n' := 1) (fun K => by kernel_rfl) .nil ?_
    refine Aw.seq ?_
    refine Aw.sreg [3, 4, 5, 6, 7, 8, 34] [0] ?_
    refine yc (cs := []) (E' := (sp 80 [(3, .sref 0 [] 0 (List.length v1.1) 1), (4, .int .i64 v1.2.1), (5, .int .i64 v1.2.2.1), (6, .bool v1.2.2.2.1), (7, .bool v1.2.2.2.2), (8, .int .i64 v2), (27, .int .i64 v2), (28, .sref 0 [] 0 (List.length v1.1) 1), (29, .int .i64 v1.2.1), (30, .int .i64 v1.2.2.1), (31, .bool v1.2.2.2.1), (32, .bool v1.2.2.2.2)])) (H' := [(0, some ⟨3, (fl (eI .i64) v1.1)⟩)]) (n' := 1) (pre := (List.take 6 L_laws_FnWalk_r5)) (L' := (List.drop 6 L_laws_FnWalk_r5)) (by kernel_rfl) (fun K => by kernel_rfl) .nil ?_
    obtain ⟨v3, hv3, hh⟩ := bind_some hh
    refine yso (op := (.call 28 [(.t 28), (.t 29), (.t 30), (.t 31), (.t 32)])) (d := (some 33)) (os := (List.drop 7 L_laws_FnWalk_r5)) (by kernel_rfl) (op_call (r := .int .i64 v3) (v := .int .i64 v3) (Hr := []) (n' := 1) (spec_Walk_fn hv3) (clz_v (vs := [.sref 0 [] 0 (List.length v1.1) 1, .int .i64 v1.2.1, .int .i64 v1.2.2.1, .bool v1.2.2.2.1, .bool v1.2.2.2.2]) (by kernel_rfl) (clz_c (clo_own (c := (eI .i64)) (xs := v1.1) (e := 3) (by first | rfl | omega | (simp only [List.length_set, over_len, List.length_replicate, List.length_append, List.length_cons, List.length_nil, List.length_take, List.length_drop] <;> omega)) len_eI no_eI cl_eI (by kernel_rfl)) (clz_c (clo_same rfl) (clz_c (clo_same rfl) (clz_c (clo_same rfl) (clz_c (clo_same rfl) clz_n)))))) rfl rfl (by kernel_rfl) ?_)
    refine yct (cs := []) (E' := (sp 80 [(3, .sref 0 [] 0 (List.length v1.1) 1), (4, .int .i64 v1.2.1), (5, .int .i64 v1.2.2.1), (6, .bool v1.2.2.2.1), (7, .bool v1.2.2.2.2), (8, .int .i64 v2), (34, .bool (!decide (v2 = v3)))])) (H' := [(0, some ⟨3, (fl (eI .i64) v1.1)⟩)]) (n' := 1) (fun K => by kernel_rfl) .nil ?_
    rcases cond_some hh with ⟨hb, hh⟩ | ⟨hb, hh⟩
    · refine Aw.condT (by kernel_rfl) hb ?_
      refine Aw.sreg [2] [] ?_
      refine yct (cs := []) (E' := (sp 80 [(2, .bool false)])) (H' := []) (n' := 1) (fun K => by kernel_rfl) .nil ?_
      refine Aw.ret ?_
      refine then_r ?_
      rw [some_some hh]
      exact gives (r' := .bool false) (by kernel_rfl) (Ent.list [] rfl rfl (Nat.zero_le _) (rens_1 ren_b) hs_nil)
    · refine Aw.condF (by kernel_rfl) hb ?_
      refine Aw.xskip (fun _ _ _ hq => then_m hq) ?_
      refine Aw.seq ?_
      refine Aw.sreg [3, 4, 5, 6, 7, 8, 36] [0] ?_
      refine yct (cs := []) (E' := (sp 80 [(3, .sref 0 [] 0 (List.length v1.1) 1), (4, .int .i64 v1.2.1), (5, .int .i64 v1.2.2.1), (6, .bool v1.2.2.2.1), (7, .bool v1.2.2.2.2), (8, .int .i64 v2), (36, .bool (decide (v2 < (0 : Int))))])) (H' := [(0, some ⟨3, (fl (eI .i64) v1.1)⟩)]) (n' := 1) (fun K => by kernel_rfl) .nil ?_
      rcases cond_some hh with ⟨hb, hh⟩ | ⟨hb, hh⟩
      · refine Aw.condT (by kernel_rfl) hb ?_
        refine Aw.sreg [2] [] ?_
        refine yc (cs := []) (E' := (sp 80 [(3, .sref 0 [] 0 (List.length v1.1) 1), (4, .int .i64 v1.2.1), (5, .int .i64 v1.2.2.1), (6, .bool v1.2.2.2.1), (7, .bool v1.2.2.2.2), (8, .int .i64 v2), (36, .bool (decide (v2 < (0 : Int)))), (37, .int .i64 v2), (38, .bool (decide (v2 = (-1 : Int)))), (39, .bool (decide (v2 = (-1 : Int))))])) (H' := [(0, some ⟨3, (fl (eI .i64) v1.1)⟩)]) (n' := 1) (pre := (List.take 3 L_laws_FnWalk_r8)) (L' := (List.drop 3 L_laws_FnWalk_r8)) (by kernel_rfl) (fun K => by kernel_rfl) .nil ?_
        rcases cond_some hh with ⟨hb, hh⟩ | ⟨hb, hh⟩
        · refine ybs (t := 38) hb (by kernel_rfl) ?_
          refine ybs (t := 39) hb (by kernel_rfl) ?_
          obtain ⟨v4, hv4, hh⟩ := bind_some hh
          refine ysg (op := (.call 18 [])) (d := (some 40)) (t := 39) (want := true) (os := (List.drop 4 L_laws_FnWalk_r8)) (by kernel_rfl) (by kernel_rfl) (op_call (r := .bool v4) (v := .bool v4) (Hr := []) (n' := 1) (laws_alive_fn hv4) (clz_v (vs := []) (by kernel_rfl) clz_n) rfl rfl (by kernel_rfl) ?_)
          refine yct (cs := []) (E' := (sp 80 [(2, .bool v4)])) (H' := []) (n' := 1) (fun K => by kernel_rfl) .nil ?_
          refine Aw.ret ?_
          refine then_r ?_
          rw [some_some hh]
          exact gives (r' := .bool v4) (by kernel_rfl) (Ent.list [] rfl rfl (Nat.zero_le _) (rens_1 ren_b) hs_nil)
        · refine ybs (t := 38) hb (by kernel_rfl) ?_
          refine ybs (t := 39) hb (by kernel_rfl) ?_
          refine yct (cs := []) (E' := (sp 80 [(2, .bool false)])) (H' := []) (n' := 1) (fun K => by kernel_rfl) .nil ?_
          refine Aw.ret ?_
          refine then_r ?_
          rw [some_some hh]
          exact gives (r' := .bool false) (by kernel_rfl) (Ent.list [] rfl rfl (Nat.zero_le _) (rens_1 ren_b) hs_nil)
      · refine Aw.condF (by kernel_rfl) hb ?_
        refine Aw.xskip (fun _ _ _ hq => then_m hq) ?_
        refine Aw.sreg [3, 4, 5, 6, 7, 8, 9] [0] ?_
        refine yct (cs := [(8 : Int) ≠ 0]) (E' := (sp 80 [(3, .sref 0 [] 0 (List.length v1.1) 1), (4, .int .i64 v1.2.1), (5, .int .i64 v1.2.2.1), (6, .bool v1.2.2.2.1), (7, .bool v1.2.2.2.2), (8, .int .i64 v2), (9, .int .i64 (w64 (v1.2.2.1 - (Int.tmod v1.2.2.1 (8 : Int)))))])) (H' := [(0, some ⟨3, (fl (eI .i64) v1.1)⟩)]) (n' := 1) (fun K => by kernel_rfl) (.cons (by decide) .nil) ?_
        refine Aw.sreg [2] [] ?_
        refine yc (cs := []) (E' := (sp 80 [(3, .sref 0 [] 0 (List.length v1.1) 1), (4, .int .i64 v1.2.1), (5, .int .i64 v1.2.2.1), (6, .bool v1.2.2.2.1), (7, .bool v1.2.2.2.2), (8, .int .i64 v2), (9, .int .i64 (w64 (v1.2.2.1 - (Int.tmod v1.2.2.1 (8 : Int))))), (46, .sref 0 [] 0 (List.length v1.1) 1), (47, .int .i64 v1.2.1), (48, .int .i64 v1.2.2.1)])) (H' := [(0, some ⟨3, (fl (eI .i64) v1.1)⟩)]) (n' := 1) (pre := (List.take 3 L_laws_FnWalk_r10)) (L' := (List.drop 3 L_laws_FnWalk_r10)) (by kernel_rfl) (fun K => by kernel_rfl) .nil ?_
        obtain ⟨v5, hv5, hh⟩ := bind_some hh
        refine yso (op := (.call 27 [(.t 46), (.t 47), (.t 48), (.c (.bool false)), (.c (.bool false))])) (d := (some 49)) (os := (List.drop 4 L_laws_FnWalk_r10)) (by kernel_rfl) (op_call (r := .int .i64 v5) (v := .int .i64 v5) (Hr := []) (n' := 1) (impl_Walk_fn hv5) (clz_v (vs := [.sref 0 [] 0 (List.length v1.1) 1, .int .i64 v1.2.1, .int .i64 v1.2.2.1, .bool false, .bool false]) (by kernel_rfl) (clz_c (clo_own (c := (eI .i64)) (xs := v1.1) (e := 3) (by first | rfl | omega | (simp only [List.length_set, over_len, List.length_replicate, List.length_append, List.length_cons, List.length_nil, List.length_take, List.length_drop] <;> omega)) len_eI no_eI cl_eI (by kernel_rfl)) (clz_c (clo_same rfl) (clz_c (clo_same rfl) (clz_c (clo_same rfl) (clz_c (clo_same rfl) clz_n)))))) rfl rfl (by kernel_rfl) ?_)
        refine yc (cs := []) (E' := (sp 80 [(3, .sref 0 [] 0 (List.length v1.1) 1), (4, .int .i64 v1.2.1), (5, .int .i64 v1.2.2.1), (6, .bool v1.2.2.2.1), (7, .bool v1.2.2.2.2), (8, .int .i64 v2), (9, .int .i64 (w64 (v1.2.2.1 - (Int.tmod v1.2.2.1 (8 : Int))))), (46, .sref 0 [] 0 (List.length v1.1) 1), (47, .int .i64 v1.2.1), (48, .int .i64 v1.2.2.1), (49, .int .i64 v5), (50, .int .i64 v2), (51, .bool (decide (v5 = v2))), (52, .bool (decide (v5 = v2)))])) (H' := [(0, some ⟨3, (fl (eI .i64) v1.1)⟩)]) (n' := 1) (pre := (List.take 3 (List.drop 4 L_laws_FnWalk_r10))) (L' := (List.drop 7 L_laws_FnWalk_r10)) (by kernel_rfl) (fun K => by kernel_rfl) .nil ?_
        rcases cond_some hh with ⟨hb, hh⟩ | ⟨hb, hh⟩
        · refine ybs (t := 51) hb (by kernel_rfl) ?_
          refine ybs (t := 52) hb (by kernel_rfl) ?_
          refine yc (cs := []) (E' := (sp 80 [(3, .sref 0 [] 0 (List.length v1.1) 1), (4, .int .i64 v1.2.1), (5, .int .i64 v1.2.2.1), (6, .bool v1.2.2.2.1), (7, .bool v1.2.2.2.2), (8, .int .i64 v2), (9, .int .i64 (w64 (v1.2.2.1 - (Int.tmod v1.2.2.1 (8 : Int))))), (46, .sref 0 [] 0 (List.length v1.1) 1), (47, .int .i64 v1.2.1), (48, .int .i64 v1.2.2.1), (49, .int .i64 v5), (50, .int .i64 v2), (51, .bool true), (52, .bool true), (53, .sref 0 [] 0 (List.length v1.1) 1), (54, .int .i64 v1.2.1), (55, .int .i64 v1.2.2.1), (56, .bool v1.2.2.2.1)])) (H' := [(0, some ⟨3, (fl (eI .i64) v1.1)⟩)]) (n' := 1) (pre := (List.take 4 (List.drop 7 L_laws_FnWalk_r10))) (L' := (List.drop 11 L_laws_FnWalk_r10)) (by kernel_rfl) (fun K => by kernel_rfl) .nil ?_
          obtain ⟨v6, hv6, hh⟩ := bind_some hh
          refine ysg (op := (.call 27 [(.t 53), (.t 54), (.t 55), (.t 56), (.c (.bool false))])) (d := (some 57)) (t := 52) (want := true) (os := (List.drop 12 L_laws_FnWalk_r10)) (by kernel_rfl) (by kernel_rfl) (op_call (r := .int .i64 v6) (v := .int .i64 v6) (Hr := []) (n' := 1) (impl_Walk_fn hv6) (clz_v (vs := [.sref 0 [] 0 (List.length v1.1) 1, .int .i64 v1.2.1, .int .i64 v1.2.2.1, .bool v1.2.2.2.1, .bool false]) (by kernel_rfl) (clz_c (clo_own (c := (eI .i64)) (xs := v1.1) (e := 3) (by first | rfl | omega | (simp only [List.length_set, over_len, List.length_replicate, List.length_append, List.length_cons, List.length_nil, List.length_take, List.length_drop] <;> omega)) len_eI no_eI cl_eI (by kernel_rfl)) (clz_c (clo_same rfl) (clz_c (clo_same rfl) (clz_c (clo_same rfl) (clz_c (clo_same rfl) clz_n)))))) rfl rfl (by kernel_rfl) ?_)
          refine yc (cs := []) (E' := (sp 80 [(3, .sref 0 [] 0 (List.length v1.1) 1), (4, .int .i64 v1.2.1), (5, .int .i64 v1.2.2.1), (6, .bool v1.2.2.2.1), (7, .bool v1.2.2.2.2), (8, .int .i64 v2), (9, .int .i64 (w64 (v1.2.2.1 - (Int.tmod v1.2.2.1 (8 : Int))))), (46, .sref 0 [] 0 (List.length v1.1) 1), (47, .int .i64 v1.2.1), (48, .int .i64 v1.2.2.1), (49, .int .i64 v5), (50, .int .i64 v2), (51, .bool true), (52, .bool true), (53, .sref 0 [] 0 (List.length v1.1) 1), (54, .int .i64 v1.2.1), (55, .int .i64 v1.2.2.1), (56, .bool v1.2.2.2.1), (57, .int .i64 v6), (58, .int .i64 v2), (59, .bool (decide (v6 = v2))), (60, .bool (decide (v6 = v2))), (61, .bool (decide (v6 = v2)))])) (H' := [(0, some ⟨3, (fl (eI .i64) v1.1)⟩)]) (n' := 1) (pre := (List.take 4 (List.drop 12 L_laws_FnWalk_r10))) (L' := (List.drop 16 L_laws_FnWalk_r10)) (by kernel_rfl) (fun K => by kernel_rfl) .nil ?_
          rcases cond_some hh with ⟨hb, hh⟩ | ⟨hb, hh⟩
          · refine ybs (t := 59) hb (by kernel_rfl) ?_
            refine ybs (t := 60) hb (by kernel_rfl) ?_
            refine ybs (t := 61) hb (by kernel_rfl) ?_
            refine yc (cs := []) (E' := (sp 80 [(3, .sref 0 [] 0 (List.length v1.1) 1), (4, .int .i64 v1.2.1), (5, .int .i64 v1.2.2.1), (6, .bool v1.2.2.2.1), (7, .bool v1.2.2.2.2), (8, .int .i64 v2), (9, .int .i64 (w64 (v1.2.2.1 - (Int.tmod v1.2.2.1 (8 : Int))))), (46, .sref 0 [] 0 (List.length v1.1) 1), (47, .int .i64 v1.2.1), (48, .int .i64 v1.2.2.1), (49, .int .i64 v5), (50, .int .i64 v2), (51, .bool true), (52, .bool true), (53, .sref 0 [] 0 (List.length v1.1) 1), (54, .int .i64 v1.2.1), (55, .int .i64 v1.2.2.1), (56, .bool v1.2.2.2.1), (57, .int .i64 v6), (58, .int .i64 v2), (59, .bool true), (60, .bool true), (61, .bool true), (62, .sref 0 [] 0 (List.length v1.1) 1), (63, .int .i64 v1.2.1), (64, .int .i64 (w64 (v1.2.2.1 - (Int.tmod v1.2.2.1 (8 : Int))))), (65, .bool v1.2.2.2.1), (66, .bool v1.2.2.2.2)])) (H' := [(0, some ⟨3, (fl (eI .i64) v1.1)⟩)]) (n' := 1) (pre := (List.take 5 (List.drop 16 L_laws_FnWalk_r10))) (L' := (List.drop 21 L_laws_FnWalk_r10)) (by kernel_rfl) (fun K => by kernel_rfl) .nil ?_
            obtain ⟨v7, hv7, hh⟩ := bind_some hh
            refine ysg (op := (.call 27 [(.t 62), (.t 63), (.t 64), (.t 65), (.t 66)])) (d := (some 67)) (t := 61) (want := true) (os := (List.drop 22 L_laws_FnWalk_r10)) (by kernel_rfl) (by kernel_rfl) (op_call (r := .int .i64 v7) (v := .int .i64 v7) (Hr := []) (n' := 1) (impl_Walk_fn hv7) (clz_v (vs := [.sref 0 [] 0 (List.length v1.1) 1, .int .i64 v1.2.1, .int .i64 (w64 (v1.2.2.1 - (Int.tmod v1.2.2.1 (8 : Int)))), .bool v1.2.2.2.1, .bool v1.2.2.2.2]) (by kernel_rfl) (clz_c (clo_own (c := (eI .i64)) (xs := v1.1) (e := 3) (by first | rfl | omega | (simp only [List.length_set, over_len, List.length_replicate, List.length_append, List.length_cons, List.length_nil, List.length_take, List.length_drop] <;> omega)) len_eI no_eI cl_eI (by kernel_rfl)) (clz_c (clo_same rfl) (clz_c (clo_same rfl) (clz_c (clo_same rfl) (clz_c (clo_same rfl) clz_n)))))) rfl rfl (by kernel_rfl) ?_)
            refine yc (cs := [(8 : Int) ≠ 0]) (E' := (sp 80 [(3, .sref 0 [] 0 (List.length v1.1) 1), (4, .int .i64 v1.2.1), (5, .int .i64 v1.2.2.1), (6, .bool v1.2.2.2.1), (7, .bool v1.2.2.2.2), (8, .int .i64 v2), (9, .int .i64 (w64 (v1.2.2.1 - (Int.tmod v1.2.2.1 (8 : Int))))), (46, .sref 0 [] 0 (List.length v1.1) 1), (47, .int .i64 v1.2.1), (48, .int .i64 v1.2.2.1), (49, .int .i64 v5), (50, .int .i64 v2), (51, .bool true), (52, .bool true), (53, .sref 0 [] 0 (List.length v1.1) 1), (54, .int .i64 v1.2.1), (55, .int .i64 v1.2.2.1), (56, .bool v1.2.2.2.1), (57, .int .i64 v6), (58, .int .i64 v2), (59, .bool true), (60, .bool true), (61, .bool true), (62, .sref 0 [] 0 (List.length v1.1) 1), (63, .int .i64 v1.2.1), (64, .int .i64 (w64 (v1.2.2.1 - (Int.tmod v1.2.2.1 (8 : Int))))), (65, .bool v1.2.2.2.1), (66, .bool v1.2.2.2.2), (67, .int .i64 v7), (68, .int .i64 v2), (69, .int .i64 v1.2.2.1), (70, .int .i64 (Int.tmod v1.2.2.1 (8 : Int))), (71, .int .i64 (w64 (v2 - (Int.tmod v1.2.2.1 (8 : Int))))), (72, .bool (decide (v7 = (w64 (v2 - (Int.tmod v1.2.2.1 (8 : Int))))))), (73, .bool (decide (v7 = (w64 (v2 - (Int.tmod v1.2.2.1 (8 : Int))))))), (74, .bool (decide (v7 = (w64 (v2 - (Int.tmod v1.2.2.1 (8 : Int)))))))])) (H' := [(0, some ⟨3, (fl (eI .i64) v1.1)⟩)]) (n' := 1) (pre := (List.take 7 (List.drop 22 L_laws_FnWalk_r10))) (L' := (List.drop 29 L_laws_FnWalk_r10)) (by kernel_rfl) (fun K => by kernel_rfl) (.cons (by decide) .nil) ?_
            rcases cond_some hh with ⟨hb, hh⟩ | ⟨hb, hh⟩
            · refine ybs (t := 72) hb (by kernel_rfl) ?_
              refine ybs (t := 73) hb (by kernel_rfl) ?_
              refine ybs (t := 74) hb (by kernel_rfl) ?_
              refine yct (cs := []) (E' := (sp 80 [(2, .bool (decide (v2 < (((List.length v1.1) : Nat) : Int))))])) (H' := []) (n' := 1) (fun K => by kernel_rfl) .nil ?_
              refine Aw.ret ?_
              rw [some_some hh]
              exact gives (r' := .bool (decide (v2 < (((List.length v1.1) : Nat) : Int)))) (by kernel_rfl) (Ent.list [] rfl rfl (Nat.zero_le _) (rens_1 ren_b) hs_nil)
            · refine ybs (t := 72) hb (by kernel_rfl) ?_
              refine ybs (t := 73) hb (by kernel_rfl) ?_
              refine ybs (t := 74) hb (by kernel_rfl) ?_
              refine yct (cs := []) (E' := (sp 80 [(2, .bool false)])) (H' := []) (n' := 1) (fun K => by kernel_rfl) .nil ?_
              refine Aw.ret ?_
              rw [some_some hh]
              exact gives (r' := .bool false) (by kernel_rfl) (Ent.list [] rfl rfl (Nat.zero_le _) (rens_1 ren_b) hs_nil)
          · refine ybs (t := 59) hb (by kernel_rfl) ?_
            refine ybs (t := 60) hb (by kernel_rfl) ?_
            refine ybs (t := 61) hb (by kernel_rfl) ?_
            refine yct (cs := []) (E' := (sp 80 [(2, .bool false)])) (H' := []) (n' := 1) (fun K => by kernel_rfl) .nil ?_
            refine Aw.ret ?_
            rw [some_some hh]
            exact gives (r' := .bool false) (by kernel_rfl) (Ent.list [] rfl rfl (Nat.zero_le _) (rens_1 ren_b) hs_nil)
        · refine ybs (t := 51) hb (by kernel_rfl) ?_
          refine ybs (t := 52) hb (by kernel_rfl) ?_
          refine yct (cs := []) (E' := (sp 80 [(2, .bool false)])) (H' := []) (n' := 1) (fun K => by kernel_rfl) .nil ?_
          refine Aw.ret ?_
          rw [some_some hh]
          exact gives (r' := .bool false) (by kernel_rfl) (Ent.list [] rfl rfl (Nat.zero_le _) (rens_1 ren_b) hs_nil)

end Go.Proofs.Ythbefahhpikcaaa
