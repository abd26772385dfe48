/- Plain functions of the program, and that it hands back what they say. Made by program. -/
import Derived.Test.YthbefahhpikcaaaWT
import Derived.Test.YthbefahhpikcaaaProg
import Derived.Test.YthbefahhpikcaaaWE1
import Derived.Test.YthbefahhpikcaaaWO1
namespace Go.Proofs.Ythbefahhpikcaaa
open Go.RowKit
set_option maxRecDepth 100000
set_option linter.all false
set_option maxHeartbeats 0

-- 85 (*loop.example/guesthouse/spec.l20Rd).odd
def L___spec_l20Rd__odd_r0 : List LOper := [⟨(some 4), (.mv (.c (.bool false))), none⟩]
def L___spec_l20Rd__odd_r1 : List LOper := [⟨(some 5), (.mv (.t 1)), none⟩, ⟨(some 6), (.bin .gtr (.t 5) (.c (.int .i64 0))), none⟩, ⟨(some 7), (.mv (.t 6)), none⟩, ⟨(some 8), (.mv (.t 0)), (some (7, true))⟩, ⟨(some 9), (.mv (.t 1)), (some (7, true))⟩, ⟨(some 10), (.call 55 [(.t 8), (.t 9)]), (some (7, true))⟩, ⟨(some 11), (.mv (.t 1)), (some (7, true))⟩, ⟨(some 12), (.bin .sub (.t 11) (.c (.int .i64 1))), (some (7, true))⟩, ⟨(some 13), (.bin .eql (.t 10) (.t 12)), (some (7, true))⟩, ⟨(some 14), (.pick (.t 7) (.t 13) (.c (.bool false))), none⟩, ⟨(some 4), (.mv (.t 14)), none⟩]
def L___spec_l20Rd__odd : LFun := ⟨15, [(.tmp 4)], (.seq (.reg false L___spec_l20Rd__odd_r0) (.seq (.reg false L___spec_l20Rd__odd_r1) .ret))⟩
theorem low___spec_l20Rd__odd : lowFun Go.Proofs.Try.prog 85 = some L___spec_l20Rd__odd := by kernel_rfl
noncomputable def F___spec_l20Rd__odd (x_r : Dl20Rd) (x_n : Int) : Option (Dl20Rd × Bool) :=
  cond (decide ((0 : Int) < x_n))
    (Option.bind (F___spec_l20Rd__pick x_r x_n) fun v1 =>
    some (v1.1, (decide (v1.2 = (w64 (x_n - (1 : Int)))))))
    (some (x_r, false))
theorem __spec_l20Rd__odd_fn {x_r : Dl20Rd} {x_n : Int} {R_ : Dl20Rd × Bool} (hh : F___spec_l20Rd__odd x_r x_n = some R_) : Inl Try.prog 85 [.ptr 0 [] 0, .int .i64 x_n] [(0, some ⟨90, (B_90 x_r)⟩)] 1 (.bool R_.2) [(0, some ⟨90, [bo (eI .u8) R_.1.b, .int .i64 R_.1.p]⟩)] 1 := by
  unfold F___spec_l20Rd__odd at hh
  refine Inl.start low___spec_l20Rd__odd [0, 1] [0] (E := sp 15 [(0, .ptr 0 [] 0), (1, .int .i64 x_n)]) (H1 := [(0, some ⟨90, (B_90 x_r)⟩)]) (by kernel_rfl) (by kernel_rfl) ?_
  refine Aw.sreg [0, 1] [0] ?_
  refine yct (cs := []) (E' := (sp 15 [(0, .ptr 0 [] 0), (1, .int .i64 x_n)])) (H' := [(0, some ⟨90, (B_90 x_r)⟩)]) (n' := 1) (fun K => by kernel_rfl) .nil ?_
  refine Aw.sreg [4] [0] ?_
  refine yc (cs := []) (E' := (sp 15 [(0, .ptr 0 [] 0), (1, .int .i64 x_n), (5, .int .i64 x_n), (6, .bool (decide ((0 : Int) < x_n))), (7, .bool (decide ((0 : Int) < x_n)))])) (H' := [(0, some ⟨90, (B_90 x_r)⟩)]) (n' := 1) (pre := (List.take 3 L___spec_l20Rd__odd_r1)) (L' := (List.drop 3 L___spec_l20Rd__odd_r1)) (by kernel_rfl) (fun K => by kernel_rfl) .nil ?_
  rcases cond_some hh with ⟨hb, hh⟩ | ⟨hb, hh⟩
  · refine ybs (t := 6) hb (by kernel_rfl) ?_
    refine ybs (t := 7) hb (by kernel_rfl) ?_
    refine yc (cs := []) (E' := (sp 15 [(0, .ptr 0 [] 0), (1, .int .i64 x_n), (5, .int .i64 x_n), (6, .bool true), (7, .bool true), (8, .ptr 0 [] 0), (9, .int .i64 x_n)])) (H' := [(0, some ⟨90, (B_90 x_r)⟩)]) (n' := 1) (pre := (List.take 2 (List.drop 3 L___spec_l20Rd__odd_r1))) (L' := (List.drop 5 L___spec_l20Rd__odd_r1)) (by kernel_rfl) (fun K => by kernel_rfl) .nil ?_
    obtain ⟨v1, hv1, hh⟩ := bind_some hh
    refine ysg (op := (.call 55 [(.t 8), (.t 9)])) (d := (some 10)) (t := 7) (want := true) (os := (List.drop 6 L___spec_l20Rd__odd_r1)) (by kernel_rfl) (by kernel_rfl) (op_callf (v' := .int .i64 v1.2) (Hp' := [(0, some ⟨90, (B_90 v1.1)⟩)]) (n' := 1) [0] (__spec_l20Rd__pick_fn hv1) (args' := [.ptr 0 [] 0, .int .i64 x_n]) (by kernel_rfl) rfl rfl rfl (rens_c (ren_p (by decide) rfl) (rens_c ren_i rens_n)) rfl (hs_as (t := ⟨90, (B_90 x_r)⟩) (by decide) rfl (by kernel_rfl) rfl (rens_same (nr_B_90 _)) hs_nil) ren_i rfl (hs_as (t := ⟨90, (B_90 v1.1)⟩) (by decide) rfl (by kernel_rfl) rfl (rens_same (nr_B_90 _)) hs_nil) rfl ?_)
    refine yct (cs := []) (E' := (sp 15 [(4, .bool (decide (v1.2 = (w64 (x_n - (1 : Int))))))])) (H' := [(0, some ⟨90, (B_90 v1.1)⟩)]) (n' := 1) (fun K => by kernel_rfl) .nil ?_
    refine Aw.ret ?_
    rw [some_some hh]
    exact gives (r' := .bool (decide (v1.2 = (w64 (x_n - (1 : Int)))))) (by kernel_rfl) (Ent.list2 [some 0] rfl rfl (by decide) (rens_1 ren_b) (hs_as (t := ⟨90, (B_90 v1.1)⟩) (by decide) rfl (by kernel_rfl) rfl (rens_same (nr_B_90 _)) hs_nil))
  · refine ybs (t := 6) hb (by kernel_rfl) ?_
    refine ybs (t := 7) hb (by kernel_rfl) ?_
    refine yct (cs := []) (E' := (sp 15 [(4, .bool false)])) (H' := [(0, some ⟨90, (B_90 x_r)⟩)]) (n' := 1) (fun K => by kernel_rfl) .nil ?_
    refine Aw.ret ?_
    rw [some_some hh]
    exact gives (r' := .bool false) (by kernel_rfl) (Ent.list2 [some 0] rfl rfl (by decide) (rens_1 ren_b) (hs_as (t := ⟨90, (B_90 x_r)⟩) (by decide) rfl (by kernel_rfl) rfl (rens_same (nr_B_90 _)) hs_nil))

-- 51 loop.example/guesthouse/spec.l20Mem
def L_spec_l20Mem_r0 : List LOper := [⟨(some 4), (.mv (.c .nil)), none⟩]
def L_spec_l20Mem_r1 : List LOper := [⟨(some 8), (.bsl 3 1 0 [(.int .i64 0)] []), none⟩, ⟨(some 5), (.mv (.t 8)), none⟩]
def L_spec_l20Mem_r2 : List LOper := [⟨(some 6), (.mv (.c (.int .i64 0))), none⟩]
def L_spec_l20Mem_r3 : List LOper := [⟨(some 9), (.mv (.t 6)), none⟩, ⟨(some 10), (.bin .lss (.t 9) (.c (.int .i64 64))), none⟩]
def L_spec_l20Mem_r4 : List LOper := [⟨(some 7), (.mv (.c (.int .i64 0))), none⟩]
def L_spec_l20Mem_r5 : List LOper := [⟨(some 13), (.mv (.t 0)), none⟩, ⟨(some 14), (.call 55 [(.t 13), (.c (.int .i64 2))]), none⟩, ⟨(some 15), (.bin .eql (.t 14) (.c (.int .i64 0))), none⟩]
def L_spec_l20Mem_r6 : List LOper := [⟨(some 16), (.mv (.t 0)), none⟩, ⟨(some 17), (.call 58 [(.t 16)]), none⟩, ⟨(some 7), (.mv (.t 17)), none⟩]
def L_spec_l20Mem_r7 : List LOper := [⟨(some 18), (.mv (.t 6)), none⟩, ⟨(some 19), (.bin .quo (.t 18) (.c (.int .i64 8))), none⟩, ⟨(some 20), (.bin .eql (.t 19) (.c (.int .i64 1))), none⟩, ⟨(some 21), (.mv (.t 20)), none⟩, ⟨(some 22), (.mv (.t 6)), (some (21, false))⟩, ⟨(some 23), (.bin .quo (.t 22) (.c (.int .i64 8))), (some (21, false))⟩, ⟨(some 24), (.bin .eql (.t 23) (.c (.int .i64 2))), (some (21, false))⟩, ⟨(some 25), (.pick (.t 21) (.c (.bool true)) (.t 24)), none⟩]
def L_spec_l20Mem_r8 : List LOper := [⟨(some 26), (.mv (.t 0)), none⟩, ⟨(some 27), (.call 55 [(.t 26), (.c (.int .i64 5))]), none⟩, ⟨(some 28), (.bin .gtr (.t 27) (.c (.int .i64 0))), none⟩, ⟨(some 29), (.mv (.t 0)), none⟩, ⟨(some 30), (.call 55 [(.t 29), (.c (.int .i64 4))]), none⟩, ⟨(some 31), (.bin .gtr (.t 30) (.c (.int .i64 0))), none⟩, ⟨(some 32), (.mv (.t 0)), none⟩, ⟨(some 33), (.call 55 [(.t 32), (.c (.int .i64 3))]), none⟩, ⟨(some 34), (.bin .gtr (.t 33) (.c (.int .i64 0))), none⟩, ⟨(some 35), (.mv (.t 0)), none⟩, ⟨(some 36), (.call 55 [(.t 35), (.c (.int .i64 8))]), none⟩, ⟨(some 37), (.bld [(.bool false), (.bool false), (.bool false), (.int .i64 0)] [(0, (1, (.t 28))), (1, (1, (.t 31))), (2, (1, (.t 34))), (3, (1, (.t 36)))]), none⟩, ⟨(some 38), (.call 21 [(.t 37)]), none⟩, ⟨(some 7), (.mv (.t 38)), none⟩]
def L_spec_l20Mem_r9 : List LOper := [⟨(some 39), (.mv (.t 5)), none⟩, ⟨(some 40), (.mv (.t 7)), none⟩, ⟨(some 41), (.bsl 3 1 1 [(.int .i64 0)] [(0, (1, (.t 40)))]), none⟩, ⟨(some 42), (.app 3 1 8 [(.int .i64 0)] (.t 39) (.t 41)), none⟩, ⟨(some 5), (.mv (.t 42)), none⟩]
def L_spec_l20Mem_r10 : List LOper := [⟨(some 11), (.mv (.t 6)), none⟩, ⟨(some 12), (.bin .add (.t 11) (.c (.int .i64 1))), none⟩, ⟨(some 6), (.mv (.t 12)), none⟩]
def L_spec_l20Mem_l11 : LCode := (.seq (.seq (.reg false L_spec_l20Mem_r3) (.cond (.t 10) .skip (.exit 0))) (.seq (.block 1 (.seq (.reg false L_spec_l20Mem_r4) (.seq (.seq (.reg false L_spec_l20Mem_r5) (.cond (.t 15) (.reg false L_spec_l20Mem_r6) .skip)) (.seq (.seq (.reg false L_spec_l20Mem_r7) (.cond (.t 25) (.reg false L_spec_l20Mem_r8) .skip)) (.reg false L_spec_l20Mem_r9))))) (.reg false L_spec_l20Mem_r10)))
def L_spec_l20Mem_r12 : List LOper := [⟨(some 43), (.mv (.t 0)), none⟩, ⟨(some 44), (.mv (.t 1)), none⟩, ⟨(some 45), (.call 85 [(.t 43), (.t 44)]), none⟩]
def L_spec_l20Mem_r13 : List LOper := [⟨(some 46), (.mv (.t 0)), none⟩, ⟨(some 47), (.call 55 [(.t 46), (.c (.int .i64 2))]), none⟩, ⟨(some 48), (.bin .eql (.t 47) (.c (.int .i64 0))), none⟩]
def L_spec_l20Mem_r14 : List LOper := [⟨(some 49), (.mv (.t 5)), none⟩, ⟨(some 50), (.slc 1 (.t 49) none (some (.c (.int .i64 63)))), none⟩, ⟨(some 5), (.mv (.t 50)), none⟩]
def L_spec_l20Mem_r15 : List LOper := [⟨(some 51), (.mv (.t 5)), none⟩, ⟨(some 52), (.mv (.t 0)), none⟩, ⟨(some 53), (.call 55 [(.t 52), (.c (.int .i64 64))]), none⟩, ⟨(some 54), (.mv (.t 0)), none⟩, ⟨(some 55), (.call 55 [(.t 54), (.c (.int .i64 2))]), none⟩, ⟨(some 56), (.bin .mul (.t 55) (.c (.int .i64 4097))), none⟩, ⟨(some 57), (.bin .sub (.c (.int .i64 4096)) (.t 56)), none⟩, ⟨(some 58), (.iadr 1 (.t 51) (.t 53)), none⟩, ⟨none, (.store 1 (.t 58) (.t 57)), none⟩]
def L_spec_l20Mem_r16 : List LOper := [⟨(some 59), (.mv (.t 5)), none⟩, ⟨(some 4), (.mv (.t 59)), none⟩]
def L_spec_l20Mem : LFun := ⟨60, [(.tmp 4)], (.seq (.reg false L_spec_l20Mem_r0) (.seq (.reg false L_spec_l20Mem_r1) (.seq (.seq (.reg false L_spec_l20Mem_r2) (.block 0 (.loop L_spec_l20Mem_l11))) (.seq (.seq (.reg false L_spec_l20Mem_r12) (.cond (.t 45) (.seq (.reg false L_spec_l20Mem_r13) (.cond (.t 48) (.reg false L_spec_l20Mem_r14) (.reg false L_spec_l20Mem_r15))) .skip)) (.seq (.reg false L_spec_l20Mem_r16) .ret)))))⟩
theorem low_spec_l20Mem : lowFun Go.Proofs.Try.prog 51 = some L_spec_l20Mem := by kernel_rfl
noncomputable def F_spec_l20Mem_j2  (s2 : (List Int) × Int × (List Int)) : Option (Dl20Rd × (List Int)) :=
  some ((Dl20Rd.mk s2.1 s2.2.1), s2.2.2)
noncomputable def F_spec_l20Mem_j1 (x_n : Int) (s1 : (List Int) × Int × (List Int)) : Option (Dl20Rd × (List Int)) :=
  Option.bind (Option.bind (F___spec_l20Rd__odd (Dl20Rd.mk s1.1 s1.2.1) x_n) fun v3 =>
    cond v3.2
      (Option.bind (F___spec_l20Rd__pick v3.1 (2 : Int)) fun v4 =>
      cond (decide (v4.2 = (0 : Int)))
        (grd ((0 : Int) ≤ (0 : Int) ∧ (0 : Int) ≤ (63 : Int) ∧ (63 : Int) ≤ (((List.length s1.2.2) : Nat) : Int)) (some (.go (v4.1.b, v4.1.p, (List.take (Int.toNat (63 : Int) - Int.toNat (0 : Int)) s1.2.2)))))
        (Option.bind (F___spec_l20Rd__pick v4.1 (64 : Int)) fun v5 =>
        Option.bind (F___spec_l20Rd__pick v5.1 (2 : Int)) fun v6 =>
        grd ((0 : Int) ≤ v5.2 ∧ v5.2 < (((List.length s1.2.2) : Nat) : Int)) (some (.go (v6.1.b, v6.1.p, (List.set s1.2.2 (Int.toNat v5.2) (w64 ((4096 : Int) - (w64 (v6.2 * (4097 : Int)))))))))))
      (some (.go (v3.1.b, v3.1.p, s1.2.2)))) fun j2 =>
    JO.run j2 (F_spec_l20Mem_j2)
noncomputable def F_spec_l20Mem_j9 (s7 : (List Int) × Int × (List Int) × Int) (s9 : (List Int) × Int × Int) : Option (LO ((List Int) × Int × (List Int) × Int) (JO ((List Int) × Int × (List Int)) (Dl20Rd × (List Int)))) :=
  grd ((List.length s7.2.2.1 + List.length ([s9.2.2] : List Int)) * 8 ≤ 2 ^ 47 ∧ List.length s7.2.2.1 + List.length ([s9.2.2] : List Int) ≤ 2 ^ 47) (some (.next (s9.1, s9.2.1, (s7.2.2.1 ++ ([s9.2.2] : List Int)), (w64 (s7.2.2.2 + (1 : Int))))))
noncomputable def F_spec_l20Mem_j8 (s7 : (List Int) × Int × (List Int) × Int) (s8 : (List Int) × Int × Int) : Option (LO ((List Int) × Int × (List Int) × Int) (JO ((List Int) × Int × (List Int)) (Dl20Rd × (List Int)))) :=
  Option.bind (cond (decide ((w64 (Int.tdiv s7.2.2.2 (8 : Int))) = (1 : Int)))
      (Option.bind (F___spec_l20Rd__pick (Dl20Rd.mk s8.1 s8.2.1) (5 : Int)) fun v10 =>
      Option.bind (F___spec_l20Rd__pick v10.1 (4 : Int)) fun v11 =>
      Option.bind (F___spec_l20Rd__pick v11.1 (3 : Int)) fun v12 =>
      Option.bind (F___spec_l20Rd__pick v12.1 (8 : Int)) fun v13 =>
      Option.bind (F_spec_EntryWord (DEntry.mk (decide ((0 : Int) < v10.2)) (decide ((0 : Int) < v11.2)) (decide ((0 : Int) < v12.2)) v13.2)) fun v14 =>
      some (.go (v13.1.b, v13.1.p, v14)))
      (cond (decide ((w64 (Int.tdiv s7.2.2.2 (8 : Int))) = (2 : Int)))
        (Option.bind (F___spec_l20Rd__pick (Dl20Rd.mk s8.1 s8.2.1) (5 : Int)) fun v15 =>
        Option.bind (F___spec_l20Rd__pick v15.1 (4 : Int)) fun v16 =>
        Option.bind (F___spec_l20Rd__pick v16.1 (3 : Int)) fun v17 =>
        Option.bind (F___spec_l20Rd__pick v17.1 (8 : Int)) fun v18 =>
        Option.bind (F_spec_EntryWord (DEntry.mk (decide ((0 : Int) < v15.2)) (decide ((0 : Int) < v16.2)) (decide ((0 : Int) < v17.2)) v18.2)) fun v19 =>
        some (.go (v18.1.b, v18.1.p, v19)))
        (some (.go (s8.1, s8.2.1, s8.2.2))))) fun j9 =>
    JO.run j9 (F_spec_l20Mem_j9 s7)
noncomputable def F_spec_l20Mem_l7  (s7 : (List Int) × Int × (List Int) × Int) : Option (LO ((List Int) × Int × (List Int) × Int) (JO ((List Int) × Int × (List Int)) (Dl20Rd × (List Int)))) :=
  cond (decide (s7.2.2.2 < (64 : Int)))
    (Option.bind (Option.bind (F___spec_l20Rd__pick (Dl20Rd.mk s7.1 s7.2.1) (2 : Int)) fun v20 =>
      cond (decide (v20.2 = (0 : Int)))
        (Option.bind (F___spec_l20Rd__word v20.1) fun v21 =>
        some (.go (v21.1.b, v21.1.p, v21.2)))
        (some (.go (v20.1.b, v20.1.p, (0 : Int))))) fun j8 =>
      JO.run j8 (F_spec_l20Mem_j8 s7))
    (some (.ret (.go (s7.1, s7.2.1, s7.2.2.1))))
noncomputable def F_spec_l20Mem (x_r : Dl20Rd) (x_n : Int) : Option (Dl20Rd × (List Int)) :=
  Option.bind (Option.bind (iter (F_spec_l20Mem_l7) (x_r.b, x_r.p, ([] : List Int), (0 : Int))) LO.val) fun j1 =>
    JO.run j1 (F_spec_l20Mem_j1 x_n)
theorem spec_l20Mem_fn {x_r : Dl20Rd} {x_n : Int} {R_ : Dl20Rd × (List Int)} (hh : F_spec_l20Mem x_r x_n = some R_) : Inl Try.prog 51 [.ptr 0 [] 0, .int .i64 x_n] [(0, some ⟨90, (B_90 x_r)⟩)] 1 (.sref 1 [] 0 (List.length R_.2) 1) [(1, some ⟨3, (fl (eI .i64) R_.2)⟩), (0, some ⟨90, [bo (eI .u8) R_.1.b, .int .i64 R_.1.p]⟩)] 2 := by
  unfold F_spec_l20Mem at hh
  refine Inl.start low_spec_l20Mem [0, 1] [0] (E := sp 60 [(0, .ptr 0 [] 0), (1, .int .i64 x_n)]) (H1 := [(0, some ⟨90, (B_90 x_r)⟩)]) (by kernel_rfl) (by kernel_rfl) ?_
  refine Aw.sreg [0, 1] [0] ?_
  refine yct (cs := []) (E' := (sp 60 [(0, .ptr 0 [] 0), (1, .int .i64 x_n)])) (H' := [(0, some ⟨90, (B_90 x_r)⟩)]) (n' := 1) (fun K => by kernel_rfl) .nil ?_
  refine Aw.sreg [0, 1, 5] [0, 1] ?_
  refine yct (cs := []) (E' := (sp 60 [(0, .ptr 0 [] 0), (1, .int .i64 x_n), (5, .sref 1 [] 0 0 1)])) (H' := [(0, some ⟨90, (B_90 x_r)⟩), (1, some ⟨3, []⟩)]) (n' := 2) (fun K => by kernel_rfl) .nil ?_
  obtain ⟨j1, hh, hk1⟩ := bind_some hh
  refine Aw.join (S := (List Int) × Int × (List Int)) (fun s1 => sp 60 [(0, .ptr 0 [] 0), (1, .int .i64 x_n), (5, .sref 1 [] 0 (List.length s1.2.2) 1)]) (fun s1 => [(0, some ⟨90, [bo (eI .u8) s1.1, .int .i64 s1.2.1]⟩), (1, some ⟨3, (fl (eI .i64) s1.2.2)⟩)]) 2 (fun s1 => F_spec_l20Mem_j1 x_n s1 = some R_) ?_ ?_
  · intro s1 hh
    unfold F_spec_l20Mem_j1 at hh
    obtain ⟨j2, hh, hk2⟩ := bind_some hh
    refine Aw.join (S := (List Int) × Int × (List Int)) (fun s2 => sp 60 [(5, .sref 1 [] 0 (List.length s2.2.2) 1)]) (fun s2 => [(0, some ⟨90, [bo (eI .u8) s2.1, .int .i64 s2.2.1]⟩), (1, some ⟨3, (fl (eI .i64) s2.2.2)⟩)]) 2 (fun s2 => F_spec_l20Mem_j2 s2 = some R_) ?_ ?_
    · intro s2 hh
      unfold F_spec_l20Mem_j2 at hh
      refine Aw.sreg [4] [0, 1] ?_
      refine yct (cs := []) (E' := (sp 60 [(4, .sref 1 [] 0 (List.length s2.2.2) 1)])) (H' := [(0, some ⟨90, [bo (eI .u8) s2.1, .int .i64 s2.2.1]⟩), (1, some ⟨3, (fl (eI .i64) s2.2.2)⟩)]) (n' := 2) (fun K => by kernel_rfl) .nil ?_
      refine Aw.ret ?_
      rw [some_some hh]
      exact gives (r' := .sref 1 [] 0 (List.length s2.2.2) 1) (by kernel_rfl) (Ent.list2 [some 0, some 1] rfl rfl (by decide) (rens_1 (ren_se (by decide) rfl rfl)) (hs_as (t := ⟨3, (fl (eI .i64) s2.2.2)⟩) (by decide) rfl (by kernel_rfl) rfl (rens_same (noRefs_fl nr_eI)) (hs_as (t := ⟨90, [bo (eI .u8) s2.1, .int .i64 s2.2.1]⟩) (by decide) rfl (by kernel_rfl) rfl (rens_c (ren_bor (rens_same (noRefs_fl nr_eI))) (rens_c ren_i rens_n)) hs_nil)))
    · intro Q2 hN2 hR2 hE2
      refine Aw.sreg [0, 5, 45] [0, 1] ?_
      refine yc (cs := []) (E' := (sp 60 [(0, .ptr 0 [] 0), (1, .int .i64 x_n), (5, .sref 1 [] 0 (List.length s1.2.2) 1), (43, .ptr 0 [] 0), (44, .int .i64 x_n)])) (H' := [(0, some ⟨90, [bo (eI .u8) s1.1, .int .i64 s1.2.1]⟩), (1, some ⟨3, (fl (eI .i64) s1.2.2)⟩)]) (n' := 2) (pre := (List.take 2 L_spec_l20Mem_r12)) (L' := (List.drop 2 L_spec_l20Mem_r12)) (by kernel_rfl) (fun K => by kernel_rfl) .nil ?_
      obtain ⟨v3, hv3, hh⟩ := bind_some hh
      refine yso (op := (.call 85 [(.t 43), (.t 44)])) (d := (some 45)) (os := (List.drop 3 L_spec_l20Mem_r12)) (by kernel_rfl) (op_callf (v' := .bool v3.2) (Hp' := [(0, some ⟨90, (B_90 v3.1)⟩)]) (n' := 2) [0] (__spec_l20Rd__odd_fn hv3) (args' := [.ptr 0 [] 0, .int .i64 x_n]) (by kernel_rfl) rfl rfl rfl (rens_c (ren_p (by decide) rfl) (rens_c ren_i rens_n)) rfl (hs_as (t := ⟨90, [bo (eI .u8) s1.1, .int .i64 s1.2.1]⟩) (by decide) rfl (by kernel_rfl) rfl (rens_c (ren_bor (rens_same (noRefs_fl nr_eI))) (rens_c ren_i rens_n)) hs_nil) ren_b rfl (hs_as (t := ⟨90, (B_90 v3.1)⟩) (by decide) rfl (by kernel_rfl) rfl (rens_same (nr_B_90 _)) hs_nil) rfl ?_)
      refine yct (cs := []) (E' := (sp 60 [(0, .ptr 0 [] 0), (5, .sref 1 [] 0 (List.length s1.2.2) 1), (45, .bool v3.2)])) (H' := [(0, some ⟨90, (B_90 v3.1)⟩), (1, some ⟨3, (fl (eI .i64) s1.2.2)⟩)]) (n' := 2) (fun K => by kernel_rfl) .nil ?_
      rcases cond_some hh with ⟨hb, hh⟩ | ⟨hb, hh⟩
      · refine Aw.condT (by kernel_rfl) hb ?_
        refine Aw.sreg [0, 5, 48] [0, 1] ?_
        refine yc (cs := []) (E' := (sp 60 [(0, .ptr 0 [] 0), (5, .sref 1 [] 0 (List.length s1.2.2) 1), (45, .bool v3.2), (46, .ptr 0 [] 0)])) (H' := [(0, some ⟨90, (B_90 v3.1)⟩), (1, some ⟨3, (fl (eI .i64) s1.2.2)⟩)]) (n' := 2) (pre := (List.take 1 L_spec_l20Mem_r13)) (L' := (List.drop 1 L_spec_l20Mem_r13)) (by kernel_rfl) (fun K => by kernel_rfl) .nil ?_
        obtain ⟨v4, hv4, hh⟩ := bind_some hh
        refine yso (op := (.call 55 [(.t 46), (.c (.int .i64 2))])) (d := (some 47)) (os := (List.drop 2 L_spec_l20Mem_r13)) (by kernel_rfl) (op_callf (v' := .int .i64 v4.2) (Hp' := [(0, some ⟨90, (B_90 v4.1)⟩)]) (n' := 2) [0] (__spec_l20Rd__pick_fn hv4) (args' := [.ptr 0 [] 0, .int .i64 (2 : Int)]) (by kernel_rfl) rfl rfl rfl (rens_c (ren_p (by decide) rfl) (rens_c ren_i rens_n)) rfl (hs_as (t := ⟨90, (B_90 v3.1)⟩) (by decide) rfl (by kernel_rfl) rfl (rens_same (nr_B_90 _)) hs_nil) ren_i rfl (hs_as (t := ⟨90, (B_90 v4.1)⟩) (by decide) rfl (by kernel_rfl) rfl (rens_same (nr_B_90 _)) hs_nil) rfl ?_)
        refine yct (cs := []) (E' := (sp 60 [(0, .ptr 0 [] 0), (5, .sref 1 [] 0 (List.length s1.2.2) 1), (48, .bool (decide (v4.2 = (0 : Int))))])) (H' := [(0, some ⟨90, (B_90 v4.1)⟩), (1, some ⟨3, (fl (eI .i64) s1.2.2)⟩)]) (n' := 2) (fun K => by kernel_rfl) .nil ?_
        rcases cond_some hh with ⟨hb, hh⟩ | ⟨hb, hh⟩
        · refine Aw.condT (by kernel_rfl) hb ?_
          refine Aw.oreg ?_
          refine yc (cs := []) (E' := (sp 60 [(0, .ptr 0 [] 0), (5, .sref 1 [] 0 (List.length s1.2.2) 1), (48, .bool (decide (v4.2 = (0 : Int)))), (49, .sref 1 [] 0 (List.length s1.2.2) 1)])) (H' := [(0, some ⟨90, (B_90 v4.1)⟩), (1, some ⟨3, (fl (eI .i64) s1.2.2)⟩)]) (n' := 2) (pre := (List.take 1 L_spec_l20Mem_r14)) (L' := (List.drop 1 L_spec_l20Mem_r14)) (by kernel_rfl) (fun K => by kernel_rfl) .nil ?_
          obtain ⟨hg18, hh⟩ := grd_some hh
          refine yso (op := (.slc 1 (.t 49) none (some (.c (.int .i64 63))))) (d := (some 50)) (os := (List.drop 2 L_spec_l20Mem_r14)) (by kernel_rfl) (op_slo (r := 1) (π := []) (o := 0) (k := (List.length s1.2.2)) (sz := 1) (l := (0 : Int)) (h := (63 : Int)) (by kernel_rfl) (by kernel_rfl) (by kernel_rfl) hg18 ?_)
          refine yce (cs := []) (E' := (sp 60 [(0, .ptr 0 [] 0), (5, .sref 1 [] 0 (Int.toNat (63 : Int) - Int.toNat (0 : Int)) 1), (48, .bool (decide (v4.2 = (0 : Int)))), (49, .sref 1 [] 0 (List.length s1.2.2) 1), (50, .sref 1 [] 0 (Int.toNat (63 : Int) - Int.toNat (0 : Int)) 1)])) (H' := [(0, some ⟨90, (B_90 v4.1)⟩), (1, some ⟨3, (fl (eI .i64) s1.2.2)⟩)]) (n' := 2) (fun K => by kernel_rfl) .nil ?_
          obtain rfl := some_some hh
          exact hN2 (v4.1.b, v4.1.p, (List.take (Int.toNat (63 : Int) - Int.toNat (0 : Int)) s1.2.2)) _ _ _ hk2 (Ent.trans (Ent.list2 [some 0, some 1] rfl rfl (by decide) (rens_sp (by kernel_rfl) (rl_c (u := .sref 1 [] 0 (Int.toNat (63 : Int) - Int.toNat (0 : Int)) 1) (by kernel_rfl) (ren_se (by decide) rfl (by first | rfl | omega | (simp only [List.length_set, over_len, List.length_replicate, List.length_append, List.length_cons, List.length_nil, List.length_take, List.length_drop] <;> omega))) rl_n)) (hs_as (t := ⟨90, (B_90 v4.1)⟩) (by decide) rfl (by kernel_rfl) rfl (rens_c (ren_bor (rens_same (noRefs_fl nr_eI))) (rens_c ren_i rens_n)) (hs_as (t := ⟨3, (fl (eI .i64) (List.take (Int.toNat (63 : Int) - Int.toNat (0 : Int)) s1.2.2))⟩) (by decide) rfl (by kernel_rfl) rfl (rens_same (noRefs_fl nr_eI)) hs_nil))) (Ent.cut (H2 := [(0, some ⟨90, (B_90 v4.1)⟩), (1, some ⟨3, (fl (eI .i64) (List.take (Int.toNat (63 : Int) - Int.toNat (0 : Int)) s1.2.2))⟩)]) (HC.root (hc_c (t := ⟨90, (B_90 v4.1)⟩) (by kernel_rfl) (hc_t (c := (eI .i64)) (xs := s1.2.2) len_eI (by kernel_rfl) hc_n)))))
        · refine Aw.condF (by kernel_rfl) hb ?_
          refine Aw.oreg ?_
          refine yc (cs := []) (E' := (sp 60 [(0, .ptr 0 [] 0), (5, .sref 1 [] 0 (List.length s1.2.2) 1), (48, .bool (decide (v4.2 = (0 : Int)))), (51, .sref 1 [] 0 (List.length s1.2.2) 1), (52, .ptr 0 [] 0)])) (H' := [(0, some ⟨90, (B_90 v4.1)⟩), (1, some ⟨3, (fl (eI .i64) s1.2.2)⟩)]) (n' := 2) (pre := (List.take 2 L_spec_l20Mem_r15)) (L' := (List.drop 2 L_spec_l20Mem_r15)) (by kernel_rfl) (fun K => by kernel_rfl) .nil ?_
          obtain ⟨v5, hv5, hh⟩ := bind_some hh
          refine yso (op := (.call 55 [(.t 52), (.c (.int .i64 64))])) (d := (some 53)) (os := (List.drop 3 L_spec_l20Mem_r15)) (by kernel_rfl) (op_callf (v' := .int .i64 v5.2) (Hp' := [(0, some ⟨90, (B_90 v5.1)⟩)]) (n' := 2) [0] (__spec_l20Rd__pick_fn hv5) (args' := [.ptr 0 [] 0, .int .i64 (64 : Int)]) (by kernel_rfl) rfl rfl rfl (rens_c (ren_p (by decide) rfl) (rens_c ren_i rens_n)) rfl (hs_as (t := ⟨90, (B_90 v4.1)⟩) (by decide) rfl (by kernel_rfl) rfl (rens_same (nr_B_90 _)) hs_nil) ren_i rfl (hs_as (t := ⟨90, (B_90 v5.1)⟩) (by decide) rfl (by kernel_rfl) rfl (rens_same (nr_B_90 _)) hs_nil) rfl ?_)
          refine yc (cs := []) (E' := (sp 60 [(0, .ptr 0 [] 0), (5, .sref 1 [] 0 (List.length s1.2.2) 1), (48, .bool (decide (v4.2 = (0 : Int)))), (51, .sref 1 [] 0 (List.length s1.2.2) 1), (52, .ptr 0 [] 0), (53, .int .i64 v5.2), (54, .ptr 0 [] 0)])) (H' := [(0, some ⟨90, (B_90 v5.1)⟩), (0, none), (0, some ⟨90, (B_90 v4.1)⟩), (1, some ⟨3, (fl (eI .i64) s1.2.2)⟩)]) (n' := 2) (pre := (List.take 1 (List.drop 3 L_spec_l20Mem_r15))) (L' := (List.drop 4 L_spec_l20Mem_r15)) (by kernel_rfl) (fun K => by kernel_rfl) .nil ?_
          obtain ⟨v6, hv6, hh⟩ := bind_some hh
          refine yso (op := (.call 55 [(.t 54), (.c (.int .i64 2))])) (d := (some 55)) (os := (List.drop 5 L_spec_l20Mem_r15)) (by kernel_rfl) (op_callf (v' := .int .i64 v6.2) (Hp' := [(0, some ⟨90, (B_90 v6.1)⟩)]) (n' := 2) [0] (__spec_l20Rd__pick_fn hv6) (args' := [.ptr 0 [] 0, .int .i64 (2 : Int)]) (by kernel_rfl) rfl rfl rfl (rens_c (ren_p (by decide) rfl) (rens_c ren_i rens_n)) rfl (hs_as (t := ⟨90, (B_90 v5.1)⟩) (by decide) rfl (by kernel_rfl) rfl (rens_same (nr_B_90 _)) hs_nil) ren_i rfl (hs_as (t := ⟨90, (B_90 v6.1)⟩) (by decide) rfl (by kernel_rfl) rfl (rens_same (nr_B_90 _)) hs_nil) rfl ?_)
          obtain ⟨hg20, hh⟩ := grd_some hh
          refine yc (cs := [(0 : Int) ≤ v5.2 ∧ v5.2 < (((List.length s1.2.2) : Nat) : Int)]) (E' := (sp 60 [(0, .ptr 0 [] 0), (5, .sref 1 [] 0 (List.length s1.2.2) 1), (48, .bool (decide (v4.2 = (0 : Int)))), (51, .sref 1 [] 0 (List.length s1.2.2) 1), (52, .ptr 0 [] 0), (53, .int .i64 v5.2), (54, .ptr 0 [] 0), (55, .int .i64 v6.2), (56, .int .i64 (w64 (v6.2 * (4097 : Int)))), (57, .int .i64 (w64 ((4096 : Int) - (w64 (v6.2 * (4097 : Int)))))), (58, .ptr 1 [] (0 + (Int.toNat v5.2) * 1))])) (H' := [(0, some ⟨90, (B_90 v6.1)⟩), (0, none), (0, some ⟨90, (B_90 v5.1)⟩), (0, none), (0, some ⟨90, (B_90 v4.1)⟩), (1, some ⟨3, (fl (eI .i64) s1.2.2)⟩)]) (n' := 2) (pre := (List.take 3 (List.drop 5 L_spec_l20Mem_r15))) (L' := (List.drop 8 L_spec_l20Mem_r15)) (by kernel_rfl) (fun K => by kernel_rfl) (.cons hg20 .nil) ?_
          refine yso (op := (.store 1 (.t 58) (.t 57))) (d := none) (os := (List.drop 9 L_spec_l20Mem_r15)) (by kernel_rfl) (op_store (c := (eI .i64)) (xs := s1.2.2) (e := 3) (r := 1) (π := []) (o := 0 + (Int.toNat v5.2) * 1) (i := (Int.toNat v5.2)) (off := 0) (vs := [.int .i64 (w64 ((4096 : Int) - (w64 (v6.2 * (4097 : Int)))))]) (y := (w64 ((4096 : Int) - (w64 (v6.2 * (4097 : Int)))))) (H' := [(1, some ⟨3, (fl (eI .i64) (List.set s1.2.2 (Int.toNat v5.2) (w64 ((4096 : Int) - (w64 (v6.2 * (4097 : Int)))))))⟩), (0, some ⟨90, (B_90 v6.1)⟩), (0, none), (0, some ⟨90, (B_90 v5.1)⟩), (0, none), (0, some ⟨90, (B_90 v4.1)⟩), (1, some ⟨3, (fl (eI .i64) s1.2.2)⟩)]) len_eI (by kernel_rfl) (by kernel_rfl) (by kernel_rfl) (by kernel_rfl) (by omega) (by omega) (by decide) (by kernel_rfl) (by kernel_rfl) ?_)
          refine yce (cs := []) (E' := (sp 60 [(0, .ptr 0 [] 0), (5, .sref 1 [] 0 (List.length s1.2.2) 1), (48, .bool (decide (v4.2 = (0 : Int)))), (51, .sref 1 [] 0 (List.length s1.2.2) 1), (52, .ptr 0 [] 0), (53, .int .i64 v5.2), (54, .ptr 0 [] 0), (55, .int .i64 v6.2), (56, .int .i64 (w64 (v6.2 * (4097 : Int)))), (57, .int .i64 (w64 ((4096 : Int) - (w64 (v6.2 * (4097 : Int)))))), (58, .ptr 1 [] (0 + (Int.toNat v5.2) * 1))])) (H' := [(1, some ⟨3, (fl (eI .i64) (List.set s1.2.2 (Int.toNat v5.2) (w64 ((4096 : Int) - (w64 (v6.2 * (4097 : Int)))))))⟩), (0, some ⟨90, (B_90 v6.1)⟩), (0, none), (0, some ⟨90, (B_90 v5.1)⟩), (0, none), (0, some ⟨90, (B_90 v4.1)⟩), (1, some ⟨3, (fl (eI .i64) s1.2.2)⟩)]) (n' := 2) (fun K => by kernel_rfl) .nil ?_
          obtain rfl := some_some hh
          exact hN2 (v6.1.b, v6.1.p, (List.set s1.2.2 (Int.toNat v5.2) (w64 ((4096 : Int) - (w64 (v6.2 * (4097 : Int))))))) _ _ _ hk2 (Ent.list2 [some 0, some 1] rfl rfl (by decide) (rens_sp (by kernel_rfl) (rl_c (u := .sref 1 [] 0 (List.length s1.2.2) 1) (by kernel_rfl) (ren_se (by decide) rfl (by first | rfl | omega | (simp only [List.length_set, over_len, List.length_replicate, List.length_append, List.length_cons, List.length_nil, List.length_take, List.length_drop] <;> omega))) rl_n)) (hs_as (t := ⟨90, (B_90 v6.1)⟩) (by decide) rfl (by kernel_rfl) rfl (rens_c (ren_bor (rens_same (noRefs_fl nr_eI))) (rens_c ren_i rens_n)) (hs_as (t := ⟨3, (fl (eI .i64) (List.set s1.2.2 (Int.toNat v5.2) (w64 ((4096 : Int) - (w64 (v6.2 * (4097 : Int)))))))⟩) (by decide) rfl (by kernel_rfl) rfl (rens_same (noRefs_fl nr_eI)) hs_nil)))
      · refine Aw.condF (by kernel_rfl) hb ?_
        refine Aw.skip ?_
        obtain rfl := some_some hh
        exact hN2 (v3.1.b, v3.1.p, s1.2.2) _ _ _ hk2 (Ent.list2 [some 0, some 1] rfl rfl (by decide) (rens_sp (by kernel_rfl) (rl_c (u := .sref 1 [] 0 (List.length s1.2.2) 1) (by kernel_rfl) (ren_se (by decide) rfl rfl) rl_n)) (hs_as (t := ⟨90, (B_90 v3.1)⟩) (by decide) rfl (by kernel_rfl) rfl (rens_c (ren_bor (rens_same (noRefs_fl nr_eI))) (rens_c ren_i rens_n)) (hs_as (t := ⟨3, (fl (eI .i64) s1.2.2)⟩) (by decide) rfl (by kernel_rfl) rfl (rens_same (noRefs_fl nr_eI)) hs_nil)))
  · intro Q1 hN1 hR1 hE1
    refine Aw.sreg [0, 1, 5, 6] [0, 1] ?_
    refine yct (cs := []) (E' := (sp 60 [(0, .ptr 0 [] 0), (1, .int .i64 x_n), (5, .sref 1 [] 0 0 1), (6, .int .i64 (0 : Int))])) (H' := [(0, some ⟨90, (B_90 x_r)⟩), (1, some ⟨3, []⟩)]) (n' := 2) (fun K => by kernel_rfl) .nil ?_
    refine Aw.block ?_
    obtain ⟨o7, hi7, hk7⟩ := bind_some hh
    refine Aw.iter (fun (s7 : (List Int) × Int × (List Int) × Int) => sp 60 [(0, .ptr 0 [] 0), (1, .int .i64 x_n), (5, .sref 1 [] 0 (List.length s7.2.2.1) 1), (6, .int .i64 s7.2.2.2)]) (fun (s7 : (List Int) × Int × (List Int) × Int) => [(0, some ⟨90, [bo (eI .u8) s7.1, .int .i64 s7.2.1]⟩), (1, some ⟨3, (fl (eI .i64) s7.2.2.1)⟩)]) 2 hi7 (Ent.list2 [some 0, some 1] rfl rfl (by decide) (rens_sp (by kernel_rfl) (rl_c (u := .ptr 0 [] 0) (by kernel_rfl) (ren_p (by decide) rfl) (rl_c (u := .int .i64 x_n) (by kernel_rfl) ren_i (rl_c (u := .sref 1 [] 0 0 1) (by kernel_rfl) (ren_se (by decide) rfl rfl) (rl_c (u := .int .i64 (0 : Int)) (by kernel_rfl) ren_i rl_n))))) (hs_as (t := ⟨90, (B_90 x_r)⟩) (by decide) rfl (by kernel_rfl) rfl (rens_c (ren_bor (rens_same (noRefs_fl nr_eI))) (rens_c ren_i rens_n)) (hs_as (t := ⟨3, []⟩) (by decide) rfl (by kernel_rfl) rfl (rens_same (noRefs_fl nr_eI)) hs_nil))) ?_
    intro s7 u7 Q7 hh hN7 hX7 hR7
    unfold F_spec_l20Mem_l7 at hh
    refine Aw.seq ?_
    refine Aw.sreg [0, 1, 5, 6, 10] [0, 1] ?_
    refine yct (cs := []) (E' := (sp 60 [(0, .ptr 0 [] 0), (1, .int .i64 x_n), (5, .sref 1 [] 0 (List.length s7.2.2.1) 1), (6, .int .i64 s7.2.2.2), (10, .bool (decide (s7.2.2.2 < (64 : Int))))])) (H' := [(0, some ⟨90, [bo (eI .u8) s7.1, .int .i64 s7.2.1]⟩), (1, some ⟨3, (fl (eI .i64) s7.2.2.1)⟩)]) (n' := 2) (fun K => by kernel_rfl) .nil ?_
    rcases cond_some hh with ⟨hb, hh⟩ | ⟨hb, hh⟩
    · refine Aw.condT (by kernel_rfl) hb ?_
      refine Aw.xskip (fun _ _ _ hq => then_m hq) ?_
      refine Aw.seq ?_
      refine Aw.block ?_
      refine Aw.sreg [0, 1, 5, 6, 7] [0, 1] ?_
      refine yct (cs := []) (E' := (sp 60 [(0, .ptr 0 [] 0), (1, .int .i64 x_n), (5, .sref 1 [] 0 (List.length s7.2.2.1) 1), (6, .int .i64 s7.2.2.2), (7, .int .i64 (0 : Int))])) (H' := [(0, some ⟨90, [bo (eI .u8) s7.1, .int .i64 s7.2.1]⟩), (1, some ⟨3, (fl (eI .i64) s7.2.2.1)⟩)]) (n' := 2) (fun K => by kernel_rfl) .nil ?_
      obtain ⟨j8, hh, hk8⟩ := bind_some hh
      refine Aw.join (S := (List Int) × Int × Int) (fun s8 => sp 60 [(0, .ptr 0 [] 0), (1, .int .i64 x_n), (5, .sref 1 [] 0 (List.length s7.2.2.1) 1), (6, .int .i64 s7.2.2.2), (7, .int .i64 s8.2.2)]) (fun s8 => [(0, some ⟨90, [bo (eI .u8) s8.1, .int .i64 s8.2.1]⟩), (1, some ⟨3, (fl (eI .i64) s7.2.2.1)⟩)]) 2 (fun s8 => F_spec_l20Mem_j8 s7 s8 = some u7) ?_ ?_
      · intro s8 hh
        unfold F_spec_l20Mem_j8 at hh
        obtain ⟨j9, hh, hk9⟩ := bind_some hh
        refine Aw.join (S := (List Int) × Int × Int) (fun s9 => sp 60 [(0, .ptr 0 [] 0), (1, .int .i64 x_n), (5, .sref 1 [] 0 (List.length s7.2.2.1) 1), (6, .int .i64 s7.2.2.2), (7, .int .i64 s9.2.2)]) (fun s9 => [(0, some ⟨90, [bo (eI .u8) s9.1, .int .i64 s9.2.1]⟩), (1, some ⟨3, (fl (eI .i64) s7.2.2.1)⟩)]) 2 (fun s9 => F_spec_l20Mem_j9 s7 s9 = some u7) ?_ ?_
        · intro s9 hh
          unfold F_spec_l20Mem_j9 at hh
          refine Aw.xreg [0, 1, 5, 6] [0, 3] (fun _ _ _ hq => blk_m (then_m hq)) ?_
          refine yc (cs := []) (E' := (sp 60 [(0, .ptr 0 [] 0), (1, .int .i64 x_n), (5, .sref 1 [] 0 (List.length s7.2.2.1) 1), (6, .int .i64 s7.2.2.2), (7, .int .i64 s9.2.2), (39, .sref 1 [] 0 (List.length s7.2.2.1) 1), (40, .int .i64 s9.2.2), (41, .sref 2 [] 0 1 1)])) (H' := [(2, some ⟨3, [.int .i64 s9.2.2]⟩), (0, some ⟨90, [bo (eI .u8) s9.1, .int .i64 s9.2.1]⟩), (1, some ⟨3, (fl (eI .i64) s7.2.2.1)⟩)]) (n' := 3) (pre := (List.take 3 L_spec_l20Mem_r9)) (L' := (List.drop 3 L_spec_l20Mem_r9)) (by kernel_rfl) (fun K => by kernel_rfl) .nil ?_
          obtain ⟨hg28, hh⟩ := grd_some hh
          refine yso (op := (.app 3 1 8 [(.int .i64 0)] (.t 39) (.t 41))) (d := (some 42)) (os := (List.drop 4 L_spec_l20Mem_r9)) (by kernel_rfl) (op_app (c := (eI .i64)) (xs := s7.2.2.1) (ys := ([s9.2.2] : List Int)) (r := 1) (k := (List.length s7.2.2.1)) (π := []) (by first | rfl | omega | (simp only [List.length_set, over_len, List.length_replicate, List.length_append, List.length_cons, List.length_nil, List.length_take, List.length_drop] <;> omega)) len_eI (by kernel_rfl) (by kernel_rfl) (by kernel_rfl) hg28 ?_)
          refine yct (cs := []) (E' := (sp 60 [(0, .ptr 0 [] 0), (1, .int .i64 x_n), (5, .sref 3 [] 0 (List.length (s7.2.2.1 ++ ([s9.2.2] : List Int))) 1), (6, .int .i64 s7.2.2.2)])) (H' := [(0, some ⟨90, [bo (eI .u8) s9.1, .int .i64 s9.2.1]⟩), (3, some ⟨3, (fl (eI .i64) (s7.2.2.1 ++ ([s9.2.2] : List Int)))⟩)]) (n' := 4) (fun K => by kernel_rfl) .nil ?_
          refine Aw.oreg ?_
          refine yce (cs := []) (E' := (sp 60 [(0, .ptr 0 [] 0), (1, .int .i64 x_n), (5, .sref 3 [] 0 (List.length (s7.2.2.1 ++ ([s9.2.2] : List Int))) 1), (6, .int .i64 (w64 (s7.2.2.2 + (1 : Int)))), (11, .int .i64 s7.2.2.2), (12, .int .i64 (w64 (s7.2.2.2 + (1 : Int))))])) (H' := [(0, some ⟨90, [bo (eI .u8) s9.1, .int .i64 s9.2.1]⟩), (3, some ⟨3, (fl (eI .i64) (s7.2.2.1 ++ ([s9.2.2] : List Int)))⟩)]) (n' := 4) (fun K => by kernel_rfl) .nil ?_
          exact hN7 (s9.1, s9.2.1, (s7.2.2.1 ++ ([s9.2.2] : List Int)), (w64 (s7.2.2.2 + (1 : Int)))) _ _ _ (some_some hh) (Ent.list2 [some 0, some 3] rfl rfl (by decide) (rens_sp (by kernel_rfl) (rl_c (u := .ptr 0 [] 0) (by kernel_rfl) (ren_p (by decide) rfl) (rl_c (u := .int .i64 x_n) (by kernel_rfl) ren_i (rl_c (u := .sref 3 [] 0 (List.length (s7.2.2.1 ++ ([s9.2.2] : List Int))) 1) (by kernel_rfl) (ren_se (by decide) rfl rfl) (rl_c (u := .int .i64 (w64 (s7.2.2.2 + (1 : Int)))) (by kernel_rfl) ren_i rl_n))))) (hs_as (t := ⟨90, [bo (eI .u8) s9.1, .int .i64 s9.2.1]⟩) (by decide) rfl (by kernel_rfl) rfl (rens_c (ren_bor (rens_same (noRefs_fl nr_eI))) (rens_c ren_i rens_n)) (hs_as (t := ⟨3, (fl (eI .i64) (s7.2.2.1 ++ ([s9.2.2] : List Int)))⟩) (by decide) rfl (by kernel_rfl) rfl (rens_same (noRefs_fl nr_eI)) hs_nil)))
        · intro Q9 hN9 hR9 hE9
          refine Aw.sreg [0, 1, 5, 6, 7, 25] [0, 1] ?_
          refine yc (cs := [(8 : Int) ≠ 0]) (E' := (sp 60 [(0, .ptr 0 [] 0), (1, .int .i64 x_n), (5, .sref 1 [] 0 (List.length s7.2.2.1) 1), (6, .int .i64 s7.2.2.2), (7, .int .i64 s8.2.2), (18, .int .i64 s7.2.2.2), (19, .int .i64 (w64 (Int.tdiv s7.2.2.2 (8 : Int)))), (20, .bool (decide ((w64 (Int.tdiv s7.2.2.2 (8 : Int))) = (1 : Int)))), (21, .bool (decide ((w64 (Int.tdiv s7.2.2.2 (8 : Int))) = (1 : Int))))])) (H' := [(0, some ⟨90, [bo (eI .u8) s8.1, .int .i64 s8.2.1]⟩), (1, some ⟨3, (fl (eI .i64) s7.2.2.1)⟩)]) (n' := 2) (pre := (List.take 4 L_spec_l20Mem_r7)) (L' := (List.drop 4 L_spec_l20Mem_r7)) (by kernel_rfl) (fun K => by kernel_rfl) (.cons (by decide) .nil) ?_
          rcases cond_some hh with ⟨hb, hh⟩ | ⟨hb, hh⟩
          · refine ybs (t := 20) hb (by kernel_rfl) ?_
            refine ybs (t := 21) hb (by kernel_rfl) ?_
            refine yct (cs := []) (E' := (sp 60 [(0, .ptr 0 [] 0), (1, .int .i64 x_n), (5, .sref 1 [] 0 (List.length s7.2.2.1) 1), (6, .int .i64 s7.2.2.2), (7, .int .i64 s8.2.2), (25, .bool true)])) (H' := [(0, some ⟨90, [bo (eI .u8) s8.1, .int .i64 s8.2.1]⟩), (1, some ⟨3, (fl (eI .i64) s7.2.2.1)⟩)]) (n' := 2) (fun K => by kernel_rfl) .nil ?_
            refine Aw.condT (by kernel_rfl) rfl ?_
            refine Aw.oreg ?_
            refine yc (cs := []) (E' := (sp 60 [(0, .ptr 0 [] 0), (1, .int .i64 x_n), (5, .sref 1 [] 0 (List.length s7.2.2.1) 1), (6, .int .i64 s7.2.2.2), (7, .int .i64 s8.2.2), (25, .bool true), (26, .ptr 0 [] 0)])) (H' := [(0, some ⟨90, [bo (eI .u8) s8.1, .int .i64 s8.2.1]⟩), (1, some ⟨3, (fl (eI .i64) s7.2.2.1)⟩)]) (n' := 2) (pre := (List.take 1 L_spec_l20Mem_r8)) (L' := (List.drop 1 L_spec_l20Mem_r8)) (by kernel_rfl) (fun K => by kernel_rfl) .nil ?_
            obtain ⟨v10, hv10, hh⟩ := bind_some hh
            refine yso (op := (.call 55 [(.t 26), (.c (.int .i64 5))])) (d := (some 27)) (os := (List.drop 2 L_spec_l20Mem_r8)) (by kernel_rfl) (op_callf (v' := .int .i64 v10.2) (Hp' := [(0, some ⟨90, (B_90 v10.1)⟩)]) (n' := 2) [0] (__spec_l20Rd__pick_fn hv10) (args' := [.ptr 0 [] 0, .int .i64 (5 : Int)]) (by kernel_rfl) rfl rfl rfl (rens_c (ren_p (by decide) rfl) (rens_c ren_i rens_n)) rfl (hs_as (t := ⟨90, [bo (eI .u8) s8.1, .int .i64 s8.2.1]⟩) (by decide) rfl (by kernel_rfl) rfl (rens_c (ren_bor (rens_same (noRefs_fl nr_eI))) (rens_c ren_i rens_n)) hs_nil) ren_i rfl (hs_as (t := ⟨90, (B_90 v10.1)⟩) (by decide) rfl (by kernel_rfl) rfl (rens_same (nr_B_90 _)) hs_nil) rfl ?_)
            refine yc (cs := []) (E' := (sp 60 [(0, .ptr 0 [] 0), (1, .int .i64 x_n), (5, .sref 1 [] 0 (List.length s7.2.2.1) 1), (6, .int .i64 s7.2.2.2), (7, .int .i64 s8.2.2), (25, .bool true), (26, .ptr 0 [] 0), (27, .int .i64 v10.2), (28, .bool (decide ((0 : Int) < v10.2))), (29, .ptr 0 [] 0)])) (H' := [(0, some ⟨90, (B_90 v10.1)⟩), (0, none), (0, some ⟨90, [bo (eI .u8) s8.1, .int .i64 s8.2.1]⟩), (1, some ⟨3, (fl (eI .i64) s7.2.2.1)⟩)]) (n' := 2) (pre := (List.take 2 (List.drop 2 L_spec_l20Mem_r8))) (L' := (List.drop 4 L_spec_l20Mem_r8)) (by kernel_rfl) (fun K => by kernel_rfl) .nil ?_
            obtain ⟨v11, hv11, hh⟩ := bind_some hh
            refine yso (op := (.call 55 [(.t 29), (.c (.int .i64 4))])) (d := (some 30)) (os := (List.drop 5 L_spec_l20Mem_r8)) (by kernel_rfl) (op_callf (v' := .int .i64 v11.2) (Hp' := [(0, some ⟨90, (B_90 v11.1)⟩)]) (n' := 2) [0] (__spec_l20Rd__pick_fn hv11) (args' := [.ptr 0 [] 0, .int .i64 (4 : Int)]) (by kernel_rfl) rfl rfl rfl (rens_c (ren_p (by decide) rfl) (rens_c ren_i rens_n)) rfl (hs_as (t := ⟨90, (B_90 v10.1)⟩) (by decide) rfl (by kernel_rfl) rfl (rens_same (nr_B_90 _)) hs_nil) ren_i rfl (hs_as (t := ⟨90, (B_90 v11.1)⟩) (by decide) rfl (by kernel_rfl) rfl (rens_same (nr_B_90 _)) hs_nil) rfl ?_)
            refine yc (cs := []) (E' := (sp 60 [(0, .ptr 0 [] 0), (1, .int .i64 x_n), (5, .sref 1 [] 0 (List.length s7.2.2.1) 1), (6, .int .i64 s7.2.2.2), (7, .int .i64 s8.2.2), (25, .bool true), (26, .ptr 0 [] 0), (27, .int .i64 v10.2), (28, .bool (decide ((0 : Int) < v10.2))), (29, .ptr 0 [] 0), (30, .int .i64 v11.2), (31, .bool (decide ((0 : Int) < v11.2))), (32, .ptr 0 [] 0)])) (H' := [(0, some ⟨90, (B_90 v11.1)⟩), (0, none), (0, some ⟨90, (B_90 v10.1)⟩), (0, none), (0, some ⟨90, [bo (eI .u8) s8.1, .int .i64 s8.2.1]⟩), (1, some ⟨3, (fl (eI .i64) s7.2.2.1)⟩)]) (n' := 2) (pre := (List.take 2 (List.drop 5 L_spec_l20Mem_r8))) (L' := (List.drop 7 L_spec_l20Mem_r8)) (by kernel_rfl) (fun K => by kernel_rfl) .nil ?_
            obtain ⟨v12, hv12, hh⟩ := bind_some hh
            refine yso (op := (.call 55 [(.t 32), (.c (.int .i64 3))])) (d := (some 33)) (os := (List.drop 8 L_spec_l20Mem_r8)) (by kernel_rfl) (op_callf (v' := .int .i64 v12.2) (Hp' := [(0, some ⟨90, (B_90 v12.1)⟩)]) (n' := 2) [0] (__spec_l20Rd__pick_fn hv12) (args' := [.ptr 0 [] 0, .int .i64 (3 : Int)]) (by kernel_rfl) rfl rfl rfl (rens_c (ren_p (by decide) rfl) (rens_c ren_i rens_n)) rfl (hs_as (t := ⟨90, (B_90 v11.1)⟩) (by decide) rfl (by kernel_rfl) rfl (rens_same (nr_B_90 _)) hs_nil) ren_i rfl (hs_as (t := ⟨90, (B_90 v12.1)⟩) (by decide) rfl (by kernel_rfl) rfl (rens_same (nr_B_90 _)) hs_nil) rfl ?_)
            refine yc (cs := []) (E' := (sp 60 [(0, .ptr 0 [] 0), (1, .int .i64 x_n), (5, .sref 1 [] 0 (List.length s7.2.2.1) 1), (6, .int .i64 s7.2.2.2), (7, .int .i64 s8.2.2), (25, .bool true), (26, .ptr 0 [] 0), (27, .int .i64 v10.2), (28, .bool (decide ((0 : Int) < v10.2))), (29, .ptr 0 [] 0), (30, .int .i64 v11.2), (31, .bool (decide ((0 : Int) < v11.2))), (32, .ptr 0 [] 0), (33, .int .i64 v12.2), (34, .bool (decide ((0 : Int) < v12.2))), (35, .ptr 0 [] 0)])) (H' := [(0, some ⟨90, (B_90 v12.1)⟩), (0, none), (0, some ⟨90, (B_90 v11.1)⟩), (0, none), (0, some ⟨90, (B_90 v10.1)⟩), (0, none), (0, some ⟨90, [bo (eI .u8) s8.1, .int .i64 s8.2.1]⟩), (1, some ⟨3, (fl (eI .i64) s7.2.2.1)⟩)]) (n' := 2) (pre := (List.take 2 (List.drop 8 L_spec_l20Mem_r8))) (L' := (List.drop 10 L_spec_l20Mem_r8)) (by kernel_rfl) (fun K => by kernel_rfl) .nil ?_
            obtain ⟨v13, hv13, hh⟩ := bind_some hh
            refine yso (op := (.call 55 [(.t 35), (.c (.int .i64 8))])) (d := (some 36)) (os := (List.drop 11 L_spec_l20Mem_r8)) (by kernel_rfl) (op_callf (v' := .int .i64 v13.2) (Hp' := [(0, some ⟨90, (B_90 v13.1)⟩)]) (n' := 2) [0] (__spec_l20Rd__pick_fn hv13) (args' := [.ptr 0 [] 0, .int .i64 (8 : Int)]) (by kernel_rfl) rfl rfl rfl (rens_c (ren_p (by decide) rfl) (rens_c ren_i rens_n)) rfl (hs_as (t := ⟨90, (B_90 v12.1)⟩) (by decide) rfl (by kernel_rfl) rfl (rens_same (nr_B_90 _)) hs_nil) ren_i rfl (hs_as (t := ⟨90, (B_90 v13.1)⟩) (by decide) rfl (by kernel_rfl) rfl (rens_same (nr_B_90 _)) hs_nil) rfl ?_)
            refine yc (cs := []) (E' := (sp 60 [(0, .ptr 0 [] 0), (1, .int .i64 x_n), (5, .sref 1 [] 0 (List.length s7.2.2.1) 1), (6, .int .i64 s7.2.2.2), (7, .int .i64 s8.2.2), (25, .bool true), (26, .ptr 0 [] 0), (27, .int .i64 v10.2), (28, .bool (decide ((0 : Int) < v10.2))), (29, .ptr 0 [] 0), (30, .int .i64 v11.2), (31, .bool (decide ((0 : Int) < v11.2))), (32, .ptr 0 [] 0), (33, .int .i64 v12.2), (34, .bool (decide ((0 : Int) < v12.2))), (35, .ptr 0 [] 0), (36, .int .i64 v13.2), (37, .agg [.bool (decide ((0 : Int) < v10.2)), .bool (decide ((0 : Int) < v11.2)), .bool (decide ((0 : Int) < v12.2)), .int .i64 v13.2])])) (H' := [(0, some ⟨90, (B_90 v13.1)⟩), (0, none), (0, some ⟨90, (B_90 v12.1)⟩), (0, none), (0, some ⟨90, (B_90 v11.1)⟩), (0, none), (0, some ⟨90, (B_90 v10.1)⟩), (0, none), (0, some ⟨90, [bo (eI .u8) s8.1, .int .i64 s8.2.1]⟩), (1, some ⟨3, (fl (eI .i64) s7.2.2.1)⟩)]) (n' := 2) (pre := (List.take 1 (List.drop 11 L_spec_l20Mem_r8))) (L' := (List.drop 12 L_spec_l20Mem_r8)) (by kernel_rfl) (fun K => by kernel_rfl) .nil ?_
            obtain ⟨v14, hv14, hh⟩ := bind_some hh
            refine yso (op := (.call 21 [(.t 37)])) (d := (some 38)) (os := (List.drop 13 L_spec_l20Mem_r8)) (by kernel_rfl) (op_call (r := .int .i64 v14) (v := .int .i64 v14) (Hr := []) (n' := 2) (spec_EntryWord_fn hv14) (clz_v (vs := [.agg [.bool (decide ((0 : Int) < v10.2)), .bool (decide ((0 : Int) < v11.2)), .bool (decide ((0 : Int) < v12.2)), .int .i64 v13.2]]) (by kernel_rfl) (clz_c (clo_same rfl) clz_n)) rfl rfl (by kernel_rfl) ?_)
            refine yce (cs := []) (E' := (sp 60 [(0, .ptr 0 [] 0), (1, .int .i64 x_n), (5, .sref 1 [] 0 (List.length s7.2.2.1) 1), (6, .int .i64 s7.2.2.2), (7, .int .i64 v14), (25, .bool true), (26, .ptr 0 [] 0), (27, .int .i64 v10.2), (28, .bool (decide ((0 : Int) < v10.2))), (29, .ptr 0 [] 0), (30, .int .i64 v11.2), (31, .bool (decide ((0 : Int) < v11.2))), (32, .ptr 0 [] 0), (33, .int .i64 v12.2), (34, .bool (decide ((0 : Int) < v12.2))), (35, .ptr 0 [] 0), (36, .int .i64 v13.2), (37, .agg [.bool (decide ((0 : Int) < v10.2)), .bool (decide ((0 : Int) < v11.2)), .bool (decide ((0 : Int) < v12.2)), .int .i64 v13.2]), (38, .int .i64 v14)])) (H' := [(0, some ⟨90, (B_90 v13.1)⟩), (0, none), (0, some ⟨90, (B_90 v12.1)⟩), (0, none), (0, some ⟨90, (B_90 v11.1)⟩), (0, none), (0, some ⟨90, (B_90 v10.1)⟩), (0, none), (0, some ⟨90, [bo (eI .u8) s8.1, .int .i64 s8.2.1]⟩), (1, some ⟨3, (fl (eI .i64) s7.2.2.1)⟩)]) (n' := 2) (fun K => by kernel_rfl) .nil ?_
            obtain rfl := some_some hh
            exact hN9 (v13.1.b, v13.1.p, v14) _ _ _ hk9 (Ent.list2 [some 0, some 1] rfl rfl (by decide) (rens_sp (by kernel_rfl) (rl_c (u := .ptr 0 [] 0) (by kernel_rfl) (ren_p (by decide) rfl) (rl_c (u := .int .i64 x_n) (by kernel_rfl) ren_i (rl_c (u := .sref 1 [] 0 (List.length s7.2.2.1) 1) (by kernel_rfl) (ren_se (by decide) rfl rfl) (rl_c (u := .int .i64 s7.2.2.2) (by kernel_rfl) ren_i (rl_c (u := .int .i64 v14) (by kernel_rfl) ren_i rl_n)))))) (hs_as (t := ⟨90, (B_90 v13.1)⟩) (by decide) rfl (by kernel_rfl) rfl (rens_c (ren_bor (rens_same (noRefs_fl nr_eI))) (rens_c ren_i rens_n)) (hs_as (t := ⟨3, (fl (eI .i64) s7.2.2.1)⟩) (by decide) rfl (by kernel_rfl) rfl (rens_same (noRefs_fl nr_eI)) hs_nil)))
          · refine ybs (t := 20) hb (by kernel_rfl) ?_
            refine ybs (t := 21) hb (by kernel_rfl) ?_
            refine yct (cs := [(8 : Int) ≠ 0]) (E' := (sp 60 [(0, .ptr 0 [] 0), (1, .int .i64 x_n), (5, .sref 1 [] 0 (List.length s7.2.2.1) 1), (6, .int .i64 s7.2.2.2), (7, .int .i64 s8.2.2), (25, .bool (decide ((w64 (Int.tdiv s7.2.2.2 (8 : Int))) = (2 : Int))))])) (H' := [(0, some ⟨90, [bo (eI .u8) s8.1, .int .i64 s8.2.1]⟩), (1, some ⟨3, (fl (eI .i64) s7.2.2.1)⟩)]) (n' := 2) (fun K => by kernel_rfl) (.cons (by decide) .nil) ?_
            rcases cond_some hh with ⟨hb, hh⟩ | ⟨hb, hh⟩
            · refine Aw.condT (by kernel_rfl) hb ?_
              refine Aw.oreg ?_
              refine yc (cs := []) (E' := (sp 60 [(0, .ptr 0 [] 0), (1, .int .i64 x_n), (5, .sref 1 [] 0 (List.length s7.2.2.1) 1), (6, .int .i64 s7.2.2.2), (7, .int .i64 s8.2.2), (25, .bool (decide ((w64 (Int.tdiv s7.2.2.2 (8 : Int))) = (2 : Int)))), (26, .ptr 0 [] 0)])) (H' := [(0, some ⟨90, [bo (eI .u8) s8.1, .int .i64 s8.2.1]⟩), (1, some ⟨3, (fl (eI .i64) s7.2.2.1)⟩)]) (n' := 2) (pre := (List.take 1 L_spec_l20Mem_r8)) (L' := (List.drop 1 L_spec_l20Mem_r8)) (by kernel_rfl) (fun K => by kernel_rfl) .nil ?_
              obtain ⟨v15, hv15, hh⟩ := bind_some hh
              refine yso (op := (.call 55 [(.t 26), (.c (.int .i64 5))])) (d := (some 27)) (os := (List.drop 2 L_spec_l20Mem_r8)) (by kernel_rfl) (op_callf (v' := .int .i64 v15.2) (Hp' := [(0, some ⟨90, (B_90 v15.1)⟩)]) (n' := 2) [0] (__spec_l20Rd__pick_fn hv15) (args' := [.ptr 0 [] 0, .int .i64 (5 : Int)]) (by kernel_rfl) rfl rfl rfl (rens_c (ren_p (by decide) rfl) (rens_c ren_i rens_n)) rfl (hs_as (t := ⟨90, [bo (eI .u8) s8.1, .int .i64 s8.2.1]⟩) (by decide) rfl (by kernel_rfl) rfl (rens_c (ren_bor (rens_same (noRefs_fl nr_eI))) (rens_c ren_i rens_n)) hs_nil) ren_i rfl (hs_as (t := ⟨90, (B_90 v15.1)⟩) (by decide) rfl (by kernel_rfl) rfl (rens_same (nr_B_90 _)) hs_nil) rfl ?_)
              refine yc (cs := []) (E' := (sp 60 [(0, .ptr 0 [] 0), (1, .int .i64 x_n), (5, .sref 1 [] 0 (List.length s7.2.2.1) 1), (6, .int .i64 s7.2.2.2), (7, .int .i64 s8.2.2), (25, .bool (decide ((w64 (Int.tdiv s7.2.2.2 (8 : Int))) = (2 : Int)))), (26, .ptr 0 [] 0), (27, .int .i64 v15.2), (28, .bool (decide ((0 : Int) < v15.2))), (29, .ptr 0 [] 0)])) (H' := [(0, some ⟨90, (B_90 v15.1)⟩), (0, none), (0, some ⟨90, [bo (eI .u8) s8.1, .int .i64 s8.2.1]⟩), (1, some ⟨3, (fl (eI .i64) s7.2.2.1)⟩)]) (n' := 2) (pre := (List.take 2 (List.drop 2 L_spec_l20Mem_r8))) (L' := (List.drop 4 L_spec_l20Mem_r8)) (by kernel_rfl) (fun K => by kernel_rfl) .nil ?_
              obtain ⟨v16, hv16, hh⟩ := bind_some hh
              refine yso (op := (.call 55 [(.t 29), (.c (.int .i64 4))])) (d := (some 30)) (os := (List.drop 5 L_spec_l20Mem_r8)) (by kernel_rfl) (op_callf (v' := .int .i64 v16.2) (Hp' := [(0, some ⟨90, (B_90 v16.1)⟩)]) (n' := 2) [0] (__spec_l20Rd__pick_fn hv16) (args' := [.ptr 0 [] 0, .int .i64 (4 : Int)]) (by kernel_rfl) rfl rfl rfl (rens_c (ren_p (by decide) rfl) (rens_c ren_i rens_n)) rfl (hs_as (t := ⟨90, (B_90 v15.1)⟩) (by decide) rfl (by kernel_rfl) rfl (rens_same (nr_B_90 _)) hs_nil) ren_i rfl (hs_as (t := ⟨90, (B_90 v16.1)⟩) (by decide) rfl (by kernel_rfl) rfl (rens_same (nr_B_90 _)) hs_nil) rfl ?_)
              refine yc (cs := []) (E' := (sp 60 [(0, .ptr 0 [] 0), (1, .int .i64 x_n), (5, .sref 1 [] 0 (List.length s7.2.2.1) 1), (6, .int .i64 s7.2.2.2), (7, .int .i64 s8.2.2), (25, .bool (decide ((w64 (Int.tdiv s7.2.2.2 (8 : Int))) = (2 : Int)))), (26, .ptr 0 [] 0), (27, .int .i64 v15.2), (28, .bool (decide ((0 : Int) < v15.2))), (29, .ptr 0 [] 0), (30, .int .i64 v16.2), (31, .bool (decide ((0 : Int) < v16.2))), (32, .ptr 0 [] 0)])) (H' := [(0, some ⟨90, (B_90 v16.1)⟩), (0, none), (0, some ⟨90, (B_90 v15.1)⟩), (0, none), (0, some ⟨90, [bo (eI .u8) s8.1, .int .i64 s8.2.1]⟩), (1, some ⟨3, (fl (eI .i64) s7.2.2.1)⟩)]) (n' := 2) (pre := (List.take 2 (List.drop 5 L_spec_l20Mem_r8))) (L' := (List.drop 7 L_spec_l20Mem_r8)) (by kernel_rfl) (fun K => by kernel_rfl) .nil ?_
              obtain ⟨v17, hv17, hh⟩ := bind_some hh
              refine yso (op := (.call 55 [(.t 32), (.c (.int .i64 3))])) (d := (some 33)) (os := (List.drop 8 L_spec_l20Mem_r8)) (by kernel_rfl) (op_callf (v' := .int .i64 v17.2) (Hp' := [(0, some ⟨90, (B_90 v17.1)⟩)]) (n' := 2) [0] (__spec_l20Rd__pick_fn hv17) (args' := [.ptr 0 [] 0, .int .i64 (3 : Int)]) (by kernel_rfl) rfl rfl rfl (rens_c (ren_p (by decide) rfl) (rens_c ren_i rens_n)) rfl (hs_as (t := ⟨90, (B_90 v16.1)⟩) (by decide) rfl (by kernel_rfl) rfl (rens_same (nr_B_90 _)) hs_nil) ren_i rfl (hs_as (t := ⟨90, (B_90 v17.1)⟩) (by decide) rfl (by kernel_rfl) rfl (rens_same (nr_B_90 _)) hs_nil) rfl ?_)
              refine yc (cs := []) (E' := (sp 60 [(0, .ptr 0 [] 0), (1, .int .i64 x_n), (5, .sref 1 [] 0 (List.length s7.2.2.1) 1), (6, .int .i64 s7.2.2.2), (7, .int .i64 s8.2.2), (25, .bool (decide ((w64 (Int.tdiv s7.2.2.2 (8 : Int))) = (2 : Int)))), (26, .ptr 0 [] 0), (27, .int .i64 v15.2), (28, .bool (decide ((0 : Int) < v15.2))), (29, .ptr 0 [] 0), (30, .int .i64 v16.2), (31, .bool (decide ((0 : Int) < v16.2))), (32, .ptr 0 [] 0), (33, .int .i64 v17.2), (34, .bool (decide ((0 : Int) < v17.2))), (35, .ptr 0 [] 0)])) (H' := [(0, some ⟨90, (B_90 v17.1)⟩), (0, none), (0, some ⟨90, (B_90 v16.1)⟩), (0, none), (0, some ⟨90, (B_90 v15.1)⟩), (0, none), (0, some ⟨90, [bo (eI .u8) s8.1, .int .i64 s8.2.1]⟩), (1, some ⟨3, (fl (eI .i64) s7.2.2.1)⟩)]) (n' := 2) (pre := (List.take 2 (List.drop 8 L_spec_l20Mem_r8))) (L' := (List.drop 10 L_spec_l20Mem_r8)) (by kernel_rfl) (fun K => by kernel_rfl) .nil ?_
              obtain ⟨v18, hv18, hh⟩ := bind_some hh
              refine yso (op := (.call 55 [(.t 35), (.c (.int .i64 8))])) (d := (some 36)) (os := (List.drop 11 L_spec_l20Mem_r8)) (by kernel_rfl) (op_callf (v' := .int .i64 v18.2) (Hp' := [(0, some ⟨90, (B_90 v18.1)⟩)]) (n' := 2) [0] (__spec_l20Rd__pick_fn hv18) (args' := [.ptr 0 [] 0, .int .i64 (8 : Int)]) (by kernel_rfl) rfl rfl rfl (rens_c (ren_p (by decide) rfl) (rens_c ren_i rens_n)) rfl (hs_as (t := ⟨90, (B_90 v17.1)⟩) (by decide) rfl (by kernel_rfl) rfl (rens_same (nr_B_90 _)) hs_nil) ren_i rfl (hs_as (t := ⟨90, (B_90 v18.1)⟩) (by decide) rfl (by kernel_rfl) rfl (rens_same (nr_B_90 _)) hs_nil) rfl ?_)
              refine yc (cs := []) (E' := (sp 60 [(0, .ptr 0 [] 0), (1, .int .i64 x_n), (5, .sref 1 [] 0 (List.length s7.2.2.1) 1), (6, .int .i64 s7.2.2.2), (7, .int .i64 s8.2.2), (25, .bool (decide ((w64 (Int.tdiv s7.2.2.2 (8 : Int))) = (2 : Int)))), (26, .ptr 0 [] 0), (27, .int .i64 v15.2), (28, .bool (decide ((0 : Int) < v15.2))), (29, .ptr 0 [] 0), (30, .int .i64 v16.2), (31, .bool (decide ((0 : Int) < v16.2))), (32, .ptr 0 [] 0), (33, .int .i64 v17.2), (34, .bool (decide ((0 : Int) < v17.2))), (35, .ptr 0 [] 0), (36, .int .i64 v18.2), (37, .agg [.bool (decide ((0 : Int) < v15.2)), .bool (decide ((0 : Int) < v16.2)), .bool (decide ((0 : Int) < v17.2)), .int .i64 v18.2])])) (H' := [(0, some ⟨90, (B_90 v18.1)⟩), (0, none), (0, some ⟨90, (B_90 v17.1)⟩), (0, none), (0, some ⟨90, (B_90 v16.1)⟩), (0, none), (0, some ⟨90, (B_90 v15.1)⟩), (0, none), (0, some ⟨90, [bo (eI .u8) s8.1, .int .i64 s8.2.1]⟩), (1, some ⟨3, (fl (eI .i64) s7.2.2.1)⟩)]) (n' := 2) (pre := (List.take 1 (List.drop 11 L_spec_l20Mem_r8))) (L' := (List.drop 12 L_spec_l20Mem_r8)) (by kernel_rfl) (fun K => by kernel_rfl) .nil ?_
              obtain ⟨v19, hv19, hh⟩ := bind_some hh
              refine yso (op := (.call 21 [(.t 37)])) (d := (some 38)) (os := (List.drop 13 L_spec_l20Mem_r8)) (by kernel_rfl) (op_call (r := .int .i64 v19) (v := .int .i64 v19) (Hr := []) (n' := 2) (spec_EntryWord_fn hv19) (clz_v (vs := [.agg [.bool (decide ((0 : Int) < v15.2)), .bool (decide ((0 : Int) < v16.2)), .bool (decide ((0 : Int) < v17.2)), .int .i64 v18.2]]) (by kernel_rfl) (clz_c (clo_same rfl) clz_n)) rfl rfl (by kernel_rfl) ?_)
              refine yce (cs := []) (E' := (sp 60 [(0, .ptr 0 [] 0), (1, .int .i64 x_n), (5, .sref 1 [] 0 (List.length s7.2.2.1) 1), (6, .int .i64 s7.2.2.2), (7, .int .i64 v19), (25, .bool (decide ((w64 (Int.tdiv s7.2.2.2 (8 : Int))) = (2 : Int)))), (26, .ptr 0 [] 0), (27, .int .i64 v15.2), (28, .bool (decide ((0 : Int) < v15.2))), (29, .ptr 0 [] 0), (30, .int .i64 v16.2), (31, .bool (decide ((0 : Int) < v16.2))), (32, .ptr 0 [] 0), (33, .int .i64 v17.2), (34, .bool (decide ((0 : Int) < v17.2))), (35, .ptr 0 [] 0), (36, .int .i64 v18.2), (37, .agg [.bool (decide ((0 : Int) < v15.2)), .bool (decide ((0 : Int) < v16.2)), .bool (decide ((0 : Int) < v17.2)), .int .i64 v18.2]), (38, .int .i64 v19)])) (H' := [(0, some ⟨90, (B_90 v18.1)⟩), (0, none), (0, some ⟨90, (B_90 v17.1)⟩), (0, none), (0, some ⟨90, (B_90 v16.1)⟩), (0, none), (0, some ⟨90, (B_90 v15.1)⟩), (0, none), (0, some ⟨90, [bo (eI .u8) s8.1, .int .i64 s8.2.1]⟩), (1, some ⟨3, (fl (eI .i64) s7.2.2.1)⟩)]) (n' := 2) (fun K => by kernel_rfl) .nil ?_
              obtain rfl := some_some hh
              exact hN9 (v18.1.b, v18.1.p, v19) _ _ _ hk9 (Ent.list2 [some 0, some 1] rfl rfl (by decide) (rens_sp (by kernel_rfl) (rl_c (u := .ptr 0 [] 0) (by kernel_rfl) (ren_p (by decide) rfl) (rl_c (u := .int .i64 x_n) (by kernel_rfl) ren_i (rl_c (u := .sref 1 [] 0 (List.length s7.2.2.1) 1) (by kernel_rfl) (ren_se (by decide) rfl rfl) (rl_c (u := .int .i64 s7.2.2.2) (by kernel_rfl) ren_i (rl_c (u := .int .i64 v19) (by kernel_rfl) ren_i rl_n)))))) (hs_as (t := ⟨90, (B_90 v18.1)⟩) (by decide) rfl (by kernel_rfl) rfl (rens_c (ren_bor (rens_same (noRefs_fl nr_eI))) (rens_c ren_i rens_n)) (hs_as (t := ⟨3, (fl (eI .i64) s7.2.2.1)⟩) (by decide) rfl (by kernel_rfl) rfl (rens_same (noRefs_fl nr_eI)) hs_nil)))
            · refine Aw.condF (by kernel_rfl) hb ?_
              refine Aw.skip ?_
              obtain rfl := some_some hh
              exact hN9 (s8.1, s8.2.1, s8.2.2) _ _ _ hk9 (Ent.list2 [some 0, some 1] rfl rfl (by decide) (rens_sp (by kernel_rfl) (rl_c (u := .ptr 0 [] 0) (by kernel_rfl) (ren_p (by decide) rfl) (rl_c (u := .int .i64 x_n) (by kernel_rfl) ren_i (rl_c (u := .sref 1 [] 0 (List.length s7.2.2.1) 1) (by kernel_rfl) (ren_se (by decide) rfl rfl) (rl_c (u := .int .i64 s7.2.2.2) (by kernel_rfl) ren_i (rl_c (u := .int .i64 s8.2.2) (by kernel_rfl) ren_i rl_n)))))) (hs_as (t := ⟨90, [bo (eI .u8) s8.1, .int .i64 s8.2.1]⟩) (by decide) rfl (by kernel_rfl) rfl (rens_c (ren_bor (rens_same (noRefs_fl nr_eI))) (rens_c ren_i rens_n)) (hs_as (t := ⟨3, (fl (eI .i64) s7.2.2.1)⟩) (by decide) rfl (by kernel_rfl) rfl (rens_same (noRefs_fl nr_eI)) hs_nil)))
      · intro Q8 hN8 hR8 hE8
        refine Aw.sreg [0, 1, 5, 6, 7, 15] [0, 1] ?_
        refine yc (cs := []) (E' := (sp 60 [(0, .ptr 0 [] 0), (1, .int .i64 x_n), (5, .sref 1 [] 0 (List.length s7.2.2.1) 1), (6, .int .i64 s7.2.2.2), (7, .int .i64 (0 : Int)), (13, .ptr 0 [] 0)])) (H' := [(0, some ⟨90, [bo (eI .u8) s7.1, .int .i64 s7.2.1]⟩), (1, some ⟨3, (fl (eI .i64) s7.2.2.1)⟩)]) (n' := 2) (pre := (List.take 1 L_spec_l20Mem_r5)) (L' := (List.drop 1 L_spec_l20Mem_r5)) (by kernel_rfl) (fun K => by kernel_rfl) .nil ?_
        obtain ⟨v20, hv20, hh⟩ := bind_some hh
        refine yso (op := (.call 55 [(.t 13), (.c (.int .i64 2))])) (d := (some 14)) (os := (List.drop 2 L_spec_l20Mem_r5)) (by kernel_rfl) (op_callf (v' := .int .i64 v20.2) (Hp' := [(0, some ⟨90, (B_90 v20.1)⟩)]) (n' := 2) [0] (__spec_l20Rd__pick_fn hv20) (args' := [.ptr 0 [] 0, .int .i64 (2 : Int)]) (by kernel_rfl) rfl rfl rfl (rens_c (ren_p (by decide) rfl) (rens_c ren_i rens_n)) rfl (hs_as (t := ⟨90, [bo (eI .u8) s7.1, .int .i64 s7.2.1]⟩) (by decide) rfl (by kernel_rfl) rfl (rens_c (ren_bor (rens_same (noRefs_fl nr_eI))) (rens_c ren_i rens_n)) hs_nil) ren_i rfl (hs_as (t := ⟨90, (B_90 v20.1)⟩) (by decide) rfl (by kernel_rfl) rfl (rens_same (nr_B_90 _)) hs_nil) rfl ?_)
        refine yct (cs := []) (E' := (sp 60 [(0, .ptr 0 [] 0), (1, .int .i64 x_n), (5, .sref 1 [] 0 (List.length s7.2.2.1) 1), (6, .int .i64 s7.2.2.2), (7, .int .i64 (0 : Int)), (15, .bool (decide (v20.2 = (0 : Int))))])) (H' := [(0, some ⟨90, (B_90 v20.1)⟩), (1, some ⟨3, (fl (eI .i64) s7.2.2.1)⟩)]) (n' := 2) (fun K => by kernel_rfl) .nil ?_
        rcases cond_some hh with ⟨hb, hh⟩ | ⟨hb, hh⟩
        · refine Aw.condT (by kernel_rfl) hb ?_
          refine Aw.oreg ?_
          refine yc (cs := []) (E' := (sp 60 [(0, .ptr 0 [] 0), (1, .int .i64 x_n), (5, .sref 1 [] 0 (List.length s7.2.2.1) 1), (6, .int .i64 s7.2.2.2), (7, .int .i64 (0 : Int)), (15, .bool (decide (v20.2 = (0 : Int)))), (16, .ptr 0 [] 0)])) (H' := [(0, some ⟨90, (B_90 v20.1)⟩), (1, some ⟨3, (fl (eI .i64) s7.2.2.1)⟩)]) (n' := 2) (pre := (List.take 1 L_spec_l20Mem_r6)) (L' := (List.drop 1 L_spec_l20Mem_r6)) (by kernel_rfl) (fun K => by kernel_rfl) .nil ?_
          obtain ⟨v21, hv21, hh⟩ := bind_some hh
          refine yso (op := (.call 58 [(.t 16)])) (d := (some 17)) (os := (List.drop 2 L_spec_l20Mem_r6)) (by kernel_rfl) (op_callf (v' := .int .i64 v21.2) (Hp' := [(0, some ⟨90, (B_90 v21.1)⟩)]) (n' := 2) [0] (__spec_l20Rd__word_fn hv21) (args' := [.ptr 0 [] 0]) (by kernel_rfl) rfl rfl rfl (rens_c (ren_p (by decide) rfl) rens_n) rfl (hs_as (t := ⟨90, (B_90 v20.1)⟩) (by decide) rfl (by kernel_rfl) rfl (rens_same (nr_B_90 _)) hs_nil) ren_i rfl (hs_as (t := ⟨90, (B_90 v21.1)⟩) (by decide) rfl (by kernel_rfl) rfl (rens_same (nr_B_90 _)) hs_nil) rfl ?_)
          refine yce (cs := []) (E' := (sp 60 [(0, .ptr 0 [] 0), (1, .int .i64 x_n), (5, .sref 1 [] 0 (List.length s7.2.2.1) 1), (6, .int .i64 s7.2.2.2), (7, .int .i64 v21.2), (15, .bool (decide (v20.2 = (0 : Int)))), (16, .ptr 0 [] 0), (17, .int .i64 v21.2)])) (H' := [(0, some ⟨90, (B_90 v21.1)⟩), (0, none), (0, some ⟨90, (B_90 v20.1)⟩), (1, some ⟨3, (fl (eI .i64) s7.2.2.1)⟩)]) (n' := 2) (fun K => by kernel_rfl) .nil ?_
          obtain rfl := some_some hh
          exact hN8 (v21.1.b, v21.1.p, v21.2) _ _ _ hk8 (Ent.list2 [some 0, some 1] rfl rfl (by decide) (rens_sp (by kernel_rfl) (rl_c (u := .ptr 0 [] 0) (by kernel_rfl) (ren_p (by decide) rfl) (rl_c (u := .int .i64 x_n) (by kernel_rfl) ren_i (rl_c (u := .sref 1 [] 0 (List.length s7.2.2.1) 1) (by kernel_rfl) (ren_se (by decide) rfl rfl) (rl_c (u := .int .i64 s7.2.2.2) (by kernel_rfl) ren_i (rl_c (u := .int .i64 v21.2) (by kernel_rfl) ren_i rl_n)))))) (hs_as (t := ⟨90, (B_90 v21.1)⟩) (by decide) rfl (by kernel_rfl) rfl (rens_c (ren_bor (rens_same (noRefs_fl nr_eI))) (rens_c ren_i rens_n)) (hs_as (t := ⟨3, (fl (eI .i64) s7.2.2.1)⟩) (by decide) rfl (by kernel_rfl) rfl (rens_same (noRefs_fl nr_eI)) hs_nil)))
        · refine Aw.condF (by kernel_rfl) hb ?_
          refine Aw.skip ?_
          obtain rfl := some_some hh
          exact hN8 (v20.1.b, v20.1.p, (0 : Int)) _ _ _ hk8 (Ent.list2 [some 0, some 1] rfl rfl (by decide) (rens_sp (by kernel_rfl) (rl_c (u := .ptr 0 [] 0) (by kernel_rfl) (ren_p (by decide) rfl) (rl_c (u := .int .i64 x_n) (by kernel_rfl) ren_i (rl_c (u := .sref 1 [] 0 (List.length s7.2.2.1) 1) (by kernel_rfl) (ren_se (by decide) rfl rfl) (rl_c (u := .int .i64 s7.2.2.2) (by kernel_rfl) ren_i (rl_c (u := .int .i64 (0 : Int)) (by kernel_rfl) ren_i rl_n)))))) (hs_as (t := ⟨90, (B_90 v20.1)⟩) (by decide) rfl (by kernel_rfl) rfl (rens_c (ren_bor (rens_same (noRefs_fl nr_eI))) (rens_c ren_i rens_n)) (hs_as (t := ⟨3, (fl (eI .i64) s7.2.2.1)⟩) (by decide) rfl (by kernel_rfl) rfl (rens_same (noRefs_fl nr_eI)) hs_nil)))
    · refine Aw.condF (by kernel_rfl) hb ?_
      refine Aw.exit ?_
      refine then_x ?_
      refine hX7 _ _ _ _ _ (some_some hh) ?_
      intro hout
      rw [hout] at hk7
      refine blk_x ?_
      obtain rfl := some_some hk7
      exact hN1 (s7.1, s7.2.1, s7.2.2.1) _ _ _ hk1 (Ent.list2 [some 0, some 1] rfl rfl (by decide) (rens_sp (by kernel_rfl) (rl_c (u := .ptr 0 [] 0) (by kernel_rfl) (ren_p (by decide) rfl) (rl_c (u := .int .i64 x_n) (by kernel_rfl) ren_i (rl_c (u := .sref 1 [] 0 (List.length s7.2.2.1) 1) (by kernel_rfl) (ren_se (by decide) rfl rfl) rl_n)))) (hs_as (t := ⟨90, [bo (eI .u8) s7.1, .int .i64 s7.2.1]⟩) (by decide) rfl (by kernel_rfl) rfl (rens_c (ren_bor (rens_same (noRefs_fl nr_eI))) (rens_c ren_i rens_n)) (hs_as (t := ⟨3, (fl (eI .i64) s7.2.2.1)⟩) (by decide) rfl (by kernel_rfl) rfl (rens_same (noRefs_fl nr_eI)) hs_nil)))

-- 15 loop.example/guesthouse/spec.DrawMemOk
def L_spec_DrawMemOk_r0 : List LOper := [⟨(some 2), (.mv (.c .nil)), none⟩]
def L_spec_DrawMemOk_r1 : List LOper := [⟨(some 3), (.mv (.t 0)), none⟩, ⟨(some 4), (.call 52 [(.t 3)]), none⟩, ⟨(some 5), (.call 51 [(.t 4), (.c (.int .i64 2))]), none⟩, ⟨(some 2), (.mv (.t 5)), none⟩]
def L_spec_DrawMemOk : LFun := ⟨6, [(.tmp 2)], (.seq (.reg false L_spec_DrawMemOk_r0) (.seq (.reg false L_spec_DrawMemOk_r1) .ret))⟩
theorem low_spec_DrawMemOk : lowFun Go.Proofs.Try.prog 15 = some L_spec_DrawMemOk := by kernel_rfl
noncomputable def F_spec_DrawMemOk (x_code : List Int) : Option (List Int) :=
  Option.bind (F_spec_l20Open x_code) fun v1 =>
  Option.bind (F_spec_l20Mem v1 (2 : Int)) fun v2 =>
  some v2.2
theorem spec_DrawMemOk_fn {x_code : List Int} {R_ : (List Int)} (hh : F_spec_DrawMemOk x_code = some R_) : Fn Try.prog 15 [bo (eI .u8) x_code] (.own 3 1 (List.length R_) (fl (eI .i64) R_)) := by
  unfold F_spec_DrawMemOk at hh
  refine Fn.start low_spec_DrawMemOk [0] (E := sp 6 [(0, bo (eI .u8) x_code)]) (by kernel_rfl) (v := .sref 0 [] 0 (List.length R_) 1) (Hr := [(0, some ⟨3, (fl (eI .i64) R_)⟩)]) (k := 1) (by kernel_rfl) ?_
  refine Aw.sreg [0] [] ?_
  refine yct (cs := []) (E' := (sp 6 [(0, bo (eI .u8) x_code)])) (H' := []) (n' := 0) (fun K => by kernel_rfl) .nil ?_
  refine Aw.sreg [2] [1] ?_
  refine yc (cs := []) (E' := (sp 6 [(0, bo (eI .u8) x_code), (3, bo (eI .u8) x_code)])) (H' := []) (n' := 0) (pre := (List.take 1 L_spec_DrawMemOk_r1)) (L' := (List.drop 1 L_spec_DrawMemOk_r1)) (by kernel_rfl) (fun K => by kernel_rfl) .nil ?_
  obtain ⟨v1, hv1, hh⟩ := bind_some hh
  refine yso (op := (.call 52 [(.t 3)])) (d := (some 4)) (os := (List.drop 2 L_spec_DrawMemOk_r1)) (by kernel_rfl) (op_callf (v' := .ptr 0 [] 0) (Hp' := [(0, some ⟨90, (B_90 v1)⟩)]) (n' := 1) [] (spec_l20Open_fn hv1) (args' := [bo (eI .u8) x_code]) (by kernel_rfl) rfl rfl rfl (rens_c (ren_bor (rens_same (noRefs_fl nr_eI))) rens_n) rfl hs_nil (ren_p (by decide) rfl) rfl (hs_as (t := ⟨90, (B_90 v1)⟩) (by decide) rfl (by kernel_rfl) rfl (rens_same (nr_B_90 _)) hs_nil) rfl ?_)
  obtain ⟨v2, hv2, hh⟩ := bind_some hh
  refine yso (op := (.call 51 [(.t 4), (.c (.int .i64 2))])) (d := (some 5)) (os := (List.drop 3 L_spec_DrawMemOk_r1)) (by kernel_rfl) (op_callf (v' := .sref 1 [] 0 (List.length v2.2) 1) (Hp' := [(1, some ⟨3, (fl (eI .i64) v2.2)⟩), (0, some ⟨90, (B_90 v2.1)⟩)]) (n' := 2) [0] (spec_l20Mem_fn hv2) (args' := [.ptr 0 [] 0, .int .i64 (2 : Int)]) (by kernel_rfl) rfl rfl rfl (rens_c (ren_p (by decide) rfl) (rens_c ren_i rens_n)) rfl (hs_as (t := ⟨90, (B_90 v1)⟩) (by decide) rfl (by kernel_rfl) rfl (rens_same (nr_B_90 _)) hs_nil) (ren_se (by decide) rfl (by first | rfl | omega | (simp only [List.length_set, over_len, List.length_replicate, List.length_append, List.length_cons, List.length_nil, List.length_take, List.length_drop] <;> omega))) rfl (hs_as (t := ⟨3, (fl (eI .i64) v2.2)⟩) (by decide) rfl (by kernel_rfl) rfl (rens_same (noRefs_fl nr_eI)) (hs_as (t := ⟨90, (B_90 v2.1)⟩) (by decide) rfl (by kernel_rfl) rfl (rens_same (nr_B_90 _)) hs_nil)) rfl ?_)
  refine yct (cs := []) (E' := (sp 6 [(2, .sref 1 [] 0 (List.length v2.2) 1)])) (H' := [(1, some ⟨3, (fl (eI .i64) v2.2)⟩)]) (n' := 2) (fun K => by kernel_rfl) .nil ?_
  refine Aw.ret ?_
  rw [some_some hh]
  exact gives (r' := .sref 1 [] 0 (List.length v2.2) 1) (by kernel_rfl) (Ent.list [some 1] rfl rfl (Nat.zero_le _) (rens_1 (ren_se (by decide) rfl rfl)) (hs_as (t := ⟨3, (fl (eI .i64) v2.2)⟩) (by decide) rfl (by kernel_rfl) rfl (rens_same (noRefs_fl nr_eI)) hs_nil))

-- 3 loop.example/guesthouse/laws.FnMemOk
def L_laws_FnMemOk_r0 : List LOper := [⟨(some 2), (.mv (.c (.bool false))), none⟩]
def L_laws_FnMemOk_r1 : List LOper := [⟨(some 6), (.mv (.t 0)), none⟩, ⟨(some 7), (.len (.t 6)), none⟩, ⟨(some 8), (.bin .gtr (.t 7) (.c (.int .i64 1048576))), none⟩]
def L_laws_FnMemOk_r2 : List LOper := [⟨(some 2), (.mv (.c (.bool true))), none⟩]
def L_laws_FnMemOk_r3 : List LOper := [⟨(some 9), (.mv (.t 0)), none⟩, ⟨(some 10), (.call 15 [(.t 9)]), none⟩, ⟨(some 3), (.mv (.t 10)), none⟩]
def L_laws_FnMemOk_r4 : List LOper := [⟨(some 11), (.mv (.t 3)), none⟩, ⟨(some 12), (.call 16 [(.t 11)]), none⟩, ⟨(some 4), (.mv (.t 12)), none⟩]
def L_laws_FnMemOk_r5 : List LOper := [⟨(some 13), (.mv (.t 4)), none⟩, ⟨(some 14), (.mv (.t 3)), none⟩, ⟨(some 15), (.call 17 [(.t 14)]), none⟩, ⟨(some 16), (.binb true (.t 13) (.t 15)), none⟩]
def L_laws_FnMemOk_r6 : List LOper := [⟨(some 2), (.mv (.c (.bool false))), none⟩]
def L_laws_FnMemOk_r7 : List LOper := [⟨(some 17), (.bsl 3 1 0 [(.int .i64 0)] []), none⟩, ⟨(some 18), (.mv (.t 3)), none⟩, ⟨(some 19), (.app 3 1 8 [(.int .i64 0)] (.t 17) (.t 18)), none⟩, ⟨(some 5), (.mv (.t 19)), none⟩]
def L_laws_FnMemOk_r8 : List LOper := [⟨(some 20), (.mv (.t 4)), none⟩]
def L_laws_FnMemOk_r9 : List LOper := [⟨(some 21), (.mv (.t 5)), none⟩, ⟨(some 22), (.mv (.t 5)), none⟩, ⟨(some 23), (.iadr 1 (.t 22) (.c (.int .i64 17))), none⟩, ⟨(some 24), (.load false 1 (.t 23)), none⟩, ⟨(some 25), (.bin .sub (.c (.int .i64 4095)) (.t 24)), none⟩, ⟨(some 26), (.iadr 1 (.t 21) (.c (.int .i64 17))), none⟩, ⟨none, (.store 1 (.t 26) (.t 25)), none⟩]
def L_laws_FnMemOk_r10 : List LOper := [⟨(some 27), (.mv (.t 4)), none⟩, ⟨(some 28), (.un .not (.t 27)), none⟩, ⟨(some 29), (.mv (.t 28)), none⟩, ⟨(some 30), (.mv (.t 5)), (some (29, false))⟩, ⟨(some 31), (.call 16 [(.t 30)]), (some (29, false))⟩, ⟨(some 32), (.pick (.t 29) (.c (.bool true)) (.t 31)), none⟩, ⟨(some 33), (.mv (.t 32)), none⟩, ⟨(some 34), (.mk 3 1 8 [(.int .i64 0)] (.c (.int .i64 64))), (some (33, true))⟩, ⟨(some 35), (.call 16 [(.t 34)]), (some (33, true))⟩, ⟨(some 36), (.pick (.t 33) (.t 35) (.c (.bool false))), none⟩, ⟨(some 37), (.mv (.t 36)), none⟩, ⟨(some 38), (.call 18 []), (some (37, true))⟩, ⟨(some 39), (.pick (.t 37) (.t 38) (.c (.bool false))), none⟩, ⟨(some 2), (.mv (.t 39)), none⟩]
def L_laws_FnMemOk : LFun := ⟨40, [(.tmp 2)], (.seq (.reg false L_laws_FnMemOk_r0) (.seq (.seq (.reg false L_laws_FnMemOk_r1) (.cond (.t 8) (.seq (.reg false L_laws_FnMemOk_r2) .ret) .skip)) (.seq (.reg false L_laws_FnMemOk_r3) (.seq (.reg false L_laws_FnMemOk_r4) (.seq (.seq (.reg false L_laws_FnMemOk_r5) (.cond (.t 16) (.seq (.reg false L_laws_FnMemOk_r6) .ret) .skip)) (.seq (.reg false L_laws_FnMemOk_r7) (.seq (.seq (.reg false L_laws_FnMemOk_r8) (.cond (.t 20) (.reg false L_laws_FnMemOk_r9) .skip)) (.seq (.reg false L_laws_FnMemOk_r10) .ret))))))))⟩
theorem low_laws_FnMemOk : lowFun Go.Proofs.Try.prog 3 = some L_laws_FnMemOk := by kernel_rfl
noncomputable def F_laws_FnMemOk_j4 (v2 : Bool) (s4 : (List Int)) : Option Bool :=
  cond (!v2)
    (Option.bind (F_impl_MemOk (List.replicate (Int.toNat (64 : Int)) (0 : Int))) fun v5 =>
    cond v5
      (Option.bind (F_laws_alive ) fun v6 =>
      some v6)
      (some false))
    (Option.bind (F_impl_MemOk s4) fun v7 =>
    cond v7
      (Option.bind (F_impl_MemOk (List.replicate (Int.toNat (64 : Int)) (0 : Int))) fun v8 =>
      cond v8
        (Option.bind (F_laws_alive ) fun v9 =>
        some v9)
        (some false))
      (some false))
noncomputable def F_laws_FnMemOk (x_code : List Int) : Option Bool :=
  cond (decide ((1048576 : Int) < (((List.length x_code) : Nat) : Int)))
    (some true)
    (Option.bind (F_spec_DrawMemOk x_code) fun v1 =>
    Option.bind (F_impl_MemOk v1) fun v2 =>
    Option.bind (F_spec_MemOk v1) fun v3 =>
    cond (!(v2 == v3))
      (some false)
      (grd ((List.length ([] : List Int) + List.length v1) * 8 ≤ 2 ^ 47 ∧ List.length ([] : List Int) + List.length v1 ≤ 2 ^ 47) (Option.bind (cond v2
            (grd ((0 : Int) ≤ (17 : Int) ∧ (17 : Int) < (((List.length (([] : List Int) ++ v1)) : Nat) : Int)) (grd ((0 : Int) ≤ (17 : Int) ∧ (17 : Int) < (((List.length (([] : List Int) ++ v1)) : Nat) : Int)) (some (.go (List.set (([] : List Int) ++ v1) 17 (w64 ((4095 : Int) - (List.getD (([] : List Int) ++ v1) 17 default))))))))
            (some (.go (([] : List Int) ++ v1)))) fun j4 =>
          JO.run j4 (F_laws_FnMemOk_j4 v2))))
theorem laws_FnMemOk_fn {x_code : List Int} {R_ : Bool} (hh : F_laws_FnMemOk x_code = some R_) : Fn Try.prog 3 [bo (eI .u8) x_code] (.bool R_) := by
  unfold F_laws_FnMemOk at hh
  refine Fn.start low_laws_FnMemOk [0] (E := sp 40 [(0, bo (eI .u8) x_code)]) (by kernel_rfl) (v := .bool R_) (Hr := []) (k := 0) (by kernel_rfl) ?_
  refine Aw.sreg [0] [] ?_
  refine yct (cs := []) (E' := (sp 40 [(0, bo (eI .u8) x_code)])) (H' := []) (n' := 0) (fun K => by kernel_rfl) .nil ?_
  refine Aw.seq ?_
  refine Aw.sreg [0, 8] [] ?_
  refine yct (cs := []) (E' := (sp 40 [(0, bo (eI .u8) x_code), (8, .bool (decide ((1048576 : Int) < (((List.length x_code) : Nat) : Int))))])) (H' := []) (n' := 0) (fun K => by kernel_rfl) .nil ?_
  rcases cond_some hh with ⟨hb, hh⟩ | ⟨hb, hh⟩
  · refine Aw.condT (by kernel_rfl) hb ?_
    refine Aw.sreg [2] [] ?_
    refine yct (cs := []) (E' := (sp 40 [(2, .bool true)])) (H' := []) (n' := 0) (fun K => by kernel_rfl) .nil ?_
    refine Aw.ret ?_
    refine then_r ?_
    rw [some_some hh]
    exact gives (r' := .bool true) (by kernel_rfl) (Ent.list [] rfl rfl (Nat.zero_le _) (rens_1 ren_b) hs_nil)
  · refine Aw.condF (by kernel_rfl) hb ?_
    refine Aw.xskip (fun _ _ _ hq => then_m hq) ?_
    refine Aw.sreg [3] [0] ?_
    refine yc (cs := []) (E' := (sp 40 [(0, bo (eI .u8) x_code), (8, .bool (decide ((1048576 : Int) < (((List.length x_code) : Nat) : Int)))), (9, bo (eI .u8) x_code)])) (H' := []) (n' := 0) (pre := (List.take 1 L_laws_FnMemOk_r3)) (L' := (List.drop 1 L_laws_FnMemOk_r3)) (by kernel_rfl) (fun K => by kernel_rfl) .nil ?_
    obtain ⟨v1, hv1, hh⟩ := bind_some hh
    refine yso (op := (.call 15 [(.t 9)])) (d := (some 10)) (os := (List.drop 2 L_laws_FnMemOk_r3)) (by kernel_rfl) (op_call (r := .own 3 1 (List.length v1) (fl (eI .i64) v1)) (v := .sref 0 [] 0 (List.length v1) 1) (Hr := [(0, some ⟨3, (fl (eI .i64) v1)⟩)]) (n' := 1) (spec_DrawMemOk_fn hv1) (clz_v (vs := [bo (eI .u8) x_code]) (by kernel_rfl) (clz_c (clo_same (clean_bor (cleans_fl cl_eI))) clz_n)) (by simp only [AV.noRef, noRefs, Bool.and_self, noRefs_fl nr_eI]) (by simp only [AV.noBor, noBors, Bool.and_self, noBors_fl nb_eI]) (by kernel_rfl) ?_)
    refine yct (cs := []) (E' := (sp 40 [(3, .sref 0 [] 0 (List.length v1) 1)])) (H' := [(0, some ⟨3, (fl (eI .i64) v1)⟩)]) (n' := 1) (fun K => by kernel_rfl) .nil ?_
    refine Aw.sreg [3, 4] [0] ?_
    refine yc (cs := []) (E' := (sp 40 [(3, .sref 0 [] 0 (List.length v1) 1), (11, .sref 0 [] 0 (List.length v1) 1)])) (H' := [(0, some ⟨3, (fl (eI .i64) v1)⟩)]) (n' := 1) (pre := (List.take 1 L_laws_FnMemOk_r4)) (L' := (List.drop 1 L_laws_FnMemOk_r4)) (by kernel_rfl) (fun K => by kernel_rfl) .nil ?_
    obtain ⟨v2, hv2, hh⟩ := bind_some hh
    refine yso (op := (.call 16 [(.t 11)])) (d := (some 12)) (os := (List.drop 2 L_laws_FnMemOk_r4)) (by kernel_rfl) (op_call (r := .bool v2) (v := .bool v2) (Hr := []) (n' := 1) (impl_MemOk_fn hv2) (clz_v (vs := [.sref 0 [] 0 (List.length v1) 1]) (by kernel_rfl) (clz_c (clo_own (c := (eI .i64)) (xs := v1) (e := 3) (by first | rfl | omega | (simp only [List.length_set, over_len, List.length_replicate, List.length_append, List.length_cons, List.length_nil, List.length_take, List.length_drop] <;> omega)) len_eI no_eI cl_eI (by kernel_rfl)) clz_n)) rfl rfl (by kernel_rfl) ?_)
    refine yct (cs := []) (E' := (sp 40 [(3, .sref 0 [] 0 (List.length v1) 1), (4, .bool v2)])) (H' := [(0, some ⟨3, (fl (eI .i64) v1)⟩)]) (n' := 1) (fun K => by kernel_rfl) .nil ?_
    refine Aw.seq ?_
    refine Aw.sreg [3, 4, 16] [0] ?_
    refine yc (cs := []) (E' := (sp 40 [(3, .sref 0 [] 0 (List.length v1) 1), (4, .bool v2), (13, .bool v2), (14, .sref 0 [] 0 (List.length v1) 1)])) (H' := [(0, some ⟨3, (fl (eI .i64) v1)⟩)]) (n' := 1) (pre := (List.take 2 L_laws_FnMemOk_r5)) (L' := (List.drop 2 L_laws_FnMemOk_r5)) (by kernel_rfl) (fun K => by kernel_rfl) .nil ?_
    obtain ⟨v3, hv3, hh⟩ := bind_some hh
    refine yso (op := (.call 17 [(.t 14)])) (d := (some 15)) (os := (List.drop 3 L_laws_FnMemOk_r5)) (by kernel_rfl) (op_call (r := .bool v3) (v := .bool v3) (Hr := []) (n' := 1) (spec_MemOk_fn hv3) (clz_v (vs := [.sref 0 [] 0 (List.length v1) 1]) (by kernel_rfl) (clz_c (clo_own (c := (eI .i64)) (xs := v1) (e := 3) (by first | rfl | omega | (simp only [List.length_set, over_len, List.length_replicate, List.length_append, List.length_cons, List.length_nil, List.length_take, List.length_drop] <;> omega)) len_eI no_eI cl_eI (by kernel_rfl)) clz_n)) rfl rfl (by kernel_rfl) ?_)
    refine yct (cs := []) (E' := (sp 40 [(3, .sref 0 [] 0 (List.length v1) 1), (4, .bool v2), (16, .bool (!(v2 == v3)))])) (H' := [(0, some ⟨3, (fl (eI .i64) v1)⟩)]) (n' := 1) (fun K => by kernel_rfl) .nil ?_
    rcases cond_some hh with ⟨hb, hh⟩ | ⟨hb, hh⟩
    · refine Aw.condT (by kernel_rfl) hb ?_
      refine Aw.sreg [2] [] ?_
      refine yct (cs := []) (E' := (sp 40 [(2, .bool false)])) (H' := []) (n' := 1) (fun K => by kernel_rfl) .nil ?_
      refine Aw.ret ?_
      refine then_r ?_
      rw [some_some hh]
      exact gives (r' := .bool false) (by kernel_rfl) (Ent.list [] rfl rfl (Nat.zero_le _) (rens_1 ren_b) hs_nil)
    · refine Aw.condF (by kernel_rfl) hb ?_
      refine Aw.xskip (fun _ _ _ hq => then_m hq) ?_
      refine Aw.sreg [4, 5] [2] ?_
      refine yc (cs := []) (E' := (sp 40 [(3, .sref 0 [] 0 (List.length v1) 1), (4, .bool v2), (16, .bool (!(v2 == v3))), (17, .sref 1 [] 0 0 1), (18, .sref 0 [] 0 (List.length v1) 1)])) (H' := [(1, some ⟨3, []⟩), (0, some ⟨3, (fl (eI .i64) v1)⟩)]) (n' := 2) (pre := (List.take 2 L_laws_FnMemOk_r7)) (L' := (List.drop 2 L_laws_FnMemOk_r7)) (by kernel_rfl) (fun K => by kernel_rfl) .nil ?_
      obtain ⟨hg14, hh⟩ := grd_some hh
      refine yso (op := (.app 3 1 8 [(.int .i64 0)] (.t 17) (.t 18))) (d := (some 19)) (os := (List.drop 3 L_laws_FnMemOk_r7)) (by kernel_rfl) (op_app (c := (eI .i64)) (xs := ([] : List Int)) (ys := v1) (r := 1) (k := 0) (π := []) (by first | rfl | omega | (simp only [List.length_set, over_len, List.length_replicate, List.length_append, List.length_cons, List.length_nil, List.length_take, List.length_drop] <;> omega)) len_eI (rpv (by kernel_rfl) (rp_whole (c := (eI .i64)) (xs := v1) (r := 0) (k := (List.length v1)) (π := []) (e := 3) (by first | rfl | omega | (simp only [List.length_set, over_len, List.length_replicate, List.length_append, List.length_cons, List.length_nil, List.length_take, List.length_drop] <;> omega)) len_eI no_eI (by kernel_rfl))) (by kernel_rfl) (by kernel_rfl) hg14 ?_)
      refine yct (cs := []) (E' := (sp 40 [(4, .bool v2), (5, .sref 2 [] 0 (List.length (([] : List Int) ++ v1)) 1)])) (H' := [(2, some ⟨3, (fl (eI .i64) (([] : List Int) ++ v1))⟩)]) (n' := 3) (fun K => by kernel_rfl) .nil ?_
      obtain ⟨j4, hh, hk4⟩ := bind_some hh
      refine Aw.join (S := (List Int)) (fun s4 => sp 40 [(4, .bool v2), (5, .sref 0 [] 0 (List.length s4) 1)]) (fun s4 => [(0, some ⟨3, (fl (eI .i64) s4)⟩)]) 1 (fun s4 => F_laws_FnMemOk_j4 v2 s4 = some R_) ?_ ?_
      · intro s4 hh
        unfold F_laws_FnMemOk_j4 at hh
        refine Aw.sreg [2] [] ?_
        refine yc (cs := []) (E' := (sp 40 [(4, .bool v2), (5, .sref 0 [] 0 (List.length s4) 1), (27, .bool v2), (28, .bool (!v2)), (29, .bool (!v2))])) (H' := [(0, some ⟨3, (fl (eI .i64) s4)⟩)]) (n' := 1) (pre := (List.take 3 L_laws_FnMemOk_r10)) (L' := (List.drop 3 L_laws_FnMemOk_r10)) (by kernel_rfl) (fun K => by kernel_rfl) .nil ?_
        rcases cond_some hh with ⟨hb, hh⟩ | ⟨hb, hh⟩
        · refine ybs (t := 28) hb (by kernel_rfl) ?_
          refine ybs (t := 29) hb (by kernel_rfl) ?_
          refine yc (cs := []) (E' := (sp 40 [(4, .bool v2), (5, .sref 0 [] 0 (List.length s4) 1), (27, .bool v2), (28, .bool true), (29, .bool true), (30, .und), (31, .und), (32, .bool true), (33, .bool true)])) (H' := [(0, some ⟨3, (fl (eI .i64) s4)⟩)]) (n' := 1) (pre := (List.take 4 (List.drop 3 L_laws_FnMemOk_r10))) (L' := (List.drop 7 L_laws_FnMemOk_r10)) (by kernel_rfl) (fun K => by kernel_rfl) .nil ?_
          refine ysg (op := (.mk 3 1 8 [(.int .i64 0)] (.c (.int .i64 64)))) (d := (some 34)) (t := 33) (want := true) (os := (List.drop 8 L_laws_FnMemOk_r10)) (by kernel_rfl) (by kernel_rfl) (op_mk (c := (eI .i64)) (d := (0 : Int)) (k := (64 : Int)) (by kernel_rfl) (by decide) (by kernel_rfl) ?_)
          obtain ⟨v5, hv5, hh⟩ := bind_some hh
          refine ysg (op := (.call 16 [(.t 34)])) (d := (some 35)) (t := 33) (want := true) (os := (List.drop 9 L_laws_FnMemOk_r10)) (by kernel_rfl) (by kernel_rfl) (op_call (r := .bool v5) (v := .bool v5) (Hr := []) (n' := 2) (impl_MemOk_fn hv5) (clz_v (vs := [.sref 1 [] 0 (List.length (List.replicate (Int.toNat (64 : Int)) (0 : Int))) 1]) (by kernel_rfl) (clz_c (clo_own (c := (eI .i64)) (xs := (List.replicate (Int.toNat (64 : Int)) (0 : Int))) (e := 3) (by first | rfl | omega | (simp only [List.length_set, over_len, List.length_replicate, List.length_append, List.length_cons, List.length_nil, List.length_take, List.length_drop] <;> omega)) len_eI no_eI cl_eI (by kernel_rfl)) clz_n)) rfl rfl (by kernel_rfl) ?_)
          refine yc (cs := []) (E' := (sp 40 [(4, .bool v2), (5, .sref 0 [] 0 (List.length s4) 1), (27, .bool v2), (28, .bool true), (29, .bool true), (30, .und), (31, .und), (32, .bool true), (33, .bool true), (34, .sref 1 [] 0 (List.length (List.replicate (Int.toNat (64 : Int)) (0 : Int))) 1), (35, .bool v5), (36, .bool v5), (37, .bool v5)])) (H' := [(1, some ⟨3, (fl (eI .i64) (List.replicate (Int.toNat (64 : Int)) (0 : Int)))⟩), (0, some ⟨3, (fl (eI .i64) s4)⟩)]) (n' := 2) (pre := (List.take 2 (List.drop 9 L_laws_FnMemOk_r10))) (L' := (List.drop 11 L_laws_FnMemOk_r10)) (by kernel_rfl) (fun K => by kernel_rfl) .nil ?_
          rcases cond_some hh with ⟨hb, hh⟩ | ⟨hb, hh⟩
          · refine ybs (t := 35) hb (by kernel_rfl) ?_
            refine ybs (t := 36) hb (by kernel_rfl) ?_
            refine ybs (t := 37) hb (by kernel_rfl) ?_
            obtain ⟨v6, hv6, hh⟩ := bind_some hh
            refine ysg (op := (.call 18 [])) (d := (some 38)) (t := 37) (want := true) (os := (List.drop 12 L_laws_FnMemOk_r10)) (by kernel_rfl) (by kernel_rfl) (op_call (r := .bool v6) (v := .bool v6) (Hr := []) (n' := 2) (laws_alive_fn hv6) (clz_v (vs := []) (by kernel_rfl) clz_n) rfl rfl (by kernel_rfl) ?_)
            refine yct (cs := []) (E' := (sp 40 [(2, .bool v6)])) (H' := []) (n' := 2) (fun K => by kernel_rfl) .nil ?_
            refine Aw.ret ?_
            rw [some_some hh]
            exact gives (r' := .bool v6) (by kernel_rfl) (Ent.list [] rfl rfl (Nat.zero_le _) (rens_1 ren_b) hs_nil)
          · refine ybs (t := 35) hb (by kernel_rfl) ?_
            refine ybs (t := 36) hb (by kernel_rfl) ?_
            refine ybs (t := 37) hb (by kernel_rfl) ?_
            refine yct (cs := []) (E' := (sp 40 [(2, .bool false)])) (H' := []) (n' := 2) (fun K => by kernel_rfl) .nil ?_
            refine Aw.ret ?_
            rw [some_some hh]
            exact gives (r' := .bool false) (by kernel_rfl) (Ent.list [] rfl rfl (Nat.zero_le _) (rens_1 ren_b) hs_nil)
        · refine ybs (t := 28) hb (by kernel_rfl) ?_
          refine ybs (t := 29) hb (by kernel_rfl) ?_
          refine yc (cs := []) (E' := (sp 40 [(4, .bool v2), (5, .sref 0 [] 0 (List.length s4) 1), (27, .bool v2), (28, .bool false), (29, .bool false), (30, .sref 0 [] 0 (List.length s4) 1)])) (H' := [(0, some ⟨3, (fl (eI .i64) s4)⟩)]) (n' := 1) (pre := (List.take 1 (List.drop 3 L_laws_FnMemOk_r10))) (L' := (List.drop 4 L_laws_FnMemOk_r10)) (by kernel_rfl) (fun K => by kernel_rfl) .nil ?_
          obtain ⟨v7, hv7, hh⟩ := bind_some hh
          refine ysg (op := (.call 16 [(.t 30)])) (d := (some 31)) (t := 29) (want := false) (os := (List.drop 5 L_laws_FnMemOk_r10)) (by kernel_rfl) (by kernel_rfl) (op_call (r := .bool v7) (v := .bool v7) (Hr := []) (n' := 1) (impl_MemOk_fn hv7) (clz_v (vs := [.sref 0 [] 0 (List.length s4) 1]) (by kernel_rfl) (clz_c (clo_own (c := (eI .i64)) (xs := s4) (e := 3) (by first | rfl | omega | (simp only [List.length_set, over_len, List.length_replicate, List.length_append, List.length_cons, List.length_nil, List.length_take, List.length_drop] <;> omega)) len_eI no_eI cl_eI (by kernel_rfl)) clz_n)) rfl rfl (by kernel_rfl) ?_)
          refine yc (cs := []) (E' := (sp 40 [(4, .bool v2), (5, .sref 0 [] 0 (List.length s4) 1), (27, .bool v2), (28, .bool false), (29, .bool false), (30, .sref 0 [] 0 (List.length s4) 1), (31, .bool v7), (32, .bool v7), (33, .bool v7)])) (H' := [(0, some ⟨3, (fl (eI .i64) s4)⟩)]) (n' := 1) (pre := (List.take 2 (List.drop 5 L_laws_FnMemOk_r10))) (L' := (List.drop 7 L_laws_FnMemOk_r10)) (by kernel_rfl) (fun K => by kernel_rfl) .nil ?_
          rcases cond_some hh with ⟨hb, hh⟩ | ⟨hb, hh⟩
          · refine ybs (t := 31) hb (by kernel_rfl) ?_
            refine ybs (t := 32) hb (by kernel_rfl) ?_
            refine ybs (t := 33) hb (by kernel_rfl) ?_
            refine ysg (op := (.mk 3 1 8 [(.int .i64 0)] (.c (.int .i64 64)))) (d := (some 34)) (t := 33) (want := true) (os := (List.drop 8 L_laws_FnMemOk_r10)) (by kernel_rfl) (by kernel_rfl) (op_mk (c := (eI .i64)) (d := (0 : Int)) (k := (64 : Int)) (by kernel_rfl) (by decide) (by kernel_rfl) ?_)
            obtain ⟨v8, hv8, hh⟩ := bind_some hh
            refine ysg (op := (.call 16 [(.t 34)])) (d := (some 35)) (t := 33) (want := true) (os := (List.drop 9 L_laws_FnMemOk_r10)) (by kernel_rfl) (by kernel_rfl) (op_call (r := .bool v8) (v := .bool v8) (Hr := []) (n' := 2) (impl_MemOk_fn hv8) (clz_v (vs := [.sref 1 [] 0 (List.length (List.replicate (Int.toNat (64 : Int)) (0 : Int))) 1]) (by kernel_rfl) (clz_c (clo_own (c := (eI .i64)) (xs := (List.replicate (Int.toNat (64 : Int)) (0 : Int))) (e := 3) (by first | rfl | omega | (simp only [List.length_set, over_len, List.length_replicate, List.length_append, List.length_cons, List.length_nil, List.length_take, List.length_drop] <;> omega)) len_eI no_eI cl_eI (by kernel_rfl)) clz_n)) rfl rfl (by kernel_rfl) ?_)
            refine yc (cs := []) (E' := (sp 40 [(4, .bool v2), (5, .sref 0 [] 0 (List.length s4) 1), (27, .bool v2), (28, .bool false), (29, .bool false), (30, .sref 0 [] 0 (List.length s4) 1), (31, .bool true), (32, .bool true), (33, .bool true), (34, .sref 1 [] 0 (List.length (List.replicate (Int.toNat (64 : Int)) (0 : Int))) 1), (35, .bool v8), (36, .bool v8), (37, .bool v8)])) (H' := [(1, some ⟨3, (fl (eI .i64) (List.replicate (Int.toNat (64 : Int)) (0 : Int)))⟩), (0, some ⟨3, (fl (eI .i64) s4)⟩)]) (n' := 2) (pre := (List.take 2 (List.drop 9 L_laws_FnMemOk_r10))) (L' := (List.drop 11 L_laws_FnMemOk_r10)) (by kernel_rfl) (fun K => by kernel_rfl) .nil ?_
            rcases cond_some hh with ⟨hb, hh⟩ | ⟨hb, hh⟩
            · refine ybs (t := 35) hb (by kernel_rfl) ?_
              refine ybs (t := 36) hb (by kernel_rfl) ?_
              refine ybs (t := 37) hb (by kernel_rfl) ?_
              obtain ⟨v9, hv9, hh⟩ := bind_some hh
              refine ysg (op := (.call 18 [])) (d := (some 38)) (t := 37) (want := true) (os := (List.drop 12 L_laws_FnMemOk_r10)) (by kernel_rfl) (by kernel_rfl) (op_call (r := .bool v9) (v := .bool v9) (Hr := []) (n' := 2) (laws_alive_fn hv9) (clz_v (vs := []) (by kernel_rfl) clz_n) rfl rfl (by kernel_rfl) ?_)
              refine yct (cs := []) (E' := (sp 40 [(2, .bool v9)])) (H' := []) (n' := 2) (fun K => by kernel_rfl) .nil ?_
              refine Aw.ret ?_
              rw [some_some hh]
              exact gives (r' := .bool v9) (by kernel_rfl) (Ent.list [] rfl rfl (Nat.zero_le _) (rens_1 ren_b) hs_nil)
            · refine ybs (t := 35) hb (by kernel_rfl) ?_
              refine ybs (t := 36) hb (by kernel_rfl) ?_
              refine ybs (t := 37) hb (by kernel_rfl) ?_
              refine yct (cs := []) (E' := (sp 40 [(2, .bool false)])) (H' := []) (n' := 2) (fun K => by kernel_rfl) .nil ?_
              refine Aw.ret ?_
              rw [some_some hh]
              exact gives (r' := .bool false) (by kernel_rfl) (Ent.list [] rfl rfl (Nat.zero_le _) (rens_1 ren_b) hs_nil)
          · refine ybs (t := 31) hb (by kernel_rfl) ?_
            refine ybs (t := 32) hb (by kernel_rfl) ?_
            refine ybs (t := 33) hb (by kernel_rfl) ?_
            refine yct (cs := []) (E' := (sp 40 [(2, .bool false)])) (H' := []) (n' := 1) (fun K => by kernel_rfl) .nil ?_
            refine Aw.ret ?_
            rw [some_some hh]
            exact gives (r' := .bool false) (by kernel_rfl) (Ent.list [] rfl rfl (Nat.zero_le _) (rens_1 ren_b) hs_nil)
      · intro Q4 hN4 hR4 hE4
        refine Aw.sreg [4, 5, 20] [2] ?_
        refine yct (cs := []) (E' := (sp 40 [(4, .bool v2), (5, .sref 2 [] 0 (List.length (([] : List Int) ++ v1)) 1), (20, .bool v2)])) (H' := [(2, some ⟨3, (fl (eI .i64) (([] : List Int) ++ v1))⟩)]) (n' := 3) (fun K => by kernel_rfl) .nil ?_
        rcases cond_some hh with ⟨hb, hh⟩ | ⟨hb, hh⟩
        · refine Aw.condT (by kernel_rfl) hb ?_
          refine Aw.oreg ?_
          obtain ⟨hg13, hh⟩ := grd_some hh
          refine yc (cs := [(0 : Int) ≤ (17 : Int) ∧ (17 : Int) < (((List.length (([] : List Int) ++ v1)) : Nat) : Int)]) (E' := (sp 40 [(4, .bool v2), (5, .sref 2 [] 0 (List.length (([] : List Int) ++ v1)) 1), (20, .bool v2), (21, .sref 2 [] 0 (List.length (([] : List Int) ++ v1)) 1), (22, .sref 2 [] 0 (List.length (([] : List Int) ++ v1)) 1), (23, .ptr 2 [] 17)])) (H' := [(2, some ⟨3, (fl (eI .i64) (([] : List Int) ++ v1))⟩)]) (n' := 3) (pre := (List.take 3 L_laws_FnMemOk_r9)) (L' := (List.drop 3 L_laws_FnMemOk_r9)) (by kernel_rfl) (fun K => by kernel_rfl) (.cons hg13 .nil) ?_
          refine yso (op := (.load false 1 (.t 23))) (d := (some 24)) (os := (List.drop 4 L_laws_FnMemOk_r9)) (by kernel_rfl) (op_load (c := (eI .i64)) (xs := (([] : List Int) ++ v1)) (e := 3) (r := 2) (π := []) (o := 17) (i := 17) (off := 0) (v := .int .i64 (List.getD (([] : List Int) ++ v1) 17 default)) len_eI (by kernel_rfl) (by kernel_rfl) (by omega) (by first | omega | (simp only [List.length_set, List.length_append, List.length_replicate, List.length_cons, List.length_nil, List.length_take, List.length_drop, over_len] at *; omega)) (by decide) (by kernel_rfl) ?_)
          obtain ⟨hg12, hh⟩ := grd_some hh
          refine yc (cs := [(0 : Int) ≤ (17 : Int) ∧ (17 : Int) < (((List.length (([] : List Int) ++ v1)) : Nat) : Int)]) (E' := (sp 40 [(4, .bool v2), (5, .sref 2 [] 0 (List.length (([] : List Int) ++ v1)) 1), (20, .bool v2), (21, .sref 2 [] 0 (List.length (([] : List Int) ++ v1)) 1), (22, .sref 2 [] 0 (List.length (([] : List Int) ++ v1)) 1), (23, .ptr 2 [] 17), (24, .int .i64 (List.getD (([] : List Int) ++ v1) 17 default)), (25, .int .i64 (w64 ((4095 : Int) - (List.getD (([] : List Int) ++ v1) 17 default)))), (26, .ptr 2 [] 17)])) (H' := [(2, some ⟨3, (fl (eI .i64) (([] : List Int) ++ v1))⟩)]) (n' := 3) (pre := (List.take 2 (List.drop 4 L_laws_FnMemOk_r9))) (L' := (List.drop 6 L_laws_FnMemOk_r9)) (by kernel_rfl) (fun K => by kernel_rfl) (.cons hg12 .nil) ?_
          refine yso (op := (.store 1 (.t 26) (.t 25))) (d := none) (os := (List.drop 7 L_laws_FnMemOk_r9)) (by kernel_rfl) (op_store (c := (eI .i64)) (xs := (([] : List Int) ++ v1)) (e := 3) (r := 2) (π := []) (o := 17) (i := 17) (off := 0) (vs := [.int .i64 (w64 ((4095 : Int) - (List.getD (([] : List Int) ++ v1) 17 default)))]) (y := (w64 ((4095 : Int) - (List.getD (([] : List Int) ++ v1) 17 default)))) (H' := [(2, some ⟨3, (fl (eI .i64) (List.set (([] : List Int) ++ v1) 17 (w64 ((4095 : Int) - (List.getD (([] : List Int) ++ v1) 17 default)))))⟩), (2, some ⟨3, (fl (eI .i64) (([] : List Int) ++ v1))⟩)]) len_eI (by kernel_rfl) (by kernel_rfl) (by kernel_rfl) (by kernel_rfl) (by omega) (by first | omega | (simp only [List.length_set, List.length_append, List.length_replicate, List.length_cons, List.length_nil, List.length_take, List.length_drop, over_len] at *; omega)) (by decide) (by kernel_rfl) (by kernel_rfl) ?_)
          refine yce (cs := []) (E' := (sp 40 [(4, .bool v2), (5, .sref 2 [] 0 (List.length (([] : List Int) ++ v1)) 1), (20, .bool v2), (21, .sref 2 [] 0 (List.length (([] : List Int) ++ v1)) 1), (22, .sref 2 [] 0 (List.length (([] : List Int) ++ v1)) 1), (23, .ptr 2 [] 17), (24, .int .i64 (List.getD (([] : List Int) ++ v1) 17 default)), (25, .int .i64 (w64 ((4095 : Int) - (List.getD (([] : List Int) ++ v1) 17 default)))), (26, .ptr 2 [] 17)])) (H' := [(2, some ⟨3, (fl (eI .i64) (List.set (([] : List Int) ++ v1) 17 (w64 ((4095 : Int) - (List.getD (([] : List Int) ++ v1) 17 default)))))⟩), (2, some ⟨3, (fl (eI .i64) (([] : List Int) ++ v1))⟩)]) (n' := 3) (fun K => by kernel_rfl) .nil ?_
          obtain rfl := some_some hh
          exact hN4 (List.set (([] : List Int) ++ v1) 17 (w64 ((4095 : Int) - (List.getD (([] : List Int) ++ v1) 17 default)))) _ _ _ hk4 (Ent.list2 [some 2] rfl rfl (by decide) (rens_sp (by kernel_rfl) (rl_c (u := .bool v2) (by kernel_rfl) ren_b (rl_c (u := .sref 2 [] 0 (List.length (([] : List Int) ++ v1)) 1) (by kernel_rfl) (ren_se (by decide) rfl (by first | rfl | omega | (simp only [List.length_set, over_len, List.length_replicate, List.length_append, List.length_cons, List.length_nil, List.length_take, List.length_drop] <;> omega))) rl_n))) (hs_as (t := ⟨3, (fl (eI .i64) (List.set (([] : List Int) ++ v1) 17 (w64 ((4095 : Int) - (List.getD (([] : List Int) ++ v1) 17 default)))))⟩) (by decide) rfl (by kernel_rfl) rfl (rens_same (noRefs_fl nr_eI)) hs_nil))
        · refine Aw.condF (by kernel_rfl) hb ?_
          refine Aw.skip ?_
          obtain rfl := some_some hh
          exact hN4 (([] : List Int) ++ v1) _ _ _ hk4 (Ent.list2 [some 2] rfl rfl (by decide) (rens_sp (by kernel_rfl) (rl_c (u := .bool v2) (by kernel_rfl) ren_b (rl_c (u := .sref 2 [] 0 (List.length (([] : List Int) ++ v1)) 1) (by kernel_rfl) (ren_se (by decide) rfl rfl) rl_n))) (hs_as (t := ⟨3, (fl (eI .i64) (([] : List Int) ++ v1))⟩) (by decide) rfl (by kernel_rfl) rfl (rens_same (noRefs_fl nr_eI)) hs_nil))

end Go.Proofs.Ythbefahhpikcaaa
