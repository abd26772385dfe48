/- Plain functions of the program, and that it hands back what they say. Made by program. -/
import Derived.Test.YthbefahhpikcaaaWT
import Derived.Test.YthbefahhpikcaaaProg
namespace Go.Proofs.Ythbefahhpikcaaa
open Go.RowKit
set_option maxRecDepth 100000
set_option linter.all false
set_option maxHeartbeats 0

-- 25 loop.example/guesthouse/impl.WordOk
def L_impl_WordOk_r0 : List LOper := [⟨(some 2), (.mv (.c (.bool false))), none⟩]
def L_impl_WordOk_r1 : List LOper := [⟨(some 3), (.mv (.t 0)), none⟩, ⟨(some 4), (.bin .leq (.c (.int .i64 0)) (.t 3)), none⟩, ⟨(some 5), (.mv (.t 4)), none⟩, ⟨(some 6), (.mv (.t 0)), (some (5, true))⟩, ⟨(some 7), (.bin .leq (.t 6) (.c (.int .i64 4095))), (some (5, true))⟩, ⟨(some 8), (.pick (.t 5) (.t 7) (.c (.bool false))), none⟩, ⟨(some 2), (.mv (.t 8)), none⟩]
def L_impl_WordOk : LFun := ⟨9, [(.tmp 2)], (.seq (.reg false L_impl_WordOk_r0) (.seq (.reg false L_impl_WordOk_r1) .ret))⟩
theorem low_impl_WordOk : lowFun Go.Proofs.Try.prog 25 = some L_impl_WordOk := by kernel_rfl
noncomputable def F_impl_WordOk (x_n : Int) : Option Bool :=
  cond (decide ((0 : Int) ≤ x_n))
    (some (decide (x_n ≤ (4095 : Int))))
    (some false)
theorem impl_WordOk_fn {x_n : Int} {R_ : Bool} (hh : F_impl_WordOk x_n = some R_) : Fn Try.prog 25 [.int .i64 x_n] (.bool R_) := by
  unfold F_impl_WordOk at hh
  refine Fn.start low_impl_WordOk [0] (E := sp 9 [(0, .int .i64 x_n)]) (by kernel_rfl) (v := .bool R_) (Hr := []) (k := 0) (by kernel_rfl) ?_
  refine Aw.sreg [0] [] ?_
  refine yct (cs := []) (E' := (sp 9 [(0, .int .i64 x_n)])) (H' := []) (n' := 0) (fun K => by kernel_rfl) .nil ?_
  refine Aw.sreg [2] [] ?_
  refine yc (cs := []) (E' := (sp 9 [(0, .int .i64 x_n), (3, .int .i64 x_n), (4, .bool (decide ((0 : Int) ≤ x_n))), (5, .bool (decide ((0 : Int) ≤ x_n)))])) (H' := []) (n' := 0) (pre := (List.take 3 L_impl_WordOk_r1)) (L' := (List.drop 3 L_impl_WordOk_r1)) (by kernel_rfl) (fun K => by kernel_rfl) .nil ?_
  rcases cond_some hh with ⟨hb, hh⟩ | ⟨hb, hh⟩
  · refine ybs (t := 4) hb (by kernel_rfl) ?_
    refine ybs (t := 5) hb (by kernel_rfl) ?_
    refine yct (cs := []) (E' := (sp 9 [(2, .bool (decide (x_n ≤ (4095 : Int))))])) (H' := []) (n' := 0) (fun K => by kernel_rfl) .nil ?_
    refine Aw.ret ?_
    rw [some_some hh]
    exact gives (r' := .bool (decide (x_n ≤ (4095 : Int)))) (by kernel_rfl) (Ent.list [] rfl rfl (Nat.zero_le _) (rens_1 ren_b) hs_nil)
  · refine ybs (t := 4) hb (by kernel_rfl) ?_
    refine ybs (t := 5) hb (by kernel_rfl) ?_
    refine yct (cs := []) (E' := (sp 9 [(2, .bool false)])) (H' := []) (n' := 0) (fun K => by kernel_rfl) .nil ?_
    refine Aw.ret ?_
    rw [some_some hh]
    exact gives (r' := .bool false) (by kernel_rfl) (Ent.list [] rfl rfl (Nat.zero_le _) (rens_1 ren_b) hs_nil)

-- 18 loop.example/guesthouse/laws.alive
def L_laws_alive_r0 : List LOper := [⟨(some 0), (.mv (.c (.bool false))), none⟩]
def L_laws_alive_r1 : List LOper := [⟨(some 1), (.call 25 [(.c (.int .i64 5))]), none⟩, ⟨(some 2), (.mv (.t 1)), none⟩, ⟨(some 3), (.call 25 [(.c (.int .i64 (-1)))]), (some (2, true))⟩, ⟨(some 4), (.un .not (.t 3)), (some (2, true))⟩, ⟨(some 5), (.pick (.t 2) (.t 4) (.c (.bool false))), none⟩, ⟨(some 0), (.mv (.t 5)), none⟩]
def L_laws_alive : LFun := ⟨6, [(.tmp 0)], (.seq (.reg false L_laws_alive_r0) (.seq (.reg false L_laws_alive_r1) .ret))⟩
theorem low_laws_alive : lowFun Go.Proofs.Try.prog 18 = some L_laws_alive := by kernel_rfl
noncomputable def F_laws_alive  : Option Bool :=
  Option.bind (F_impl_WordOk (5 : Int)) fun v1 =>
  cond v1
    (Option.bind (F_impl_WordOk (-1 : Int)) fun v2 =>
    some (!v2))
    (some false)
theorem laws_alive_fn  {R_ : Bool} (hh : F_laws_alive  = some R_) : Fn Try.prog 18 [] (.bool R_) := by
  unfold F_laws_alive at hh
  refine Fn.start low_laws_alive [] (E := sp 6 []) (by kernel_rfl) (v := .bool R_) (Hr := []) (k := 0) (by kernel_rfl) ?_
  refine Aw.sreg [] [] ?_
  refine yct (cs := []) (E' := (sp 6 [])) (H' := []) (n' := 0) (fun K => by kernel_rfl) .nil ?_
  refine Aw.sreg [0] [] ?_
  obtain ⟨v1, hv1, hh⟩ := bind_some hh
  refine yso (op := (.call 25 [(.c (.int .i64 5))])) (d := (some 1)) (os := (List.drop 1 L_laws_alive_r1)) (by kernel_rfl) (op_call (r := .bool v1) (v := .bool v1) (Hr := []) (n' := 0) (impl_WordOk_fn hv1) (clz_v (vs := [.int .i64 (5 : Int)]) (by kernel_rfl) (clz_c (clo_same rfl) clz_n)) rfl rfl (by kernel_rfl) ?_)
  refine yc (cs := []) (E' := (sp 6 [(1, .bool v1), (2, .bool v1)])) (H' := []) (n' := 0) (pre := (List.take 1 (List.drop 1 L_laws_alive_r1))) (L' := (List.drop 2 L_laws_alive_r1)) (by kernel_rfl) (fun K => by kernel_rfl) .nil ?_
  rcases cond_some hh with ⟨hb, hh⟩ | ⟨hb, hh⟩
  · refine ybs (t := 1) hb (by kernel_rfl) ?_
    refine ybs (t := 2) hb (by kernel_rfl) ?_
    obtain ⟨v2, hv2, hh⟩ := bind_some hh
    refine ysg (op := (.call 25 [(.c (.int .i64 (-1)))])) (d := (some 3)) (t := 2) (want := true) (os := (List.drop 3 L_laws_alive_r1)) (by kernel_rfl) (by kernel_rfl) (op_call (r := .bool v2) (v := .bool v2) (Hr := []) (n' := 0) (impl_WordOk_fn hv2) (clz_v (vs := [.int .i64 (-1 : Int)]) (by kernel_rfl) (clz_c (clo_same rfl) clz_n)) rfl rfl (by kernel_rfl) ?_)
    refine yct (cs := []) (E' := (sp 6 [(0, .bool (!v2))])) (H' := []) (n' := 0) (fun K => by kernel_rfl) .nil ?_
    refine Aw.ret ?_
    rw [some_some hh]
    exact gives (r' := .bool (!v2)) (by kernel_rfl) (Ent.list [] rfl rfl (Nat.zero_le _) (rens_1 ren_b) hs_nil)
  · refine ybs (t := 1) hb (by kernel_rfl) ?_
    refine ybs (t := 2) hb (by kernel_rfl) ?_
    refine yct (cs := []) (E' := (sp 6 [(0, .bool false)])) (H' := []) (n' := 0) (fun K => by kernel_rfl) .nil ?_
    refine Aw.ret ?_
    rw [some_some hh]
    exact gives (r' := .bool false) (by kernel_rfl) (Ent.list [] rfl rfl (Nat.zero_le _) (rens_1 ren_b) hs_nil)

-- 52 loop.example/guesthouse/spec.l20Open
def L_spec_l20Open_r0 : List LOper := [⟨(some 2), (.mv (.c .unk)), none⟩]
def L_spec_l20Open_r1 : List LOper := [⟨(some 3), (.mv (.t 0)), none⟩, ⟨(some 4), (.len (.t 3)), none⟩, ⟨(some 5), (.bin .gtr (.t 4) (.c (.int .i64 2000))), none⟩]
def L_spec_l20Open_r2 : List LOper := [⟨(some 6), (.mv (.t 0)), none⟩, ⟨(some 7), (.slc 1 (.t 6) none (some (.c (.int .i64 2000)))), none⟩, ⟨(some 0), (.mv (.t 7)), none⟩]
def L_spec_l20Open_r3 : List LOper := [⟨(some 8), (.mv (.t 0)), none⟩, ⟨(some 9), (.bld [.nil, (.int .i64 0)] [(0, (1, (.t 8)))]), none⟩, ⟨(some 10), (.box 90 (.t 9)), none⟩, ⟨(some 2), (.mv (.t 10)), none⟩]
def L_spec_l20Open : LFun := ⟨11, [(.tmp 2)], (.seq (.reg false L_spec_l20Open_r0) (.seq (.seq (.reg false L_spec_l20Open_r1) (.cond (.t 5) (.reg false L_spec_l20Open_r2) .skip)) (.seq (.reg false L_spec_l20Open_r3) .ret)))⟩
theorem low_spec_l20Open : lowFun Go.Proofs.Try.prog 52 = some L_spec_l20Open := by kernel_rfl
noncomputable def F_spec_l20Open_j1  (s1 : (List Int)) : Option Dl20Rd :=
  some (Dl20Rd.mk s1 (0 : Int))
noncomputable def F_spec_l20Open (x_code : List Int) : Option Dl20Rd :=
  Option.bind (cond (decide ((2000 : Int) < (((List.length x_code) : Nat) : Int)))
      (grd ((0 : Int) ≤ (0 : Int) ∧ (0 : Int) ≤ (2000 : Int) ∧ (2000 : Int) ≤ ((List.length x_code : Nat) : Int)) (some (.go (List.take (Int.toNat (2000 : Int) - Int.toNat (0 : Int)) (List.drop (Int.toNat (0 : Int)) x_code)))))
      (some (.go x_code))) fun j1 =>
    JO.run j1 (F_spec_l20Open_j1)
theorem spec_l20Open_fn {x_code : List Int} {R_ : Dl20Rd} (hh : F_spec_l20Open x_code = some R_) : Inl Try.prog 52 [bo (eI .u8) x_code] [] 0 (.ptr 0 [] 0) [(0, some ⟨90, [bo (eI .u8) R_.b, .int .i64 R_.p]⟩)] 1 := by
  unfold F_spec_l20Open at hh
  refine Inl.start low_spec_l20Open [0] [] (E := sp 11 [(0, bo (eI .u8) x_code)]) (H1 := []) (by kernel_rfl) (by kernel_rfl) ?_
  refine Aw.sreg [0] [] ?_
  refine yct (cs := []) (E' := (sp 11 [(0, bo (eI .u8) x_code)])) (H' := []) (n' := 0) (fun K => by kernel_rfl) .nil ?_
  obtain ⟨j1, hh, hk1⟩ := bind_some hh
  refine Aw.join (S := (List Int)) (fun s1 => sp 11 [(0, bo (eI .u8) s1)]) (fun s1 => []) 0 (fun s1 => F_spec_l20Open_j1 s1 = some R_) ?_ ?_
  · intro s1 hh
    unfold F_spec_l20Open_j1 at hh
    refine Aw.sreg [2] [0] ?_
    refine yct (cs := []) (E' := (sp 11 [(2, .ptr 0 [] 0)])) (H' := [(0, some ⟨90, [bo (eI .u8) s1, .int .i64 (0 : Int)]⟩)]) (n' := 1) (fun K => by kernel_rfl) .nil ?_
    refine Aw.ret ?_
    rw [some_some hh]
    exact gives (r' := .ptr 0 [] 0) (by kernel_rfl) (Ent.list2 [some 0] rfl rfl (by decide) (rens_1 (ren_p (by decide) rfl)) (hs_as (t := ⟨90, [bo (eI .u8) s1, .int .i64 (0 : Int)]⟩) (by decide) rfl (by kernel_rfl) rfl (rens_c (ren_bor (rens_same (noRefs_fl nr_eI))) (rens_c ren_i rens_n)) hs_nil))
  · intro Q1 hN1 hR1 hE1
    refine Aw.sreg [0, 5] [] ?_
    refine yct (cs := []) (E' := (sp 11 [(0, bo (eI .u8) x_code), (5, .bool (decide ((2000 : Int) < (((List.length x_code) : Nat) : Int))))])) (H' := []) (n' := 0) (fun K => by kernel_rfl) .nil ?_
    rcases cond_some hh with ⟨hb, hh⟩ | ⟨hb, hh⟩
    · refine Aw.condT (by kernel_rfl) hb ?_
      refine Aw.oreg ?_
      refine yc (cs := []) (E' := (sp 11 [(0, bo (eI .u8) x_code), (5, .bool (decide ((2000 : Int) < (((List.length x_code) : Nat) : Int)))), (6, bo (eI .u8) x_code)])) (H' := []) (n' := 0) (pre := (List.take 1 L_spec_l20Open_r2)) (L' := (List.drop 1 L_spec_l20Open_r2)) (by kernel_rfl) (fun K => by kernel_rfl) .nil ?_
      obtain ⟨hg6, hh⟩ := grd_some hh
      refine yso (op := (.slc 1 (.t 6) none (some (.c (.int .i64 2000))))) (d := (some 7)) (os := (List.drop 2 L_spec_l20Open_r2)) (by kernel_rfl) (op_slc (c := (eI .u8)) (xs := x_code) (l := (0 : Int)) (h := (2000 : Int)) len_eI (by kernel_rfl) (by kernel_rfl) (by kernel_rfl) hg6 ?_)
      refine yce (cs := []) (E' := (sp 11 [(0, bo (eI .u8) (List.take (Int.toNat (2000 : Int) - Int.toNat (0 : Int)) (List.drop (Int.toNat (0 : Int)) x_code))), (5, .bool (decide ((2000 : Int) < (((List.length x_code) : Nat) : Int)))), (6, bo (eI .u8) x_code), (7, bo (eI .u8) (List.take (Int.toNat (2000 : Int) - Int.toNat (0 : Int)) (List.drop (Int.toNat (0 : Int)) x_code)))])) (H' := []) (n' := 0) (fun K => by kernel_rfl) .nil ?_
      obtain rfl := some_some hh
      exact hN1 (List.take (Int.toNat (2000 : Int) - Int.toNat (0 : Int)) (List.drop (Int.toNat (0 : Int)) x_code)) _ _ _ hk1 (Ent.list2 [] rfl rfl (by decide) (rens_sp (by kernel_rfl) (rl_c (u := bo (eI .u8) (List.take (Int.toNat (2000 : Int) - Int.toNat (0 : Int)) (List.drop (Int.toNat (0 : Int)) x_code))) (by kernel_rfl) (ren_bor (rens_same (noRefs_fl nr_eI))) rl_n)) hs_nil)
    · refine Aw.condF (by kernel_rfl) hb ?_
      refine Aw.skip ?_
      obtain rfl := some_some hh
      exact hN1 x_code _ _ _ hk1 (Ent.list2 [] rfl rfl (by decide) (rens_sp (by kernel_rfl) (rl_c (u := bo (eI .u8) x_code) (by kernel_rfl) (ren_bor (rens_same (noRefs_fl nr_eI))) rl_n)) hs_nil)

-- 55 (*loop.example/guesthouse/spec.l20Rd).pick
def L___spec_l20Rd__pick_r0 : List LOper := [⟨(some 4), (.mv (.c (.int .i64 0))), none⟩]
def L___spec_l20Rd__pick_r1 : List LOper := [⟨(some 7), (.mv (.t 0)), none⟩, ⟨(some 8), (.mv (.t 0)), none⟩, ⟨(some 9), (.nck (.t 8)), none⟩, ⟨(some 10), (.fadr 1 (.t 9)), none⟩, ⟨(some 11), (.load false 1 (.t 10)), none⟩, ⟨(some 12), (.bin .add (.t 11) (.c (.int .i64 1))), none⟩, ⟨(some 13), (.nck (.t 7)), none⟩, ⟨(some 14), (.fadr 1 (.t 13)), none⟩, ⟨none, (.store 1 (.t 14) (.t 12)), none⟩]
def L___spec_l20Rd__pick_r2 : List LOper := [⟨(some 15), (.mv (.t 1)), none⟩, ⟨(some 16), (.bin .lss (.t 15) (.c (.int .i64 1))), none⟩, ⟨(some 17), (.mv (.t 16)), none⟩, ⟨(some 18), (.mv (.t 0)), (some (17, false))⟩, ⟨(some 19), (.nck (.t 18)), (some (17, false))⟩, ⟨(some 20), (.fadr 0 (.t 19)), (some (17, false))⟩, ⟨(some 21), (.load false 1 (.t 20)), (some (17, false))⟩, ⟨(some 22), (.len (.t 21)), (some (17, false))⟩, ⟨(some 23), (.bin .eql (.t 22) (.c (.int .i64 0))), (some (17, false))⟩, ⟨(some 24), (.pick (.t 17) (.c (.bool true)) (.t 23)), none⟩]
def L___spec_l20Rd__pick_r3 : List LOper := [⟨(some 4), (.mv (.c (.int .i64 0))), none⟩]
def L___spec_l20Rd__pick_r4 : List LOper := [⟨(some 25), (.mv (.t 0)), none⟩, ⟨(some 26), (.nck (.t 25)), none⟩, ⟨(some 27), (.fadr 1 (.t 26)), none⟩, ⟨(some 28), (.load false 1 (.t 27)), none⟩, ⟨(some 29), (.bin .sub (.t 28) (.c (.int .i64 1))), none⟩, ⟨(some 5), (.mv (.t 29)), none⟩]
def L___spec_l20Rd__pick_r5 : List LOper := [⟨(some 30), (.mv (.t 5)), none⟩, ⟨(some 31), (.mv (.t 0)), none⟩, ⟨(some 32), (.nck (.t 31)), none⟩, ⟨(some 33), (.fadr 0 (.t 32)), none⟩, ⟨(some 34), (.load false 1 (.t 33)), none⟩, ⟨(some 35), (.len (.t 34)), none⟩, ⟨(some 36), (.bin .lss (.t 30) (.t 35)), none⟩]
def L___spec_l20Rd__pick_r6 : List LOper := [⟨(some 37), (.mv (.t 0)), none⟩, ⟨(some 38), (.nck (.t 37)), none⟩, ⟨(some 39), (.fadr 0 (.t 38)), none⟩, ⟨(some 40), (.load false 1 (.t 39)), none⟩, ⟨(some 41), (.mv (.t 5)), none⟩, ⟨(some 42), (.iadr 1 (.t 40) (.t 41)), none⟩, ⟨(some 43), (.load false 1 (.t 42)), none⟩, ⟨(some 44), (.cvt .i64 (.t 43)), none⟩, ⟨(some 45), (.mv (.t 1)), none⟩, ⟨(some 46), (.bin .rem (.t 44) (.t 45)), none⟩, ⟨(some 4), (.mv (.t 46)), none⟩]
def L___spec_l20Rd__pick_r7 : List LOper := [⟨(some 47), (.mv (.t 0)), none⟩, ⟨(some 48), (.nck (.t 47)), none⟩, ⟨(some 49), (.fadr 0 (.t 48)), none⟩, ⟨(some 50), (.load false 1 (.t 49)), none⟩, ⟨(some 51), (.mv (.t 5)), none⟩, ⟨(some 52), (.mv (.t 0)), none⟩, ⟨(some 53), (.nck (.t 52)), none⟩, ⟨(some 54), (.fadr 0 (.t 53)), none⟩, ⟨(some 55), (.load false 1 (.t 54)), none⟩, ⟨(some 56), (.len (.t 55)), none⟩, ⟨(some 57), (.bin .rem (.t 51) (.t 56)), none⟩, ⟨(some 58), (.iadr 1 (.t 50) (.t 57)), none⟩, ⟨(some 59), (.load false 1 (.t 58)), none⟩, ⟨(some 60), (.cvt .i64 (.t 59)), none⟩, ⟨(some 61), (.bin .mul (.t 60) (.c (.int .i64 131))), none⟩, ⟨(some 62), (.mv (.t 0)), none⟩, ⟨(some 63), (.nck (.t 62)), none⟩, ⟨(some 64), (.fadr 0 (.t 63)), none⟩, ⟨(some 65), (.load false 1 (.t 64)), none⟩, ⟨(some 66), (.mv (.t 5)), none⟩, ⟨(some 67), (.bin .mul (.t 66) (.c (.int .i64 7))), none⟩, ⟨(some 68), (.bin .add (.t 67) (.c (.int .i64 3))), none⟩, ⟨(some 69), (.mv (.t 0)), none⟩, ⟨(some 70), (.nck (.t 69)), none⟩, ⟨(some 71), (.fadr 0 (.t 70)), none⟩, ⟨(some 72), (.load false 1 (.t 71)), none⟩, ⟨(some 73), (.len (.t 72)), none⟩, ⟨(some 74), (.bin .rem (.t 68) (.t 73)), none⟩, ⟨(some 75), (.iadr 1 (.t 65) (.t 74)), none⟩, ⟨(some 76), (.load false 1 (.t 75)), none⟩, ⟨(some 77), (.cvt .i64 (.t 76)), none⟩, ⟨(some 78), (.bin .mul (.t 77) (.c (.int .i64 1117))), none⟩, ⟨(some 79), (.bin .add (.t 61) (.t 78)), none⟩, ⟨(some 80), (.mv (.t 5)), none⟩, ⟨(some 81), (.bin .mul (.t 80) (.c (.int .i64 29))), none⟩, ⟨(some 82), (.bin .add (.t 79) (.t 81)), none⟩, ⟨(some 83), (.mv (.t 5)), none⟩, ⟨(some 84), (.mv (.t 0)), none⟩, ⟨(some 85), (.nck (.t 84)), none⟩, ⟨(some 86), (.fadr 0 (.t 85)), none⟩, ⟨(some 87), (.load false 1 (.t 86)), none⟩, ⟨(some 88), (.len (.t 87)), none⟩, ⟨(some 89), (.bin .quo (.t 83) (.t 88)), none⟩, ⟨(some 90), (.bin .mul (.t 89) (.c (.int .i64 53))), none⟩, ⟨(some 91), (.bin .add (.t 82) (.t 90)), none⟩, ⟨(some 6), (.mv (.t 91)), none⟩]
def L___spec_l20Rd__pick_r8 : List LOper := [⟨(some 92), (.mv (.t 6)), none⟩, ⟨(some 93), (.mv (.t 6)), none⟩, ⟨(some 94), (.bin .quo (.t 93) (.c (.int .i64 64))), none⟩, ⟨(some 95), (.bin .xor (.t 92) (.t 94)), none⟩, ⟨(some 6), (.mv (.t 95)), none⟩]
def L___spec_l20Rd__pick_r9 : List LOper := [⟨(some 96), (.mv (.t 6)), none⟩, ⟨(some 97), (.mv (.t 1)), none⟩, ⟨(some 98), (.bin .rem (.t 96) (.t 97)), none⟩, ⟨(some 4), (.mv (.t 98)), none⟩]
def L___spec_l20Rd__pick : LFun := ⟨99, [(.tmp 4)], (.seq (.reg false L___spec_l20Rd__pick_r0) (.seq (.reg false L___spec_l20Rd__pick_r1) (.seq (.seq (.reg false L___spec_l20Rd__pick_r2) (.cond (.t 24) (.seq (.reg false L___spec_l20Rd__pick_r3) .ret) .skip)) (.seq (.reg false L___spec_l20Rd__pick_r4) (.seq (.seq (.reg false L___spec_l20Rd__pick_r5) (.cond (.t 36) (.seq (.reg false L___spec_l20Rd__pick_r6) .ret) .skip)) (.seq (.reg true L___spec_l20Rd__pick_r7) (.seq (.reg false L___spec_l20Rd__pick_r8) (.seq (.reg false L___spec_l20Rd__pick_r9) .ret))))))))⟩
theorem low___spec_l20Rd__pick : lowFun Go.Proofs.Try.prog 55 = some L___spec_l20Rd__pick := by kernel_rfl
noncomputable def F___spec_l20Rd__pick (x_r : Dl20Rd) (x_n : Int) : Option (Dl20Rd × Int) :=
  cond (decide (x_n < (1 : Int)))
    (some ((Dl20Rd.mk x_r.b (w64 (x_r.p + (1 : Int)))), (0 : Int)))
    (cond (decide ((((List.length x_r.b) : Nat) : Int) = (0 : Int)))
      (some ((Dl20Rd.mk x_r.b (w64 (x_r.p + (1 : Int)))), (0 : Int)))
      (cond (decide ((w64 ((w64 (x_r.p + (1 : Int))) - (1 : Int))) < (((List.length x_r.b) : Nat) : Int)))
        (grd ((0 : Int) ≤ (w64 ((w64 (x_r.p + (1 : Int))) - (1 : Int))) ∧ (w64 ((w64 (x_r.p + (1 : Int))) - (1 : Int))) < ((List.length x_r.b : Nat) : Int)) (grd (x_n ≠ 0) (some ((Dl20Rd.mk x_r.b (w64 (x_r.p + (1 : Int)))), (Int.tmod (IntKind.wrap .i64 (List.getD x_r.b (Int.toNat (w64 ((w64 (x_r.p + (1 : Int))) - (1 : Int)))) default)) x_n)))))
        (grd ((((List.length x_r.b) : Nat) : Int) ≠ 0) (grd ((0 : Int) ≤ (Int.tmod (w64 ((w64 (x_r.p + (1 : Int))) - (1 : Int))) (((List.length x_r.b) : Nat) : Int)) ∧ (Int.tmod (w64 ((w64 (x_r.p + (1 : Int))) - (1 : Int))) (((List.length x_r.b) : Nat) : Int)) < ((List.length x_r.b : Nat) : Int)) (grd ((((List.length x_r.b) : Nat) : Int) ≠ 0) (grd ((0 : Int) ≤ (Int.tmod (w64 ((w64 ((w64 ((w64 (x_r.p + (1 : Int))) - (1 : Int))) * (7 : Int))) + (3 : Int))) (((List.length x_r.b) : Nat) : Int)) ∧ (Int.tmod (w64 ((w64 ((w64 ((w64 (x_r.p + (1 : Int))) - (1 : Int))) * (7 : Int))) + (3 : Int))) (((List.length x_r.b) : Nat) : Int)) < ((List.length x_r.b : Nat) : Int)) (grd ((((List.length x_r.b) : Nat) : Int) ≠ 0) (grd (x_n ≠ 0) (some ((Dl20Rd.mk x_r.b (w64 (x_r.p + (1 : Int)))), (Int.tmod (bits .xor .i64 (w64 ((w64 ((w64 ((w64 ((IntKind.wrap .i64 (List.getD x_r.b (Int.toNat (Int.tmod (w64 ((w64 (x_r.p + (1 : Int))) - (1 : Int))) (((List.length x_r.b) : Nat) : Int))) default)) * (131 : Int))) + (w64 ((IntKind.wrap .i64 (List.getD x_r.b (Int.toNat (Int.tmod (w64 ((w64 ((w64 ((w64 (x_r.p + (1 : Int))) - (1 : Int))) * (7 : Int))) + (3 : Int))) (((List.length x_r.b) : Nat) : Int))) default)) * (1117 : Int))))) + (w64 ((w64 ((w64 (x_r.p + (1 : Int))) - (1 : Int))) * (29 : Int))))) + (w64 ((w64 (Int.tdiv (w64 ((w64 (x_r.p + (1 : Int))) - (1 : Int))) (((List.length x_r.b) : Nat) : Int))) * (53 : Int))))) (w64 (Int.tdiv (w64 ((w64 ((w64 ((w64 ((IntKind.wrap .i64 (List.getD x_r.b (Int.toNat (Int.tmod (w64 ((w64 (x_r.p + (1 : Int))) - (1 : Int))) (((List.length x_r.b) : Nat) : Int))) default)) * (131 : Int))) + (w64 ((IntKind.wrap .i64 (List.getD x_r.b (Int.toNat (Int.tmod (w64 ((w64 ((w64 ((w64 (x_r.p + (1 : Int))) - (1 : Int))) * (7 : Int))) + (3 : Int))) (((List.length x_r.b) : Nat) : Int))) default)) * (1117 : Int))))) + (w64 ((w64 ((w64 (x_r.p + (1 : Int))) - (1 : Int))) * (29 : Int))))) + (w64 ((w64 (Int.tdiv (w64 ((w64 (x_r.p + (1 : Int))) - (1 : Int))) (((List.length x_r.b) : Nat) : Int))) * (53 : Int))))) (64 : Int)))) x_n)))))))))))
theorem __spec_l20Rd__pick_fn {x_r : Dl20Rd} {x_n : Int} {R_ : Dl20Rd × Int} (hh : F___spec_l20Rd__pick x_r x_n = some R_) : Inl Try.prog 55 [.ptr 0 [] 0, .int .i64 x_n] [(0, some ⟨90, (B_90 x_r)⟩)] 1 (.int .i64 R_.2) [(0, some ⟨90, [bo (eI .u8) R_.1.b, .int .i64 R_.1.p]⟩)] 1 := by
  unfold F___spec_l20Rd__pick at hh
  refine Inl.start low___spec_l20Rd__pick [0, 1] [0] (E := sp 99 [(0, .ptr 0 [] 0), (1, .int .i64 x_n)]) (H1 := [(0, some ⟨90, (B_90 x_r)⟩)]) (by kernel_rfl) (by kernel_rfl) ?_
  refine Aw.sreg [0, 1] [0] ?_
  refine yct (cs := []) (E' := (sp 99 [(0, .ptr 0 [] 0), (1, .int .i64 x_n)])) (H' := [(0, some ⟨90, (B_90 x_r)⟩)]) (n' := 1) (fun K => by kernel_rfl) .nil ?_
  refine Aw.sreg [0, 1] [0] ?_
  refine yct (cs := []) (E' := (sp 99 [(0, .ptr 0 [] 0), (1, .int .i64 x_n)])) (H' := [(0, some ⟨90, [bo (eI .u8) x_r.b, .int .i64 (w64 (x_r.p + (1 : Int)))]⟩)]) (n' := 1) (fun K => by kernel_rfl) .nil ?_
  refine Aw.seq ?_
  refine Aw.sreg [0, 1, 24] [0] ?_
  refine yc (cs := []) (E' := (sp 99 [(0, .ptr 0 [] 0), (1, .int .i64 x_n), (15, .int .i64 x_n), (16, .bool (decide (x_n < (1 : Int)))), (17, .bool (decide (x_n < (1 : Int))))])) (H' := [(0, some ⟨90, [bo (eI .u8) x_r.b, .int .i64 (w64 (x_r.p + (1 : Int)))]⟩)]) (n' := 1) (pre := (List.take 3 L___spec_l20Rd__pick_r2)) (L' := (List.drop 3 L___spec_l20Rd__pick_r2)) (by kernel_rfl) (fun K => by kernel_rfl) .nil ?_
  rcases cond_some hh with ⟨hb, hh⟩ | ⟨hb, hh⟩
  · refine ybs (t := 16) hb (by kernel_rfl) ?_
    refine ybs (t := 17) hb (by kernel_rfl) ?_
    refine yct (cs := []) (E' := (sp 99 [(0, .ptr 0 [] 0), (1, .int .i64 x_n), (24, .bool true)])) (H' := [(0, some ⟨90, [bo (eI .u8) x_r.b, .int .i64 (w64 (x_r.p + (1 : Int)))]⟩)]) (n' := 1) (fun K => by kernel_rfl) .nil ?_
    refine Aw.condT (by kernel_rfl) rfl ?_
    refine Aw.sreg [4] [0] ?_
    refine yct (cs := []) (E' := (sp 99 [(4, .int .i64 (0 : Int))])) (H' := [(0, some ⟨90, [bo (eI .u8) x_r.b, .int .i64 (w64 (x_r.p + (1 : Int)))]⟩)]) (n' := 1) (fun K => by kernel_rfl) .nil ?_
    refine Aw.ret ?_
    refine then_r ?_
    rw [some_some hh]
    exact gives (r' := .int .i64 (0 : Int)) (by kernel_rfl) (Ent.list2 [some 0] rfl rfl (by decide) (rens_1 ren_i) (hs_as (t := ⟨90, [bo (eI .u8) x_r.b, .int .i64 (w64 (x_r.p + (1 : Int)))]⟩) (by decide) rfl (by kernel_rfl) rfl (rens_c (ren_bor (rens_same (noRefs_fl nr_eI))) (rens_c ren_i rens_n)) hs_nil))
  · refine ybs (t := 16) hb (by kernel_rfl) ?_
    refine ybs (t := 17) hb (by kernel_rfl) ?_
    refine yct (cs := []) (E' := (sp 99 [(0, .ptr 0 [] 0), (1, .int .i64 x_n), (24, .bool (decide ((((List.length x_r.b) : Nat) : Int) = (0 : Int))))])) (H' := [(0, some ⟨90, [bo (eI .u8) x_r.b, .int .i64 (w64 (x_r.p + (1 : Int)))]⟩)]) (n' := 1) (fun K => by kernel_rfl) .nil ?_
    rcases cond_some hh with ⟨hb, hh⟩ | ⟨hb, hh⟩
    · refine Aw.condT (by kernel_rfl) hb ?_
      refine Aw.sreg [4] [0] ?_
      refine yct (cs := []) (E' := (sp 99 [(4, .int .i64 (0 : Int))])) (H' := [(0, some ⟨90, [bo (eI .u8) x_r.b, .int .i64 (w64 (x_r.p + (1 : Int)))]⟩)]) (n' := 1) (fun K => by kernel_rfl) .nil ?_
      refine Aw.ret ?_
      refine then_r ?_
      rw [some_some hh]
      exact gives (r' := .int .i64 (0 : Int)) (by kernel_rfl) (Ent.list2 [some 0] rfl rfl (by decide) (rens_1 ren_i) (hs_as (t := ⟨90, [bo (eI .u8) x_r.b, .int .i64 (w64 (x_r.p + (1 : Int)))]⟩) (by decide) rfl (by kernel_rfl) rfl (rens_c (ren_bor (rens_same (noRefs_fl nr_eI))) (rens_c ren_i rens_n)) hs_nil))
    · refine Aw.condF (by kernel_rfl) hb ?_
      refine Aw.xskip (fun _ _ _ hq => then_m hq) ?_
      refine Aw.sreg [0, 1, 5] [0] ?_
      refine yct (cs := []) (E' := (sp 99 [(0, .ptr 0 [] 0), (1, .int .i64 x_n), (5, .int .i64 (w64 ((w64 (x_r.p + (1 : Int))) - (1 : Int))))])) (H' := [(0, some ⟨90, [bo (eI .u8) x_r.b, .int .i64 (w64 (x_r.p + (1 : Int)))]⟩)]) (n' := 1) (fun K => by kernel_rfl) .nil ?_
      refine Aw.seq ?_
      refine Aw.sreg [0, 1, 5, 36] [0] ?_
      refine yct (cs := []) (E' := (sp 99 [(0, .ptr 0 [] 0), (1, .int .i64 x_n), (5, .int .i64 (w64 ((w64 (x_r.p + (1 : Int))) - (1 : Int)))), (36, .bool (decide ((w64 ((w64 (x_r.p + (1 : Int))) - (1 : Int))) < (((List.length x_r.b) : Nat) : Int))))])) (H' := [(0, some ⟨90, [bo (eI .u8) x_r.b, .int .i64 (w64 (x_r.p + (1 : Int)))]⟩)]) (n' := 1) (fun K => by kernel_rfl) .nil ?_
      rcases cond_some hh with ⟨hb, hh⟩ | ⟨hb, hh⟩
      · refine Aw.condT (by kernel_rfl) hb ?_
        refine Aw.sreg [4] [0] ?_
        refine yc (cs := []) (E' := (sp 99 [(0, .ptr 0 [] 0), (1, .int .i64 x_n), (5, .int .i64 (w64 ((w64 (x_r.p + (1 : Int))) - (1 : Int)))), (36, .bool (decide ((w64 ((w64 (x_r.p + (1 : Int))) - (1 : Int))) < (((List.length x_r.b) : Nat) : Int)))), (37, .ptr 0 [] 0), (38, .ptr 0 [] 0), (39, .ptr 0 [] 0), (40, bo (eI .u8) x_r.b), (41, .int .i64 (w64 ((w64 (x_r.p + (1 : Int))) - (1 : Int))))])) (H' := [(0, some ⟨90, [bo (eI .u8) x_r.b, .int .i64 (w64 (x_r.p + (1 : Int)))]⟩)]) (n' := 1) (pre := (List.take 5 L___spec_l20Rd__pick_r6)) (L' := (List.drop 5 L___spec_l20Rd__pick_r6)) (by kernel_rfl) (fun K => by kernel_rfl) .nil ?_
        obtain ⟨hg7, hh⟩ := grd_some hh
        refine yso (op := (.iadr 1 (.t 40) (.t 41))) (d := (some 42)) (os := (List.drop 6 L___spec_l20Rd__pick_r6)) (by kernel_rfl) (op_iadr (kd := .i64) (c := (eI .u8)) (xs := x_r.b) len_eI (by decide) (by kernel_rfl) (by kernel_rfl) hg7 ?_)
        refine yso (op := (.load false 1 (.t 42))) (d := (some 43)) (os := (List.drop 7 L___spec_l20Rd__pick_r6)) (by kernel_rfl) (op_loadb (c := (eI .u8)) (xs := x_r.b) (o := Int.toNat (w64 ((w64 (x_r.p + (1 : Int))) - (1 : Int))) * 1) (i := (Int.toNat (w64 ((w64 (x_r.p + (1 : Int))) - (1 : Int))))) (off := 0) (v := .int .u8 (List.getD x_r.b (Int.toNat (w64 ((w64 (x_r.p + (1 : Int))) - (1 : Int)))) default)) len_eI (by kernel_rfl) (by omega) (by omega) (by decide) (by kernel_rfl) ?_)
        obtain ⟨hg8, hh⟩ := grd_some hh
        refine yct (cs := [x_n ≠ 0]) (E' := (sp 99 [(4, .int .i64 (Int.tmod (IntKind.wrap .i64 (List.getD x_r.b (Int.toNat (w64 ((w64 (x_r.p + (1 : Int))) - (1 : Int)))) default)) x_n))])) (H' := [(0, some ⟨90, [bo (eI .u8) x_r.b, .int .i64 (w64 (x_r.p + (1 : Int)))]⟩)]) (n' := 1) (fun K => by kernel_rfl) (.cons hg8 .nil) ?_
        refine Aw.ret ?_
        refine then_r ?_
        rw [some_some hh]
        exact gives (r' := .int .i64 (Int.tmod (IntKind.wrap .i64 (List.getD x_r.b (Int.toNat (w64 ((w64 (x_r.p + (1 : Int))) - (1 : Int)))) default)) x_n)) (by kernel_rfl) (Ent.list2 [some 0] rfl rfl (by decide) (rens_1 ren_i) (hs_as (t := ⟨90, [bo (eI .u8) x_r.b, .int .i64 (w64 (x_r.p + (1 : Int)))]⟩) (by decide) rfl (by kernel_rfl) rfl (rens_c (ren_bor (rens_same (noRefs_fl nr_eI))) (rens_c ren_i rens_n)) hs_nil))
      · refine Aw.condF (by kernel_rfl) hb ?_
        refine Aw.xskip (fun _ _ _ hq => then_m hq) ?_
        refine Aw.sregq [1, 6] ?_
        obtain ⟨hg20, hh⟩ := grd_some hh
        refine qc (cs := [(((List.length x_r.b) : Nat) : Int) ≠ 0]) (E' := (sp 99 [(0, .ptr 0 [] 0), (1, .int .i64 x_n), (5, .int .i64 (w64 ((w64 (x_r.p + (1 : Int))) - (1 : Int)))), (36, .bool (decide ((w64 ((w64 (x_r.p + (1 : Int))) - (1 : Int))) < (((List.length x_r.b) : Nat) : Int)))), (47, .ptr 0 [] 0), (48, .ptr 0 [] 0), (49, .ptr 0 [] 0), (50, bo (eI .u8) x_r.b), (51, .int .i64 (w64 ((w64 (x_r.p + (1 : Int))) - (1 : Int)))), (52, .ptr 0 [] 0), (53, .ptr 0 [] 0), (54, .ptr 0 [] 0), (55, bo (eI .u8) x_r.b), (56, .int .i64 (((List.length x_r.b) : Nat) : Int)), (57, .int .i64 (Int.tmod (w64 ((w64 (x_r.p + (1 : Int))) - (1 : Int))) (((List.length x_r.b) : Nat) : Int)))])) (pre := (List.take 11 L___spec_l20Rd__pick_r7)) (L' := (List.drop 11 L___spec_l20Rd__pick_r7)) (by kernel_rfl) (fun K => by kernel_rfl) (.cons hg20 .nil) ?_
        obtain ⟨hg14, hh⟩ := grd_some hh
        refine qso (op := (.iadr 1 (.t 50) (.t 57))) (d := (some 58)) (os := (List.drop 12 L___spec_l20Rd__pick_r7)) (by kernel_rfl) (yq_q rfl (op_iadr (kd := .i64) (c := (eI .u8)) (xs := x_r.b) len_eI (by decide) (by kernel_rfl) (by kernel_rfl) hg14 ?_))
        refine qso (op := (.load false 1 (.t 58))) (d := (some 59)) (os := (List.drop 13 L___spec_l20Rd__pick_r7)) (by kernel_rfl) (yq_q rfl (op_loadb (c := (eI .u8)) (xs := x_r.b) (o := Int.toNat (Int.tmod (w64 ((w64 (x_r.p + (1 : Int))) - (1 : Int))) (((List.length x_r.b) : Nat) : Int)) * 1) (i := (Int.toNat (Int.tmod (w64 ((w64 (x_r.p + (1 : Int))) - (1 : Int))) (((List.length x_r.b) : Nat) : Int)))) (off := 0) (v := .int .u8 (List.getD x_r.b (Int.toNat (Int.tmod (w64 ((w64 (x_r.p + (1 : Int))) - (1 : Int))) (((List.length x_r.b) : Nat) : Int))) default)) len_eI (by kernel_rfl) (by omega) (by omega) (by decide) (by kernel_rfl) ?_))
        obtain ⟨hg19, hh⟩ := grd_some hh
        refine qc (cs := [(((List.length x_r.b) : Nat) : Int) ≠ 0]) (E' := (sp 99 [(0, .ptr 0 [] 0), (1, .int .i64 x_n), (5, .int .i64 (w64 ((w64 (x_r.p + (1 : Int))) - (1 : Int)))), (36, .bool (decide ((w64 ((w64 (x_r.p + (1 : Int))) - (1 : Int))) < (((List.length x_r.b) : Nat) : Int)))), (47, .ptr 0 [] 0), (48, .ptr 0 [] 0), (49, .ptr 0 [] 0), (50, bo (eI .u8) x_r.b), (51, .int .i64 (w64 ((w64 (x_r.p + (1 : Int))) - (1 : Int)))), (52, .ptr 0 [] 0), (53, .ptr 0 [] 0), (54, .ptr 0 [] 0), (55, bo (eI .u8) x_r.b), (56, .int .i64 (((List.length x_r.b) : Nat) : Int)), (57, .int .i64 (Int.tmod (w64 ((w64 (x_r.p + (1 : Int))) - (1 : Int))) (((List.length x_r.b) : Nat) : Int))), (58, .bptr (fl (eI .u8) x_r.b) (Int.toNat (Int.tmod (w64 ((w64 (x_r.p + (1 : Int))) - (1 : Int))) (((List.length x_r.b) : Nat) : Int)) * 1)), (59, .int .u8 (List.getD x_r.b (Int.toNat (Int.tmod (w64 ((w64 (x_r.p + (1 : Int))) - (1 : Int))) (((List.length x_r.b) : Nat) : Int))) default)), (60, .int .i64 (IntKind.wrap .i64 (List.getD x_r.b (Int.toNat (Int.tmod (w64 ((w64 (x_r.p + (1 : Int))) - (1 : Int))) (((List.length x_r.b) : Nat) : Int))) default))), (61, .int .i64 (w64 ((IntKind.wrap .i64 (List.getD x_r.b (Int.toNat (Int.tmod (w64 ((w64 (x_r.p + (1 : Int))) - (1 : Int))) (((List.length x_r.b) : Nat) : Int))) default)) * (131 : Int)))), (62, .ptr 0 [] 0), (63, .ptr 0 [] 0), (64, .ptr 0 [] 0), (65, bo (eI .u8) x_r.b), (66, .int .i64 (w64 ((w64 (x_r.p + (1 : Int))) - (1 : Int)))), (67, .int .i64 (w64 ((w64 ((w64 (x_r.p + (1 : Int))) - (1 : Int))) * (7 : Int)))), (68, .int .i64 (w64 ((w64 ((w64 ((w64 (x_r.p + (1 : Int))) - (1 : Int))) * (7 : Int))) + (3 : Int)))), (69, .ptr 0 [] 0), (70, .ptr 0 [] 0), (71, .ptr 0 [] 0), (72, bo (eI .u8) x_r.b), (73, .int .i64 (((List.length x_r.b) : Nat) : Int)), (74, .int .i64 (Int.tmod (w64 ((w64 ((w64 ((w64 (x_r.p + (1 : Int))) - (1 : Int))) * (7 : Int))) + (3 : Int))) (((List.length x_r.b) : Nat) : Int)))])) (pre := (List.take 15 (List.drop 13 L___spec_l20Rd__pick_r7))) (L' := (List.drop 28 L___spec_l20Rd__pick_r7)) (by kernel_rfl) (fun K => by kernel_rfl) (.cons hg19 .nil) ?_
        obtain ⟨hg15, hh⟩ := grd_some hh
        refine qso (op := (.iadr 1 (.t 65) (.t 74))) (d := (some 75)) (os := (List.drop 29 L___spec_l20Rd__pick_r7)) (by kernel_rfl) (yq_q rfl (op_iadr (kd := .i64) (c := (eI .u8)) (xs := x_r.b) len_eI (by decide) (by kernel_rfl) (by kernel_rfl) hg15 ?_))
        refine qso (op := (.load false 1 (.t 75))) (d := (some 76)) (os := (List.drop 30 L___spec_l20Rd__pick_r7)) (by kernel_rfl) (yq_q rfl (op_loadb (c := (eI .u8)) (xs := x_r.b) (o := Int.toNat (Int.tmod (w64 ((w64 ((w64 ((w64 (x_r.p + (1 : Int))) - (1 : Int))) * (7 : Int))) + (3 : Int))) (((List.length x_r.b) : Nat) : Int)) * 1) (i := (Int.toNat (Int.tmod (w64 ((w64 ((w64 ((w64 (x_r.p + (1 : Int))) - (1 : Int))) * (7 : Int))) + (3 : Int))) (((List.length x_r.b) : Nat) : Int)))) (off := 0) (v := .int .u8 (List.getD x_r.b (Int.toNat (Int.tmod (w64 ((w64 ((w64 ((w64 (x_r.p + (1 : Int))) - (1 : Int))) * (7 : Int))) + (3 : Int))) (((List.length x_r.b) : Nat) : Int))) default)) len_eI (by kernel_rfl) (by omega) (by omega) (by decide) (by kernel_rfl) ?_))
        obtain ⟨hg18, hh⟩ := grd_some hh
        refine qct (cs := [(((List.length x_r.b) : Nat) : Int) ≠ 0]) (E' := (sp 99 [(1, .int .i64 x_n), (6, .int .i64 (w64 ((w64 ((w64 ((w64 ((IntKind.wrap .i64 (List.getD x_r.b (Int.toNat (Int.tmod (w64 ((w64 (x_r.p + (1 : Int))) - (1 : Int))) (((List.length x_r.b) : Nat) : Int))) default)) * (131 : Int))) + (w64 ((IntKind.wrap .i64 (List.getD x_r.b (Int.toNat (Int.tmod (w64 ((w64 ((w64 ((w64 (x_r.p + (1 : Int))) - (1 : Int))) * (7 : Int))) + (3 : Int))) (((List.length x_r.b) : Nat) : Int))) default)) * (1117 : Int))))) + (w64 ((w64 ((w64 (x_r.p + (1 : Int))) - (1 : Int))) * (29 : Int))))) + (w64 ((w64 (Int.tdiv (w64 ((w64 (x_r.p + (1 : Int))) - (1 : Int))) (((List.length x_r.b) : Nat) : Int))) * (53 : Int))))))])) (fun K => by kernel_rfl) (.cons hg18 .nil) ?_
        refine Aw.sreg [1, 6] [0] ?_
        refine yct (cs := [(64 : Int) ≠ 0]) (E' := (sp 99 [(1, .int .i64 x_n), (6, .int .i64 (bits .xor .i64 (w64 ((w64 ((w64 ((w64 ((IntKind.wrap .i64 (List.getD x_r.b (Int.toNat (Int.tmod (w64 ((w64 (x_r.p + (1 : Int))) - (1 : Int))) (((List.length x_r.b) : Nat) : Int))) default)) * (131 : Int))) + (w64 ((IntKind.wrap .i64 (List.getD x_r.b (Int.toNat (Int.tmod (w64 ((w64 ((w64 ((w64 (x_r.p + (1 : Int))) - (1 : Int))) * (7 : Int))) + (3 : Int))) (((List.length x_r.b) : Nat) : Int))) default)) * (1117 : Int))))) + (w64 ((w64 ((w64 (x_r.p + (1 : Int))) - (1 : Int))) * (29 : Int))))) + (w64 ((w64 (Int.tdiv (w64 ((w64 (x_r.p + (1 : Int))) - (1 : Int))) (((List.length x_r.b) : Nat) : Int))) * (53 : Int))))) (w64 (Int.tdiv (w64 ((w64 ((w64 ((w64 ((IntKind.wrap .i64 (List.getD x_r.b (Int.toNat (Int.tmod (w64 ((w64 (x_r.p + (1 : Int))) - (1 : Int))) (((List.length x_r.b) : Nat) : Int))) default)) * (131 : Int))) + (w64 ((IntKind.wrap .i64 (List.getD x_r.b (Int.toNat (Int.tmod (w64 ((w64 ((w64 ((w64 (x_r.p + (1 : Int))) - (1 : Int))) * (7 : Int))) + (3 : Int))) (((List.length x_r.b) : Nat) : Int))) default)) * (1117 : Int))))) + (w64 ((w64 ((w64 (x_r.p + (1 : Int))) - (1 : Int))) * (29 : Int))))) + (w64 ((w64 (Int.tdiv (w64 ((w64 (x_r.p + (1 : Int))) - (1 : Int))) (((List.length x_r.b) : Nat) : Int))) * (53 : Int))))) (64 : Int)))))])) (H' := [(0, some ⟨90, [bo (eI .u8) x_r.b, .int .i64 (w64 (x_r.p + (1 : Int)))]⟩)]) (n' := 1) (fun K => by kernel_rfl) (.cons (by decide) .nil) ?_
        refine Aw.sreg [4] [0] ?_
        obtain ⟨hg17, hh⟩ := grd_some hh
        refine yct (cs := [x_n ≠ 0]) (E' := (sp 99 [(4, .int .i64 (Int.tmod (bits .xor .i64 (w64 ((w64 ((w64 ((w64 ((IntKind.wrap .i64 (List.getD x_r.b (Int.toNat (Int.tmod (w64 ((w64 (x_r.p + (1 : Int))) - (1 : Int))) (((List.length x_r.b) : Nat) : Int))) default)) * (131 : Int))) + (w64 ((IntKind.wrap .i64 (List.getD x_r.b (Int.toNat (Int.tmod (w64 ((w64 ((w64 ((w64 (x_r.p + (1 : Int))) - (1 : Int))) * (7 : Int))) + (3 : Int))) (((List.length x_r.b) : Nat) : Int))) default)) * (1117 : Int))))) + (w64 ((w64 ((w64 (x_r.p + (1 : Int))) - (1 : Int))) * (29 : Int))))) + (w64 ((w64 (Int.tdiv (w64 ((w64 (x_r.p + (1 : Int))) - (1 : Int))) (((List.length x_r.b) : Nat) : Int))) * (53 : Int))))) (w64 (Int.tdiv (w64 ((w64 ((w64 ((w64 ((IntKind.wrap .i64 (List.getD x_r.b (Int.toNat (Int.tmod (w64 ((w64 (x_r.p + (1 : Int))) - (1 : Int))) (((List.length x_r.b) : Nat) : Int))) default)) * (131 : Int))) + (w64 ((IntKind.wrap .i64 (List.getD x_r.b (Int.toNat (Int.tmod (w64 ((w64 ((w64 ((w64 (x_r.p + (1 : Int))) - (1 : Int))) * (7 : Int))) + (3 : Int))) (((List.length x_r.b) : Nat) : Int))) default)) * (1117 : Int))))) + (w64 ((w64 ((w64 (x_r.p + (1 : Int))) - (1 : Int))) * (29 : Int))))) + (w64 ((w64 (Int.tdiv (w64 ((w64 (x_r.p + (1 : Int))) - (1 : Int))) (((List.length x_r.b) : Nat) : Int))) * (53 : Int))))) (64 : Int)))) x_n))])) (H' := [(0, some ⟨90, [bo (eI .u8) x_r.b, .int .i64 (w64 (x_r.p + (1 : Int)))]⟩)]) (n' := 1) (fun K => by kernel_rfl) (.cons hg17 .nil) ?_
        refine Aw.ret ?_
        rw [some_some hh]
        exact gives (r' := .int .i64 (Int.tmod (bits .xor .i64 (w64 ((w64 ((w64 ((w64 ((IntKind.wrap .i64 (List.getD x_r.b (Int.toNat (Int.tmod (w64 ((w64 (x_r.p + (1 : Int))) - (1 : Int))) (((List.length x_r.b) : Nat) : Int))) default)) * (131 : Int))) + (w64 ((IntKind.wrap .i64 (List.getD x_r.b (Int.toNat (Int.tmod (w64 ((w64 ((w64 ((w64 (x_r.p + (1 : Int))) - (1 : Int))) * (7 : Int))) + (3 : Int))) (((List.length x_r.b) : Nat) : Int))) default)) * (1117 : Int))))) + (w64 ((w64 ((w64 (x_r.p + (1 : Int))) - (1 : Int))) * (29 : Int))))) + (w64 ((w64 (Int.tdiv (w64 ((w64 (x_r.p + (1 : Int))) - (1 : Int))) (((List.length x_r.b) : Nat) : Int))) * (53 : Int))))) (w64 (Int.tdiv (w64 ((w64 ((w64 ((w64 ((IntKind.wrap .i64 (List.getD x_r.b (Int.toNat (Int.tmod (w64 ((w64 (x_r.p + (1 : Int))) - (1 : Int))) (((List.length x_r.b) : Nat) : Int))) default)) * (131 : Int))) + (w64 ((IntKind.wrap .i64 (List.getD x_r.b (Int.toNat (Int.tmod (w64 ((w64 ((w64 ((w64 (x_r.p + (1 : Int))) - (1 : Int))) * (7 : Int))) + (3 : Int))) (((List.length x_r.b) : Nat) : Int))) default)) * (1117 : Int))))) + (w64 ((w64 ((w64 (x_r.p + (1 : Int))) - (1 : Int))) * (29 : Int))))) + (w64 ((w64 (Int.tdiv (w64 ((w64 (x_r.p + (1 : Int))) - (1 : Int))) (((List.length x_r.b) : Nat) : Int))) * (53 : Int))))) (64 : Int)))) x_n)) (by kernel_rfl) (Ent.list2 [some 0] rfl rfl (by decide) (rens_1 ren_i) (hs_as (t := ⟨90, [bo (eI .u8) x_r.b, .int .i64 (w64 (x_r.p + (1 : Int)))]⟩) (by decide) rfl (by kernel_rfl) rfl (rens_c (ren_bor (rens_same (noRefs_fl nr_eI))) (rens_c ren_i rens_n)) hs_nil))

-- 19 loop.example/guesthouse/spec.DrawEntryWord
def L_spec_DrawEntryWord_r0 : List LOper := [⟨(some 2), (.fresh 29 [(.bool false), (.bool false), (.bool false), (.int .i64 0)]), none⟩]
def L_spec_DrawEntryWord_r1 : List LOper := [⟨(some 4), (.mv (.t 0)), none⟩, ⟨(some 5), (.call 52 [(.t 4)]), none⟩, ⟨(some 3), (.mv (.t 5)), none⟩]
def L_spec_DrawEntryWord_r2 : List LOper := [⟨(some 6), (.mv (.t 3)), none⟩, ⟨(some 7), (.call 55 [(.t 6), (.c (.int .i64 2))]), none⟩, ⟨(some 8), (.bin .eql (.t 7) (.c (.int .i64 0))), none⟩, ⟨(some 9), (.mv (.t 3)), none⟩, ⟨(some 10), (.call 55 [(.t 9), (.c (.int .i64 2))]), none⟩, ⟨(some 11), (.bin .eql (.t 10) (.c (.int .i64 0))), none⟩, ⟨(some 12), (.mv (.t 3)), none⟩, ⟨(some 13), (.call 55 [(.t 12), (.c (.int .i64 2))]), none⟩, ⟨(some 14), (.bin .eql (.t 13) (.c (.int .i64 0))), none⟩, ⟨(some 15), (.mv (.t 3)), none⟩, ⟨(some 16), (.call 55 [(.t 15), (.c (.int .i64 10))]), none⟩, ⟨(some 17), (.bin .sub (.t 16) (.c (.int .i64 1))), none⟩, ⟨(some 18), (.bld [(.bool false), (.bool false), (.bool false), (.int .i64 0)] [(0, (1, (.t 8))), (1, (1, (.t 11))), (2, (1, (.t 14))), (3, (1, (.t 17)))]), none⟩, ⟨none, (.store 4 (.t 2) (.t 18)), none⟩]
def L_spec_DrawEntryWord : LFun := ⟨19, [(.cell 2 true 4)], (.seq (.reg false L_spec_DrawEntryWord_r0) (.seq (.reg false L_spec_DrawEntryWord_r1) (.seq (.reg false L_spec_DrawEntryWord_r2) .ret)))⟩
theorem low_spec_DrawEntryWord : lowFun Go.Proofs.Try.prog 19 = some L_spec_DrawEntryWord := by kernel_rfl
noncomputable def F_spec_DrawEntryWord (x_code : List Int) : Option DEntry :=
  Option.bind (F_spec_l20Open x_code) fun v1 =>
  Option.bind (F___spec_l20Rd__pick v1 (2 : Int)) fun v2 =>
  Option.bind (F___spec_l20Rd__pick v2.1 (2 : Int)) fun v3 =>
  Option.bind (F___spec_l20Rd__pick v3.1 (2 : Int)) fun v4 =>
  Option.bind (F___spec_l20Rd__pick v4.1 (10 : Int)) fun v5 =>
  some (DEntry.mk (decide (v2.2 = (0 : Int))) (decide (v3.2 = (0 : Int))) (decide (v4.2 = (0 : Int))) (w64 (v5.2 - (1 : Int))))
theorem spec_DrawEntryWord_fn {x_code : List Int} {R_ : DEntry} (hh : F_spec_DrawEntryWord x_code = some R_) : Fn Try.prog 19 [bo (eI .u8) x_code] (.agg [.bool R_.There, .bool R_.Write, .bool R_.User, .int .i64 R_.Page]) := by
  unfold F_spec_DrawEntryWord at hh
  refine Fn.start low_spec_DrawEntryWord [0] (E := sp 19 [(0, bo (eI .u8) x_code)]) (by kernel_rfl) (v := .agg [.bool R_.There, .bool R_.Write, .bool R_.User, .int .i64 R_.Page]) (Hr := []) (k := 0) (by kernel_rfl) ?_
  refine Aw.sreg [0, 2] [0] ?_
  refine yct (cs := []) (E' := (sp 19 [(0, bo (eI .u8) x_code), (2, .ptr 0 [] 0)])) (H' := [(0, some ⟨29, [.bool false, .bool false, .bool false, .int .i64 (0 : Int)]⟩)]) (n' := 1) (fun K => by kernel_rfl) .nil ?_
  refine Aw.sreg [2, 3] [0, 1] ?_
  refine yc (cs := []) (E' := (sp 19 [(0, bo (eI .u8) x_code), (2, .ptr 0 [] 0), (4, bo (eI .u8) x_code)])) (H' := [(0, some ⟨29, [.bool false, .bool false, .bool false, .int .i64 (0 : Int)]⟩)]) (n' := 1) (pre := (List.take 1 L_spec_DrawEntryWord_r1)) (L' := (List.drop 1 L_spec_DrawEntryWord_r1)) (by kernel_rfl) (fun K => by kernel_rfl) .nil ?_
  obtain ⟨v1, hv1, hh⟩ := bind_some hh
  refine yso (op := (.call 52 [(.t 4)])) (d := (some 5)) (os := (List.drop 2 L_spec_DrawEntryWord_r1)) (by kernel_rfl) (op_callf (v' := .ptr 1 [] 0) (Hp' := [(1, some ⟨90, (B_90 v1)⟩)]) (n' := 2) [] (spec_l20Open_fn hv1) (args' := [bo (eI .u8) x_code]) (by kernel_rfl) rfl rfl rfl (rens_c (ren_bor (rens_same (noRefs_fl nr_eI))) rens_n) rfl hs_nil (ren_p (by decide) rfl) rfl (hs_as (t := ⟨90, (B_90 v1)⟩) (by decide) rfl (by kernel_rfl) rfl (rens_same (nr_B_90 _)) hs_nil) rfl ?_)
  refine yct (cs := []) (E' := (sp 19 [(2, .ptr 0 [] 0), (3, .ptr 1 [] 0)])) (H' := [(0, some ⟨29, [.bool false, .bool false, .bool false, .int .i64 (0 : Int)]⟩), (1, some ⟨90, (B_90 v1)⟩)]) (n' := 2) (fun K => by kernel_rfl) .nil ?_
  refine Aw.sreg [2] [0] ?_
  refine yc (cs := []) (E' := (sp 19 [(2, .ptr 0 [] 0), (3, .ptr 1 [] 0), (6, .ptr 1 [] 0)])) (H' := [(0, some ⟨29, [.bool false, .bool false, .bool false, .int .i64 (0 : Int)]⟩), (1, some ⟨90, (B_90 v1)⟩)]) (n' := 2) (pre := (List.take 1 L_spec_DrawEntryWord_r2)) (L' := (List.drop 1 L_spec_DrawEntryWord_r2)) (by kernel_rfl) (fun K => by kernel_rfl) .nil ?_
  obtain ⟨v2, hv2, hh⟩ := bind_some hh
  refine yso (op := (.call 55 [(.t 6), (.c (.int .i64 2))])) (d := (some 7)) (os := (List.drop 2 L_spec_DrawEntryWord_r2)) (by kernel_rfl) (op_callf (v' := .int .i64 v2.2) (Hp' := [(1, some ⟨90, (B_90 v2.1)⟩)]) (n' := 2) [1] (__spec_l20Rd__pick_fn hv2) (args' := [.ptr 1 [] 0, .int .i64 (2 : Int)]) (by kernel_rfl) rfl rfl rfl (rens_c (ren_p (by decide) rfl) (rens_c ren_i rens_n)) rfl (hs_as (t := ⟨90, (B_90 v1)⟩) (by decide) rfl (by kernel_rfl) rfl (rens_same (nr_B_90 _)) hs_nil) ren_i rfl (hs_as (t := ⟨90, (B_90 v2.1)⟩) (by decide) rfl (by kernel_rfl) rfl (rens_same (nr_B_90 _)) hs_nil) rfl ?_)
  refine yc (cs := []) (E' := (sp 19 [(2, .ptr 0 [] 0), (3, .ptr 1 [] 0), (6, .ptr 1 [] 0), (7, .int .i64 v2.2), (8, .bool (decide (v2.2 = (0 : Int)))), (9, .ptr 1 [] 0)])) (H' := [(1, some ⟨90, (B_90 v2.1)⟩), (1, none), (0, some ⟨29, [.bool false, .bool false, .bool false, .int .i64 (0 : Int)]⟩), (1, some ⟨90, (B_90 v1)⟩)]) (n' := 2) (pre := (List.take 2 (List.drop 2 L_spec_DrawEntryWord_r2))) (L' := (List.drop 4 L_spec_DrawEntryWord_r2)) (by kernel_rfl) (fun K => by kernel_rfl) .nil ?_
  obtain ⟨v3, hv3, hh⟩ := bind_some hh
  refine yso (op := (.call 55 [(.t 9), (.c (.int .i64 2))])) (d := (some 10)) (os := (List.drop 5 L_spec_DrawEntryWord_r2)) (by kernel_rfl) (op_callf (v' := .int .i64 v3.2) (Hp' := [(1, some ⟨90, (B_90 v3.1)⟩)]) (n' := 2) [1] (__spec_l20Rd__pick_fn hv3) (args' := [.ptr 1 [] 0, .int .i64 (2 : Int)]) (by kernel_rfl) rfl rfl rfl (rens_c (ren_p (by decide) rfl) (rens_c ren_i rens_n)) rfl (hs_as (t := ⟨90, (B_90 v2.1)⟩) (by decide) rfl (by kernel_rfl) rfl (rens_same (nr_B_90 _)) hs_nil) ren_i rfl (hs_as (t := ⟨90, (B_90 v3.1)⟩) (by decide) rfl (by kernel_rfl) rfl (rens_same (nr_B_90 _)) hs_nil) rfl ?_)
  refine yc (cs := []) (E' := (sp 19 [(2, .ptr 0 [] 0), (3, .ptr 1 [] 0), (6, .ptr 1 [] 0), (7, .int .i64 v2.2), (8, .bool (decide (v2.2 = (0 : Int)))), (9, .ptr 1 [] 0), (10, .int .i64 v3.2), (11, .bool (decide (v3.2 = (0 : Int)))), (12, .ptr 1 [] 0)])) (H' := [(1, some ⟨90, (B_90 v3.1)⟩), (1, none), (1, some ⟨90, (B_90 v2.1)⟩), (1, none), (0, some ⟨29, [.bool false, .bool false, .bool false, .int .i64 (0 : Int)]⟩), (1, some ⟨90, (B_90 v1)⟩)]) (n' := 2) (pre := (List.take 2 (List.drop 5 L_spec_DrawEntryWord_r2))) (L' := (List.drop 7 L_spec_DrawEntryWord_r2)) (by kernel_rfl) (fun K => by kernel_rfl) .nil ?_
  obtain ⟨v4, hv4, hh⟩ := bind_some hh
  refine yso (op := (.call 55 [(.t 12), (.c (.int .i64 2))])) (d := (some 13)) (os := (List.drop 8 L_spec_DrawEntryWord_r2)) (by kernel_rfl) (op_callf (v' := .int .i64 v4.2) (Hp' := [(1, some ⟨90, (B_90 v4.1)⟩)]) (n' := 2) [1] (__spec_l20Rd__pick_fn hv4) (args' := [.ptr 1 [] 0, .int .i64 (2 : Int)]) (by kernel_rfl) rfl rfl rfl (rens_c (ren_p (by decide) rfl) (rens_c ren_i rens_n)) rfl (hs_as (t := ⟨90, (B_90 v3.1)⟩) (by decide) rfl (by kernel_rfl) rfl (rens_same (nr_B_90 _)) hs_nil) ren_i rfl (hs_as (t := ⟨90, (B_90 v4.1)⟩) (by decide) rfl (by kernel_rfl) rfl (rens_same (nr_B_90 _)) hs_nil) rfl ?_)
  refine yc (cs := []) (E' := (sp 19 [(2, .ptr 0 [] 0), (3, .ptr 1 [] 0), (6, .ptr 1 [] 0), (7, .int .i64 v2.2), (8, .bool (decide (v2.2 = (0 : Int)))), (9, .ptr 1 [] 0), (10, .int .i64 v3.2), (11, .bool (decide (v3.2 = (0 : Int)))), (12, .ptr 1 [] 0), (13, .int .i64 v4.2), (14, .bool (decide (v4.2 = (0 : Int)))), (15, .ptr 1 [] 0)])) (H' := [(1, some ⟨90, (B_90 v4.1)⟩), (1, none), (1, some ⟨90, (B_90 v3.1)⟩), (1, none), (1, some ⟨90, (B_90 v2.1)⟩), (1, none), (0, some ⟨29, [.bool false, .bool false, .bool false, .int .i64 (0 : Int)]⟩), (1, some ⟨90, (B_90 v1)⟩)]) (n' := 2) (pre := (List.take 2 (List.drop 8 L_spec_DrawEntryWord_r2))) (L' := (List.drop 10 L_spec_DrawEntryWord_r2)) (by kernel_rfl) (fun K => by kernel_rfl) .nil ?_
  obtain ⟨v5, hv5, hh⟩ := bind_some hh
  refine yso (op := (.call 55 [(.t 15), (.c (.int .i64 10))])) (d := (some 16)) (os := (List.drop 11 L_spec_DrawEntryWord_r2)) (by kernel_rfl) (op_callf (v' := .int .i64 v5.2) (Hp' := [(1, some ⟨90, (B_90 v5.1)⟩)]) (n' := 2) [1] (__spec_l20Rd__pick_fn hv5) (args' := [.ptr 1 [] 0, .int .i64 (10 : Int)]) (by kernel_rfl) rfl rfl rfl (rens_c (ren_p (by decide) rfl) (rens_c ren_i rens_n)) rfl (hs_as (t := ⟨90, (B_90 v4.1)⟩) (by decide) rfl (by kernel_rfl) rfl (rens_same (nr_B_90 _)) hs_nil) ren_i rfl (hs_as (t := ⟨90, (B_90 v5.1)⟩) (by decide) rfl (by kernel_rfl) rfl (rens_same (nr_B_90 _)) hs_nil) rfl ?_)
  refine yct (cs := []) (E' := (sp 19 [(2, .ptr 0 [] 0)])) (H' := [(0, some ⟨29, [.bool (decide (v2.2 = (0 : Int))), .bool (decide (v3.2 = (0 : Int))), .bool (decide (v4.2 = (0 : Int))), .int .i64 (w64 (v5.2 - (1 : Int)))]⟩)]) (n' := 2) (fun K => by kernel_rfl) .nil ?_
  refine Aw.ret ?_
  rw [some_some hh]
  exact gives (r' := .agg [.bool (decide (v2.2 = (0 : Int))), .bool (decide (v3.2 = (0 : Int))), .bool (decide (v4.2 = (0 : Int))), .int .i64 (w64 (v5.2 - (1 : Int)))]) (by kernel_rfl) (Ent.list [] rfl rfl (Nat.zero_le _) (rens_1 (ren_agg (rens_c ren_b (rens_c ren_b (rens_c ren_b (rens_c ren_i rens_n)))))) hs_nil)

-- 56 loop.example/guesthouse/impl.pageOk
def L_impl_pageOk_r0 : List LOper := [⟨(some 2), (.mv (.c (.bool false))), none⟩]
def L_impl_pageOk_r1 : List LOper := [⟨(some 3), (.mv (.t 0)), none⟩, ⟨(some 4), (.bin .leq (.c (.int .i64 0)) (.t 3)), none⟩, ⟨(some 5), (.mv (.t 4)), none⟩, ⟨(some 6), (.mv (.t 0)), (some (5, true))⟩, ⟨(some 7), (.bin .lss (.t 6) (.c (.int .i64 8))), (some (5, true))⟩, ⟨(some 8), (.pick (.t 5) (.t 7) (.c (.bool false))), none⟩, ⟨(some 2), (.mv (.t 8)), none⟩]
def L_impl_pageOk : LFun := ⟨9, [(.tmp 2)], (.seq (.reg false L_impl_pageOk_r0) (.seq (.reg false L_impl_pageOk_r1) .ret))⟩
theorem low_impl_pageOk : lowFun Go.Proofs.Try.prog 56 = some L_impl_pageOk := by kernel_rfl
noncomputable def F_impl_pageOk (x_page : Int) : Option Bool :=
  cond (decide ((0 : Int) ≤ x_page))
    (some (decide (x_page < (8 : Int))))
    (some false)
theorem impl_pageOk_fn {x_page : Int} {R_ : Bool} (hh : F_impl_pageOk x_page = some R_) : Fn Try.prog 56 [.int .i64 x_page] (.bool R_) := by
  unfold F_impl_pageOk at hh
  refine Fn.start low_impl_pageOk [0] (E := sp 9 [(0, .int .i64 x_page)]) (by kernel_rfl) (v := .bool R_) (Hr := []) (k := 0) (by kernel_rfl) ?_
  refine Aw.sreg [0] [] ?_
  refine yct (cs := []) (E' := (sp 9 [(0, .int .i64 x_page)])) (H' := []) (n' := 0) (fun K => by kernel_rfl) .nil ?_
  refine Aw.sreg [2] [] ?_
  refine yc (cs := []) (E' := (sp 9 [(0, .int .i64 x_page), (3, .int .i64 x_page), (4, .bool (decide ((0 : Int) ≤ x_page))), (5, .bool (decide ((0 : Int) ≤ x_page)))])) (H' := []) (n' := 0) (pre := (List.take 3 L_impl_pageOk_r1)) (L' := (List.drop 3 L_impl_pageOk_r1)) (by kernel_rfl) (fun K => by kernel_rfl) .nil ?_
  rcases cond_some hh with ⟨hb, hh⟩ | ⟨hb, hh⟩
  · refine ybs (t := 4) hb (by kernel_rfl) ?_
    refine ybs (t := 5) hb (by kernel_rfl) ?_
    refine yct (cs := []) (E' := (sp 9 [(2, .bool (decide (x_page < (8 : Int))))])) (H' := []) (n' := 0) (fun K => by kernel_rfl) .nil ?_
    refine Aw.ret ?_
    rw [some_some hh]
    exact gives (r' := .bool (decide (x_page < (8 : Int)))) (by kernel_rfl) (Ent.list [] rfl rfl (Nat.zero_le _) (rens_1 ren_b) hs_nil)
  · refine ybs (t := 4) hb (by kernel_rfl) ?_
    refine ybs (t := 5) hb (by kernel_rfl) ?_
    refine yct (cs := []) (E' := (sp 9 [(2, .bool false)])) (H' := []) (n' := 0) (fun K => by kernel_rfl) .nil ?_
    refine Aw.ret ?_
    rw [some_some hh]
    exact gives (r' := .bool false) (by kernel_rfl) (Ent.list [] rfl rfl (Nat.zero_le _) (rens_1 ren_b) hs_nil)

-- 20 loop.example/guesthouse/impl.EntryWord
def L_impl_EntryWord_r0 : List LOper := [⟨(some 1), (.box 29 (.t 0)), none⟩, ⟨(some 2), (.mv (.c (.int .i64 0))), none⟩]
def L_impl_EntryWord_r1 : List LOper := [⟨(some 4), (.fadr 3 (.t 1)), none⟩, ⟨(some 5), (.load false 1 (.t 4)), none⟩, ⟨(some 6), (.call 56 [(.t 5)]), none⟩, ⟨(some 7), (.un .not (.t 6)), none⟩]
def L_impl_EntryWord_r2 : List LOper := [⟨(some 2), (.mv (.c (.int .i64 (-1)))), none⟩]
def L_impl_EntryWord_r3 : List LOper := [⟨(some 8), (.fadr 3 (.t 1)), none⟩, ⟨(some 9), (.load false 1 (.t 8)), none⟩, ⟨(some 10), (.bin .mul (.c (.int .i64 8)) (.t 9)), none⟩, ⟨(some 3), (.mv (.t 10)), none⟩]
def L_impl_EntryWord_r4 : List LOper := [⟨(some 11), (.fadr 0 (.t 1)), none⟩, ⟨(some 12), (.load false 1 (.t 11)), none⟩]
def L_impl_EntryWord_r5 : List LOper := [⟨(some 13), (.mv (.t 3)), none⟩, ⟨(some 14), (.bin .add (.t 13) (.c (.int .i64 1))), none⟩, ⟨(some 3), (.mv (.t 14)), none⟩]
def L_impl_EntryWord_r6 : List LOper := [⟨(some 15), (.fadr 1 (.t 1)), none⟩, ⟨(some 16), (.load false 1 (.t 15)), none⟩]
def L_impl_EntryWord_r7 : List LOper := [⟨(some 17), (.mv (.t 3)), none⟩, ⟨(some 18), (.bin .add (.t 17) (.c (.int .i64 2))), none⟩, ⟨(some 3), (.mv (.t 18)), none⟩]
def L_impl_EntryWord_r8 : List LOper := [⟨(some 19), (.fadr 2 (.t 1)), none⟩, ⟨(some 20), (.load false 1 (.t 19)), none⟩]
def L_impl_EntryWord_r9 : List LOper := [⟨(some 21), (.mv (.t 3)), none⟩, ⟨(some 22), (.bin .add (.t 21) (.c (.int .i64 4))), none⟩, ⟨(some 3), (.mv (.t 22)), none⟩]
def L_impl_EntryWord_r10 : List LOper := [⟨(some 23), (.mv (.t 3)), none⟩, ⟨(some 2), (.mv (.t 23)), none⟩]
def L_impl_EntryWord : LFun := ⟨24, [(.tmp 2)], (.seq (.reg false L_impl_EntryWord_r0) (.seq (.seq (.reg false L_impl_EntryWord_r1) (.cond (.t 7) (.seq (.reg false L_impl_EntryWord_r2) .ret) .skip)) (.seq (.reg false L_impl_EntryWord_r3) (.seq (.seq (.reg false L_impl_EntryWord_r4) (.cond (.t 12) (.reg false L_impl_EntryWord_r5) .skip)) (.seq (.seq (.reg false L_impl_EntryWord_r6) (.cond (.t 16) (.reg false L_impl_EntryWord_r7) .skip)) (.seq (.seq (.reg false L_impl_EntryWord_r8) (.cond (.t 20) (.reg false L_impl_EntryWord_r9) .skip)) (.seq (.reg false L_impl_EntryWord_r10) .ret)))))))⟩
theorem low_impl_EntryWord : lowFun Go.Proofs.Try.prog 20 = some L_impl_EntryWord := by kernel_rfl
noncomputable def F_impl_EntryWord_j4  (s4 : Int) : Option Int :=
  some s4
noncomputable def F_impl_EntryWord_j3 (x_e : DEntry) (s3 : Int) : Option Int :=
  Option.bind (cond x_e.User
      (some (.go (w64 (s3 + (4 : Int)))))
      (some (.go s3))) fun j4 =>
    JO.run j4 (F_impl_EntryWord_j4)
noncomputable def F_impl_EntryWord_j2 (x_e : DEntry) (s2 : Int) : Option Int :=
  Option.bind (cond x_e.Write
      (some (.go (w64 (s2 + (2 : Int)))))
      (some (.go s2))) fun j3 =>
    JO.run j3 (F_impl_EntryWord_j3 x_e)
noncomputable def F_impl_EntryWord (x_e : DEntry) : Option Int :=
  Option.bind (F_impl_pageOk x_e.Page) fun v1 =>
  cond (!v1)
    (some (-1 : Int))
    (Option.bind (cond x_e.There
        (some (.go (w64 ((w64 ((8 : Int) * x_e.Page)) + (1 : Int)))))
        (some (.go (w64 ((8 : Int) * x_e.Page))))) fun j2 =>
      JO.run j2 (F_impl_EntryWord_j2 x_e))
theorem impl_EntryWord_fn {x_e : DEntry} {R_ : Int} (hh : F_impl_EntryWord x_e = some R_) : Fn Try.prog 20 [.agg (C_29 x_e)] (.int .i64 R_) := by
  unfold F_impl_EntryWord at hh
  refine Fn.start low_impl_EntryWord [0] (E := sp 24 [(0, .agg (C_29 x_e))]) (by kernel_rfl) (v := .int .i64 R_) (Hr := []) (k := 0) (by kernel_rfl) ?_
  refine Aw.sreg [1] [0] ?_
  refine yct (cs := []) (E' := (sp 24 [(1, .ptr 0 [] 0)])) (H' := [(0, some ⟨29, (C_29 x_e)⟩)]) (n' := 1) (fun K => by kernel_rfl) .nil ?_
  refine Aw.seq ?_
  refine Aw.sreg [1, 7] [0] ?_
  refine yc (cs := []) (E' := (sp 24 [(1, .ptr 0 [] 0), (4, .ptr 0 [] 3), (5, .int .i64 x_e.Page)])) (H' := [(0, some ⟨29, (C_29 x_e)⟩)]) (n' := 1) (pre := (List.take 2 L_impl_EntryWord_r1)) (L' := (List.drop 2 L_impl_EntryWord_r1)) (by kernel_rfl) (fun K => by kernel_rfl) .nil ?_
  obtain ⟨v1, hv1, hh⟩ := bind_some hh
  refine yso (op := (.call 56 [(.t 5)])) (d := (some 6)) (os := (List.drop 3 L_impl_EntryWord_r1)) (by kernel_rfl) (op_call (r := .bool v1) (v := .bool v1) (Hr := []) (n' := 1) (impl_pageOk_fn hv1) (clz_v (vs := [.int .i64 x_e.Page]) (by kernel_rfl) (clz_c (clo_same rfl) clz_n)) rfl rfl (by kernel_rfl) ?_)
  refine yct (cs := []) (E' := (sp 24 [(1, .ptr 0 [] 0), (7, .bool (!v1))])) (H' := [(0, some ⟨29, (C_29 x_e)⟩)]) (n' := 1) (fun K => by kernel_rfl) .nil ?_
  rcases cond_some hh with ⟨hb, hh⟩ | ⟨hb, hh⟩
  · refine Aw.condT (by kernel_rfl) hb ?_
    refine Aw.sreg [2] [] ?_
    refine yct (cs := []) (E' := (sp 24 [(2, .int .i64 (-1 : Int))])) (H' := []) (n' := 1) (fun K => by kernel_rfl) .nil ?_
    refine Aw.ret ?_
    refine then_r ?_
    rw [some_some hh]
    exact gives (r' := .int .i64 (-1 : Int)) (by kernel_rfl) (Ent.list [] rfl rfl (Nat.zero_le _) (rens_1 ren_i) hs_nil)
  · refine Aw.condF (by kernel_rfl) hb ?_
    refine Aw.xskip (fun _ _ _ hq => then_m hq) ?_
    refine Aw.sreg [1, 3] [0] ?_
    refine yct (cs := []) (E' := (sp 24 [(1, .ptr 0 [] 0), (3, .int .i64 (w64 ((8 : Int) * x_e.Page)))])) (H' := [(0, some ⟨29, (C_29 x_e)⟩)]) (n' := 1) (fun K => by kernel_rfl) .nil ?_
    obtain ⟨j2, hh, hk2⟩ := bind_some hh
    refine Aw.join (S := Int) (fun s2 => sp 24 [(1, .ptr 0 [] 0), (3, .int .i64 s2)]) (fun s2 => [(0, some ⟨29, (C_29 x_e)⟩)]) 1 (fun s2 => F_impl_EntryWord_j2 x_e s2 = some R_) ?_ ?_
    · intro s2 hh
      unfold F_impl_EntryWord_j2 at hh
      obtain ⟨j3, hh, hk3⟩ := bind_some hh
      refine Aw.join (S := Int) (fun s3 => sp 24 [(1, .ptr 0 [] 0), (3, .int .i64 s3)]) (fun s3 => [(0, some ⟨29, (C_29 x_e)⟩)]) 1 (fun s3 => F_impl_EntryWord_j3 x_e s3 = some R_) ?_ ?_
      · intro s3 hh
        unfold F_impl_EntryWord_j3 at hh
        obtain ⟨j4, hh, hk4⟩ := bind_some hh
        refine Aw.join (S := Int) (fun s4 => sp 24 [(3, .int .i64 s4)]) (fun s4 => []) 0 (fun s4 => F_impl_EntryWord_j4 s4 = some R_) ?_ ?_
        · intro s4 hh
          unfold F_impl_EntryWord_j4 at hh
          refine Aw.sreg [2] [] ?_
          refine yct (cs := []) (E' := (sp 24 [(2, .int .i64 s4)])) (H' := []) (n' := 0) (fun K => by kernel_rfl) .nil ?_
          refine Aw.ret ?_
          rw [some_some hh]
          exact gives (r' := .int .i64 s4) (by kernel_rfl) (Ent.list [] rfl rfl (Nat.zero_le _) (rens_1 ren_i) hs_nil)
        · intro Q4 hN4 hR4 hE4
          refine Aw.sreg [3, 20] [] ?_
          refine yct (cs := []) (E' := (sp 24 [(3, .int .i64 s3), (20, .bool x_e.User)])) (H' := []) (n' := 1) (fun K => by kernel_rfl) .nil ?_
          rcases cond_some hh with ⟨hb, hh⟩ | ⟨hb, hh⟩
          · refine Aw.condT (by kernel_rfl) hb ?_
            refine Aw.oreg ?_
            refine yce (cs := []) (E' := (sp 24 [(3, .int .i64 (w64 (s3 + (4 : Int)))), (20, .bool x_e.User), (21, .int .i64 s3), (22, .int .i64 (w64 (s3 + (4 : Int))))])) (H' := []) (n' := 1) (fun K => by kernel_rfl) .nil ?_
            obtain rfl := some_some hh
            exact hN4 (w64 (s3 + (4 : Int))) _ _ _ hk4 (Ent.list2 [] rfl rfl (by decide) (rens_sp (by kernel_rfl) (rl_c (u := .int .i64 (w64 (s3 + (4 : Int)))) (by kernel_rfl) ren_i rl_n)) hs_nil)
          · refine Aw.condF (by kernel_rfl) hb ?_
            refine Aw.skip ?_
            obtain rfl := some_some hh
            exact hN4 s3 _ _ _ hk4 (Ent.list2 [] rfl rfl (by decide) (rens_sp (by kernel_rfl) (rl_c (u := .int .i64 s3) (by kernel_rfl) ren_i rl_n)) hs_nil)
      · intro Q3 hN3 hR3 hE3
        refine Aw.sreg [1, 3, 16] [0] ?_
        refine yct (cs := []) (E' := (sp 24 [(1, .ptr 0 [] 0), (3, .int .i64 s2), (16, .bool x_e.Write)])) (H' := [(0, some ⟨29, (C_29 x_e)⟩)]) (n' := 1) (fun K => by kernel_rfl) .nil ?_
        rcases cond_some hh with ⟨hb, hh⟩ | ⟨hb, hh⟩
        · refine Aw.condT (by kernel_rfl) hb ?_
          refine Aw.oreg ?_
          refine yce (cs := []) (E' := (sp 24 [(1, .ptr 0 [] 0), (3, .int .i64 (w64 (s2 + (2 : Int)))), (16, .bool x_e.Write), (17, .int .i64 s2), (18, .int .i64 (w64 (s2 + (2 : Int))))])) (H' := [(0, some ⟨29, (C_29 x_e)⟩)]) (n' := 1) (fun K => by kernel_rfl) .nil ?_
          obtain rfl := some_some hh
          exact hN3 (w64 (s2 + (2 : Int))) _ _ _ hk3 (Ent.list2 [some 0] rfl rfl (by decide) (rens_sp (by kernel_rfl) (rl_c (u := .ptr 0 [] 0) (by kernel_rfl) (ren_p (by decide) rfl) (rl_c (u := .int .i64 (w64 (s2 + (2 : Int)))) (by kernel_rfl) ren_i rl_n))) (hs_as (t := ⟨29, (C_29 x_e)⟩) (by decide) rfl (by kernel_rfl) rfl (rens_same (nr_C_29 _)) hs_nil))
        · refine Aw.condF (by kernel_rfl) hb ?_
          refine Aw.skip ?_
          obtain rfl := some_some hh
          exact hN3 s2 _ _ _ hk3 (Ent.list2 [some 0] rfl rfl (by decide) (rens_sp (by kernel_rfl) (rl_c (u := .ptr 0 [] 0) (by kernel_rfl) (ren_p (by decide) rfl) (rl_c (u := .int .i64 s2) (by kernel_rfl) ren_i rl_n))) (hs_as (t := ⟨29, (C_29 x_e)⟩) (by decide) rfl (by kernel_rfl) rfl (rens_same (nr_C_29 _)) hs_nil))
    · intro Q2 hN2 hR2 hE2
      refine Aw.sreg [1, 3, 12] [0] ?_
      refine yct (cs := []) (E' := (sp 24 [(1, .ptr 0 [] 0), (3, .int .i64 (w64 ((8 : Int) * x_e.Page))), (12, .bool x_e.There)])) (H' := [(0, some ⟨29, (C_29 x_e)⟩)]) (n' := 1) (fun K => by kernel_rfl) .nil ?_
      rcases cond_some hh with ⟨hb, hh⟩ | ⟨hb, hh⟩
      · refine Aw.condT (by kernel_rfl) hb ?_
        refine Aw.oreg ?_
        refine yce (cs := []) (E' := (sp 24 [(1, .ptr 0 [] 0), (3, .int .i64 (w64 ((w64 ((8 : Int) * x_e.Page)) + (1 : Int)))), (12, .bool x_e.There), (13, .int .i64 (w64 ((8 : Int) * x_e.Page))), (14, .int .i64 (w64 ((w64 ((8 : Int) * x_e.Page)) + (1 : Int))))])) (H' := [(0, some ⟨29, (C_29 x_e)⟩)]) (n' := 1) (fun K => by kernel_rfl) .nil ?_
        obtain rfl := some_some hh
        exact hN2 (w64 ((w64 ((8 : Int) * x_e.Page)) + (1 : Int))) _ _ _ hk2 (Ent.list2 [some 0] rfl rfl (by decide) (rens_sp (by kernel_rfl) (rl_c (u := .ptr 0 [] 0) (by kernel_rfl) (ren_p (by decide) rfl) (rl_c (u := .int .i64 (w64 ((w64 ((8 : Int) * x_e.Page)) + (1 : Int)))) (by kernel_rfl) ren_i rl_n))) (hs_as (t := ⟨29, (C_29 x_e)⟩) (by decide) rfl (by kernel_rfl) rfl (rens_same (nr_C_29 _)) hs_nil))
      · refine Aw.condF (by kernel_rfl) hb ?_
        refine Aw.skip ?_
        obtain rfl := some_some hh
        exact hN2 (w64 ((8 : Int) * x_e.Page)) _ _ _ hk2 (Ent.list2 [some 0] rfl rfl (by decide) (rens_sp (by kernel_rfl) (rl_c (u := .ptr 0 [] 0) (by kernel_rfl) (ren_p (by decide) rfl) (rl_c (u := .int .i64 (w64 ((8 : Int) * x_e.Page))) (by kernel_rfl) ren_i rl_n))) (hs_as (t := ⟨29, (C_29 x_e)⟩) (by decide) rfl (by kernel_rfl) rfl (rens_same (nr_C_29 _)) hs_nil))

-- 57 loop.example/guesthouse/spec.l1In
def L_spec_l1In_r0 : List LOper := [⟨(some 6), (.mv (.c (.bool false))), none⟩]
def L_spec_l1In_r1 : List LOper := [⟨(some 7), (.mv (.t 0)), none⟩, ⟨(some 8), (.mv (.t 1)), none⟩, ⟨(some 9), (.bin .geq (.t 7) (.t 8)), none⟩, ⟨(some 10), (.mv (.t 9)), none⟩, ⟨(some 11), (.mv (.t 0)), (some (10, true))⟩, ⟨(some 12), (.mv (.t 2)), (some (10, true))⟩, ⟨(some 13), (.bin .leq (.t 11) (.t 12)), (some (10, true))⟩, ⟨(some 14), (.pick (.t 10) (.t 13) (.c (.bool false))), none⟩, ⟨(some 6), (.mv (.t 14)), none⟩]
def L_spec_l1In : LFun := ⟨15, [(.tmp 6)], (.seq (.reg false L_spec_l1In_r0) (.seq (.reg false L_spec_l1In_r1) .ret))⟩
theorem low_spec_l1In : lowFun Go.Proofs.Try.prog 57 = some L_spec_l1In := by kernel_rfl
noncomputable def F_spec_l1In (x_n : Int) (x_low : Int) (x_high : Int) : Option Bool :=
  cond (decide (x_low ≤ x_n))
    (some (decide (x_n ≤ x_high)))
    (some false)
theorem spec_l1In_fn {x_n : Int} {x_low : Int} {x_high : Int} {R_ : Bool} (hh : F_spec_l1In x_n x_low x_high = some R_) : Fn Try.prog 57 [.int .i64 x_n, .int .i64 x_low, .int .i64 x_high] (.bool R_) := by
  unfold F_spec_l1In at hh
  refine Fn.start low_spec_l1In [0, 1, 2] (E := sp 15 [(0, .int .i64 x_n), (1, .int .i64 x_low), (2, .int .i64 x_high)]) (by kernel_rfl) (v := .bool R_) (Hr := []) (k := 0) (by kernel_rfl) ?_
  refine Aw.sreg [0, 1, 2] [] ?_
  refine yct (cs := []) (E' := (sp 15 [(0, .int .i64 x_n), (1, .int .i64 x_low), (2, .int .i64 x_high)])) (H' := []) (n' := 0) (fun K => by kernel_rfl) .nil ?_
  refine Aw.sreg [6] [] ?_
  refine yc (cs := []) (E' := (sp 15 [(0, .int .i64 x_n), (1, .int .i64 x_low), (2, .int .i64 x_high), (7, .int .i64 x_n), (8, .int .i64 x_low), (9, .bool (decide (x_low ≤ x_n))), (10, .bool (decide (x_low ≤ x_n)))])) (H' := []) (n' := 0) (pre := (List.take 4 L_spec_l1In_r1)) (L' := (List.drop 4 L_spec_l1In_r1)) (by kernel_rfl) (fun K => by kernel_rfl) .nil ?_
  rcases cond_some hh with ⟨hb, hh⟩ | ⟨hb, hh⟩
  · refine ybs (t := 9) hb (by kernel_rfl) ?_
    refine ybs (t := 10) hb (by kernel_rfl) ?_
    refine yct (cs := []) (E' := (sp 15 [(6, .bool (decide (x_n ≤ x_high)))])) (H' := []) (n' := 0) (fun K => by kernel_rfl) .nil ?_
    refine Aw.ret ?_
    rw [some_some hh]
    exact gives (r' := .bool (decide (x_n ≤ x_high))) (by kernel_rfl) (Ent.list [] rfl rfl (Nat.zero_le _) (rens_1 ren_b) hs_nil)
  · refine ybs (t := 9) hb (by kernel_rfl) ?_
    refine ybs (t := 10) hb (by kernel_rfl) ?_
    refine yct (cs := []) (E' := (sp 15 [(6, .bool false)])) (H' := []) (n' := 0) (fun K => by kernel_rfl) .nil ?_
    refine Aw.ret ?_
    rw [some_some hh]
    exact gives (r' := .bool false) (by kernel_rfl) (Ent.list [] rfl rfl (Nat.zero_le _) (rens_1 ren_b) hs_nil)

-- 21 loop.example/guesthouse/spec.EntryWord
def L_spec_EntryWord_r0 : List LOper := [⟨(some 1), (.box 29 (.t 0)), none⟩, ⟨(some 2), (.mv (.c (.int .i64 0))), none⟩]
def L_spec_EntryWord_r1 : List LOper := [⟨(some 4), (.fadr 3 (.t 1)), none⟩, ⟨(some 5), (.load false 1 (.t 4)), none⟩, ⟨(some 6), (.call 57 [(.t 5), (.c (.int .i64 0)), (.c (.int .i64 7))]), none⟩, ⟨(some 7), (.un .not (.t 6)), none⟩]
def L_spec_EntryWord_r2 : List LOper := [⟨(some 2), (.mv (.c (.int .i64 (-1)))), none⟩]
def L_spec_EntryWord_r3 : List LOper := [⟨(some 8), (.fadr 3 (.t 1)), none⟩, ⟨(some 9), (.load false 1 (.t 8)), none⟩, ⟨(some 10), (.bin .mul (.t 9) (.c (.int .i64 8))), none⟩, ⟨(some 3), (.mv (.t 10)), none⟩]
def L_spec_EntryWord_r4 : List LOper := [⟨(some 11), (.fadr 0 (.t 1)), none⟩, ⟨(some 12), (.load false 1 (.t 11)), none⟩]
def L_spec_EntryWord_r5 : List LOper := [⟨(some 13), (.mv (.t 3)), none⟩, ⟨(some 14), (.bin .add (.t 13) (.c (.int .i64 1))), none⟩, ⟨(some 3), (.mv (.t 14)), none⟩]
def L_spec_EntryWord_r6 : List LOper := [⟨(some 15), (.fadr 1 (.t 1)), none⟩, ⟨(some 16), (.load false 1 (.t 15)), none⟩]
def L_spec_EntryWord_r7 : List LOper := [⟨(some 17), (.mv (.t 3)), none⟩, ⟨(some 18), (.bin .add (.t 17) (.c (.int .i64 2))), none⟩, ⟨(some 3), (.mv (.t 18)), none⟩]
def L_spec_EntryWord_r8 : List LOper := [⟨(some 19), (.fadr 2 (.t 1)), none⟩, ⟨(some 20), (.load false 1 (.t 19)), none⟩]
def L_spec_EntryWord_r9 : List LOper := [⟨(some 21), (.mv (.t 3)), none⟩, ⟨(some 22), (.bin .add (.t 21) (.c (.int .i64 4))), none⟩, ⟨(some 3), (.mv (.t 22)), none⟩]
def L_spec_EntryWord_r10 : List LOper := [⟨(some 23), (.mv (.t 3)), none⟩, ⟨(some 2), (.mv (.t 23)), none⟩]
def L_spec_EntryWord : LFun := ⟨24, [(.tmp 2)], (.seq (.reg false L_spec_EntryWord_r0) (.seq (.seq (.reg false L_spec_EntryWord_r1) (.cond (.t 7) (.seq (.reg false L_spec_EntryWord_r2) .ret) .skip)) (.seq (.reg false L_spec_EntryWord_r3) (.seq (.seq (.reg false L_spec_EntryWord_r4) (.cond (.t 12) (.reg false L_spec_EntryWord_r5) .skip)) (.seq (.seq (.reg false L_spec_EntryWord_r6) (.cond (.t 16) (.reg false L_spec_EntryWord_r7) .skip)) (.seq (.seq (.reg false L_spec_EntryWord_r8) (.cond (.t 20) (.reg false L_spec_EntryWord_r9) .skip)) (.seq (.reg false L_spec_EntryWord_r10) .ret)))))))⟩
theorem low_spec_EntryWord : lowFun Go.Proofs.Try.prog 21 = some L_spec_EntryWord := by kernel_rfl
noncomputable def F_spec_EntryWord_j4  (s4 : Int) : Option Int :=
  some s4
noncomputable def F_spec_EntryWord_j3 (x_e : DEntry) (s3 : Int) : Option Int :=
  Option.bind (cond x_e.User
      (some (.go (w64 (s3 + (4 : Int)))))
      (some (.go s3))) fun j4 =>
    JO.run j4 (F_spec_EntryWord_j4)
noncomputable def F_spec_EntryWord_j2 (x_e : DEntry) (s2 : Int) : Option Int :=
  Option.bind (cond x_e.Write
      (some (.go (w64 (s2 + (2 : Int)))))
      (some (.go s2))) fun j3 =>
    JO.run j3 (F_spec_EntryWord_j3 x_e)
noncomputable def F_spec_EntryWord (x_e : DEntry) : Option Int :=
  Option.bind (F_spec_l1In x_e.Page (0 : Int) (7 : Int)) fun v1 =>
  cond (!v1)
    (some (-1 : Int))
    (Option.bind (cond x_e.There
        (some (.go (w64 ((w64 (x_e.Page * (8 : Int))) + (1 : Int)))))
        (some (.go (w64 (x_e.Page * (8 : Int)))))) fun j2 =>
      JO.run j2 (F_spec_EntryWord_j2 x_e))
theorem spec_EntryWord_fn {x_e : DEntry} {R_ : Int} (hh : F_spec_EntryWord x_e = some R_) : Fn Try.prog 21 [.agg (C_29 x_e)] (.int .i64 R_) := by
  unfold F_spec_EntryWord at hh
  refine Fn.start low_spec_EntryWord [0] (E := sp 24 [(0, .agg (C_29 x_e))]) (by kernel_rfl) (v := .int .i64 R_) (Hr := []) (k := 0) (by kernel_rfl) ?_
  refine Aw.sreg [1] [0] ?_
  refine yct (cs := []) (E' := (sp 24 [(1, .ptr 0 [] 0)])) (H' := [(0, some ⟨29, (C_29 x_e)⟩)]) (n' := 1) (fun K => by kernel_rfl) .nil ?_
  refine Aw.seq ?_
  refine Aw.sreg [1, 7] [0] ?_
  refine yc (cs := []) (E' := (sp 24 [(1, .ptr 0 [] 0), (4, .ptr 0 [] 3), (5, .int .i64 x_e.Page)])) (H' := [(0, some ⟨29, (C_29 x_e)⟩)]) (n' := 1) (pre := (List.take 2 L_spec_EntryWord_r1)) (L' := (List.drop 2 L_spec_EntryWord_r1)) (by kernel_rfl) (fun K => by kernel_rfl) .nil ?_
  obtain ⟨v1, hv1, hh⟩ := bind_some hh
  refine yso (op := (.call 57 [(.t 5), (.c (.int .i64 0)), (.c (.int .i64 7))])) (d := (some 6)) (os := (List.drop 3 L_spec_EntryWord_r1)) (by kernel_rfl) (op_call (r := .bool v1) (v := .bool v1) (Hr := []) (n' := 1) (spec_l1In_fn hv1) (clz_v (vs := [.int .i64 x_e.Page, .int .i64 (0 : Int), .int .i64 (7 : Int)]) (by kernel_rfl) (clz_c (clo_same rfl) (clz_c (clo_same rfl) (clz_c (clo_same rfl) clz_n)))) rfl rfl (by kernel_rfl) ?_)
  refine yct (cs := []) (E' := (sp 24 [(1, .ptr 0 [] 0), (7, .bool (!v1))])) (H' := [(0, some ⟨29, (C_29 x_e)⟩)]) (n' := 1) (fun K => by kernel_rfl) .nil ?_
  rcases cond_some hh with ⟨hb, hh⟩ | ⟨hb, hh⟩
  · refine Aw.condT (by kernel_rfl) hb ?_
    refine Aw.sreg [2] [] ?_
    refine yct (cs := []) (E' := (sp 24 [(2, .int .i64 (-1 : Int))])) (H' := []) (n' := 1) (fun K => by kernel_rfl) .nil ?_
    refine Aw.ret ?_
    refine then_r ?_
    rw [some_some hh]
    exact gives (r' := .int .i64 (-1 : Int)) (by kernel_rfl) (Ent.list [] rfl rfl (Nat.zero_le _) (rens_1 ren_i) hs_nil)
  · refine Aw.condF (by kernel_rfl) hb ?_
    refine Aw.xskip (fun _ _ _ hq => then_m hq) ?_
    refine Aw.sreg [1, 3] [0] ?_
    refine yct (cs := []) (E' := (sp 24 [(1, .ptr 0 [] 0), (3, .int .i64 (w64 (x_e.Page * (8 : Int))))])) (H' := [(0, some ⟨29, (C_29 x_e)⟩)]) (n' := 1) (fun K => by kernel_rfl) .nil ?_
    obtain ⟨j2, hh, hk2⟩ := bind_some hh
    refine Aw.join (S := Int) (fun s2 => sp 24 [(1, .ptr 0 [] 0), (3, .int .i64 s2)]) (fun s2 => [(0, some ⟨29, (C_29 x_e)⟩)]) 1 (fun s2 => F_spec_EntryWord_j2 x_e s2 = some R_) ?_ ?_
    · intro s2 hh
      unfold F_spec_EntryWord_j2 at hh
      obtain ⟨j3, hh, hk3⟩ := bind_some hh
      refine Aw.join (S := Int) (fun s3 => sp 24 [(1, .ptr 0 [] 0), (3, .int .i64 s3)]) (fun s3 => [(0, some ⟨29, (C_29 x_e)⟩)]) 1 (fun s3 => F_spec_EntryWord_j3 x_e s3 = some R_) ?_ ?_
      · intro s3 hh
        unfold F_spec_EntryWord_j3 at hh
        obtain ⟨j4, hh, hk4⟩ := bind_some hh
        refine Aw.join (S := Int) (fun s4 => sp 24 [(3, .int .i64 s4)]) (fun s4 => []) 0 (fun s4 => F_spec_EntryWord_j4 s4 = some R_) ?_ ?_
        · intro s4 hh
          unfold F_spec_EntryWord_j4 at hh
          refine Aw.sreg [2] [] ?_
          refine yct (cs := []) (E' := (sp 24 [(2, .int .i64 s4)])) (H' := []) (n' := 0) (fun K => by kernel_rfl) .nil ?_
          refine Aw.ret ?_
          rw [some_some hh]
          exact gives (r' := .int .i64 s4) (by kernel_rfl) (Ent.list [] rfl rfl (Nat.zero_le _) (rens_1 ren_i) hs_nil)
        · intro Q4 hN4 hR4 hE4
          refine Aw.sreg [3, 20] [] ?_
          refine yct (cs := []) (E' := (sp 24 [(3, .int .i64 s3), (20, .bool x_e.User)])) (H' := []) (n' := 1) (fun K => by kernel_rfl) .nil ?_
          rcases cond_some hh with ⟨hb, hh⟩ | ⟨hb, hh⟩
          · refine Aw.condT (by kernel_rfl) hb ?_
            refine Aw.oreg ?_
            refine yce (cs := []) (E' := (sp 24 [(3, .int .i64 (w64 (s3 + (4 : Int)))), (20, .bool x_e.User), (21, .int .i64 s3), (22, .int .i64 (w64 (s3 + (4 : Int))))])) (H' := []) (n' := 1) (fun K => by kernel_rfl) .nil ?_
            obtain rfl := some_some hh
            exact hN4 (w64 (s3 + (4 : Int))) _ _ _ hk4 (Ent.list2 [] rfl rfl (by decide) (rens_sp (by kernel_rfl) (rl_c (u := .int .i64 (w64 (s3 + (4 : Int)))) (by kernel_rfl) ren_i rl_n)) hs_nil)
          · refine Aw.condF (by kernel_rfl) hb ?_
            refine Aw.skip ?_
            obtain rfl := some_some hh
            exact hN4 s3 _ _ _ hk4 (Ent.list2 [] rfl rfl (by decide) (rens_sp (by kernel_rfl) (rl_c (u := .int .i64 s3) (by kernel_rfl) ren_i rl_n)) hs_nil)
      · intro Q3 hN3 hR3 hE3
        refine Aw.sreg [1, 3, 16] [0] ?_
        refine yct (cs := []) (E' := (sp 24 [(1, .ptr 0 [] 0), (3, .int .i64 s2), (16, .bool x_e.Write)])) (H' := [(0, some ⟨29, (C_29 x_e)⟩)]) (n' := 1) (fun K => by kernel_rfl) .nil ?_
        rcases cond_some hh with ⟨hb, hh⟩ | ⟨hb, hh⟩
        · refine Aw.condT (by kernel_rfl) hb ?_
          refine Aw.oreg ?_
          refine yce (cs := []) (E' := (sp 24 [(1, .ptr 0 [] 0), (3, .int .i64 (w64 (s2 + (2 : Int)))), (16, .bool x_e.Write), (17, .int .i64 s2), (18, .int .i64 (w64 (s2 + (2 : Int))))])) (H' := [(0, some ⟨29, (C_29 x_e)⟩)]) (n' := 1) (fun K => by kernel_rfl) .nil ?_
          obtain rfl := some_some hh
          exact hN3 (w64 (s2 + (2 : Int))) _ _ _ hk3 (Ent.list2 [some 0] rfl rfl (by decide) (rens_sp (by kernel_rfl) (rl_c (u := .ptr 0 [] 0) (by kernel_rfl) (ren_p (by decide) rfl) (rl_c (u := .int .i64 (w64 (s2 + (2 : Int)))) (by kernel_rfl) ren_i rl_n))) (hs_as (t := ⟨29, (C_29 x_e)⟩) (by decide) rfl (by kernel_rfl) rfl (rens_same (nr_C_29 _)) hs_nil))
        · refine Aw.condF (by kernel_rfl) hb ?_
          refine Aw.skip ?_
          obtain rfl := some_some hh
          exact hN3 s2 _ _ _ hk3 (Ent.list2 [some 0] rfl rfl (by decide) (rens_sp (by kernel_rfl) (rl_c (u := .ptr 0 [] 0) (by kernel_rfl) (ren_p (by decide) rfl) (rl_c (u := .int .i64 s2) (by kernel_rfl) ren_i rl_n))) (hs_as (t := ⟨29, (C_29 x_e)⟩) (by decide) rfl (by kernel_rfl) rfl (rens_same (nr_C_29 _)) hs_nil))
    · intro Q2 hN2 hR2 hE2
      refine Aw.sreg [1, 3, 12] [0] ?_
      refine yct (cs := []) (E' := (sp 24 [(1, .ptr 0 [] 0), (3, .int .i64 (w64 (x_e.Page * (8 : Int)))), (12, .bool x_e.There)])) (H' := [(0, some ⟨29, (C_29 x_e)⟩)]) (n' := 1) (fun K => by kernel_rfl) .nil ?_
      rcases cond_some hh with ⟨hb, hh⟩ | ⟨hb, hh⟩
      · refine Aw.condT (by kernel_rfl) hb ?_
        refine Aw.oreg ?_
        refine yce (cs := []) (E' := (sp 24 [(1, .ptr 0 [] 0), (3, .int .i64 (w64 ((w64 (x_e.Page * (8 : Int))) + (1 : Int)))), (12, .bool x_e.There), (13, .int .i64 (w64 (x_e.Page * (8 : Int)))), (14, .int .i64 (w64 ((w64 (x_e.Page * (8 : Int))) + (1 : Int))))])) (H' := [(0, some ⟨29, (C_29 x_e)⟩)]) (n' := 1) (fun K => by kernel_rfl) .nil ?_
        obtain rfl := some_some hh
        exact hN2 (w64 ((w64 (x_e.Page * (8 : Int))) + (1 : Int))) _ _ _ hk2 (Ent.list2 [some 0] rfl rfl (by decide) (rens_sp (by kernel_rfl) (rl_c (u := .ptr 0 [] 0) (by kernel_rfl) (ren_p (by decide) rfl) (rl_c (u := .int .i64 (w64 ((w64 (x_e.Page * (8 : Int))) + (1 : Int)))) (by kernel_rfl) ren_i rl_n))) (hs_as (t := ⟨29, (C_29 x_e)⟩) (by decide) rfl (by kernel_rfl) rfl (rens_same (nr_C_29 _)) hs_nil))
      · refine Aw.condF (by kernel_rfl) hb ?_
        refine Aw.skip ?_
        obtain rfl := some_some hh
        exact hN2 (w64 (x_e.Page * (8 : Int))) _ _ _ hk2 (Ent.list2 [some 0] rfl rfl (by decide) (rens_sp (by kernel_rfl) (rl_c (u := .ptr 0 [] 0) (by kernel_rfl) (ren_p (by decide) rfl) (rl_c (u := .int .i64 (w64 (x_e.Page * (8 : Int)))) (by kernel_rfl) ren_i rl_n))) (hs_as (t := ⟨29, (C_29 x_e)⟩) (by decide) rfl (by kernel_rfl) rfl (rens_same (nr_C_29 _)) hs_nil))

-- 22 loop.example/guesthouse/impl.EntryFrom
def L_impl_EntryFrom_r0 : List LOper := [⟨(some 2), (.fresh 29 [(.bool false), (.bool false), (.bool false), (.int .i64 0)]), none⟩]
def L_impl_EntryFrom_r1 : List LOper := [⟨(some 3), (.mv (.t 0)), none⟩, ⟨(some 4), (.call 25 [(.t 3)]), none⟩, ⟨(some 5), (.un .not (.t 4)), none⟩]
def L_impl_EntryFrom_r2 : List LOper := [⟨(some 6), (.bld [(.bool false), (.bool false), (.bool false), (.int .i64 0)] []), none⟩, ⟨none, (.store 4 (.t 2) (.t 6)), none⟩]
def L_impl_EntryFrom_r3 : List LOper := [⟨(some 7), (.mv (.t 0)), none⟩, ⟨(some 8), (.bin .quo (.t 7) (.c (.int .i64 1))), none⟩, ⟨(some 9), (.bin .rem (.t 8) (.c (.int .i64 2))), none⟩, ⟨(some 10), (.bin .eql (.t 9) (.c (.int .i64 1))), none⟩, ⟨(some 11), (.mv (.t 0)), none⟩, ⟨(some 12), (.bin .quo (.t 11) (.c (.int .i64 2))), none⟩, ⟨(some 13), (.bin .rem (.t 12) (.c (.int .i64 2))), none⟩, ⟨(some 14), (.bin .eql (.t 13) (.c (.int .i64 1))), none⟩, ⟨(some 15), (.mv (.t 0)), none⟩, ⟨(some 16), (.bin .quo (.t 15) (.c (.int .i64 4))), none⟩, ⟨(some 17), (.bin .rem (.t 16) (.c (.int .i64 2))), none⟩, ⟨(some 18), (.bin .eql (.t 17) (.c (.int .i64 1))), none⟩, ⟨(some 19), (.mv (.t 0)), none⟩, ⟨(some 20), (.bin .quo (.t 19) (.c (.int .i64 8))), none⟩, ⟨(some 21), (.bin .rem (.t 20) (.c (.int .i64 8))), none⟩, ⟨(some 22), (.bld [(.bool false), (.bool false), (.bool false), (.int .i64 0)] [(0, (1, (.t 10))), (1, (1, (.t 14))), (2, (1, (.t 18))), (3, (1, (.t 21)))]), none⟩, ⟨none, (.store 4 (.t 2) (.t 22)), none⟩]
def L_impl_EntryFrom : LFun := ⟨23, [(.cell 2 true 4)], (.seq (.reg false L_impl_EntryFrom_r0) (.seq (.seq (.reg false L_impl_EntryFrom_r1) (.cond (.t 5) (.seq (.reg false L_impl_EntryFrom_r2) .ret) .skip)) (.seq (.reg false L_impl_EntryFrom_r3) .ret)))⟩
theorem low_impl_EntryFrom : lowFun Go.Proofs.Try.prog 22 = some L_impl_EntryFrom := by kernel_rfl
noncomputable def F_impl_EntryFrom (x_w : Int) : Option DEntry :=
  Option.bind (F_impl_WordOk x_w) fun v1 =>
  cond (!v1)
    (some (DEntry.mk false false false (0 : Int)))
    (some (DEntry.mk (decide ((Int.tmod (w64 (Int.tdiv x_w (1 : Int))) (2 : Int)) = (1 : Int))) (decide ((Int.tmod (w64 (Int.tdiv x_w (2 : Int))) (2 : Int)) = (1 : Int))) (decide ((Int.tmod (w64 (Int.tdiv x_w (4 : Int))) (2 : Int)) = (1 : Int))) (Int.tmod (w64 (Int.tdiv x_w (8 : Int))) (8 : Int))))
theorem impl_EntryFrom_fn {x_w : Int} {R_ : DEntry} (hh : F_impl_EntryFrom x_w = some R_) : Fn Try.prog 22 [.int .i64 x_w] (.agg [.bool R_.There, .bool R_.Write, .bool R_.User, .int .i64 R_.Page]) := by
  unfold F_impl_EntryFrom at hh
  refine Fn.start low_impl_EntryFrom [0] (E := sp 23 [(0, .int .i64 x_w)]) (by kernel_rfl) (v := .agg [.bool R_.There, .bool R_.Write, .bool R_.User, .int .i64 R_.Page]) (Hr := []) (k := 0) (by kernel_rfl) ?_
  refine Aw.sreg [0, 2] [0] ?_
  refine yct (cs := []) (E' := (sp 23 [(0, .int .i64 x_w), (2, .ptr 0 [] 0)])) (H' := [(0, some ⟨29, [.bool false, .bool false, .bool false, .int .i64 (0 : Int)]⟩)]) (n' := 1) (fun K => by kernel_rfl) .nil ?_
  refine Aw.seq ?_
  refine Aw.sreg [0, 2, 5] [0] ?_
  refine yc (cs := []) (E' := (sp 23 [(0, .int .i64 x_w), (2, .ptr 0 [] 0), (3, .int .i64 x_w)])) (H' := [(0, some ⟨29, [.bool false, .bool false, .bool false, .int .i64 (0 : Int)]⟩)]) (n' := 1) (pre := (List.take 1 L_impl_EntryFrom_r1)) (L' := (List.drop 1 L_impl_EntryFrom_r1)) (by kernel_rfl) (fun K => by kernel_rfl) .nil ?_
  obtain ⟨v1, hv1, hh⟩ := bind_some hh
  refine yso (op := (.call 25 [(.t 3)])) (d := (some 4)) (os := (List.drop 2 L_impl_EntryFrom_r1)) (by kernel_rfl) (op_call (r := .bool v1) (v := .bool v1) (Hr := []) (n' := 1) (impl_WordOk_fn hv1) (clz_v (vs := [.int .i64 x_w]) (by kernel_rfl) (clz_c (clo_same rfl) clz_n)) rfl rfl (by kernel_rfl) ?_)
  refine yct (cs := []) (E' := (sp 23 [(0, .int .i64 x_w), (2, .ptr 0 [] 0), (5, .bool (!v1))])) (H' := [(0, some ⟨29, [.bool false, .bool false, .bool false, .int .i64 (0 : Int)]⟩)]) (n' := 1) (fun K => by kernel_rfl) .nil ?_
  rcases cond_some hh with ⟨hb, hh⟩ | ⟨hb, hh⟩
  · refine Aw.condT (by kernel_rfl) hb ?_
    refine Aw.sreg [2] [0] ?_
    refine yct (cs := []) (E' := (sp 23 [(2, .ptr 0 [] 0)])) (H' := [(0, some ⟨29, [.bool false, .bool false, .bool false, .int .i64 (0 : Int)]⟩)]) (n' := 1) (fun K => by kernel_rfl) .nil ?_
    refine Aw.ret ?_
    refine then_r ?_
    rw [some_some hh]
    exact gives (r' := .agg [.bool false, .bool false, .bool false, .int .i64 (0 : Int)]) (by kernel_rfl) (Ent.list [] rfl rfl (Nat.zero_le _) (rens_1 (ren_agg (rens_c ren_b (rens_c ren_b (rens_c ren_b (rens_c ren_i rens_n)))))) hs_nil)
  · refine Aw.condF (by kernel_rfl) hb ?_
    refine Aw.xskip (fun _ _ _ hq => then_m hq) ?_
    refine Aw.sreg [2] [0] ?_
    refine yct (cs := [(1 : Int) ≠ 0, (2 : Int) ≠ 0, (2 : Int) ≠ 0, (2 : Int) ≠ 0, (4 : Int) ≠ 0, (2 : Int) ≠ 0, (8 : Int) ≠ 0, (8 : Int) ≠ 0]) (E' := (sp 23 [(2, .ptr 0 [] 0)])) (H' := [(0, some ⟨29, [.bool (decide ((Int.tmod (w64 (Int.tdiv x_w (1 : Int))) (2 : Int)) = (1 : Int))), .bool (decide ((Int.tmod (w64 (Int.tdiv x_w (2 : Int))) (2 : Int)) = (1 : Int))), .bool (decide ((Int.tmod (w64 (Int.tdiv x_w (4 : Int))) (2 : Int)) = (1 : Int))), .int .i64 (Int.tmod (w64 (Int.tdiv x_w (8 : Int))) (8 : Int))]⟩)]) (n' := 1) (fun K => by kernel_rfl) (.cons (by decide) (.cons (by decide) (.cons (by decide) (.cons (by decide) (.cons (by decide) (.cons (by decide) (.cons (by decide) (.cons (by decide) .nil)))))))) ?_
    refine Aw.ret ?_
    rw [some_some hh]
    exact gives (r' := .agg [.bool (decide ((Int.tmod (w64 (Int.tdiv x_w (1 : Int))) (2 : Int)) = (1 : Int))), .bool (decide ((Int.tmod (w64 (Int.tdiv x_w (2 : Int))) (2 : Int)) = (1 : Int))), .bool (decide ((Int.tmod (w64 (Int.tdiv x_w (4 : Int))) (2 : Int)) = (1 : Int))), .int .i64 (Int.tmod (w64 (Int.tdiv x_w (8 : Int))) (8 : Int))]) (by kernel_rfl) (Ent.list [] rfl rfl (Nat.zero_le _) (rens_1 (ren_agg (rens_c ren_b (rens_c ren_b (rens_c ren_b (rens_c ren_i rens_n)))))) hs_nil)

-- 4 loop.example/guesthouse/laws.FnEntryWord
def L_laws_FnEntryWord_r0 : List LOper := [⟨(some 2), (.mv (.c (.bool false))), none⟩]
def L_laws_FnEntryWord_r1 : List LOper := [⟨(some 5), (.mv (.t 0)), none⟩, ⟨(some 6), (.len (.t 5)), none⟩, ⟨(some 7), (.bin .gtr (.t 6) (.c (.int .i64 1048576))), none⟩]
def L_laws_FnEntryWord_r2 : List LOper := [⟨(some 2), (.mv (.c (.bool true))), none⟩]
def L_laws_FnEntryWord_r3 : List LOper := [⟨(some 8), (.mv (.t 0)), none⟩, ⟨(some 9), (.call 19 [(.t 8)]), none⟩, ⟨(some 3), (.fresh 29 [(.bool false), (.bool false), (.bool false), (.int .i64 0)]), none⟩, ⟨none, (.store 4 (.t 3) (.t 9)), none⟩]
def L_laws_FnEntryWord_r4 : List LOper := [⟨(some 10), (.load true 4 (.t 3)), none⟩, ⟨(some 11), (.call 20 [(.t 10)]), none⟩, ⟨(some 4), (.mv (.t 11)), none⟩]
def L_laws_FnEntryWord_r5 : List LOper := [⟨(some 12), (.mv (.t 4)), none⟩, ⟨(some 13), (.load true 4 (.t 3)), none⟩, ⟨(some 14), (.call 21 [(.t 13)]), none⟩, ⟨(some 15), (.bin .neq (.t 12) (.t 14)), none⟩]
def L_laws_FnEntryWord_r6 : List LOper := [⟨(some 2), (.mv (.c (.bool false))), none⟩]
def L_laws_FnEntryWord_r7 : List LOper := [⟨(some 16), (.mv (.t 4)), none⟩, ⟨(some 17), (.bin .lss (.t 16) (.c (.int .i64 0))), none⟩]
def L_laws_FnEntryWord_r8 : List LOper := [⟨(some 18), (.mv (.t 4)), none⟩, ⟨(some 19), (.bin .eql (.t 18) (.c (.int .i64 (-1)))), none⟩, ⟨(some 20), (.mv (.t 19)), none⟩, ⟨(some 21), (.call 18 []), (some (20, true))⟩, ⟨(some 22), (.pick (.t 20) (.t 21) (.c (.bool false))), none⟩, ⟨(some 2), (.mv (.t 22)), none⟩]
def L_laws_FnEntryWord_r9 : List LOper := [⟨(some 23), (.mv (.t 4)), none⟩, ⟨(some 24), (.bin .lss (.t 23) (.c (.int .i64 64))), none⟩, ⟨(some 25), (.mv (.t 24)), none⟩, ⟨(some 26), (.mv (.t 4)), (some (25, true))⟩, ⟨(some 27), (.call 22 [(.t 26)]), (some (25, true))⟩, ⟨(some 28), (.load true 4 (.t 3)), (some (25, true))⟩, ⟨(some 29), (.beq false [(0, true), (1, true), (2, true), (3, false)] (.t 27) (.t 28)), (some (25, true))⟩, ⟨(some 30), (.pick (.t 25) (.t 29) (.c (.bool false))), none⟩]
def L_laws_FnEntryWord_r9t : List LOper := [⟨(some 2), (.mv (.t 30)), none⟩]
def L_laws_FnEntryWord : LFun := ⟨31, [(.tmp 2)], (.seq (.reg false L_laws_FnEntryWord_r0) (.seq (.seq (.reg false L_laws_FnEntryWord_r1) (.cond (.t 7) (.seq (.reg false L_laws_FnEntryWord_r2) .ret) .skip)) (.seq (.reg false L_laws_FnEntryWord_r3) (.seq (.reg false L_laws_FnEntryWord_r4) (.seq (.seq (.reg false L_laws_FnEntryWord_r5) (.cond (.t 15) (.seq (.reg false L_laws_FnEntryWord_r6) .ret) .skip)) (.seq (.seq (.reg false L_laws_FnEntryWord_r7) (.cond (.t 17) (.seq (.reg false L_laws_FnEntryWord_r8) .ret) .skip)) (.seq (.regd L_laws_FnEntryWord_r9 L_laws_FnEntryWord_r9t) .ret)))))))⟩
theorem low_laws_FnEntryWord : lowFun Go.Proofs.Try.prog 4 = some L_laws_FnEntryWord := by kernel_rfl
noncomputable def F_laws_FnEntryWord (x_code : List Int) : Option Bool :=
  cond (decide ((1048576 : Int) < (((List.length x_code) : Nat) : Int)))
    (some true)
    (Option.bind (F_spec_DrawEntryWord x_code) fun v1 =>
    Option.bind (F_impl_EntryWord v1) fun v2 =>
    Option.bind (F_spec_EntryWord v1) fun v3 =>
    cond (!decide (v2 = v3))
      (some false)
      (cond (decide (v2 < (0 : Int)))
        (cond (decide (v2 = (-1 : Int)))
          (Option.bind (F_laws_alive ) fun v4 =>
          some v4)
          (some false))
        (cond (decide (v2 < (64 : Int)))
          (Option.bind (F_impl_EntryFrom v2) fun v5 =>
          some ((v5.There == v1.There) && ((v5.Write == v1.Write) && ((v5.User == v1.User) && (decide (v5.Page = v1.Page) && true)))))
          (some false))))
theorem laws_FnEntryWord_fn {x_code : List Int} {R_ : Bool} (hh : F_laws_FnEntryWord x_code = some R_) : Fn Try.prog 4 [bo (eI .u8) x_code] (.bool R_) := by
  unfold F_laws_FnEntryWord at hh
  refine Fn.start low_laws_FnEntryWord [0] (E := sp 31 [(0, bo (eI .u8) x_code)]) (by kernel_rfl) (v := .bool R_) (Hr := []) (k := 0) (by kernel_rfl) ?_
  refine Aw.sreg [0] [] ?_
  refine yct (cs := []) (E' := (sp 31 [(0, bo (eI .u8) x_code)])) (H' := []) (n' := 0) (fun K => by kernel_rfl) .nil ?_
  refine Aw.seq ?_
  refine Aw.sreg [0, 7] [] ?_
  refine yct (cs := []) (E' := (sp 31 [(0, bo (eI .u8) x_code), (7, .bool (decide ((1048576 : Int) < (((List.length x_code) : Nat) : Int))))])) (H' := []) (n' := 0) (fun K => by kernel_rfl) .nil ?_
  rcases cond_some hh with ⟨hb, hh⟩ | ⟨hb, hh⟩
  · refine Aw.condT (by kernel_rfl) hb ?_
    refine Aw.sreg [2] [] ?_
    refine yct (cs := []) (E' := (sp 31 [(2, .bool true)])) (H' := []) (n' := 0) (fun K => by kernel_rfl) .nil ?_
    refine Aw.ret ?_
    refine then_r ?_
    rw [some_some hh]
    exact gives (r' := .bool true) (by kernel_rfl) (Ent.list [] rfl rfl (Nat.zero_le _) (rens_1 ren_b) hs_nil)
  · refine Aw.condF (by kernel_rfl) hb ?_
    refine Aw.xskip (fun _ _ _ hq => then_m hq) ?_
    refine Aw.sreg [3] [0] ?_
    refine yc (cs := []) (E' := (sp 31 [(0, bo (eI .u8) x_code), (7, .bool (decide ((1048576 : Int) < (((List.length x_code) : Nat) : Int)))), (8, bo (eI .u8) x_code)])) (H' := []) (n' := 0) (pre := (List.take 1 L_laws_FnEntryWord_r3)) (L' := (List.drop 1 L_laws_FnEntryWord_r3)) (by kernel_rfl) (fun K => by kernel_rfl) .nil ?_
    obtain ⟨v1, hv1, hh⟩ := bind_some hh
    refine yso (op := (.call 19 [(.t 8)])) (d := (some 9)) (os := (List.drop 2 L_laws_FnEntryWord_r3)) (by kernel_rfl) (op_call (r := .agg (C_29 v1)) (v := .agg (C_29 v1)) (Hr := []) (n' := 0) (spec_DrawEntryWord_fn hv1) (clz_v (vs := [bo (eI .u8) x_code]) (by kernel_rfl) (clz_c (clo_same (clean_bor (cleans_fl cl_eI))) clz_n)) rfl rfl (by kernel_rfl) ?_)
    refine yct (cs := []) (E' := (sp 31 [(3, .ptr 0 [] 0)])) (H' := [(0, some ⟨29, (C_29 v1)⟩)]) (n' := 1) (fun K => by kernel_rfl) .nil ?_
    refine Aw.sreg [3, 4] [0] ?_
    refine yc (cs := []) (E' := (sp 31 [(3, .ptr 0 [] 0), (10, .agg (C_29 v1))])) (H' := [(0, some ⟨29, (C_29 v1)⟩)]) (n' := 1) (pre := (List.take 1 L_laws_FnEntryWord_r4)) (L' := (List.drop 1 L_laws_FnEntryWord_r4)) (by kernel_rfl) (fun K => by kernel_rfl) .nil ?_
    obtain ⟨v2, hv2, hh⟩ := bind_some hh
    refine yso (op := (.call 20 [(.t 10)])) (d := (some 11)) (os := (List.drop 2 L_laws_FnEntryWord_r4)) (by kernel_rfl) (op_call (r := .int .i64 v2) (v := .int .i64 v2) (Hr := []) (n' := 1) (impl_EntryWord_fn hv2) (clz_v (vs := [.agg (C_29 v1)]) (by kernel_rfl) (clz_c (clo_same rfl) clz_n)) rfl rfl (by kernel_rfl) ?_)
    refine yct (cs := []) (E' := (sp 31 [(3, .ptr 0 [] 0), (4, .int .i64 v2)])) (H' := [(0, some ⟨29, (C_29 v1)⟩)]) (n' := 1) (fun K => by kernel_rfl) .nil ?_
    refine Aw.seq ?_
    refine Aw.sreg [3, 4, 15] [0] ?_
    refine yc (cs := []) (E' := (sp 31 [(3, .ptr 0 [] 0), (4, .int .i64 v2), (12, .int .i64 v2), (13, .agg (C_29 v1))])) (H' := [(0, some ⟨29, (C_29 v1)⟩)]) (n' := 1) (pre := (List.take 2 L_laws_FnEntryWord_r5)) (L' := (List.drop 2 L_laws_FnEntryWord_r5)) (by kernel_rfl) (fun K => by kernel_rfl) .nil ?_
    obtain ⟨v3, hv3, hh⟩ := bind_some hh
    refine yso (op := (.call 21 [(.t 13)])) (d := (some 14)) (os := (List.drop 3 L_laws_FnEntryWord_r5)) (by kernel_rfl) (op_call (r := .int .i64 v3) (v := .int .i64 v3) (Hr := []) (n' := 1) (spec_EntryWord_fn hv3) (clz_v (vs := [.agg (C_29 v1)]) (by kernel_rfl) (clz_c (clo_same rfl) clz_n)) rfl rfl (by kernel_rfl) ?_)
    refine yct (cs := []) (E' := (sp 31 [(3, .ptr 0 [] 0), (4, .int .i64 v2), (15, .bool (!decide (v2 = v3)))])) (H' := [(0, some ⟨29, (C_29 v1)⟩)]) (n' := 1) (fun K => by kernel_rfl) .nil ?_
    rcases cond_some hh with ⟨hb, hh⟩ | ⟨hb, hh⟩
    · refine Aw.condT (by kernel_rfl) hb ?_
      refine Aw.sreg [2] [] ?_
      refine yct (cs := []) (E' := (sp 31 [(2, .bool false)])) (H' := []) (n' := 1) (fun K => by kernel_rfl) .nil ?_
      refine Aw.ret ?_
      refine then_r ?_
      rw [some_some hh]
      exact gives (r' := .bool false) (by kernel_rfl) (Ent.list [] rfl rfl (Nat.zero_le _) (rens_1 ren_b) hs_nil)
    · refine Aw.condF (by kernel_rfl) hb ?_
      refine Aw.xskip (fun _ _ _ hq => then_m hq) ?_
      refine Aw.seq ?_
      refine Aw.sreg [3, 4, 17] [0] ?_
      refine yct (cs := []) (E' := (sp 31 [(3, .ptr 0 [] 0), (4, .int .i64 v2), (17, .bool (decide (v2 < (0 : Int))))])) (H' := [(0, some ⟨29, (C_29 v1)⟩)]) (n' := 1) (fun K => by kernel_rfl) .nil ?_
      rcases cond_some hh with ⟨hb, hh⟩ | ⟨hb, hh⟩
      · refine Aw.condT (by kernel_rfl) hb ?_
        refine Aw.sreg [2] [] ?_
        refine yc (cs := []) (E' := (sp 31 [(3, .ptr 0 [] 0), (4, .int .i64 v2), (17, .bool (decide (v2 < (0 : Int)))), (18, .int .i64 v2), (19, .bool (decide (v2 = (-1 : Int)))), (20, .bool (decide (v2 = (-1 : Int))))])) (H' := [(0, some ⟨29, (C_29 v1)⟩)]) (n' := 1) (pre := (List.take 3 L_laws_FnEntryWord_r8)) (L' := (List.drop 3 L_laws_FnEntryWord_r8)) (by kernel_rfl) (fun K => by kernel_rfl) .nil ?_
        rcases cond_some hh with ⟨hb, hh⟩ | ⟨hb, hh⟩
        · refine ybs (t := 19) hb (by kernel_rfl) ?_
          refine ybs (t := 20) hb (by kernel_rfl) ?_
          obtain ⟨v4, hv4, hh⟩ := bind_some hh
          refine ysg (op := (.call 18 [])) (d := (some 21)) (t := 20) (want := true) (os := (List.drop 4 L_laws_FnEntryWord_r8)) (by kernel_rfl) (by kernel_rfl) (op_call (r := .bool v4) (v := .bool v4) (Hr := []) (n' := 1) (laws_alive_fn hv4) (clz_v (vs := []) (by kernel_rfl) clz_n) rfl rfl (by kernel_rfl) ?_)
          refine yct (cs := []) (E' := (sp 31 [(2, .bool v4)])) (H' := []) (n' := 1) (fun K => by kernel_rfl) .nil ?_
          refine Aw.ret ?_
          refine then_r ?_
          rw [some_some hh]
          exact gives (r' := .bool v4) (by kernel_rfl) (Ent.list [] rfl rfl (Nat.zero_le _) (rens_1 ren_b) hs_nil)
        · refine ybs (t := 19) hb (by kernel_rfl) ?_
          refine ybs (t := 20) hb (by kernel_rfl) ?_
          refine yct (cs := []) (E' := (sp 31 [(2, .bool false)])) (H' := []) (n' := 1) (fun K => by kernel_rfl) .nil ?_
          refine Aw.ret ?_
          refine then_r ?_
          rw [some_some hh]
          exact gives (r' := .bool false) (by kernel_rfl) (Ent.list [] rfl rfl (Nat.zero_le _) (rens_1 ren_b) hs_nil)
      · refine Aw.condF (by kernel_rfl) hb ?_
        refine Aw.xskip (fun _ _ _ hq => then_m hq) ?_
        refine Aw.sregd [2] [] [] (by kernel_rfl) ?_
        refine dc (cs := []) (E' := (sp 31 [(3, .ptr 0 [] 0), (4, .int .i64 v2), (17, .bool (decide (v2 < (0 : Int)))), (23, .int .i64 v2), (24, .bool (decide (v2 < (64 : Int)))), (25, .bool (decide (v2 < (64 : Int))))])) (H' := [(0, some ⟨29, (C_29 v1)⟩)]) (n' := 1) (fs' := none) (pre := (List.take 3 L_laws_FnEntryWord_r9)) (L' := (List.drop 3 L_laws_FnEntryWord_r9)) (by kernel_rfl) (fun K => by kernel_rfl) .nil ?_
        rcases cond_some hh with ⟨hb, hh⟩ | ⟨hb, hh⟩
        · refine dbs (t := 24) hb (by kernel_rfl) ?_
          refine dbs (t := 25) hb (by kernel_rfl) ?_
          refine dc (cs := []) (E' := (sp 31 [(3, .ptr 0 [] 0), (4, .int .i64 v2), (17, .bool (decide (v2 < (0 : Int)))), (23, .int .i64 v2), (24, .bool true), (25, .bool true), (26, .int .i64 v2)])) (H' := [(0, some ⟨29, (C_29 v1)⟩)]) (n' := 1) (fs' := none) (pre := (List.take 1 (List.drop 3 L_laws_FnEntryWord_r9))) (L' := (List.drop 4 L_laws_FnEntryWord_r9)) (by kernel_rfl) (fun K => by kernel_rfl) .nil ?_
          obtain ⟨v5, hv5, hh⟩ := bind_some hh
          refine dsg (op := (.call 22 [(.t 26)])) (d := (some 27)) (t := 25) (want := true) (os := (List.drop 5 L_laws_FnEntryWord_r9)) (by kernel_rfl) (by kernel_rfl) rfl (ydo_n rfl (op_call (r := .agg (C_29 v5)) (v := .agg (C_29 v5)) (Hr := []) (n' := 1) (impl_EntryFrom_fn hv5) (clz_v (vs := [.int .i64 v2]) (by kernel_rfl) (clz_c (clo_same rfl) clz_n)) rfl rfl (by kernel_rfl) ⟨⟨agr_name (n := 1) (n0 := 1) (r := .agg (C_29 v5)) (v := .agg (C_29 v5)) (Hr := []) (n' := 1) (by kernel_rfl) (by decide), Hld.un ?_⟩⟩))
          refine dct (cs := []) (E' := (sp 31 [(3, .ptr 0 [] 0), (4, .int .i64 v2), (17, .bool (decide (v2 < (0 : Int)))), (23, .int .i64 v2), (24, .bool true), (25, .bool true), (26, .int .i64 v2), (27, .agg (C_29 v5)), (28, .agg (C_29 v1)), (29, .bool ((v5.There == v1.There) && ((v5.Write == v1.Write) && ((v5.User == v1.User) && (decide (v5.Page = v1.Page) && true))))), (30, .bool ((v5.There == v1.There) && ((v5.Write == v1.Write) && ((v5.User == v1.User) && (decide (v5.Page = v1.Page) && true)))))])) (H' := [(0, some ⟨29, (C_29 v1)⟩)]) (n' := 1) (fun K => by kernel_rfl) .nil ?_
          refine yct (cs := []) (E' := (sp 31 [(2, .bool ((v5.There == v1.There) && ((v5.Write == v1.Write) && ((v5.User == v1.User) && (decide (v5.Page = v1.Page) && true)))))])) (H' := []) (n' := 1) (fun K => by kernel_rfl) .nil ?_
          refine Aw.ret ?_
          rw [some_some hh]
          exact gives (r' := .bool ((v5.There == v1.There) && ((v5.Write == v1.Write) && ((v5.User == v1.User) && (decide (v5.Page = v1.Page) && true))))) (by kernel_rfl) (Ent.list [] rfl rfl (Nat.zero_le _) (rens_1 ren_b) hs_nil)
        · refine dbs (t := 24) hb (by kernel_rfl) ?_
          refine dbs (t := 25) hb (by kernel_rfl) ?_
          refine dct (cs := []) (E' := (sp 31 [(3, .ptr 0 [] 0), (4, .int .i64 v2), (17, .bool (decide (v2 < (0 : Int)))), (23, .int .i64 v2), (24, .bool false), (25, .bool false), (26, .und), (27, .und), (28, .und), (29, .und), (30, .bool false)])) (H' := [(0, some ⟨29, (C_29 v1)⟩)]) (n' := 1) (fun K => by kernel_rfl) .nil ?_
          refine yct (cs := []) (E' := (sp 31 [(2, .bool false)])) (H' := []) (n' := 1) (fun K => by kernel_rfl) .nil ?_
          refine Aw.ret ?_
          rw [some_some hh]
          exact gives (r' := .bool false) (by kernel_rfl) (Ent.list [] rfl rfl (Nat.zero_le _) (rens_1 ren_b) hs_nil)

-- 58 (*loop.example/guesthouse/spec.l20Rd).word
def L___spec_l20Rd__word_r0 : List LOper := [⟨(some 2), (.mv (.c (.int .i64 0))), none⟩]
def L___spec_l20Rd__word_r1 : List LOper := [⟨(some 3), (.mv (.t 0)), none⟩, ⟨(some 4), (.call 55 [(.t 3), (.c (.int .i64 16))]), none⟩, ⟨(some 5), (.bin .mul (.t 4) (.c (.int .i64 256))), none⟩, ⟨(some 6), (.mv (.t 0)), none⟩, ⟨(some 7), (.call 55 [(.t 6), (.c (.int .i64 256))]), none⟩, ⟨(some 8), (.bin .add (.t 5) (.t 7)), none⟩, ⟨(some 2), (.mv (.t 8)), none⟩]
def L___spec_l20Rd__word : LFun := ⟨9, [(.tmp 2)], (.seq (.reg false L___spec_l20Rd__word_r0) (.seq (.reg false L___spec_l20Rd__word_r1) .ret))⟩
theorem low___spec_l20Rd__word : lowFun Go.Proofs.Try.prog 58 = some L___spec_l20Rd__word := by kernel_rfl
noncomputable def F___spec_l20Rd__word (x_r : Dl20Rd) : Option (Dl20Rd × Int) :=
  Option.bind (F___spec_l20Rd__pick x_r (16 : Int)) fun v1 =>
  Option.bind (F___spec_l20Rd__pick v1.1 (256 : Int)) fun v2 =>
  some (v2.1, (w64 ((w64 (v1.2 * (256 : Int))) + v2.2)))
theorem __spec_l20Rd__word_fn {x_r : Dl20Rd} {R_ : Dl20Rd × Int} (hh : F___spec_l20Rd__word x_r = some R_) : Inl Try.prog 58 [.ptr 0 [] 0] [(0, some ⟨90, (B_90 x_r)⟩)] 1 (.int .i64 R_.2) [(0, some ⟨90, [bo (eI .u8) R_.1.b, .int .i64 R_.1.p]⟩)] 1 := by
  unfold F___spec_l20Rd__word at hh
  refine Inl.start low___spec_l20Rd__word [0] [0] (E := sp 9 [(0, .ptr 0 [] 0)]) (H1 := [(0, some ⟨90, (B_90 x_r)⟩)]) (by kernel_rfl) (by kernel_rfl) ?_
  refine Aw.sreg [0] [0] ?_
  refine yct (cs := []) (E' := (sp 9 [(0, .ptr 0 [] 0)])) (H' := [(0, some ⟨90, (B_90 x_r)⟩)]) (n' := 1) (fun K => by kernel_rfl) .nil ?_
  refine Aw.sreg [2] [0] ?_
  refine yc (cs := []) (E' := (sp 9 [(0, .ptr 0 [] 0), (3, .ptr 0 [] 0)])) (H' := [(0, some ⟨90, (B_90 x_r)⟩)]) (n' := 1) (pre := (List.take 1 L___spec_l20Rd__word_r1)) (L' := (List.drop 1 L___spec_l20Rd__word_r1)) (by kernel_rfl) (fun K => by kernel_rfl) .nil ?_
  obtain ⟨v1, hv1, hh⟩ := bind_some hh
  refine yso (op := (.call 55 [(.t 3), (.c (.int .i64 16))])) (d := (some 4)) (os := (List.drop 2 L___spec_l20Rd__word_r1)) (by kernel_rfl) (op_callf (v' := .int .i64 v1.2) (Hp' := [(0, some ⟨90, (B_90 v1.1)⟩)]) (n' := 1) [0] (__spec_l20Rd__pick_fn hv1) (args' := [.ptr 0 [] 0, .int .i64 (16 : Int)]) (by kernel_rfl) rfl rfl rfl (rens_c (ren_p (by decide) rfl) (rens_c ren_i rens_n)) rfl (hs_as (t := ⟨90, (B_90 x_r)⟩) (by decide) rfl (by kernel_rfl) rfl (rens_same (nr_B_90 _)) hs_nil) ren_i rfl (hs_as (t := ⟨90, (B_90 v1.1)⟩) (by decide) rfl (by kernel_rfl) rfl (rens_same (nr_B_90 _)) hs_nil) rfl ?_)
  refine yc (cs := []) (E' := (sp 9 [(0, .ptr 0 [] 0), (3, .ptr 0 [] 0), (4, .int .i64 v1.2), (5, .int .i64 (w64 (v1.2 * (256 : Int)))), (6, .ptr 0 [] 0)])) (H' := [(0, some ⟨90, (B_90 v1.1)⟩), (0, none), (0, some ⟨90, (B_90 x_r)⟩)]) (n' := 1) (pre := (List.take 2 (List.drop 2 L___spec_l20Rd__word_r1))) (L' := (List.drop 4 L___spec_l20Rd__word_r1)) (by kernel_rfl) (fun K => by kernel_rfl) .nil ?_
  obtain ⟨v2, hv2, hh⟩ := bind_some hh
  refine yso (op := (.call 55 [(.t 6), (.c (.int .i64 256))])) (d := (some 7)) (os := (List.drop 5 L___spec_l20Rd__word_r1)) (by kernel_rfl) (op_callf (v' := .int .i64 v2.2) (Hp' := [(0, some ⟨90, (B_90 v2.1)⟩)]) (n' := 1) [0] (__spec_l20Rd__pick_fn hv2) (args' := [.ptr 0 [] 0, .int .i64 (256 : Int)]) (by kernel_rfl) rfl rfl rfl (rens_c (ren_p (by decide) rfl) (rens_c ren_i rens_n)) rfl (hs_as (t := ⟨90, (B_90 v1.1)⟩) (by decide) rfl (by kernel_rfl) rfl (rens_same (nr_B_90 _)) hs_nil) ren_i rfl (hs_as (t := ⟨90, (B_90 v2.1)⟩) (by decide) rfl (by kernel_rfl) rfl (rens_same (nr_B_90 _)) hs_nil) rfl ?_)
  refine yct (cs := []) (E' := (sp 9 [(2, .int .i64 (w64 ((w64 (v1.2 * (256 : Int))) + v2.2)))])) (H' := [(0, some ⟨90, (B_90 v2.1)⟩)]) (n' := 1) (fun K => by kernel_rfl) .nil ?_
  refine Aw.ret ?_
  rw [some_some hh]
  exact gives (r' := .int .i64 (w64 ((w64 (v1.2 * (256 : Int))) + v2.2))) (by kernel_rfl) (Ent.list2 [some 0] rfl rfl (by decide) (rens_1 ren_i) (hs_as (t := ⟨90, (B_90 v2.1)⟩) (by decide) rfl (by kernel_rfl) rfl (rens_same (nr_B_90 _)) hs_nil))

-- 23 loop.example/guesthouse/spec.DrawEntryFrom
def L_spec_DrawEntryFrom_r0 : List LOper := [⟨(some 2), (.mv (.c (.int .i64 0))), none⟩]
def L_spec_DrawEntryFrom_r1 : List LOper := [⟨(some 4), (.mv (.t 0)), none⟩, ⟨(some 5), (.call 52 [(.t 4)]), none⟩, ⟨(some 3), (.mv (.t 5)), none⟩]
def L_spec_DrawEntryFrom_r2 : List LOper := [⟨(some 6), (.mv (.t 3)), none⟩, ⟨(some 7), (.call 58 [(.t 6)]), none⟩, ⟨(some 8), (.mv (.t 3)), none⟩, ⟨(some 9), (.call 55 [(.t 8), (.c (.int .i64 9))]), none⟩, ⟨(some 10), (.bin .quo (.t 9) (.c (.int .i64 8))), none⟩, ⟨(some 11), (.bin .mul (.t 10) (.c (.int .i64 4096))), none⟩, ⟨(some 12), (.bin .add (.t 7) (.t 11)), none⟩, ⟨(some 2), (.mv (.t 12)), none⟩]
def L_spec_DrawEntryFrom : LFun := ⟨13, [(.tmp 2)], (.seq (.reg false L_spec_DrawEntryFrom_r0) (.seq (.reg false L_spec_DrawEntryFrom_r1) (.seq (.reg false L_spec_DrawEntryFrom_r2) .ret)))⟩
theorem low_spec_DrawEntryFrom : lowFun Go.Proofs.Try.prog 23 = some L_spec_DrawEntryFrom := by kernel_rfl
noncomputable def F_spec_DrawEntryFrom (x_code : List Int) : Option Int :=
  Option.bind (F_spec_l20Open x_code) fun v1 =>
  Option.bind (F___spec_l20Rd__word v1) fun v2 =>
  Option.bind (F___spec_l20Rd__pick v2.1 (9 : Int)) fun v3 =>
  some (w64 (v2.2 + (w64 ((w64 (Int.tdiv v3.2 (8 : Int))) * (4096 : Int)))))
theorem spec_DrawEntryFrom_fn {x_code : List Int} {R_ : Int} (hh : F_spec_DrawEntryFrom x_code = some R_) : Fn Try.prog 23 [bo (eI .u8) x_code] (.int .i64 R_) := by
  unfold F_spec_DrawEntryFrom at hh
  refine Fn.start low_spec_DrawEntryFrom [0] (E := sp 13 [(0, bo (eI .u8) x_code)]) (by kernel_rfl) (v := .int .i64 R_) (Hr := []) (k := 0) (by kernel_rfl) ?_
  refine Aw.sreg [0] [] ?_
  refine yct (cs := []) (E' := (sp 13 [(0, bo (eI .u8) x_code)])) (H' := []) (n' := 0) (fun K => by kernel_rfl) .nil ?_
  refine Aw.sreg [3] [0] ?_
  refine yc (cs := []) (E' := (sp 13 [(0, bo (eI .u8) x_code), (4, bo (eI .u8) x_code)])) (H' := []) (n' := 0) (pre := (List.take 1 L_spec_DrawEntryFrom_r1)) (L' := (List.drop 1 L_spec_DrawEntryFrom_r1)) (by kernel_rfl) (fun K => by kernel_rfl) .nil ?_
  obtain ⟨v1, hv1, hh⟩ := bind_some hh
  refine yso (op := (.call 52 [(.t 4)])) (d := (some 5)) (os := (List.drop 2 L_spec_DrawEntryFrom_r1)) (by kernel_rfl) (op_callf (v' := .ptr 0 [] 0) (Hp' := [(0, some ⟨90, (B_90 v1)⟩)]) (n' := 1) [] (spec_l20Open_fn hv1) (args' := [bo (eI .u8) x_code]) (by kernel_rfl) rfl rfl rfl (rens_c (ren_bor (rens_same (noRefs_fl nr_eI))) rens_n) rfl hs_nil (ren_p (by decide) rfl) rfl (hs_as (t := ⟨90, (B_90 v1)⟩) (by decide) rfl (by kernel_rfl) rfl (rens_same (nr_B_90 _)) hs_nil) rfl ?_)
  refine yct (cs := []) (E' := (sp 13 [(3, .ptr 0 [] 0)])) (H' := [(0, some ⟨90, (B_90 v1)⟩)]) (n' := 1) (fun K => by kernel_rfl) .nil ?_
  refine Aw.sreg [2] [] ?_
  refine yc (cs := []) (E' := (sp 13 [(3, .ptr 0 [] 0), (6, .ptr 0 [] 0)])) (H' := [(0, some ⟨90, (B_90 v1)⟩)]) (n' := 1) (pre := (List.take 1 L_spec_DrawEntryFrom_r2)) (L' := (List.drop 1 L_spec_DrawEntryFrom_r2)) (by kernel_rfl) (fun K => by kernel_rfl) .nil ?_
  obtain ⟨v2, hv2, hh⟩ := bind_some hh
  refine yso (op := (.call 58 [(.t 6)])) (d := (some 7)) (os := (List.drop 2 L_spec_DrawEntryFrom_r2)) (by kernel_rfl) (op_callf (v' := .int .i64 v2.2) (Hp' := [(0, some ⟨90, (B_90 v2.1)⟩)]) (n' := 1) [0] (__spec_l20Rd__word_fn hv2) (args' := [.ptr 0 [] 0]) (by kernel_rfl) rfl rfl rfl (rens_c (ren_p (by decide) rfl) rens_n) rfl (hs_as (t := ⟨90, (B_90 v1)⟩) (by decide) rfl (by kernel_rfl) rfl (rens_same (nr_B_90 _)) hs_nil) ren_i rfl (hs_as (t := ⟨90, (B_90 v2.1)⟩) (by decide) rfl (by kernel_rfl) rfl (rens_same (nr_B_90 _)) hs_nil) rfl ?_)
  refine yc (cs := []) (E' := (sp 13 [(3, .ptr 0 [] 0), (6, .ptr 0 [] 0), (7, .int .i64 v2.2), (8, .ptr 0 [] 0)])) (H' := [(0, some ⟨90, (B_90 v2.1)⟩), (0, none), (0, some ⟨90, (B_90 v1)⟩)]) (n' := 1) (pre := (List.take 1 (List.drop 2 L_spec_DrawEntryFrom_r2))) (L' := (List.drop 3 L_spec_DrawEntryFrom_r2)) (by kernel_rfl) (fun K => by kernel_rfl) .nil ?_
  obtain ⟨v3, hv3, hh⟩ := bind_some hh
  refine yso (op := (.call 55 [(.t 8), (.c (.int .i64 9))])) (d := (some 9)) (os := (List.drop 4 L_spec_DrawEntryFrom_r2)) (by kernel_rfl) (op_callf (v' := .int .i64 v3.2) (Hp' := [(0, some ⟨90, (B_90 v3.1)⟩)]) (n' := 1) [0] (__spec_l20Rd__pick_fn hv3) (args' := [.ptr 0 [] 0, .int .i64 (9 : Int)]) (by kernel_rfl) rfl rfl rfl (rens_c (ren_p (by decide) rfl) (rens_c ren_i rens_n)) rfl (hs_as (t := ⟨90, (B_90 v2.1)⟩) (by decide) rfl (by kernel_rfl) rfl (rens_same (nr_B_90 _)) hs_nil) ren_i rfl (hs_as (t := ⟨90, (B_90 v3.1)⟩) (by decide) rfl (by kernel_rfl) rfl (rens_same (nr_B_90 _)) hs_nil) rfl ?_)
  refine yct (cs := [(8 : Int) ≠ 0]) (E' := (sp 13 [(2, .int .i64 (w64 (v2.2 + (w64 ((w64 (Int.tdiv v3.2 (8 : Int))) * (4096 : Int))))))])) (H' := []) (n' := 1) (fun K => by kernel_rfl) (.cons (by decide) .nil) ?_
  refine Aw.ret ?_
  rw [some_some hh]
  exact gives (r' := .int .i64 (w64 (v2.2 + (w64 ((w64 (Int.tdiv v3.2 (8 : Int))) * (4096 : Int)))))) (by kernel_rfl) (Ent.list [] rfl rfl (Nat.zero_le _) (rens_1 ren_i) hs_nil)

-- 54 loop.example/guesthouse/spec.WordOk
def L_spec_WordOk_r0 : List LOper := [⟨(some 2), (.mv (.c (.bool false))), none⟩]
def L_spec_WordOk_r1 : List LOper := [⟨(some 3), (.mv (.t 0)), none⟩, ⟨(some 4), (.call 57 [(.t 3), (.c (.int .i64 0)), (.c (.int .i64 4095))]), none⟩, ⟨(some 2), (.mv (.t 4)), none⟩]
def L_spec_WordOk : LFun := ⟨5, [(.tmp 2)], (.seq (.reg false L_spec_WordOk_r0) (.seq (.reg false L_spec_WordOk_r1) .ret))⟩
theorem low_spec_WordOk : lowFun Go.Proofs.Try.prog 54 = some L_spec_WordOk := by kernel_rfl
noncomputable def F_spec_WordOk (x_n : Int) : Option Bool :=
  Option.bind (F_spec_l1In x_n (0 : Int) (4095 : Int)) fun v1 =>
  some v1
theorem spec_WordOk_fn {x_n : Int} {R_ : Bool} (hh : F_spec_WordOk x_n = some R_) : Fn Try.prog 54 [.int .i64 x_n] (.bool R_) := by
  unfold F_spec_WordOk at hh
  refine Fn.start low_spec_WordOk [0] (E := sp 5 [(0, .int .i64 x_n)]) (by kernel_rfl) (v := .bool R_) (Hr := []) (k := 0) (by kernel_rfl) ?_
  refine Aw.sreg [0] [] ?_
  refine yct (cs := []) (E' := (sp 5 [(0, .int .i64 x_n)])) (H' := []) (n' := 0) (fun K => by kernel_rfl) .nil ?_
  refine Aw.sreg [2] [] ?_
  refine yc (cs := []) (E' := (sp 5 [(0, .int .i64 x_n), (3, .int .i64 x_n)])) (H' := []) (n' := 0) (pre := (List.take 1 L_spec_WordOk_r1)) (L' := (List.drop 1 L_spec_WordOk_r1)) (by kernel_rfl) (fun K => by kernel_rfl) .nil ?_
  obtain ⟨v1, hv1, hh⟩ := bind_some hh
  refine yso (op := (.call 57 [(.t 3), (.c (.int .i64 0)), (.c (.int .i64 4095))])) (d := (some 4)) (os := (List.drop 2 L_spec_WordOk_r1)) (by kernel_rfl) (op_call (r := .bool v1) (v := .bool v1) (Hr := []) (n' := 0) (spec_l1In_fn hv1) (clz_v (vs := [.int .i64 x_n, .int .i64 (0 : Int), .int .i64 (4095 : Int)]) (by kernel_rfl) (clz_c (clo_same rfl) (clz_c (clo_same rfl) (clz_c (clo_same rfl) clz_n)))) rfl rfl (by kernel_rfl) ?_)
  refine yct (cs := []) (E' := (sp 5 [(2, .bool v1)])) (H' := []) (n' := 0) (fun K => by kernel_rfl) .nil ?_
  refine Aw.ret ?_
  rw [some_some hh]
  exact gives (r' := .bool v1) (by kernel_rfl) (Ent.list [] rfl rfl (Nat.zero_le _) (rens_1 ren_b) hs_nil)

-- 24 loop.example/guesthouse/spec.EntryFrom
def L_spec_EntryFrom_r0 : List LOper := [⟨(some 2), (.fresh 29 [(.bool false), (.bool false), (.bool false), (.int .i64 0)]), none⟩]
def L_spec_EntryFrom_r1 : List LOper := [⟨(some 3), (.mv (.t 0)), none⟩, ⟨(some 4), (.call 54 [(.t 3)]), none⟩, ⟨(some 5), (.un .not (.t 4)), none⟩]
def L_spec_EntryFrom_r2 : List LOper := [⟨(some 6), (.bld [(.bool false), (.bool false), (.bool false), (.int .i64 0)] []), none⟩, ⟨none, (.store 4 (.t 2) (.t 6)), none⟩]
def L_spec_EntryFrom_r3 : List LOper := [⟨(some 7), (.mv (.t 0)), none⟩, ⟨(some 8), (.bin .rem (.t 7) (.c (.int .i64 2))), none⟩, ⟨(some 9), (.bin .eql (.t 8) (.c (.int .i64 1))), none⟩, ⟨(some 10), (.mv (.t 0)), none⟩, ⟨(some 11), (.bin .quo (.t 10) (.c (.int .i64 2))), none⟩, ⟨(some 12), (.bin .rem (.t 11) (.c (.int .i64 2))), none⟩, ⟨(some 13), (.bin .eql (.t 12) (.c (.int .i64 1))), none⟩, ⟨(some 14), (.mv (.t 0)), none⟩, ⟨(some 15), (.bin .quo (.t 14) (.c (.int .i64 4))), none⟩, ⟨(some 16), (.bin .rem (.t 15) (.c (.int .i64 2))), none⟩, ⟨(some 17), (.bin .eql (.t 16) (.c (.int .i64 1))), none⟩, ⟨(some 18), (.mv (.t 0)), none⟩, ⟨(some 19), (.bin .quo (.t 18) (.c (.int .i64 8))), none⟩, ⟨(some 20), (.bin .rem (.t 19) (.c (.int .i64 8))), none⟩, ⟨(some 21), (.bld [(.bool false), (.bool false), (.bool false), (.int .i64 0)] [(0, (1, (.t 9))), (1, (1, (.t 13))), (2, (1, (.t 17))), (3, (1, (.t 20)))]), none⟩, ⟨none, (.store 4 (.t 2) (.t 21)), none⟩]
def L_spec_EntryFrom : LFun := ⟨22, [(.cell 2 true 4)], (.seq (.reg false L_spec_EntryFrom_r0) (.seq (.seq (.reg false L_spec_EntryFrom_r1) (.cond (.t 5) (.seq (.reg false L_spec_EntryFrom_r2) .ret) .skip)) (.seq (.reg false L_spec_EntryFrom_r3) .ret)))⟩
theorem low_spec_EntryFrom : lowFun Go.Proofs.Try.prog 24 = some L_spec_EntryFrom := by kernel_rfl
noncomputable def F_spec_EntryFrom (x_w : Int) : Option DEntry :=
  Option.bind (F_spec_WordOk x_w) fun v1 =>
  cond (!v1)
    (some (DEntry.mk false false false (0 : Int)))
    (some (DEntry.mk (decide ((Int.tmod x_w (2 : Int)) = (1 : Int))) (decide ((Int.tmod (w64 (Int.tdiv x_w (2 : Int))) (2 : Int)) = (1 : Int))) (decide ((Int.tmod (w64 (Int.tdiv x_w (4 : Int))) (2 : Int)) = (1 : Int))) (Int.tmod (w64 (Int.tdiv x_w (8 : Int))) (8 : Int))))
theorem spec_EntryFrom_fn {x_w : Int} {R_ : DEntry} (hh : F_spec_EntryFrom x_w = some R_) : Fn Try.prog 24 [.int .i64 x_w] (.agg [.bool R_.There, .bool R_.Write, .bool R_.User, .int .i64 R_.Page]) := by
  unfold F_spec_EntryFrom at hh
  refine Fn.start low_spec_EntryFrom [0] (E := sp 22 [(0, .int .i64 x_w)]) (by kernel_rfl) (v := .agg [.bool R_.There, .bool R_.Write, .bool R_.User, .int .i64 R_.Page]) (Hr := []) (k := 0) (by kernel_rfl) ?_
  refine Aw.sreg [0, 2] [0] ?_
  refine yct (cs := []) (E' := (sp 22 [(0, .int .i64 x_w), (2, .ptr 0 [] 0)])) (H' := [(0, some ⟨29, [.bool false, .bool false, .bool false, .int .i64 (0 : Int)]⟩)]) (n' := 1) (fun K => by kernel_rfl) .nil ?_
  refine Aw.seq ?_
  refine Aw.sreg [0, 2, 5] [0] ?_
  refine yc (cs := []) (E' := (sp 22 [(0, .int .i64 x_w), (2, .ptr 0 [] 0), (3, .int .i64 x_w)])) (H' := [(0, some ⟨29, [.bool false, .bool false, .bool false, .int .i64 (0 : Int)]⟩)]) (n' := 1) (pre := (List.take 1 L_spec_EntryFrom_r1)) (L' := (List.drop 1 L_spec_EntryFrom_r1)) (by kernel_rfl) (fun K => by kernel_rfl) .nil ?_
  obtain ⟨v1, hv1, hh⟩ := bind_some hh
  refine yso (op := (.call 54 [(.t 3)])) (d := (some 4)) (os := (List.drop 2 L_spec_EntryFrom_r1)) (by kernel_rfl) (op_call (r := .bool v1) (v := .bool v1) (Hr := []) (n' := 1) (spec_WordOk_fn hv1) (clz_v (vs := [.int .i64 x_w]) (by kernel_rfl) (clz_c (clo_same rfl) clz_n)) rfl rfl (by kernel_rfl) ?_)
  refine yct (cs := []) (E' := (sp 22 [(0, .int .i64 x_w), (2, .ptr 0 [] 0), (5, .bool (!v1))])) (H' := [(0, some ⟨29, [.bool false, .bool false, .bool false, .int .i64 (0 : Int)]⟩)]) (n' := 1) (fun K => by kernel_rfl) .nil ?_
  rcases cond_some hh with ⟨hb, hh⟩ | ⟨hb, hh⟩
  · refine Aw.condT (by kernel_rfl) hb ?_
    refine Aw.sreg [2] [0] ?_
    refine yct (cs := []) (E' := (sp 22 [(2, .ptr 0 [] 0)])) (H' := [(0, some ⟨29, [.bool false, .bool false, .bool false, .int .i64 (0 : Int)]⟩)]) (n' := 1) (fun K => by kernel_rfl) .nil ?_
    refine Aw.ret ?_
    refine then_r ?_
    rw [some_some hh]
    exact gives (r' := .agg [.bool false, .bool false, .bool false, .int .i64 (0 : Int)]) (by kernel_rfl) (Ent.list [] rfl rfl (Nat.zero_le _) (rens_1 (ren_agg (rens_c ren_b (rens_c ren_b (rens_c ren_b (rens_c ren_i rens_n)))))) hs_nil)
  · refine Aw.condF (by kernel_rfl) hb ?_
    refine Aw.xskip (fun _ _ _ hq => then_m hq) ?_
    refine Aw.sreg [2] [0] ?_
    refine yct (cs := [(2 : Int) ≠ 0, (2 : Int) ≠ 0, (2 : Int) ≠ 0, (4 : Int) ≠ 0, (2 : Int) ≠ 0, (8 : Int) ≠ 0, (8 : Int) ≠ 0]) (E' := (sp 22 [(2, .ptr 0 [] 0)])) (H' := [(0, some ⟨29, [.bool (decide ((Int.tmod x_w (2 : Int)) = (1 : Int))), .bool (decide ((Int.tmod (w64 (Int.tdiv x_w (2 : Int))) (2 : Int)) = (1 : Int))), .bool (decide ((Int.tmod (w64 (Int.tdiv x_w (4 : Int))) (2 : Int)) = (1 : Int))), .int .i64 (Int.tmod (w64 (Int.tdiv x_w (8 : Int))) (8 : Int))]⟩)]) (n' := 1) (fun K => by kernel_rfl) (.cons (by decide) (.cons (by decide) (.cons (by decide) (.cons (by decide) (.cons (by decide) (.cons (by decide) (.cons (by decide) .nil))))))) ?_
    refine Aw.ret ?_
    rw [some_some hh]
    exact gives (r' := .agg [.bool (decide ((Int.tmod x_w (2 : Int)) = (1 : Int))), .bool (decide ((Int.tmod (w64 (Int.tdiv x_w (2 : Int))) (2 : Int)) = (1 : Int))), .bool (decide ((Int.tmod (w64 (Int.tdiv x_w (4 : Int))) (2 : Int)) = (1 : Int))), .int .i64 (Int.tmod (w64 (Int.tdiv x_w (8 : Int))) (8 : Int))]) (by kernel_rfl) (Ent.list [] rfl rfl (Nat.zero_le _) (rens_1 (ren_agg (rens_c ren_b (rens_c ren_b (rens_c ren_b (rens_c ren_i rens_n)))))) hs_nil)

-- 5 loop.example/guesthouse/laws.FnEntryFrom
def L_laws_FnEntryFrom_r0 : List LOper := [⟨(some 2), (.mv (.c (.bool false))), none⟩]
def L_laws_FnEntryFrom_r1 : List LOper := [⟨(some 5), (.mv (.t 0)), none⟩, ⟨(some 6), (.len (.t 5)), none⟩, ⟨(some 7), (.bin .gtr (.t 6) (.c (.int .i64 1048576))), none⟩]
def L_laws_FnEntryFrom_r2 : List LOper := [⟨(some 2), (.mv (.c (.bool true))), none⟩]
def L_laws_FnEntryFrom_r3 : List LOper := [⟨(some 8), (.mv (.t 0)), none⟩, ⟨(some 9), (.call 23 [(.t 8)]), none⟩, ⟨(some 3), (.mv (.t 9)), none⟩]
def L_laws_FnEntryFrom_r4 : List LOper := [⟨(some 10), (.mv (.t 3)), none⟩, ⟨(some 11), (.call 22 [(.t 10)]), none⟩, ⟨(some 4), (.fresh 29 [(.bool false), (.bool false), (.bool false), (.int .i64 0)]), none⟩, ⟨none, (.store 4 (.t 4) (.t 11)), none⟩]
def L_laws_FnEntryFrom_r5 : List LOper := [⟨(some 12), (.load true 4 (.t 4)), none⟩, ⟨(some 13), (.mv (.t 3)), none⟩, ⟨(some 14), (.call 24 [(.t 13)]), none⟩, ⟨(some 15), (.beq false [(0, true), (1, true), (2, true), (3, false)] (.t 12) (.t 14)), none⟩, ⟨(some 16), (.mv (.t 15)), none⟩, ⟨(some 17), (.mv (.t 3)), (some (16, true))⟩, ⟨(some 18), (.call 25 [(.t 17)]), (some (16, true))⟩, ⟨(some 19), (.un .not (.t 18)), (some (16, true))⟩, ⟨(some 20), (.mv (.t 19)), (some (16, true))⟩, ⟨(some 21), (.load true 4 (.t 4)), (some (20, false))⟩, ⟨(some 22), (.call 20 [(.t 21)]), (some (20, false))⟩, ⟨(some 23), (.mv (.t 3)), (some (20, false))⟩, ⟨(some 24), (.bin .rem (.t 23) (.c (.int .i64 64))), (some (20, false))⟩, ⟨(some 25), (.bin .eql (.t 22) (.t 24)), (some (20, false))⟩, ⟨(some 26), (.pick (.t 20) (.c (.bool true)) (.t 25)), (some (16, true))⟩, ⟨(some 27), (.pick (.t 16) (.t 26) (.c (.bool false))), none⟩, ⟨(some 28), (.mv (.t 27)), none⟩, ⟨(some 29), (.call 18 []), (some (28, true))⟩, ⟨(some 30), (.pick (.t 28) (.t 29) (.c (.bool false))), none⟩, ⟨(some 2), (.mv (.t 30)), none⟩]
def L_laws_FnEntryFrom : LFun := ⟨31, [(.tmp 2)], (.seq (.reg false L_laws_FnEntryFrom_r0) (.seq (.seq (.reg false L_laws_FnEntryFrom_r1) (.cond (.t 7) (.seq (.reg false L_laws_FnEntryFrom_r2) .ret) .skip)) (.seq (.reg false L_laws_FnEntryFrom_r3) (.seq (.reg false L_laws_FnEntryFrom_r4) (.seq (.reg true L_laws_FnEntryFrom_r5) .ret)))))⟩
theorem low_laws_FnEntryFrom : lowFun Go.Proofs.Try.prog 5 = some L_laws_FnEntryFrom := by kernel_rfl
noncomputable def F_laws_FnEntryFrom (x_code : List Int) : Option Bool :=
  cond (decide ((1048576 : Int) < (((List.length x_code) : Nat) : Int)))
    (some true)
    (Option.bind (F_spec_DrawEntryFrom x_code) fun v1 =>
    Option.bind (F_impl_EntryFrom v1) fun v2 =>
    Option.bind (F_spec_EntryFrom v1) fun v3 =>
    cond ((v2.There == v3.There) && ((v2.Write == v3.Write) && ((v2.User == v3.User) && (decide (v2.Page = v3.Page) && true))))
      (Option.bind (F_impl_WordOk v1) fun v4 =>
      cond (!v4)
        (Option.bind (F_laws_alive ) fun v5 =>
        some v5)
        (Option.bind (F_impl_EntryWord v2) fun v6 =>
        cond (decide (v6 = (Int.tmod v1 (64 : Int))))
          (Option.bind (F_laws_alive ) fun v7 =>
          some v7)
          (some false)))
      (some false))
theorem laws_FnEntryFrom_fn {x_code : List Int} {R_ : Bool} (hh : F_laws_FnEntryFrom x_code = some R_) : Fn Try.prog 5 [bo (eI .u8) x_code] (.bool R_) := by
  unfold F_laws_FnEntryFrom at hh
  refine Fn.start low_laws_FnEntryFrom [0] (E := sp 31 [(0, bo (eI .u8) x_code)]) (by kernel_rfl) (v := .bool R_) (Hr := []) (k := 0) (by kernel_rfl) ?_
  refine Aw.sreg [0] [] ?_
  refine yct (cs := []) (E' := (sp 31 [(0, bo (eI .u8) x_code)])) (H' := []) (n' := 0) (fun K => by kernel_rfl) .nil ?_
  refine Aw.seq ?_
  refine Aw.sreg [0, 7] [] ?_
  refine yct (cs := []) (E' := (sp 31 [(0, bo (eI .u8) x_code), (7, .bool (decide ((1048576 : Int) < (((List.length x_code) : Nat) : Int))))])) (H' := []) (n' := 0) (fun K => by kernel_rfl) .nil ?_
  rcases cond_some hh with ⟨hb, hh⟩ | ⟨hb, hh⟩
  · refine Aw.condT (by kernel_rfl) hb ?_
    refine Aw.sreg [2] [] ?_
    refine yct (cs := []) (E' := (sp 31 [(2, .bool true)])) (H' := []) (n' := 0) (fun K => by kernel_rfl) .nil ?_
    refine Aw.ret ?_
    refine then_r ?_
    rw [some_some hh]
    exact gives (r' := .bool true) (by kernel_rfl) (Ent.list [] rfl rfl (Nat.zero_le _) (rens_1 ren_b) hs_nil)
  · refine Aw.condF (by kernel_rfl) hb ?_
    refine Aw.xskip (fun _ _ _ hq => then_m hq) ?_
    refine Aw.sreg [3] [] ?_
    refine yc (cs := []) (E' := (sp 31 [(0, bo (eI .u8) x_code), (7, .bool (decide ((1048576 : Int) < (((List.length x_code) : Nat) : Int)))), (8, bo (eI .u8) x_code)])) (H' := []) (n' := 0) (pre := (List.take 1 L_laws_FnEntryFrom_r3)) (L' := (List.drop 1 L_laws_FnEntryFrom_r3)) (by kernel_rfl) (fun K => by kernel_rfl) .nil ?_
    obtain ⟨v1, hv1, hh⟩ := bind_some hh
    refine yso (op := (.call 23 [(.t 8)])) (d := (some 9)) (os := (List.drop 2 L_laws_FnEntryFrom_r3)) (by kernel_rfl) (op_call (r := .int .i64 v1) (v := .int .i64 v1) (Hr := []) (n' := 0) (spec_DrawEntryFrom_fn hv1) (clz_v (vs := [bo (eI .u8) x_code]) (by kernel_rfl) (clz_c (clo_same (clean_bor (cleans_fl cl_eI))) clz_n)) rfl rfl (by kernel_rfl) ?_)
    refine yct (cs := []) (E' := (sp 31 [(3, .int .i64 v1)])) (H' := []) (n' := 0) (fun K => by kernel_rfl) .nil ?_
    refine Aw.sreg [3, 4] [0] ?_
    refine yc (cs := []) (E' := (sp 31 [(3, .int .i64 v1), (10, .int .i64 v1)])) (H' := []) (n' := 0) (pre := (List.take 1 L_laws_FnEntryFrom_r4)) (L' := (List.drop 1 L_laws_FnEntryFrom_r4)) (by kernel_rfl) (fun K => by kernel_rfl) .nil ?_
    obtain ⟨v2, hv2, hh⟩ := bind_some hh
    refine yso (op := (.call 22 [(.t 10)])) (d := (some 11)) (os := (List.drop 2 L_laws_FnEntryFrom_r4)) (by kernel_rfl) (op_call (r := .agg (C_29 v2)) (v := .agg (C_29 v2)) (Hr := []) (n' := 0) (impl_EntryFrom_fn hv2) (clz_v (vs := [.int .i64 v1]) (by kernel_rfl) (clz_c (clo_same rfl) clz_n)) rfl rfl (by kernel_rfl) ?_)
    refine yct (cs := []) (E' := (sp 31 [(3, .int .i64 v1), (4, .ptr 0 [] 0)])) (H' := [(0, some ⟨29, (C_29 v2)⟩)]) (n' := 1) (fun K => by kernel_rfl) .nil ?_
    refine Aw.sregq [2] ?_
    refine qc (cs := []) (E' := (sp 31 [(3, .int .i64 v1), (4, .ptr 0 [] 0), (12, .agg (C_29 v2)), (13, .int .i64 v1)])) (pre := (List.take 2 L_laws_FnEntryFrom_r5)) (L' := (List.drop 2 L_laws_FnEntryFrom_r5)) (by kernel_rfl) (fun K => by kernel_rfl) .nil ?_
    obtain ⟨v3, hv3, hh⟩ := bind_some hh
    refine qso (op := (.call 24 [(.t 13)])) (d := (some 14)) (os := (List.drop 3 L_laws_FnEntryFrom_r5)) (by kernel_rfl) (oq_call (r := .agg (C_29 v3)) (spec_EntryFrom_fn hv3) (clz_v (vs := [.int .i64 v1]) (by kernel_rfl) (clz_c (clo_same rfl) clz_n)) rfl ?_)
    refine qc (cs := []) (E' := (sp 31 [(3, .int .i64 v1), (4, .ptr 0 [] 0), (12, .agg (C_29 v2)), (13, .int .i64 v1), (14, .agg (C_29 v3)), (15, .bool ((v2.There == v3.There) && ((v2.Write == v3.Write) && ((v2.User == v3.User) && (decide (v2.Page = v3.Page) && true))))), (16, .bool ((v2.There == v3.There) && ((v2.Write == v3.Write) && ((v2.User == v3.User) && (decide (v2.Page = v3.Page) && true)))))])) (pre := (List.take 2 (List.drop 3 L_laws_FnEntryFrom_r5))) (L' := (List.drop 5 L_laws_FnEntryFrom_r5)) (by kernel_rfl) (fun K => by kernel_rfl) .nil ?_
    rcases cond_some hh with ⟨hb, hh⟩ | ⟨hb, hh⟩
    · refine qbs (t := 15) hb (by kernel_rfl) ?_
      refine qbs (t := 16) hb (by kernel_rfl) ?_
      refine qc (cs := []) (E' := (sp 31 [(3, .int .i64 v1), (4, .ptr 0 [] 0), (12, .agg (C_29 v2)), (13, .int .i64 v1), (14, .agg (C_29 v3)), (15, .bool true), (16, .bool true), (17, .int .i64 v1)])) (pre := (List.take 1 (List.drop 5 L_laws_FnEntryFrom_r5))) (L' := (List.drop 6 L_laws_FnEntryFrom_r5)) (by kernel_rfl) (fun K => by kernel_rfl) .nil ?_
      obtain ⟨v4, hv4, hh⟩ := bind_some hh
      refine qsg (op := (.call 25 [(.t 17)])) (d := (some 18)) (t := 16) (want := true) (os := (List.drop 7 L_laws_FnEntryFrom_r5)) (by kernel_rfl) (by kernel_rfl) (oq_call (r := .bool v4) (impl_WordOk_fn hv4) (clz_v (vs := [.int .i64 v1]) (by kernel_rfl) (clz_c (clo_same rfl) clz_n)) rfl ?_)
      refine qc (cs := []) (E' := (sp 31 [(3, .int .i64 v1), (4, .ptr 0 [] 0), (12, .agg (C_29 v2)), (13, .int .i64 v1), (14, .agg (C_29 v3)), (15, .bool true), (16, .bool true), (17, .int .i64 v1), (18, .bool v4), (19, .bool (!v4)), (20, .bool (!v4))])) (pre := (List.take 2 (List.drop 7 L_laws_FnEntryFrom_r5))) (L' := (List.drop 9 L_laws_FnEntryFrom_r5)) (by kernel_rfl) (fun K => by kernel_rfl) .nil ?_
      rcases cond_some hh with ⟨hb, hh⟩ | ⟨hb, hh⟩
      · refine qbs (t := 19) hb (by kernel_rfl) ?_
        refine qbs (t := 20) hb (by kernel_rfl) ?_
        refine qc (cs := []) (E' := (sp 31 [(3, .int .i64 v1), (4, .ptr 0 [] 0), (12, .agg (C_29 v2)), (13, .int .i64 v1), (14, .agg (C_29 v3)), (15, .bool true), (16, .bool true), (17, .int .i64 v1), (18, .bool v4), (19, .bool true), (20, .bool true), (21, .und), (22, .und), (23, .und), (24, .und), (25, .und), (26, .bool true), (27, .bool true), (28, .bool true)])) (pre := (List.take 8 (List.drop 9 L_laws_FnEntryFrom_r5))) (L' := (List.drop 17 L_laws_FnEntryFrom_r5)) (by kernel_rfl) (fun K => by kernel_rfl) .nil ?_
        obtain ⟨v5, hv5, hh⟩ := bind_some hh
        refine qsg (op := (.call 18 [])) (d := (some 29)) (t := 28) (want := true) (os := (List.drop 18 L_laws_FnEntryFrom_r5)) (by kernel_rfl) (by kernel_rfl) (oq_call (r := .bool v5) (laws_alive_fn hv5) (clz_v (vs := []) (by kernel_rfl) clz_n) rfl ?_)
        refine qct (cs := []) (E' := (sp 31 [(2, .bool v5)])) (fun K => by kernel_rfl) .nil ?_
        refine Aw.ret ?_
        rw [some_some hh]
        exact gives (r' := .bool v5) (by kernel_rfl) (Ent.list [] rfl rfl (Nat.zero_le _) (rens_1 ren_b) hs_nil)
      · refine qbs (t := 19) hb (by kernel_rfl) ?_
        refine qbs (t := 20) hb (by kernel_rfl) ?_
        refine qc (cs := []) (E' := (sp 31 [(3, .int .i64 v1), (4, .ptr 0 [] 0), (12, .agg (C_29 v2)), (13, .int .i64 v1), (14, .agg (C_29 v3)), (15, .bool true), (16, .bool true), (17, .int .i64 v1), (18, .bool v4), (19, .bool false), (20, .bool false), (21, .agg (C_29 v2))])) (pre := (List.take 1 (List.drop 9 L_laws_FnEntryFrom_r5))) (L' := (List.drop 10 L_laws_FnEntryFrom_r5)) (by kernel_rfl) (fun K => by kernel_rfl) .nil ?_
        obtain ⟨v6, hv6, hh⟩ := bind_some hh
        refine qsg (op := (.call 20 [(.t 21)])) (d := (some 22)) (t := 20) (want := false) (os := (List.drop 11 L_laws_FnEntryFrom_r5)) (by kernel_rfl) (by kernel_rfl) (oq_call (r := .int .i64 v6) (impl_EntryWord_fn hv6) (clz_v (vs := [.agg (C_29 v2)]) (by kernel_rfl) (clz_c (clo_same rfl) clz_n)) rfl ?_)
        refine qc (cs := [(64 : Int) ≠ 0]) (E' := (sp 31 [(3, .int .i64 v1), (4, .ptr 0 [] 0), (12, .agg (C_29 v2)), (13, .int .i64 v1), (14, .agg (C_29 v3)), (15, .bool true), (16, .bool true), (17, .int .i64 v1), (18, .bool v4), (19, .bool false), (20, .bool false), (21, .agg (C_29 v2)), (22, .int .i64 v6), (23, .int .i64 v1), (24, .int .i64 (Int.tmod v1 (64 : Int))), (25, .bool (decide (v6 = (Int.tmod v1 (64 : Int))))), (26, .bool (decide (v6 = (Int.tmod v1 (64 : Int))))), (27, .bool (decide (v6 = (Int.tmod v1 (64 : Int))))), (28, .bool (decide (v6 = (Int.tmod v1 (64 : Int)))))])) (pre := (List.take 6 (List.drop 11 L_laws_FnEntryFrom_r5))) (L' := (List.drop 17 L_laws_FnEntryFrom_r5)) (by kernel_rfl) (fun K => by kernel_rfl) (.cons (by decide) .nil) ?_
        rcases cond_some hh with ⟨hb, hh⟩ | ⟨hb, hh⟩
        · refine qbs (t := 25) hb (by kernel_rfl) ?_
          refine qbs (t := 26) hb (by kernel_rfl) ?_
          refine qbs (t := 27) hb (by kernel_rfl) ?_
          refine qbs (t := 28) hb (by kernel_rfl) ?_
          obtain ⟨v7, hv7, hh⟩ := bind_some hh
          refine qsg (op := (.call 18 [])) (d := (some 29)) (t := 28) (want := true) (os := (List.drop 18 L_laws_FnEntryFrom_r5)) (by kernel_rfl) (by kernel_rfl) (oq_call (r := .bool v7) (laws_alive_fn hv7) (clz_v (vs := []) (by kernel_rfl) clz_n) rfl ?_)
          refine qct (cs := []) (E' := (sp 31 [(2, .bool v7)])) (fun K => by kernel_rfl) .nil ?_
          refine Aw.ret ?_
          rw [some_some hh]
          exact gives (r' := .bool v7) (by kernel_rfl) (Ent.list [] rfl rfl (Nat.zero_le _) (rens_1 ren_b) hs_nil)
        · refine qbs (t := 25) hb (by kernel_rfl) ?_
          refine qbs (t := 26) hb (by kernel_rfl) ?_
          refine qbs (t := 27) hb (by kernel_rfl) ?_
          refine qbs (t := 28) hb (by kernel_rfl) ?_
          refine qct (cs := []) (E' := (sp 31 [(2, .bool false)])) (fun K => by kernel_rfl) .nil ?_
          refine Aw.ret ?_
          rw [some_some hh]
          exact gives (r' := .bool false) (by kernel_rfl) (Ent.list [] rfl rfl (Nat.zero_le _) (rens_1 ren_b) hs_nil)
    · refine qbs (t := 15) hb (by kernel_rfl) ?_
      refine qbs (t := 16) hb (by kernel_rfl) ?_
      refine qct (cs := []) (E' := (sp 31 [(2, .bool false)])) (fun K => by kernel_rfl) .nil ?_
      refine Aw.ret ?_
      rw [some_some hh]
      exact gives (r' := .bool false) (by kernel_rfl) (Ent.list [] rfl rfl (Nat.zero_le _) (rens_1 ren_b) hs_nil)

end Go.Proofs.Ythbefahhpikcaaa
