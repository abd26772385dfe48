/- Plain functions of the program, and that it hands back what they say. Made by program. -/
import Derived.Test.YtbogmfjpabfhpaaWT
import Derived.Test.YtbogmfjpabfhpaaProg
import Derived.Test.YtbogmfjpabfhpaaWO1
namespace Go.Proofs.Ytbogmfjpabfhpaa
open Go.RowKit
set_option maxRecDepth 100000
set_option linter.all false
set_option maxHeartbeats 0
def Lf55_r0 : List LOper := [oo 2 (.mv (.c .unk))]
def Lf55_r1 : List LOper := [om 3 0, oo 4 (.len (.t 3)), oo 5 (.bin .gtr (.t 4) (.c (ii 2000)))]
def Lf55_r2 : List LOper := [om 6 0, oo 7 (.slc 1 (.t 6) none (some (.c (ii 2000)))), om 0 7]
def Lf55_r3 : List LOper := [om 8 0, oo 9 (.bld [.nil, (ii 0)] [(0, (1, (.t 8)))]), oo 10 (.box 110 (.t 9)), om 2 10]
def Lf55 : LFun := ⟨11, [(.tmp 2)], (.seq (.reg false Lf55_r0) (.seq (.seq (.reg false Lf55_r1) (.cond (.t 5) (.reg false Lf55_r2) .skip)) (.seq (.reg false Lf55_r3) .ret)))⟩
theorem low_spec_l20Open : lowFun Go.Proofs.Try.prog 55 = some Lf55 := by kernel_rfl
noncomputable def F_spec_l20Open_j1  (s1 : (List Int)) : Option Dl20Rd :=
 some (Dl20Rd.mk s1 (0 : Int))
noncomputable def F_spec_l20Open (x_code : List Int) : Option Dl20Rd :=
 Option.bind (cond (decide ((2000 : Int) < (((List.length x_code) : Nat) : Int)))
  (grd ((0 : Int) ≤ (0 : Int) ∧ (0 : Int) ≤ (2000 : Int) ∧ (2000 : Int) ≤ ((List.length x_code : Nat) : Int)) (some (.go (List.take (Int.toNat (2000 : Int) - Int.toNat (0 : Int)) (List.drop (Int.toNat (0 : Int)) x_code)))))
  (some (.go x_code))) fun j1 =>
  JO.run j1 (F_spec_l20Open_j1)
theorem spec_l20Open_fn {x_code : List Int} {R_ : Dl20Rd} (hh : F_spec_l20Open x_code = some R_) : Inl Try.prog 55 [bo (eI .u8) x_code] [] 0 (pp 0) [(0, some ⟨110, [bo (eI .u8) R_.b, .int .i64 R_.p]⟩)] 1 := by
 unfold F_spec_l20Open at hh
 refine Inl.start low_spec_l20Open [0] [] (E := sp 11 [(0, bo (eI .u8) x_code)]) (H1 := []) (by kernel_rfl) (by kernel_rfl) ?_
 refine sy [0] [] (sp 11 [(0, bo (eI .u8) x_code)]) [] 0 ?_
 obtain ⟨j1, hh, hk1⟩ := bind_some hh
 refine Aw.join (S := (List Int)) (fun s1 => sp 11 [(0, bo (eI .u8) s1)]) (fun s1 => []) 0 (fun s1 => F_spec_l20Open_j1 s1 = some R_) ?_ ?_
 · intro s1 hh
   unfold F_spec_l20Open_j1 at hh
   refine Aw.sreg [2] [0] ?_
   let q1 : Root := ⟨110, [bo (eI .u8) s1, ii 0]⟩
   refine yt (sp 11 [(2, pp 0)]) [(0, some q1)] 1 ?_
   refine Aw.ret ?_
   rw [some_some hh]
   exact gives (r' := pp 0) (by kernel_rfl) (Ent.list2 [some 0] rfl rfl (by decide) (rens_1 (ren_p (by decide) rfl)) (hq q1 (rens_c (ren_bor (rens_same (noRefs_fl nr_eI))) (rens_i rens_n)) hs_nil))
 intro Q1 hN1 hR1 hE1
 refine sy [0, 5] [] (sp 11 [(0, bo (eI .u8) x_code), (5, bb (decide ((2000 : Int) < (((List.length x_code) : Nat) : Int))))]) [] 0 ?_
 rcases cond_some hh with ⟨hb, hh⟩ | ⟨hb, hh⟩
 · refine cT hb ?_
   refine Aw.oreg ?_
   refine yu 1 [(6, bo (eI .u8) x_code)] [] 0 ?_
   obtain ⟨hg6, hh⟩ := grd_some hh
   refine ys (.slc 1 (.t 6) none (some (.c (ii 2000)))) (some 7) (op_slc (c := (eI .u8)) (xs := x_code) (l := (0 : Int)) (h := (2000 : Int)) len_eI (by kernel_rfl) (by kernel_rfl) (by kernel_rfl) hg6 ?_)
   refine ye (sp 11 [(0, bo (eI .u8) (List.take (Int.toNat (2000 : Int) - Int.toNat (0 : Int)) (List.drop (Int.toNat (0 : Int)) x_code))), (5, bb (decide ((2000 : Int) < (((List.length x_code) : Nat) : Int)))), (6, bo (eI .u8) x_code), (7, bo (eI .u8) (List.take (Int.toNat (2000 : Int) - Int.toNat (0 : Int)) (List.drop (Int.toNat (0 : Int)) x_code)))]) [] 0 ?_
   obtain rfl := some_some hh
   exact hN1 (List.take (Int.toNat (2000 : Int) - Int.toNat (0 : Int)) (List.drop (Int.toNat (0 : Int)) x_code)) _ _ _ hk1 (Ent.list2 [] rfl rfl (by decide) (rens_sp (by kernel_rfl) (rl_c (u := bo (eI .u8) (List.take (Int.toNat (2000 : Int) - Int.toNat (0 : Int)) (List.drop (Int.toNat (0 : Int)) x_code))) (by kernel_rfl) (ren_bor (rens_same (noRefs_fl nr_eI))) rl_n)) hs_nil)
 refine cF hb ?_
 refine Aw.skip ?_
 obtain rfl := some_some hh
 exact hN1 x_code _ _ _ hk1 (Ent.list2 [] rfl rfl (by decide) (rens_sp (by kernel_rfl) (rl_c (u := bo (eI .u8) x_code) (by kernel_rfl) (ren_bor (rens_same (noRefs_fl nr_eI))) rl_n)) hs_nil)
def Lf67_r0 : List LOper := [oo 4 (.mv (.c (ii 0)))]
def Lf67_r1 : List LOper := [om 7 0, om 8 0, oo 9 (.nck (.t 8)), oo 10 (.fadr 1 (.t 9)), oo 11 (.load false 1 (.t 10)), oo 12 (.bin .add (.t 11) (.c (ii 1))), oo 13 (.nck (.t 7)), oo 14 (.fadr 1 (.t 13)), ⟨none, (.store 1 (.t 14) (.t 12)), none⟩]
def Lf67_r2 : List LOper := [om 15 1, oo 16 (.bin .lss (.t 15) (.c (ii 1))), om 17 16, ⟨(some 18), (.mv (.t 0)), (some (17, false))⟩, ⟨(some 19), (.nck (.t 18)), (some (17, false))⟩, ⟨(some 20), (.fadr 0 (.t 19)), (some (17, false))⟩, ⟨(some 21), (.load false 1 (.t 20)), (some (17, false))⟩, ⟨(some 22), (.len (.t 21)), (some (17, false))⟩, ⟨(some 23), (.bin .eql (.t 22) (.c (ii 0))), (some (17, false))⟩, oo 24 (.pick (.t 17) (.c (bb true)) (.t 23))]
def Lf67_r3 : List LOper := [oo 4 (.mv (.c (ii 0)))]
def Lf67_r4 : List LOper := [om 25 0, oo 26 (.nck (.t 25)), oo 27 (.fadr 1 (.t 26)), oo 28 (.load false 1 (.t 27)), oo 29 (.bin .sub (.t 28) (.c (ii 1))), om 5 29]
def Lf67_r5 : List LOper := [om 30 5, om 31 0, oo 32 (.nck (.t 31)), oo 33 (.fadr 0 (.t 32)), oo 34 (.load false 1 (.t 33)), oo 35 (.len (.t 34)), oo 36 (.bin .lss (.t 30) (.t 35))]
def Lf67_r6 : List LOper := [om 37 0, oo 38 (.nck (.t 37)), oo 39 (.fadr 0 (.t 38)), oo 40 (.load false 1 (.t 39)), om 41 5, oo 42 (.iadr 1 (.t 40) (.t 41)), oo 43 (.load false 1 (.t 42)), oo 44 (.cvt .i64 (.t 43)), om 45 1, oo 46 (.bin .rem (.t 44) (.t 45)), om 4 46]
def Lf67_r7 : List LOper := [om 47 0, oo 48 (.nck (.t 47)), oo 49 (.fadr 0 (.t 48)), oo 50 (.load false 1 (.t 49)), om 51 5, om 52 0, oo 53 (.nck (.t 52)), oo 54 (.fadr 0 (.t 53)), oo 55 (.load false 1 (.t 54)), oo 56 (.len (.t 55)), oo 57 (.bin .rem (.t 51) (.t 56)), oo 58 (.iadr 1 (.t 50) (.t 57)), oo 59 (.load false 1 (.t 58)), oo 60 (.cvt .i64 (.t 59)), oo 61 (.bin .mul (.t 60) (.c (ii 131))), om 62 0, oo 63 (.nck (.t 62)), oo 64 (.fadr 0 (.t 63)), oo 65 (.load false 1 (.t 64)), om 66 5, oo 67 (.bin .mul (.t 66) (.c (ii 7))), oo 68 (.bin .add (.t 67) (.c (ii 3))), om 69 0, oo 70 (.nck (.t 69)), oo 71 (.fadr 0 (.t 70)), oo 72 (.load false 1 (.t 71)), oo 73 (.len (.t 72)), oo 74 (.bin .rem (.t 68) (.t 73)), oo 75 (.iadr 1 (.t 65) (.t 74)), oo 76 (.load false 1 (.t 75)), oo 77 (.cvt .i64 (.t 76)), oo 78 (.bin .mul (.t 77) (.c (ii 1117))), oo 79 (.bin .add (.t 61) (.t 78)), om 80 5, oo 81 (.bin .mul (.t 80) (.c (ii 29))), oo 82 (.bin .add (.t 79) (.t 81)), om 83 5, om 84 0, oo 85 (.nck (.t 84)), oo 86 (.fadr 0 (.t 85)), oo 87 (.load false 1 (.t 86)), oo 88 (.len (.t 87)), oo 89 (.bin .quo (.t 83) (.t 88)), oo 90 (.bin .mul (.t 89) (.c (ii 53))), oo 91 (.bin .add (.t 82) (.t 90)), om 6 91]
def Lf67_r8 : List LOper := [om 92 6, om 93 6, oo 94 (.bin .quo (.t 93) (.c (ii 64))), oo 95 (.bin .xor (.t 92) (.t 94)), om 6 95]
def Lf67_r9 : List LOper := [om 96 6, om 97 1, oo 98 (.bin .rem (.t 96) (.t 97)), om 4 98]
def Lf67 : LFun := ⟨99, [(.tmp 4)], (.seq (.reg false Lf67_r0) (.seq (.reg false Lf67_r1) (.seq (.seq (.reg false Lf67_r2) (.cond (.t 24) (.seq (.reg false Lf67_r3) .ret) .skip)) (.seq (.reg false Lf67_r4) (.seq (.seq (.reg false Lf67_r5) (.cond (.t 36) (.seq (.reg false Lf67_r6) .ret) .skip)) (.seq (.reg true Lf67_r7) (.seq (.reg false Lf67_r8) (.seq (.reg false Lf67_r9) .ret))))))))⟩
theorem low___spec_l20Rd__pick : lowFun Go.Proofs.Try.prog 67 = some Lf67 := by kernel_rfl
noncomputable def F___spec_l20Rd__pick (x_r : Dl20Rd) (x_n : Int) : Option (Dl20Rd × Int) :=
 cond (decide (x_n < (1 : Int)))
  (some ((Dl20Rd.mk x_r.b (w64 (x_r.p + (1 : Int)))), (0 : Int)))
  (cond (decide ((((List.length x_r.b) : Nat) : Int) = (0 : Int)))
   (some ((Dl20Rd.mk x_r.b (w64 (x_r.p + (1 : Int)))), (0 : Int)))
   (cond (decide ((w64 ((w64 (x_r.p + (1 : Int))) - (1 : Int))) < (((List.length x_r.b) : Nat) : Int)))
    (grd ((0 : Int) ≤ (w64 ((w64 (x_r.p + (1 : Int))) - (1 : Int))) ∧ (w64 ((w64 (x_r.p + (1 : Int))) - (1 : Int))) < ((List.length x_r.b : Nat) : Int)) (grd (x_n ≠ 0) (some ((Dl20Rd.mk x_r.b (w64 (x_r.p + (1 : Int)))), (Int.tmod (IntKind.wrap .i64 (List.getD x_r.b (Int.toNat (w64 ((w64 (x_r.p + (1 : Int))) - (1 : Int)))) default)) x_n)))))
    (grd ((((List.length x_r.b) : Nat) : Int) ≠ 0) (grd ((0 : Int) ≤ (Int.tmod (w64 ((w64 (x_r.p + (1 : Int))) - (1 : Int))) (((List.length x_r.b) : Nat) : Int)) ∧ (Int.tmod (w64 ((w64 (x_r.p + (1 : Int))) - (1 : Int))) (((List.length x_r.b) : Nat) : Int)) < ((List.length x_r.b : Nat) : Int)) (grd ((((List.length x_r.b) : Nat) : Int) ≠ 0) (grd ((0 : Int) ≤ (Int.tmod (w64 ((w64 ((w64 ((w64 (x_r.p + (1 : Int))) - (1 : Int))) * (7 : Int))) + (3 : Int))) (((List.length x_r.b) : Nat) : Int)) ∧ (Int.tmod (w64 ((w64 ((w64 ((w64 (x_r.p + (1 : Int))) - (1 : Int))) * (7 : Int))) + (3 : Int))) (((List.length x_r.b) : Nat) : Int)) < ((List.length x_r.b : Nat) : Int)) (grd ((((List.length x_r.b) : Nat) : Int) ≠ 0) (grd (x_n ≠ 0) (some ((Dl20Rd.mk x_r.b (w64 (x_r.p + (1 : Int)))), (Int.tmod (bits .xor .i64 (w64 ((w64 ((w64 ((w64 ((IntKind.wrap .i64 (List.getD x_r.b (Int.toNat (Int.tmod (w64 ((w64 (x_r.p + (1 : Int))) - (1 : Int))) (((List.length x_r.b) : Nat) : Int))) default)) * (131 : Int))) + (w64 ((IntKind.wrap .i64 (List.getD x_r.b (Int.toNat (Int.tmod (w64 ((w64 ((w64 ((w64 (x_r.p + (1 : Int))) - (1 : Int))) * (7 : Int))) + (3 : Int))) (((List.length x_r.b) : Nat) : Int))) default)) * (1117 : Int))))) + (w64 ((w64 ((w64 (x_r.p + (1 : Int))) - (1 : Int))) * (29 : Int))))) + (w64 ((w64 (Int.tdiv (w64 ((w64 (x_r.p + (1 : Int))) - (1 : Int))) (((List.length x_r.b) : Nat) : Int))) * (53 : Int))))) (w64 (Int.tdiv (w64 ((w64 ((w64 ((w64 ((IntKind.wrap .i64 (List.getD x_r.b (Int.toNat (Int.tmod (w64 ((w64 (x_r.p + (1 : Int))) - (1 : Int))) (((List.length x_r.b) : Nat) : Int))) default)) * (131 : Int))) + (w64 ((IntKind.wrap .i64 (List.getD x_r.b (Int.toNat (Int.tmod (w64 ((w64 ((w64 ((w64 (x_r.p + (1 : Int))) - (1 : Int))) * (7 : Int))) + (3 : Int))) (((List.length x_r.b) : Nat) : Int))) default)) * (1117 : Int))))) + (w64 ((w64 ((w64 (x_r.p + (1 : Int))) - (1 : Int))) * (29 : Int))))) + (w64 ((w64 (Int.tdiv (w64 ((w64 (x_r.p + (1 : Int))) - (1 : Int))) (((List.length x_r.b) : Nat) : Int))) * (53 : Int))))) (64 : Int)))) x_n)))))))))))
theorem __spec_l20Rd__pick_fn {x_r : Dl20Rd} {x_n : Int} {R_ : Dl20Rd × Int} (hh : F___spec_l20Rd__pick x_r x_n = some R_) : Inl Try.prog 67 [pp 0, .int .i64 x_n] [(0, some ⟨110, (B_110 x_r)⟩)] 1 (.int .i64 R_.2) [(0, some ⟨110, [bo (eI .u8) R_.1.b, .int .i64 R_.1.p]⟩)] 1 := by
 unfold F___spec_l20Rd__pick at hh
 refine Inl.start low___spec_l20Rd__pick [0, 1] [0] (E := sp 99 [(0, pp 0), (1, ii x_n)]) (H1 := [(0, some ⟨110, (B_110 x_r)⟩)]) (by kernel_rfl) (by kernel_rfl) ?_
 refine sy [0, 1] [0] (sp 99 [(0, pp 0), (1, ii x_n)]) [(0, some ⟨110, (B_110 x_r)⟩)] 1 ?_
 refine Aw.sreg [0, 1] [0] ?_
 let q1 : Root := ⟨110, [bo (eI .u8) x_r.b, ii (w64 (x_r.p + (1 : Int)))]⟩
 refine yt (sp 99 [(0, pp 0), (1, ii x_n)]) [(0, some q1)] 1 ?_
 refine Aw.seq ?_
 refine Aw.sreg [0, 1, 24] [0] (yj 3  (sp 99 [(0, pp 0), (1, ii x_n), (15, ii x_n), (16, bb (decide (x_n < (1 : Int)))), (17, bb (decide (x_n < (1 : Int))))]) [(0, some q1)] 1 ?_)
 rcases cond_some hh with ⟨hb, hh⟩ | ⟨hb, hh⟩
 · refine yb 16 hb ?_
   refine yb 17 hb ?_
   refine yt (sp 99 [(0, pp 0), (1, ii x_n), (24, bb true)]) [(0, some q1)] 1 ?_
   refine cT rfl ?_
   refine sy [4] [0] (sp 99 [(4, ii 0)]) [(0, some q1)] 1 ?_
   refine Aw.ret ?_
   refine then_r ?_
   rw [some_some hh]
   exact gives (r' := ii 0) (by kernel_rfl) (Ent.list2 [some 0] rfl rfl (by decide) (rens_1 ren_i) (hq q1 (rens_c (ren_bor (rens_same (noRefs_fl nr_eI))) (rens_i rens_n)) hs_nil))
 refine yb 16 hb ?_
 refine yb 17 hb ?_
 refine yt (sp 99 [(0, pp 0), (1, ii x_n), (24, bb (decide ((((List.length x_r.b) : Nat) : Int) = (0 : Int))))]) [(0, some q1)] 1 ?_
 rcases cond_some hh with ⟨hb, hh⟩ | ⟨hb, hh⟩
 · refine cT hb ?_
   refine sy [4] [0] (sp 99 [(4, ii 0)]) [(0, some q1)] 1 ?_
   refine Aw.ret ?_
   refine then_r ?_
   rw [some_some hh]
   exact gives (r' := ii 0) (by kernel_rfl) (Ent.list2 [some 0] rfl rfl (by decide) (rens_1 ren_i) (hq q1 (rens_c (ren_bor (rens_same (noRefs_fl nr_eI))) (rens_i rens_n)) hs_nil))
 refine cF hb ?_
 refine Aw.xskip (fun _ _ _ hq => then_m hq) ?_
 refine sy [0, 1, 5] [0] (sp 99 [(0, pp 0), (1, ii x_n), (5, ii (w64 ((w64 (x_r.p + (1 : Int))) - (1 : Int))))]) [(0, some q1)] 1 ?_
 refine Aw.seq ?_
 refine sy [0, 1, 5, 36] [0] (sp 99 [(0, pp 0), (1, ii x_n), (5, ii (w64 ((w64 (x_r.p + (1 : Int))) - (1 : Int)))), (36, bb (decide ((w64 ((w64 (x_r.p + (1 : Int))) - (1 : Int))) < (((List.length x_r.b) : Nat) : Int))))]) [(0, some q1)] 1 ?_
 rcases cond_some hh with ⟨hb, hh⟩ | ⟨hb, hh⟩
 · refine cT hb ?_
   refine Aw.sreg [4] [0] (yu 5 [(37, pp 0), (38, pp 0), (39, pp 0), (40, bo (eI .u8) x_r.b), (41, ii (w64 ((w64 (x_r.p + (1 : Int))) - (1 : Int))))] [(0, some q1)] 1 ?_)
   obtain ⟨hg7, hh⟩ := grd_some hh
   refine ys (.iadr 1 (.t 40) (.t 41)) (some 42) (op_iadr (kd := .i64) (c := (eI .u8)) (xs := x_r.b) len_eI (by decide) (by kernel_rfl) (by kernel_rfl) hg7 ?_)
   refine ys (.load false 1 (.t 42)) (some 43) (op_loadb (c := (eI .u8)) (xs := x_r.b) (o := Int.toNat (w64 ((w64 (x_r.p + (1 : Int))) - (1 : Int))) * 1) (i := (Int.toNat (w64 ((w64 (x_r.p + (1 : Int))) - (1 : Int))))) (off := 0) (v := .int .u8 (List.getD x_r.b (Int.toNat (w64 ((w64 (x_r.p + (1 : Int))) - (1 : Int)))) default)) len_eI (by kernel_rfl) (by omega) (by omega) (by decide) (by kernel_rfl) ?_)
   obtain ⟨hg8, hh⟩ := grd_some hh
   refine ytc [x_n ≠ 0] (sp 99 [(4, ii (Int.tmod (IntKind.wrap .i64 (List.getD x_r.b (Int.toNat (w64 ((w64 (x_r.p + (1 : Int))) - (1 : Int)))) default)) x_n))]) [(0, some q1)] 1 (.cons hg8 .nil) ?_
   refine Aw.ret ?_
   refine then_r ?_
   rw [some_some hh]
   exact gives (r' := ii (Int.tmod (IntKind.wrap .i64 (List.getD x_r.b (Int.toNat (w64 ((w64 (x_r.p + (1 : Int))) - (1 : Int)))) default)) x_n)) (by kernel_rfl) (Ent.list2 [some 0] rfl rfl (by decide) (rens_1 ren_i) (hq q1 (rens_c (ren_bor (rens_same (noRefs_fl nr_eI))) (rens_i rens_n)) hs_nil))
 refine cF hb ?_
 refine Aw.xskip (fun _ _ _ hq => then_m hq) ?_
 refine Aw.sregq [1, 6] ?_
 obtain ⟨hg20, hh⟩ := grd_some hh
 refine qc (cs := [(((List.length x_r.b) : Nat) : Int) ≠ 0]) (E' := (sp 99 [(0, pp 0), (1, ii x_n), (5, ii (w64 ((w64 (x_r.p + (1 : Int))) - (1 : Int)))), (36, bb (decide ((w64 ((w64 (x_r.p + (1 : Int))) - (1 : Int))) < (((List.length x_r.b) : Nat) : Int)))), (47, pp 0), (48, pp 0), (49, pp 0), (50, bo (eI .u8) x_r.b), (51, ii (w64 ((w64 (x_r.p + (1 : Int))) - (1 : Int)))), (52, pp 0), (53, pp 0), (54, pp 0), (55, bo (eI .u8) x_r.b), (56, ii (((List.length x_r.b) : Nat) : Int)), (57, ii (Int.tmod (w64 ((w64 (x_r.p + (1 : Int))) - (1 : Int))) (((List.length x_r.b) : Nat) : Int)))])) (pre := (List.take 11 Lf67_r7)) (L' := (List.drop 11 Lf67_r7)) (by kernel_rfl) (fun K => by kernel_rfl) (.cons hg20 .nil) ?_
 obtain ⟨hg14, hh⟩ := grd_some hh
 refine qs (.iadr 1 (.t 50) (.t 57)) (some 58) (yq_q rfl (op_iadr (kd := .i64) (c := (eI .u8)) (xs := x_r.b) len_eI (by decide) (by kernel_rfl) (by kernel_rfl) hg14 ?_))
 refine qs (.load false 1 (.t 58)) (some 59) (yq_q rfl (op_loadb (c := (eI .u8)) (xs := x_r.b) (o := Int.toNat (Int.tmod (w64 ((w64 (x_r.p + (1 : Int))) - (1 : Int))) (((List.length x_r.b) : Nat) : Int)) * 1) (i := (Int.toNat (Int.tmod (w64 ((w64 (x_r.p + (1 : Int))) - (1 : Int))) (((List.length x_r.b) : Nat) : Int)))) (off := 0) (v := .int .u8 (List.getD x_r.b (Int.toNat (Int.tmod (w64 ((w64 (x_r.p + (1 : Int))) - (1 : Int))) (((List.length x_r.b) : Nat) : Int))) default)) len_eI (by kernel_rfl) (by omega) (by omega) (by decide) (by kernel_rfl) ?_))
 obtain ⟨hg19, hh⟩ := grd_some hh
 refine qc (cs := [(((List.length x_r.b) : Nat) : Int) ≠ 0]) (E' := (sp 99 [(0, pp 0), (1, ii x_n), (5, ii (w64 ((w64 (x_r.p + (1 : Int))) - (1 : Int)))), (36, bb (decide ((w64 ((w64 (x_r.p + (1 : Int))) - (1 : Int))) < (((List.length x_r.b) : Nat) : Int)))), (47, pp 0), (48, pp 0), (49, pp 0), (50, bo (eI .u8) x_r.b), (51, ii (w64 ((w64 (x_r.p + (1 : Int))) - (1 : Int)))), (52, pp 0), (53, pp 0), (54, pp 0), (55, bo (eI .u8) x_r.b), (56, ii (((List.length x_r.b) : Nat) : Int)), (57, ii (Int.tmod (w64 ((w64 (x_r.p + (1 : Int))) - (1 : Int))) (((List.length x_r.b) : Nat) : Int))), (58, .bptr (fl (eI .u8) x_r.b) (Int.toNat (Int.tmod (w64 ((w64 (x_r.p + (1 : Int))) - (1 : Int))) (((List.length x_r.b) : Nat) : Int)) * 1)), (59, .int .u8 (List.getD x_r.b (Int.toNat (Int.tmod (w64 ((w64 (x_r.p + (1 : Int))) - (1 : Int))) (((List.length x_r.b) : Nat) : Int))) default)), (60, ii (IntKind.wrap .i64 (List.getD x_r.b (Int.toNat (Int.tmod (w64 ((w64 (x_r.p + (1 : Int))) - (1 : Int))) (((List.length x_r.b) : Nat) : Int))) default))), (61, ii (w64 ((IntKind.wrap .i64 (List.getD x_r.b (Int.toNat (Int.tmod (w64 ((w64 (x_r.p + (1 : Int))) - (1 : Int))) (((List.length x_r.b) : Nat) : Int))) default)) * (131 : Int)))), (62, pp 0), (63, pp 0), (64, pp 0), (65, bo (eI .u8) x_r.b), (66, ii (w64 ((w64 (x_r.p + (1 : Int))) - (1 : Int)))), (67, ii (w64 ((w64 ((w64 (x_r.p + (1 : Int))) - (1 : Int))) * (7 : Int)))), (68, ii (w64 ((w64 ((w64 ((w64 (x_r.p + (1 : Int))) - (1 : Int))) * (7 : Int))) + (3 : Int)))), (69, pp 0), (70, pp 0), (71, pp 0), (72, bo (eI .u8) x_r.b), (73, ii (((List.length x_r.b) : Nat) : Int)), (74, ii (Int.tmod (w64 ((w64 ((w64 ((w64 (x_r.p + (1 : Int))) - (1 : Int))) * (7 : Int))) + (3 : Int))) (((List.length x_r.b) : Nat) : Int)))])) (pre := (List.take 15 (List.drop 13 Lf67_r7))) (L' := (List.drop 28 Lf67_r7)) (by kernel_rfl) (fun K => by kernel_rfl) (.cons hg19 .nil) ?_
 obtain ⟨hg15, hh⟩ := grd_some hh
 refine qs (.iadr 1 (.t 65) (.t 74)) (some 75) (yq_q rfl (op_iadr (kd := .i64) (c := (eI .u8)) (xs := x_r.b) len_eI (by decide) (by kernel_rfl) (by kernel_rfl) hg15 ?_))
 refine qs (.load false 1 (.t 75)) (some 76) (yq_q rfl (op_loadb (c := (eI .u8)) (xs := x_r.b) (o := Int.toNat (Int.tmod (w64 ((w64 ((w64 ((w64 (x_r.p + (1 : Int))) - (1 : Int))) * (7 : Int))) + (3 : Int))) (((List.length x_r.b) : Nat) : Int)) * 1) (i := (Int.toNat (Int.tmod (w64 ((w64 ((w64 ((w64 (x_r.p + (1 : Int))) - (1 : Int))) * (7 : Int))) + (3 : Int))) (((List.length x_r.b) : Nat) : Int)))) (off := 0) (v := .int .u8 (List.getD x_r.b (Int.toNat (Int.tmod (w64 ((w64 ((w64 ((w64 (x_r.p + (1 : Int))) - (1 : Int))) * (7 : Int))) + (3 : Int))) (((List.length x_r.b) : Nat) : Int))) default)) len_eI (by kernel_rfl) (by omega) (by omega) (by decide) (by kernel_rfl) ?_))
 obtain ⟨hg18, hh⟩ := grd_some hh
 refine qct (cs := [(((List.length x_r.b) : Nat) : Int) ≠ 0]) (E' := (sp 99 [(1, ii x_n), (6, ii (w64 ((w64 ((w64 ((w64 ((IntKind.wrap .i64 (List.getD x_r.b (Int.toNat (Int.tmod (w64 ((w64 (x_r.p + (1 : Int))) - (1 : Int))) (((List.length x_r.b) : Nat) : Int))) default)) * (131 : Int))) + (w64 ((IntKind.wrap .i64 (List.getD x_r.b (Int.toNat (Int.tmod (w64 ((w64 ((w64 ((w64 (x_r.p + (1 : Int))) - (1 : Int))) * (7 : Int))) + (3 : Int))) (((List.length x_r.b) : Nat) : Int))) default)) * (1117 : Int))))) + (w64 ((w64 ((w64 (x_r.p + (1 : Int))) - (1 : Int))) * (29 : Int))))) + (w64 ((w64 (Int.tdiv (w64 ((w64 (x_r.p + (1 : Int))) - (1 : Int))) (((List.length x_r.b) : Nat) : Int))) * (53 : Int))))))])) (fun K => by kernel_rfl) (.cons hg18 .nil) ?_
 refine Aw.sreg [1, 6] [0] ?_
 refine ytc [(64 : Int) ≠ 0] (sp 99 [(1, ii x_n), (6, ii (bits .xor .i64 (w64 ((w64 ((w64 ((w64 ((IntKind.wrap .i64 (List.getD x_r.b (Int.toNat (Int.tmod (w64 ((w64 (x_r.p + (1 : Int))) - (1 : Int))) (((List.length x_r.b) : Nat) : Int))) default)) * (131 : Int))) + (w64 ((IntKind.wrap .i64 (List.getD x_r.b (Int.toNat (Int.tmod (w64 ((w64 ((w64 ((w64 (x_r.p + (1 : Int))) - (1 : Int))) * (7 : Int))) + (3 : Int))) (((List.length x_r.b) : Nat) : Int))) default)) * (1117 : Int))))) + (w64 ((w64 ((w64 (x_r.p + (1 : Int))) - (1 : Int))) * (29 : Int))))) + (w64 ((w64 (Int.tdiv (w64 ((w64 (x_r.p + (1 : Int))) - (1 : Int))) (((List.length x_r.b) : Nat) : Int))) * (53 : Int))))) (w64 (Int.tdiv (w64 ((w64 ((w64 ((w64 ((IntKind.wrap .i64 (List.getD x_r.b (Int.toNat (Int.tmod (w64 ((w64 (x_r.p + (1 : Int))) - (1 : Int))) (((List.length x_r.b) : Nat) : Int))) default)) * (131 : Int))) + (w64 ((IntKind.wrap .i64 (List.getD x_r.b (Int.toNat (Int.tmod (w64 ((w64 ((w64 ((w64 (x_r.p + (1 : Int))) - (1 : Int))) * (7 : Int))) + (3 : Int))) (((List.length x_r.b) : Nat) : Int))) default)) * (1117 : Int))))) + (w64 ((w64 ((w64 (x_r.p + (1 : Int))) - (1 : Int))) * (29 : Int))))) + (w64 ((w64 (Int.tdiv (w64 ((w64 (x_r.p + (1 : Int))) - (1 : Int))) (((List.length x_r.b) : Nat) : Int))) * (53 : Int))))) (64 : Int)))))]) [(0, some q1)] 1 (.cons (by decide) .nil) ?_
 refine Aw.sreg [4] [0] ?_
 obtain ⟨hg17, hh⟩ := grd_some hh
 refine ytc [x_n ≠ 0] (sp 99 [(4, ii (Int.tmod (bits .xor .i64 (w64 ((w64 ((w64 ((w64 ((IntKind.wrap .i64 (List.getD x_r.b (Int.toNat (Int.tmod (w64 ((w64 (x_r.p + (1 : Int))) - (1 : Int))) (((List.length x_r.b) : Nat) : Int))) default)) * (131 : Int))) + (w64 ((IntKind.wrap .i64 (List.getD x_r.b (Int.toNat (Int.tmod (w64 ((w64 ((w64 ((w64 (x_r.p + (1 : Int))) - (1 : Int))) * (7 : Int))) + (3 : Int))) (((List.length x_r.b) : Nat) : Int))) default)) * (1117 : Int))))) + (w64 ((w64 ((w64 (x_r.p + (1 : Int))) - (1 : Int))) * (29 : Int))))) + (w64 ((w64 (Int.tdiv (w64 ((w64 (x_r.p + (1 : Int))) - (1 : Int))) (((List.length x_r.b) : Nat) : Int))) * (53 : Int))))) (w64 (Int.tdiv (w64 ((w64 ((w64 ((w64 ((IntKind.wrap .i64 (List.getD x_r.b (Int.toNat (Int.tmod (w64 ((w64 (x_r.p + (1 : Int))) - (1 : Int))) (((List.length x_r.b) : Nat) : Int))) default)) * (131 : Int))) + (w64 ((IntKind.wrap .i64 (List.getD x_r.b (Int.toNat (Int.tmod (w64 ((w64 ((w64 ((w64 (x_r.p + (1 : Int))) - (1 : Int))) * (7 : Int))) + (3 : Int))) (((List.length x_r.b) : Nat) : Int))) default)) * (1117 : Int))))) + (w64 ((w64 ((w64 (x_r.p + (1 : Int))) - (1 : Int))) * (29 : Int))))) + (w64 ((w64 (Int.tdiv (w64 ((w64 (x_r.p + (1 : Int))) - (1 : Int))) (((List.length x_r.b) : Nat) : Int))) * (53 : Int))))) (64 : Int)))) x_n))]) [(0, some q1)] 1 (.cons hg17 .nil) ?_
 refine Aw.ret ?_
 rw [some_some hh]
 exact gives (r' := ii (Int.tmod (bits .xor .i64 (w64 ((w64 ((w64 ((w64 ((IntKind.wrap .i64 (List.getD x_r.b (Int.toNat (Int.tmod (w64 ((w64 (x_r.p + (1 : Int))) - (1 : Int))) (((List.length x_r.b) : Nat) : Int))) default)) * (131 : Int))) + (w64 ((IntKind.wrap .i64 (List.getD x_r.b (Int.toNat (Int.tmod (w64 ((w64 ((w64 ((w64 (x_r.p + (1 : Int))) - (1 : Int))) * (7 : Int))) + (3 : Int))) (((List.length x_r.b) : Nat) : Int))) default)) * (1117 : Int))))) + (w64 ((w64 ((w64 (x_r.p + (1 : Int))) - (1 : Int))) * (29 : Int))))) + (w64 ((w64 (Int.tdiv (w64 ((w64 (x_r.p + (1 : Int))) - (1 : Int))) (((List.length x_r.b) : Nat) : Int))) * (53 : Int))))) (w64 (Int.tdiv (w64 ((w64 ((w64 ((w64 ((IntKind.wrap .i64 (List.getD x_r.b (Int.toNat (Int.tmod (w64 ((w64 (x_r.p + (1 : Int))) - (1 : Int))) (((List.length x_r.b) : Nat) : Int))) default)) * (131 : Int))) + (w64 ((IntKind.wrap .i64 (List.getD x_r.b (Int.toNat (Int.tmod (w64 ((w64 ((w64 ((w64 (x_r.p + (1 : Int))) - (1 : Int))) * (7 : Int))) + (3 : Int))) (((List.length x_r.b) : Nat) : Int))) default)) * (1117 : Int))))) + (w64 ((w64 ((w64 (x_r.p + (1 : Int))) - (1 : Int))) * (29 : Int))))) + (w64 ((w64 (Int.tdiv (w64 ((w64 (x_r.p + (1 : Int))) - (1 : Int))) (((List.length x_r.b) : Nat) : Int))) * (53 : Int))))) (64 : Int)))) x_n)) (by kernel_rfl) (Ent.list2 [some 0] rfl rfl (by decide) (rens_1 ren_i) (hq q1 (rens_c (ren_bor (rens_same (noRefs_fl nr_eI))) (rens_i rens_n)) hs_nil))
end Go.Proofs.Ytbogmfjpabfhpaa
