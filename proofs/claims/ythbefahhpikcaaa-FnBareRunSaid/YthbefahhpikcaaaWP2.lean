/- Plain functions of the program, and that it hands back what they say. Made by program. -/
import Derived.Test.YthbefahhpikcaaaWT
import Derived.Test.YthbefahhpikcaaaProg
import Derived.Test.YthbefahhpikcaaaWO1
import Derived.Test.YthbefahhpikcaaaWP1
import Derived.Test.YthbefahhpikcaaaWV1
namespace Go.Proofs.Ythbefahhpikcaaa
open Go.RowKit
set_option maxRecDepth 100000
set_option linter.all false
set_option maxHeartbeats 0
def Lf76_r0 : List LOper := [oo 4 (.box 39 (.t 0)), oo 7 (.box 76 (.t 3)), oo 8 (.fresh 39 [.nil, (ii 0), (ii 0), (ii 0), (ii 0), (bb false), (ii 0), (ii 0), (ii 0), (bb false), (bb false), (bb false), (bb false)]), oo 9 (.mv (.c .nil)), oo 10 (.mv (.c .nil))]
def Lf76_r1 : List LOper := [oo 13 (.fadr 1 (.t 4)), oo 14 (.load false 1 (.t 13)), oo 15 (.bin .add (.t 14) (.c (ii 1))), oo 16 (.bin .rem (.t 15) (.c (ii 64))), om 11 16]
def Lf76_r2 : List LOper := [oo 17 (.fadr 0 (.t 7)), oo 18 (.load false 1 (.t 17))]
def Lf76_r3 : List LOper := [oo 20 (.bin .eql (.t 18) (.c (ii 0))), om 19 20]
def Lf76_r4 : List LOper := [oo 21 (.fadr 12 (.t 4)), ⟨none, (.store 1 (.t 21) (.c (bb true))), none⟩]
def Lf76_r5 : List LOper := [oo 22 (.load true 13 (.t 4)), om 23 1, om 24 2, ⟨none, (.store 13 (.t 8) (.t 22)), none⟩, om 9 23, om 10 24]
def Lf76_r6 : List LOper := [oo 26 (.bin .eql (.t 18) (.c (ii 8))), om 25 26]
def Lf76_r7 : List LOper := [oo 27 (.fadr 2 (.t 4)), ⟨none, (.store 1 (.t 27) (.c (ii (-1)))), none⟩]
def Lf76_r8 : List LOper := [oo 28 (.fadr 0 (.t 4)), oo 29 (.load false 1 (.t 28)), oo 30 (.fadr 1 (.t 7)), oo 31 (.load false 1 (.t 30)), oo 32 (.iadr 1 (.t 29) (.t 31)), oo 33 (.load false 1 (.t 32)), oo 34 (.bin .rem (.t 33) (.c (ii 16))), oo 35 (.bin .lss (.t 34) (.c (ii 8)))]
def Lf76_r9 : List LOper := [oo 36 (.fadr 0 (.t 4)), oo 37 (.load false 1 (.t 36)), oo 38 (.fadr 1 (.t 7)), oo 39 (.load false 1 (.t 38)), oo 40 (.iadr 1 (.t 37) (.t 39)), oo 41 (.load false 1 (.t 40)), oo 42 (.bin .rem (.t 41) (.c (ii 16))), oo 43 (.fadr 2 (.t 4)), ⟨none, (.store 1 (.t 43) (.t 42)), none⟩]
def Lf76_r10 : List LOper := [oo 45 (.bin .eql (.t 18) (.c (ii 9))), om 44 45]
def Lf76_r11 : List LOper := [oo 46 (.fadr 0 (.t 4)), oo 47 (.load false 1 (.t 46)), oo 48 (.fadr 1 (.t 7)), oo 49 (.load false 1 (.t 48)), oo 50 (.iadr 1 (.t 47) (.t 49)), oo 51 (.load false 1 (.t 50)), oo 52 (.bin .rem (.t 51) (.c (ii 64))), oo 53 (.fadr 3 (.t 4)), ⟨none, (.store 1 (.t 53) (.t 52)), none⟩]
def Lf76_r12 : List LOper := [oo 55 (.bin .eql (.t 18) (.c (ii 10))), om 54 55]
def Lf76_r13 : List LOper := [oo 56 (.fadr 0 (.t 4)), oo 57 (.load false 1 (.t 56)), oo 58 (.fadr 1 (.t 7)), oo 59 (.load false 1 (.t 58)), oo 60 (.iadr 1 (.t 57) (.t 59)), oo 61 (.load false 1 (.t 60)), oo 62 (.fadr 8 (.t 4)), ⟨none, (.store 1 (.t 62) (.t 61)), none⟩]
def Lf76_r14 : List LOper := [oo 64 (.bin .eql (.t 18) (.c (ii 11))), om 63 64]
def Lf76_r15 : List LOper := [oo 65 (.fadr 4 (.t 4)), oo 66 (.load false 1 (.t 65)), om 11 66]
def Lf76_r16 : List LOper := [oo 67 (.fadr 5 (.t 4)), oo 68 (.load false 1 (.t 67)), oo 69 (.fadr 10 (.t 4)), ⟨none, (.store 1 (.t 69) (.t 68)), none⟩]
def Lf76_r17 : List LOper := [oo 70 (.fadr 11 (.t 4)), ⟨none, (.store 1 (.t 70) (.c (bb true))), none⟩]
def Lf76_r18 : List LOper := [oo 72 (.bin .eql (.t 18) (.c (ii 12))), om 71 72]
def Lf76_r19 : List LOper := [oo 73 (.fadr 2 (.t 7)), oo 74 (.load false 1 (.t 73)), oo 75 (.bin .rem (.t 74) (.c (ii 2))), oo 76 (.bin .eql (.t 75) (.c (ii 1))), oo 77 (.fadr 11 (.t 4)), ⟨none, (.store 1 (.t 77) (.t 76)), none⟩]
def Lf76_r20 : List LOper := [oo 79 (.bin .eql (.t 18) (.c (ii 13))), om 78 79]
def Lf76_r21 : List LOper := [om 80 2, oo 81 (.len (.t 80)), oo 82 (.bin .lss (.t 81) (.c (ii 30)))]
def Lf76_r22 : List LOper := [om 83 2, oo 84 (.fadr 0 (.t 4)), oo 85 (.load false 1 (.t 84)), oo 86 (.fadr 1 (.t 7)), oo 87 (.load false 1 (.t 86)), oo 88 (.iadr 1 (.t 85) (.t 87)), oo 89 (.load false 1 (.t 88)), oo 90 (.bsl 3 1 1 [(ii 0)] [(0, (1, (.t 89)))]), oo 91 (.app 3 1 8 [(ii 0)] (.t 83) (.t 90)), om 2 91]
def Lf76_r23 : List LOper := [oo 93 (.bin .eql (.t 18) (.c (ii 14))), om 92 93]
def Lf76_r24 : List LOper := [oo 94 (.fadr 6 (.t 4)), oo 95 (.load false 1 (.t 94)), oo 96 (.fadr 7 (.t 4)), oo 97 (.load false 1 (.t 96)), oo 98 (.fadr 4 (.t 4)), oo 99 (.load false 1 (.t 98)), oo 100 (.bsl 3 1 4 [(ii 0)] [(0, (1, (.c (ii 0)))), (1, (1, (.t 95))), (2, (1, (.t 97))), (3, (1, (.t 99)))]), oo 101 (.fadr 2 (.t 7)), oo 102 (.load false 1 (.t 101)), oo 103 (.bin .rem (.t 102) (.c (ii 4))), oo 104 (.iadr 1 (.t 100) (.t 103)), oo 105 (.load false 1 (.t 104)), om 12 105]
def Lf76_r25 : List LOper := [oo 106 (.fadr 2 (.t 7)), oo 107 (.load false 1 (.t 106)), oo 108 (.bin .rem (.t 107) (.c (ii 4))), oo 109 (.bin .eql (.t 108) (.c (ii 0))), om 110 109, ⟨(some 111), (.mv (.t 1)), (some (110, true))⟩, ⟨(some 112), (.len (.t 111)), (some (110, true))⟩, ⟨(some 113), (.bin .gtr (.t 112) (.c (ii 0))), (some (110, true))⟩, oo 114 (.pick (.t 110) (.t 113) (.c (bb false)))]
def Lf76_r26 : List LOper := [om 115 1, oo 116 (.iadr 1 (.t 115) (.c (ii 0))), oo 117 (.load false 1 (.t 116)), om 12 117]
def Lf76_r27 : List LOper := [om 118 1, oo 119 (.slc 1 (.t 118) (some (.c (ii 1))) none), om 1 119]
def Lf76_r28 : List LOper := [oo 120 (.fadr 0 (.t 4)), oo 121 (.load false 1 (.t 120)), oo 122 (.fadr 1 (.t 7)), oo 123 (.load false 1 (.t 122)), om 124 12, oo 125 (.iadr 1 (.t 121) (.t 123)), ⟨none, (.store 1 (.t 125) (.t 124)), none⟩]
def Lf76_r29 : List LOper := [om 126 11, oo 127 (.fadr 1 (.t 4)), ⟨none, (.store 1 (.t 127) (.t 126)), none⟩]
def Lf76_r30 : List LOper := [oo 128 (.load true 13 (.t 4)), om 129 1, om 130 2, ⟨none, (.store 13 (.t 8) (.t 128)), none⟩, om 9 129, om 10 130]
def Lf76 : LFun := ⟨131, [(.cell 8 true 13), (.tmp 9), (.tmp 10)], (.seq (.reg false Lf76_r0) (.seq (.reg false Lf76_r1) (.seq (.seq (.reg false Lf76_r2) (.block 0 (.seq (.reg false Lf76_r3) (.cond (.t 19) (.seq (.reg false Lf76_r4) (.seq (.reg false Lf76_r5) .ret)) (.seq (.reg false Lf76_r6) (.cond (.t 25) (.seq (.reg false Lf76_r7) (.seq (.reg false Lf76_r8) (.cond (.t 35) (.reg false Lf76_r9) .skip))) (.seq (.reg false Lf76_r10) (.cond (.t 44) (.reg false Lf76_r11) (.seq (.reg false Lf76_r12) (.cond (.t 54) (.reg false Lf76_r13) (.seq (.reg false Lf76_r14) (.cond (.t 63) (.seq (.reg false Lf76_r15) (.seq (.reg false Lf76_r16) (.reg false Lf76_r17))) (.seq (.reg false Lf76_r18) (.cond (.t 71) (.reg false Lf76_r19) (.seq (.reg false Lf76_r20) (.cond (.t 78) (.seq (.reg false Lf76_r21) (.cond (.t 82) (.reg false Lf76_r22) .skip)) (.seq (.reg false Lf76_r23) (.cond (.t 92) (.seq (.reg false Lf76_r24) (.seq (.seq (.reg false Lf76_r25) (.cond (.t 114) (.seq (.reg false Lf76_r26) (.reg false Lf76_r27)) .skip)) (.reg false Lf76_r28))) .skip)))))))))))))))))) (.seq (.reg false Lf76_r29) (.seq (.reg false Lf76_r30) .ret)))))⟩
theorem low_spec_l3Kernel : lowFun Go.Proofs.Try.prog 76 = some Lf76 := by kernel_rfl
noncomputable def F_spec_l3Kernel_j1 (x_c : DCore) (s1 : Int × Int × Int × Bool × Bool × Int × (List Int) × (List Int) × (List Int)) : Option (DCore × (List Int) × (List Int)) :=
 some ((DCore.mk s1.2.2.2.2.2.2.2.2 s1.2.2.2.2.2.1 s1.1 s1.2.1 x_c.Saved x_c.SavedUser x_c.Cause x_c.Bad s1.2.2.1 x_c.Waits s1.2.2.2.1 s1.2.2.2.2.1 x_c.Stopped), s1.2.2.2.2.2.2.2.1, s1.2.2.2.2.2.2.1)
noncomputable def F_spec_l3Kernel_j2 (x_c : DCore) (x_out : List Int) (x_i : DIns) (s2 : (List Int) × Int) : Option (JO (Int × Int × Int × Bool × Bool × Int × (List Int) × (List Int) × (List Int)) (DCore × (List Int) × (List Int))) :=
 grd ((0 : Int) ≤ x_i.A ∧ x_i.A < (((List.length x_c.Regs) : Nat) : Int)) (some (.go (x_c.Root, x_c.Vector, x_c.Timer, x_c.User, x_c.On, (Int.tmod (w64 (x_c.Pc + (1 : Int))) (64 : Int)), x_out, s2.1, (List.set x_c.Regs (Int.toNat x_i.A) s2.2))))
noncomputable def F_spec_l3Kernel (x_c : DCore) (x_in : List Int) (x_out : List Int) (x_i : DIns) : Option (DCore × (List Int) × (List Int)) :=
 Option.bind (cond (decide (x_i.Op = (0 : Int)))
  (some (.out ((DCore.mk x_c.Regs x_c.Pc x_c.Root x_c.Vector x_c.Saved x_c.SavedUser x_c.Cause x_c.Bad x_c.Timer x_c.Waits x_c.User x_c.On true), x_in, x_out)))
  (cond (decide (x_i.Op = (8 : Int)))
   (grd ((0 : Int) ≤ x_i.A ∧ x_i.A < (((List.length x_c.Regs) : Nat) : Int)) (cond (decide ((Int.tmod (List.getD x_c.Regs (Int.toNat x_i.A) default) (16 : Int)) < (8 : Int)))
    (grd ((0 : Int) ≤ x_i.A ∧ x_i.A < (((List.length x_c.Regs) : Nat) : Int)) (some (.go ((Int.tmod (List.getD x_c.Regs (Int.toNat x_i.A) default) (16 : Int)), x_c.Vector, x_c.Timer, x_c.User, x_c.On, (Int.tmod (w64 (x_c.Pc + (1 : Int))) (64 : Int)), x_out, x_in, x_c.Regs))))
    (some (.go ((-1 : Int), x_c.Vector, x_c.Timer, x_c.User, x_c.On, (Int.tmod (w64 (x_c.Pc + (1 : Int))) (64 : Int)), x_out, x_in, x_c.Regs)))))
   (cond (decide (x_i.Op = (9 : Int)))
    (grd ((0 : Int) ≤ x_i.A ∧ x_i.A < (((List.length x_c.Regs) : Nat) : Int)) (some (.go (x_c.Root, (Int.tmod (List.getD x_c.Regs (Int.toNat x_i.A) default) (64 : Int)), x_c.Timer, x_c.User, x_c.On, (Int.tmod (w64 (x_c.Pc + (1 : Int))) (64 : Int)), x_out, x_in, x_c.Regs))))
    (cond (decide (x_i.Op = (10 : Int)))
     (grd ((0 : Int) ≤ x_i.A ∧ x_i.A < (((List.length x_c.Regs) : Nat) : Int)) (some (.go (x_c.Root, x_c.Vector, (List.getD x_c.Regs (Int.toNat x_i.A) default), x_c.User, x_c.On, (Int.tmod (w64 (x_c.Pc + (1 : Int))) (64 : Int)), x_out, x_in, x_c.Regs))))
     (cond (decide (x_i.Op = (11 : Int)))
      (some (.go (x_c.Root, x_c.Vector, x_c.Timer, x_c.SavedUser, true, x_c.Saved, x_out, x_in, x_c.Regs)))
      (cond (decide (x_i.Op = (12 : Int)))
       (some (.go (x_c.Root, x_c.Vector, x_c.Timer, x_c.User, (decide ((Int.tmod x_i.N (2 : Int)) = (1 : Int))), (Int.tmod (w64 (x_c.Pc + (1 : Int))) (64 : Int)), x_out, x_in, x_c.Regs)))
       (cond (decide (x_i.Op = (13 : Int)))
        (cond (decide ((((List.length x_out) : Nat) : Int) < (30 : Int)))
         (grd ((0 : Int) ≤ x_i.A ∧ x_i.A < (((List.length x_c.Regs) : Nat) : Int)) (grd ((List.length x_out + List.length ([(List.getD x_c.Regs (Int.toNat x_i.A) default)] : List Int)) * 8 ≤ 2 ^ 47 ∧ List.length x_out + List.length ([(List.getD x_c.Regs (Int.toNat x_i.A) default)] : List Int) ≤ 2 ^ 47) (some (.go (x_c.Root, x_c.Vector, x_c.Timer, x_c.User, x_c.On, (Int.tmod (w64 (x_c.Pc + (1 : Int))) (64 : Int)), (x_out ++ ([(List.getD x_c.Regs (Int.toNat x_i.A) default)] : List Int)), x_in, x_c.Regs)))))
         (some (.go (x_c.Root, x_c.Vector, x_c.Timer, x_c.User, x_c.On, (Int.tmod (w64 (x_c.Pc + (1 : Int))) (64 : Int)), x_out, x_in, x_c.Regs))))
        (cond (decide (x_i.Op = (14 : Int)))
         (grd ((0 : Int) ≤ (Int.tmod x_i.N (4 : Int)) ∧ (Int.tmod x_i.N (4 : Int)) < ((4 : Nat) : Int)) (Option.bind (cond (decide ((Int.tmod x_i.N (4 : Int)) = (0 : Int)))
          (cond (decide ((0 : Int) < (((List.length x_in) : Nat) : Int)))
           (grd ((0 : Int) ≤ (0 : Int) ∧ (0 : Int) < ((List.length x_in : Nat) : Int)) (grd ((0 : Int) ≤ (1 : Int) ∧ (1 : Int) ≤ ((List.length x_in : Nat) : Int) ∧ ((List.length x_in : Nat) : Int) ≤ ((List.length x_in : Nat) : Int)) (some (.go ((List.take (Int.toNat ((List.length x_in : Nat) : Int) - Int.toNat (1 : Int)) (List.drop (Int.toNat (1 : Int)) x_in)), (List.getD x_in (Int.toNat (0 : Int)) default))))))
           (some (.go (x_in, (List.getD ([(0 : Int), x_c.Cause, x_c.Bad, x_c.Saved] : List Int) (Int.toNat (Int.tmod x_i.N (4 : Int))) default)))))
          (some (.go (x_in, (List.getD ([(0 : Int), x_c.Cause, x_c.Bad, x_c.Saved] : List Int) (Int.toNat (Int.tmod x_i.N (4 : Int))) default))))) fun j2 =>
          JO.run j2 (F_spec_l3Kernel_j2 x_c x_out x_i)))
         (some (.go (x_c.Root, x_c.Vector, x_c.Timer, x_c.User, x_c.On, (Int.tmod (w64 (x_c.Pc + (1 : Int))) (64 : Int)), x_out, x_in, x_c.Regs))))))))))) fun j1 =>
  JO.run j1 (F_spec_l3Kernel_j1 x_c)
theorem spec_l3Kernel_fn {x_c : DCore} {x_in : List Int} {x_out : List Int} {x_i : DIns} {R_ : DCore × (List Int) × (List Int)} (hh : F_spec_l3Kernel x_c x_in x_out x_i = some R_) : Inl Try.prog 76 [.agg (.sref 0 [] 0 (List.length x_c.Regs) 1 :: ru39 x_c []), bo (eI .i64) x_in, .sref 1 [] 0 (List.length x_out) 1, .agg (C_76 x_i)] [(1, some ⟨3, (fl (eI .i64) x_out)⟩), (0, some ⟨3, (fl (eI .i64) x_c.Regs)⟩)] 2 (.tup [.agg (.sref 2 [] 0 (List.length R_.1.Regs) 1 :: ru39 R_.1 []), bo (eI .i64) R_.2.1, .sref 3 [] 0 (List.length R_.2.2) 1]) [(3, some ⟨3, (fl (eI .i64) R_.2.2)⟩), (2, some ⟨3, (fl (eI .i64) R_.1.Regs)⟩)] 4 := by
 unfold F_spec_l3Kernel at hh
 let q1 : Root := ⟨3, (fl (eI .i64) x_c.Regs)⟩
 let q2 : Root := ⟨3, (fl (eI .i64) x_out)⟩
 refine Inl.start low_spec_l3Kernel [0, 1, 2, 3] [0, 1] (E := sp 131 [(0, .agg (sw 0 x_c.Regs :: ru39 x_c [])), (1, bo (eI .i64) x_in), (2, sw 1 x_out), (3, .agg (C_76 x_i))]) (H1 := [(0, some q1), (1, some q2)]) (by kernel_rfl) (by kernel_rfl) ?_
 refine Aw.sreg [1, 2, 4, 7, 8] [0, 1, 2, 3, 4] ?_
 let q3 : Root := ⟨39, (sw 0 x_c.Regs :: ru39 x_c [])⟩
 refine yt (sp 131 [(1, bo (eI .i64) x_in), (2, sw 1 x_out), (4, pp 2), (7, pp 3), (8, pp 4)]) [(0, some q1), (1, some q2), (2, some q3), (3, some ⟨76, (C_76 x_i)⟩), (4, some ⟨39, (.nil :: zru39 [])⟩)] 5 ?_
 refine Aw.sreg [1, 2, 4, 7, 8, 11] [0, 1, 2, 3, 4] ?_
 refine ytc [(64 : Int) ≠ 0] (sp 131 [(1, bo (eI .i64) x_in), (2, sw 1 x_out), (4, pp 2), (7, pp 3), (8, pp 4), (11, ii (Int.tmod (w64 (x_c.Pc + (1 : Int))) (64 : Int)))]) [(0, some q1), (1, some q2), (2, some q3), (3, some ⟨76, (C_76 x_i)⟩), (4, some ⟨39, (.nil :: zru39 [])⟩)] 5 (.cons (by decide) .nil) ?_
 obtain ⟨j1, hh, hk1⟩ := bind_some hh
 refine Aw.join (S := Int × Int × Int × Bool × Bool × Int × (List Int) × (List Int) × (List Int)) (fun s1 => sp 131 [(1, bo (eI .i64) s1.2.2.2.2.2.2.2.1), (2, sw 3 s1.2.2.2.2.2.2.1), (4, pp 4), (8, pp 5), (11, ii s1.2.2.2.2.2.1)]) (fun s1 => [(2, some ⟨3, (fl (eI .i64) s1.2.2.2.2.2.2.2.2)⟩), (3, some ⟨3, (fl (eI .i64) s1.2.2.2.2.2.2.1)⟩), (4, some ⟨39, [sw 2 s1.2.2.2.2.2.2.2.2, ii x_c.Pc, ii s1.1, ii s1.2.1, ii x_c.Saved, bb x_c.SavedUser, ii x_c.Cause, ii x_c.Bad, ii s1.2.2.1, bb x_c.Waits, bb s1.2.2.2.1, bb s1.2.2.2.2.1, bb x_c.Stopped]⟩), (5, some ⟨39, (.nil :: zru39 [])⟩)]) 6 (fun s1 => F_spec_l3Kernel_j1 x_c s1 = some R_) ?_ ?_
 · intro s1 hh
   unfold F_spec_l3Kernel_j1 at hh
   refine Aw.sreg [1, 2, 4, 8] [2, 3, 4, 5] ?_
   let q4 : Root := ⟨3, (fl (eI .i64) s1.2.2.2.2.2.2.2.2)⟩
   let q5 : Root := ⟨3, (fl (eI .i64) s1.2.2.2.2.2.2.1)⟩
   let q6 : Root := ⟨39, [sw 2 s1.2.2.2.2.2.2.2.2, ii s1.2.2.2.2.2.1, ii s1.1, ii s1.2.1, ii x_c.Saved, bb x_c.SavedUser, ii x_c.Cause, ii x_c.Bad, ii s1.2.2.1, bb x_c.Waits, bb s1.2.2.2.1, bb s1.2.2.2.2.1, bb x_c.Stopped]⟩
   refine yt (sp 131 [(1, bo (eI .i64) s1.2.2.2.2.2.2.2.1), (2, sw 3 s1.2.2.2.2.2.2.1), (4, pp 4), (8, pp 5)]) [(2, some q4), (3, some q5), (4, some q6), (5, some ⟨39, (.nil :: zru39 [])⟩)] 6 ?_
   refine sy [8, 9, 10] [2, 3, 5] (sp 131 [(8, pp 5), (9, bo (eI .i64) s1.2.2.2.2.2.2.2.1), (10, sw 3 s1.2.2.2.2.2.2.1)]) [(2, some q4), (3, some q5), (5, some q6)] 6 ?_
   refine Aw.ret ?_
   rw [some_some hh]
   exact gives (r' := .tup [.agg [sw 2 s1.2.2.2.2.2.2.2.2, ii s1.2.2.2.2.2.1, ii s1.1, ii s1.2.1, ii x_c.Saved, bb x_c.SavedUser, ii x_c.Cause, ii x_c.Bad, ii s1.2.2.1, bb x_c.Waits, bb s1.2.2.2.1, bb s1.2.2.2.2.1, bb x_c.Stopped], bo (eI .i64) s1.2.2.2.2.2.2.2.1, sw 3 s1.2.2.2.2.2.2.1]) (by kernel_rfl) (Ent.list2 [some 0, some 1, some 2, some 3] rfl rfl (by decide) (rens_1 (ren_tup (rens_c (ren_agg (rens_c ren_sx (rens_i (rens_i (rens_i (rens_i (rens_b (rens_i (rens_i (rens_i (rens_b (rens_b (rens_b (rens_b rens_n)))))))))))))) (rens_c (ren_bor (rens_same (noRefs_fl nr_eI))) (rens_c ren_sx rens_n))))) (hq q5 (rens_same (noRefs_fl nr_eI)) (hq q4 (rens_same (noRefs_fl nr_eI)) hs_nil)))
 intro Q1 hN1 hR1 hE1
 refine sy [1, 2, 4, 7, 8, 11, 18] [0, 1, 2, 3, 4] (sp 131 [(1, bo (eI .i64) x_in), (2, sw 1 x_out), (4, pp 2), (7, pp 3), (8, pp 4), (11, ii (Int.tmod (w64 (x_c.Pc + (1 : Int))) (64 : Int))), (18, ii x_i.Op)]) [(0, some q1), (1, some q2), (2, some q3), (3, some ⟨76, (C_76 x_i)⟩), (4, some ⟨39, (.nil :: zru39 [])⟩)] 5 ?_
 refine Aw.block ?_
 refine sy [1, 2, 4, 7, 8, 11, 18, 19] [0, 1, 2, 3, 4] (sp 131 [(1, bo (eI .i64) x_in), (2, sw 1 x_out), (4, pp 2), (7, pp 3), (8, pp 4), (11, ii (Int.tmod (w64 (x_c.Pc + (1 : Int))) (64 : Int))), (18, ii x_i.Op), (19, bb (decide (x_i.Op = (0 : Int))))]) [(0, some q1), (1, some q2), (2, some q3), (3, some ⟨76, (C_76 x_i)⟩), (4, some ⟨39, (.nil :: zru39 [])⟩)] 5 ?_
 rcases cond_some hh with ⟨hb, hh⟩ | ⟨hb, hh⟩
 · refine cT hb ?_
   refine Aw.sreg [1, 2, 4, 8] [0, 1, 2, 4] ?_
   let q7 : Root := ⟨39, [sw 0 x_c.Regs, ii x_c.Pc, ii x_c.Root, ii x_c.Vector, ii x_c.Saved, bb x_c.SavedUser, ii x_c.Cause, ii x_c.Bad, ii x_c.Timer, bb x_c.Waits, bb x_c.User, bb x_c.On, bb true]⟩
   refine yt (sp 131 [(1, bo (eI .i64) x_in), (2, sw 1 x_out), (4, pp 2), (8, pp 4)]) [(0, some q1), (1, some q2), (2, some q7), (4, some ⟨39, (.nil :: zru39 [])⟩)] 5 ?_
   refine sy [8, 9, 10] [0, 1, 4] (sp 131 [(8, pp 4), (9, bo (eI .i64) x_in), (10, sw 1 x_out)]) [(0, some q1), (1, some q2), (4, some q7)] 5 ?_
   refine Aw.ret ?_
   refine blk_r ?_
   obtain rfl := some_some hh
   refine hR1 _ _ _ ?_
   refine ?_
   rw [some_some hk1]
   exact gives (r' := .tup [.agg [sw 0 x_c.Regs, ii x_c.Pc, ii x_c.Root, ii x_c.Vector, ii x_c.Saved, bb x_c.SavedUser, ii x_c.Cause, ii x_c.Bad, ii x_c.Timer, bb x_c.Waits, bb x_c.User, bb x_c.On, bb true], bo (eI .i64) x_in, sw 1 x_out]) (by kernel_rfl) (Ent.list2 [some 0, some 1, some 0, some 1] rfl rfl (by decide) (rens_1 (ren_tup (rens_c (ren_agg (rens_c ren_sx (rens_i (rens_i (rens_i (rens_i (rens_b (rens_i (rens_i (rens_i (rens_b (rens_b (rens_b (rens_b rens_n)))))))))))))) (rens_c (ren_bor (rens_same (noRefs_fl nr_eI))) (rens_c ren_sx rens_n))))) (hq q2 (rens_same (noRefs_fl nr_eI)) (hq q1 (rens_same (noRefs_fl nr_eI)) hs_nil)))
 refine cF hb ?_
 refine sy [1, 2, 4, 7, 8, 11, 18, 25] [0, 1, 2, 3, 4] (sp 131 [(1, bo (eI .i64) x_in), (2, sw 1 x_out), (4, pp 2), (7, pp 3), (8, pp 4), (11, ii (Int.tmod (w64 (x_c.Pc + (1 : Int))) (64 : Int))), (18, ii x_i.Op), (25, bb (decide (x_i.Op = (8 : Int))))]) [(0, some q1), (1, some q2), (2, some q3), (3, some ⟨76, (C_76 x_i)⟩), (4, some ⟨39, (.nil :: zru39 [])⟩)] 5 ?_
 rcases cond_some hh with ⟨hb, hh⟩ | ⟨hb, hh⟩
 · refine cT hb ?_
   refine Aw.sreg [1, 2, 4, 7, 8, 11] [0, 1, 2, 3, 4] ?_
   let q8 : Root := ⟨39, [sw 0 x_c.Regs, ii x_c.Pc, ii (-1), ii x_c.Vector, ii x_c.Saved, bb x_c.SavedUser, ii x_c.Cause, ii x_c.Bad, ii x_c.Timer, bb x_c.Waits, bb x_c.User, bb x_c.On, bb x_c.Stopped]⟩
   refine yt (sp 131 [(1, bo (eI .i64) x_in), (2, sw 1 x_out), (4, pp 2), (7, pp 3), (8, pp 4), (11, ii (Int.tmod (w64 (x_c.Pc + (1 : Int))) (64 : Int)))]) [(0, some q1), (1, some q2), (2, some q8), (3, some ⟨76, (C_76 x_i)⟩), (4, some ⟨39, (.nil :: zru39 [])⟩)] 5 ?_
   refine Aw.sreg [1, 2, 4, 7, 8, 11, 35] [0, 1, 2, 3, 4] ?_
   obtain ⟨hg60, hh⟩ := grd_some hh
   refine yjc 5 [(0 : Int) ≤ x_i.A ∧ x_i.A < (((List.length x_c.Regs) : Nat) : Int)] (sp 131 [(1, bo (eI .i64) x_in), (2, sw 1 x_out), (4, pp 2), (7, pp 3), (8, pp 4), (11, ii (Int.tmod (w64 (x_c.Pc + (1 : Int))) (64 : Int))), (28, pp 2), (29, sw 0 x_c.Regs), (30, .ptr 3 [] 1), (31, ii x_i.A), (32, .ptr 0 [] (0 + (Int.toNat x_i.A) * 1))]) [(0, some q1), (1, some q2), (2, some q8), (3, some ⟨76, (C_76 x_i)⟩), (4, some ⟨39, (.nil :: zru39 [])⟩)] 5 (.cons hg60 .nil) ?_
   refine ys (.load false 1 (.t 32)) (some 33) (op_load (c := (eI .i64)) (xs := x_c.Regs) (e := 3) (r := 0) (π := []) (o := 0 + (Int.toNat x_i.A) * 1) (i := (Int.toNat x_i.A)) (off := 0) (v := ii (List.getD x_c.Regs (Int.toNat x_i.A) default)) len_eI (by kernel_rfl) (by kernel_rfl) (by omega) (by omega) (by decide) (by kernel_rfl) ?_)
   refine ytc [(16 : Int) ≠ 0] (sp 131 [(1, bo (eI .i64) x_in), (2, sw 1 x_out), (4, pp 2), (7, pp 3), (8, pp 4), (11, ii (Int.tmod (w64 (x_c.Pc + (1 : Int))) (64 : Int))), (35, bb (decide ((Int.tmod (List.getD x_c.Regs (Int.toNat x_i.A) default) (16 : Int)) < (8 : Int))))]) [(0, some q1), (1, some q2), (2, some q8), (3, some ⟨76, (C_76 x_i)⟩), (4, some ⟨39, (.nil :: zru39 [])⟩)] 5 (.cons (by decide) .nil) ?_
   rcases cond_some hh with ⟨hb, hh⟩ | ⟨hb, hh⟩
   · refine cT hb ?_
     refine Aw.oreg ?_
     obtain ⟨hg59, hh⟩ := grd_some hh
     refine yjc 5 [(0 : Int) ≤ x_i.A ∧ x_i.A < (((List.length x_c.Regs) : Nat) : Int)] (sp 131 [(1, bo (eI .i64) x_in), (2, sw 1 x_out), (4, pp 2), (7, pp 3), (8, pp 4), (11, ii (Int.tmod (w64 (x_c.Pc + (1 : Int))) (64 : Int))), (35, bb (decide ((Int.tmod (List.getD x_c.Regs (Int.toNat x_i.A) default) (16 : Int)) < (8 : Int)))), (36, pp 2), (37, sw 0 x_c.Regs), (38, .ptr 3 [] 1), (39, ii x_i.A), (40, .ptr 0 [] (0 + (Int.toNat x_i.A) * 1))]) [(0, some q1), (1, some q2), (2, some q8), (3, some ⟨76, (C_76 x_i)⟩), (4, some ⟨39, (.nil :: zru39 [])⟩)] 5 (.cons hg59 .nil) ?_
     refine ys (.load false 1 (.t 40)) (some 41) (op_load (c := (eI .i64)) (xs := x_c.Regs) (e := 3) (r := 0) (π := []) (o := 0 + (Int.toNat x_i.A) * 1) (i := (Int.toNat x_i.A)) (off := 0) (v := ii (List.getD x_c.Regs (Int.toNat x_i.A) default)) len_eI (by kernel_rfl) (by kernel_rfl) (by omega) (by omega) (by decide) (by kernel_rfl) ?_)
     let q9 : Root := ⟨39, [sw 0 x_c.Regs, ii x_c.Pc, ii (Int.tmod (List.getD x_c.Regs (Int.toNat x_i.A) default) (16 : Int)), ii x_c.Vector, ii x_c.Saved, bb x_c.SavedUser, ii x_c.Cause, ii x_c.Bad, ii x_c.Timer, bb x_c.Waits, bb x_c.User, bb x_c.On, bb x_c.Stopped]⟩
     refine yec [(16 : Int) ≠ 0] (sp 131 [(1, bo (eI .i64) x_in), (2, sw 1 x_out), (4, pp 2), (7, pp 3), (8, pp 4), (11, ii (Int.tmod (w64 (x_c.Pc + (1 : Int))) (64 : Int))), (35, bb (decide ((Int.tmod (List.getD x_c.Regs (Int.toNat x_i.A) default) (16 : Int)) < (8 : Int)))), (36, pp 2), (37, sw 0 x_c.Regs), (38, .ptr 3 [] 1), (39, ii x_i.A), (40, .ptr 0 [] (0 + (Int.toNat x_i.A) * 1)), (41, ii (List.getD x_c.Regs (Int.toNat x_i.A) default)), (42, ii (Int.tmod (List.getD x_c.Regs (Int.toNat x_i.A) default) (16 : Int))), (43, .ptr 2 [] 2)]) [(2, some q9), (0, some q1), (1, some q2), (2, some q8), (3, some ⟨76, (C_76 x_i)⟩), (4, some ⟨39, (.nil :: zru39 [])⟩)] 5 (.cons (by decide) .nil) ?_
     refine blk_m ?_
     obtain rfl := some_some hh
     exact hN1 ((Int.tmod (List.getD x_c.Regs (Int.toNat x_i.A) default) (16 : Int)), x_c.Vector, x_c.Timer, x_c.User, x_c.On, (Int.tmod (w64 (x_c.Pc + (1 : Int))) (64 : Int)), x_out, x_in, x_c.Regs) _ _ _ hk1 (Ent.list2 [some 0, some 1, some 0, some 1, some 2, some 4] rfl rfl (by decide) (rens_sp (by kernel_rfl) (rl_c (u := bo (eI .i64) x_in) (by kernel_rfl) (ren_bor (rens_same (noRefs_fl nr_eI))) (rl_c (u := sw 1 x_out) (by kernel_rfl) ren_sx (rl_c (u := pp 2) (by kernel_rfl) (ren_p (by decide) rfl) (rl_c (u := pp 4) (by kernel_rfl) (ren_p (by decide) rfl) (rl_c (u := ii (Int.tmod (w64 (x_c.Pc + (1 : Int))) (64 : Int))) (by kernel_rfl) ren_i rl_n)))))) (hq q1 (rens_same (noRefs_fl nr_eI)) (hq q2 (rens_same (noRefs_fl nr_eI)) (hq q9 (rens_c ren_sx (rens_i (rens_i (rens_i (rens_i (rens_b (rens_i (rens_i (rens_i (rens_b (rens_b (rens_b (rens_b rens_n))))))))))))) (hq ⟨39, (.nil :: zru39 [])⟩ (rens_c ren_nil (rens_i (rens_i (rens_i (rens_i (rens_b (rens_i (rens_i (rens_i (rens_b (rens_b (rens_b (rens_b rens_n))))))))))))) hs_nil)))))
   refine cF hb ?_
   refine Aw.skip ?_
   refine blk_m ?_
   obtain rfl := some_some hh
   exact hN1 ((-1 : Int), x_c.Vector, x_c.Timer, x_c.User, x_c.On, (Int.tmod (w64 (x_c.Pc + (1 : Int))) (64 : Int)), x_out, x_in, x_c.Regs) _ _ _ hk1 (Ent.list2 [some 0, some 1, some 0, some 1, some 2, some 4] rfl rfl (by decide) (rens_sp (by kernel_rfl) (rl_c (u := bo (eI .i64) x_in) (by kernel_rfl) (ren_bor (rens_same (noRefs_fl nr_eI))) (rl_c (u := sw 1 x_out) (by kernel_rfl) ren_sx (rl_c (u := pp 2) (by kernel_rfl) (ren_p (by decide) rfl) (rl_c (u := pp 4) (by kernel_rfl) (ren_p (by decide) rfl) (rl_c (u := ii (Int.tmod (w64 (x_c.Pc + (1 : Int))) (64 : Int))) (by kernel_rfl) ren_i rl_n)))))) (hq q1 (rens_same (noRefs_fl nr_eI)) (hq q2 (rens_same (noRefs_fl nr_eI)) (hq q8 (rens_c ren_sx (rens_i (rens_i (rens_i (rens_i (rens_b (rens_i (rens_i (rens_i (rens_b (rens_b (rens_b (rens_b rens_n))))))))))))) (hq ⟨39, (.nil :: zru39 [])⟩ (rens_c ren_nil (rens_i (rens_i (rens_i (rens_i (rens_b (rens_i (rens_i (rens_i (rens_b (rens_b (rens_b (rens_b rens_n))))))))))))) hs_nil)))))
 refine cF hb ?_
 refine sy [1, 2, 4, 7, 8, 11, 18, 44] [0, 1, 2, 3, 4] (sp 131 [(1, bo (eI .i64) x_in), (2, sw 1 x_out), (4, pp 2), (7, pp 3), (8, pp 4), (11, ii (Int.tmod (w64 (x_c.Pc + (1 : Int))) (64 : Int))), (18, ii x_i.Op), (44, bb (decide (x_i.Op = (9 : Int))))]) [(0, some q1), (1, some q2), (2, some q3), (3, some ⟨76, (C_76 x_i)⟩), (4, some ⟨39, (.nil :: zru39 [])⟩)] 5 ?_
 rcases cond_some hh with ⟨hb, hh⟩ | ⟨hb, hh⟩
 · refine cT hb ?_
   refine Aw.oreg ?_
   obtain ⟨hg62, hh⟩ := grd_some hh
   refine yjc 5 [(0 : Int) ≤ x_i.A ∧ x_i.A < (((List.length x_c.Regs) : Nat) : Int)] (sp 131 [(1, bo (eI .i64) x_in), (2, sw 1 x_out), (4, pp 2), (7, pp 3), (8, pp 4), (11, ii (Int.tmod (w64 (x_c.Pc + (1 : Int))) (64 : Int))), (18, ii x_i.Op), (44, bb (decide (x_i.Op = (9 : Int)))), (46, pp 2), (47, sw 0 x_c.Regs), (48, .ptr 3 [] 1), (49, ii x_i.A), (50, .ptr 0 [] (0 + (Int.toNat x_i.A) * 1))]) [(0, some q1), (1, some q2), (2, some q3), (3, some ⟨76, (C_76 x_i)⟩), (4, some ⟨39, (.nil :: zru39 [])⟩)] 5 (.cons hg62 .nil) ?_
   refine ys (.load false 1 (.t 50)) (some 51) (op_load (c := (eI .i64)) (xs := x_c.Regs) (e := 3) (r := 0) (π := []) (o := 0 + (Int.toNat x_i.A) * 1) (i := (Int.toNat x_i.A)) (off := 0) (v := ii (List.getD x_c.Regs (Int.toNat x_i.A) default)) len_eI (by kernel_rfl) (by kernel_rfl) (by omega) (by omega) (by decide) (by kernel_rfl) ?_)
   let q10 : Root := ⟨39, [sw 0 x_c.Regs, ii x_c.Pc, ii x_c.Root, ii (Int.tmod (List.getD x_c.Regs (Int.toNat x_i.A) default) (64 : Int)), ii x_c.Saved, bb x_c.SavedUser, ii x_c.Cause, ii x_c.Bad, ii x_c.Timer, bb x_c.Waits, bb x_c.User, bb x_c.On, bb x_c.Stopped]⟩
   refine yec [(64 : Int) ≠ 0] (sp 131 [(1, bo (eI .i64) x_in), (2, sw 1 x_out), (4, pp 2), (7, pp 3), (8, pp 4), (11, ii (Int.tmod (w64 (x_c.Pc + (1 : Int))) (64 : Int))), (18, ii x_i.Op), (44, bb (decide (x_i.Op = (9 : Int)))), (46, pp 2), (47, sw 0 x_c.Regs), (48, .ptr 3 [] 1), (49, ii x_i.A), (50, .ptr 0 [] (0 + (Int.toNat x_i.A) * 1)), (51, ii (List.getD x_c.Regs (Int.toNat x_i.A) default)), (52, ii (Int.tmod (List.getD x_c.Regs (Int.toNat x_i.A) default) (64 : Int))), (53, .ptr 2 [] 3)]) [(2, some q10), (0, some q1), (1, some q2), (2, some q3), (3, some ⟨76, (C_76 x_i)⟩), (4, some ⟨39, (.nil :: zru39 [])⟩)] 5 (.cons (by decide) .nil) ?_
   refine blk_m ?_
   obtain rfl := some_some hh
   exact hN1 (x_c.Root, (Int.tmod (List.getD x_c.Regs (Int.toNat x_i.A) default) (64 : Int)), x_c.Timer, x_c.User, x_c.On, (Int.tmod (w64 (x_c.Pc + (1 : Int))) (64 : Int)), x_out, x_in, x_c.Regs) _ _ _ hk1 (Ent.list2 [some 0, some 1, some 0, some 1, some 2, some 4] rfl rfl (by decide) (rens_sp (by kernel_rfl) (rl_c (u := bo (eI .i64) x_in) (by kernel_rfl) (ren_bor (rens_same (noRefs_fl nr_eI))) (rl_c (u := sw 1 x_out) (by kernel_rfl) ren_sx (rl_c (u := pp 2) (by kernel_rfl) (ren_p (by decide) rfl) (rl_c (u := pp 4) (by kernel_rfl) (ren_p (by decide) rfl) (rl_c (u := ii (Int.tmod (w64 (x_c.Pc + (1 : Int))) (64 : Int))) (by kernel_rfl) ren_i rl_n)))))) (hq q1 (rens_same (noRefs_fl nr_eI)) (hq q2 (rens_same (noRefs_fl nr_eI)) (hq q10 (rens_c ren_sx (rens_i (rens_i (rens_i (rens_i (rens_b (rens_i (rens_i (rens_i (rens_b (rens_b (rens_b (rens_b rens_n))))))))))))) (hq ⟨39, (.nil :: zru39 [])⟩ (rens_c ren_nil (rens_i (rens_i (rens_i (rens_i (rens_b (rens_i (rens_i (rens_i (rens_b (rens_b (rens_b (rens_b rens_n))))))))))))) hs_nil)))))
 refine cF hb ?_
 refine sy [1, 2, 4, 7, 8, 11, 18, 54] [0, 1, 2, 3, 4] (sp 131 [(1, bo (eI .i64) x_in), (2, sw 1 x_out), (4, pp 2), (7, pp 3), (8, pp 4), (11, ii (Int.tmod (w64 (x_c.Pc + (1 : Int))) (64 : Int))), (18, ii x_i.Op), (54, bb (decide (x_i.Op = (10 : Int))))]) [(0, some q1), (1, some q2), (2, some q3), (3, some ⟨76, (C_76 x_i)⟩), (4, some ⟨39, (.nil :: zru39 [])⟩)] 5 ?_
 rcases cond_some hh with ⟨hb, hh⟩ | ⟨hb, hh⟩
 · refine cT hb ?_
   refine Aw.oreg ?_
   obtain ⟨hg64, hh⟩ := grd_some hh
   refine yjc 5 [(0 : Int) ≤ x_i.A ∧ x_i.A < (((List.length x_c.Regs) : Nat) : Int)] (sp 131 [(1, bo (eI .i64) x_in), (2, sw 1 x_out), (4, pp 2), (7, pp 3), (8, pp 4), (11, ii (Int.tmod (w64 (x_c.Pc + (1 : Int))) (64 : Int))), (18, ii x_i.Op), (54, bb (decide (x_i.Op = (10 : Int)))), (56, pp 2), (57, sw 0 x_c.Regs), (58, .ptr 3 [] 1), (59, ii x_i.A), (60, .ptr 0 [] (0 + (Int.toNat x_i.A) * 1))]) [(0, some q1), (1, some q2), (2, some q3), (3, some ⟨76, (C_76 x_i)⟩), (4, some ⟨39, (.nil :: zru39 [])⟩)] 5 (.cons hg64 .nil) ?_
   refine ys (.load false 1 (.t 60)) (some 61) (op_load (c := (eI .i64)) (xs := x_c.Regs) (e := 3) (r := 0) (π := []) (o := 0 + (Int.toNat x_i.A) * 1) (i := (Int.toNat x_i.A)) (off := 0) (v := ii (List.getD x_c.Regs (Int.toNat x_i.A) default)) len_eI (by kernel_rfl) (by kernel_rfl) (by omega) (by omega) (by decide) (by kernel_rfl) ?_)
   let q11 : Root := ⟨39, [sw 0 x_c.Regs, ii x_c.Pc, ii x_c.Root, ii x_c.Vector, ii x_c.Saved, bb x_c.SavedUser, ii x_c.Cause, ii x_c.Bad, ii (List.getD x_c.Regs (Int.toNat x_i.A) default), bb x_c.Waits, bb x_c.User, bb x_c.On, bb x_c.Stopped]⟩
   refine ye (sp 131 [(1, bo (eI .i64) x_in), (2, sw 1 x_out), (4, pp 2), (7, pp 3), (8, pp 4), (11, ii (Int.tmod (w64 (x_c.Pc + (1 : Int))) (64 : Int))), (18, ii x_i.Op), (54, bb (decide (x_i.Op = (10 : Int)))), (56, pp 2), (57, sw 0 x_c.Regs), (58, .ptr 3 [] 1), (59, ii x_i.A), (60, .ptr 0 [] (0 + (Int.toNat x_i.A) * 1)), (61, ii (List.getD x_c.Regs (Int.toNat x_i.A) default)), (62, .ptr 2 [] 8)]) [(2, some q11), (0, some q1), (1, some q2), (2, some q3), (3, some ⟨76, (C_76 x_i)⟩), (4, some ⟨39, (.nil :: zru39 [])⟩)] 5 ?_
   refine blk_m ?_
   obtain rfl := some_some hh
   exact hN1 (x_c.Root, x_c.Vector, (List.getD x_c.Regs (Int.toNat x_i.A) default), x_c.User, x_c.On, (Int.tmod (w64 (x_c.Pc + (1 : Int))) (64 : Int)), x_out, x_in, x_c.Regs) _ _ _ hk1 (Ent.list2 [some 0, some 1, some 0, some 1, some 2, some 4] rfl rfl (by decide) (rens_sp (by kernel_rfl) (rl_c (u := bo (eI .i64) x_in) (by kernel_rfl) (ren_bor (rens_same (noRefs_fl nr_eI))) (rl_c (u := sw 1 x_out) (by kernel_rfl) ren_sx (rl_c (u := pp 2) (by kernel_rfl) (ren_p (by decide) rfl) (rl_c (u := pp 4) (by kernel_rfl) (ren_p (by decide) rfl) (rl_c (u := ii (Int.tmod (w64 (x_c.Pc + (1 : Int))) (64 : Int))) (by kernel_rfl) ren_i rl_n)))))) (hq q1 (rens_same (noRefs_fl nr_eI)) (hq q2 (rens_same (noRefs_fl nr_eI)) (hq q11 (rens_c ren_sx (rens_i (rens_i (rens_i (rens_i (rens_b (rens_i (rens_i (rens_i (rens_b (rens_b (rens_b (rens_b rens_n))))))))))))) (hq ⟨39, (.nil :: zru39 [])⟩ (rens_c ren_nil (rens_i (rens_i (rens_i (rens_i (rens_b (rens_i (rens_i (rens_i (rens_b (rens_b (rens_b (rens_b rens_n))))))))))))) hs_nil)))))
 refine cF hb ?_
 refine sy [1, 2, 4, 7, 8, 11, 18, 63] [0, 1, 2, 3, 4] (sp 131 [(1, bo (eI .i64) x_in), (2, sw 1 x_out), (4, pp 2), (7, pp 3), (8, pp 4), (11, ii (Int.tmod (w64 (x_c.Pc + (1 : Int))) (64 : Int))), (18, ii x_i.Op), (63, bb (decide (x_i.Op = (11 : Int))))]) [(0, some q1), (1, some q2), (2, some q3), (3, some ⟨76, (C_76 x_i)⟩), (4, some ⟨39, (.nil :: zru39 [])⟩)] 5 ?_
 rcases cond_some hh with ⟨hb, hh⟩ | ⟨hb, hh⟩
 · refine cT hb ?_
   refine sy [1, 2, 4, 8, 11] [0, 1, 2, 4] (sp 131 [(1, bo (eI .i64) x_in), (2, sw 1 x_out), (4, pp 2), (8, pp 4), (11, ii x_c.Saved)]) [(0, some q1), (1, some q2), (2, some q3), (4, some ⟨39, (.nil :: zru39 [])⟩)] 5 ?_
   refine Aw.sreg [1, 2, 4, 8, 11] [0, 1, 2, 4] ?_
   let q12 : Root := ⟨39, [sw 0 x_c.Regs, ii x_c.Pc, ii x_c.Root, ii x_c.Vector, ii x_c.Saved, bb x_c.SavedUser, ii x_c.Cause, ii x_c.Bad, ii x_c.Timer, bb x_c.Waits, bb x_c.SavedUser, bb x_c.On, bb x_c.Stopped]⟩
   refine yt (sp 131 [(1, bo (eI .i64) x_in), (2, sw 1 x_out), (4, pp 2), (8, pp 4), (11, ii x_c.Saved)]) [(0, some q1), (1, some q2), (2, some q12), (4, some ⟨39, (.nil :: zru39 [])⟩)] 5 ?_
   refine Aw.oreg ?_
   let q13 : Root := ⟨39, [sw 0 x_c.Regs, ii x_c.Pc, ii x_c.Root, ii x_c.Vector, ii x_c.Saved, bb x_c.SavedUser, ii x_c.Cause, ii x_c.Bad, ii x_c.Timer, bb x_c.Waits, bb x_c.SavedUser, bb true, bb x_c.Stopped]⟩
   refine ye (sp 131 [(1, bo (eI .i64) x_in), (2, sw 1 x_out), (4, pp 2), (8, pp 4), (11, ii x_c.Saved), (70, .ptr 2 [] 11)]) [(2, some q13), (0, some q1), (1, some q2), (2, some q12), (4, some ⟨39, (.nil :: zru39 [])⟩)] 5 ?_
   refine blk_m ?_
   obtain rfl := some_some hh
   exact hN1 (x_c.Root, x_c.Vector, x_c.Timer, x_c.SavedUser, true, x_c.Saved, x_out, x_in, x_c.Regs) _ _ _ hk1 (Ent.list2 [some 0, some 1, some 0, some 1, some 2, some 4] rfl rfl (by decide) (rens_sp (by kernel_rfl) (rl_c (u := bo (eI .i64) x_in) (by kernel_rfl) (ren_bor (rens_same (noRefs_fl nr_eI))) (rl_c (u := sw 1 x_out) (by kernel_rfl) ren_sx (rl_c (u := pp 2) (by kernel_rfl) (ren_p (by decide) rfl) (rl_c (u := pp 4) (by kernel_rfl) (ren_p (by decide) rfl) (rl_c (u := ii x_c.Saved) (by kernel_rfl) ren_i rl_n)))))) (hq q1 (rens_same (noRefs_fl nr_eI)) (hq q2 (rens_same (noRefs_fl nr_eI)) (hq q13 (rens_c ren_sx (rens_i (rens_i (rens_i (rens_i (rens_b (rens_i (rens_i (rens_i (rens_b (rens_b (rens_b (rens_b rens_n))))))))))))) (hq ⟨39, (.nil :: zru39 [])⟩ (rens_c ren_nil (rens_i (rens_i (rens_i (rens_i (rens_b (rens_i (rens_i (rens_i (rens_b (rens_b (rens_b (rens_b rens_n))))))))))))) hs_nil)))))
 refine cF hb ?_
 refine sy [1, 2, 4, 7, 8, 11, 18, 71] [0, 1, 2, 3, 4] (sp 131 [(1, bo (eI .i64) x_in), (2, sw 1 x_out), (4, pp 2), (7, pp 3), (8, pp 4), (11, ii (Int.tmod (w64 (x_c.Pc + (1 : Int))) (64 : Int))), (18, ii x_i.Op), (71, bb (decide (x_i.Op = (12 : Int))))]) [(0, some q1), (1, some q2), (2, some q3), (3, some ⟨76, (C_76 x_i)⟩), (4, some ⟨39, (.nil :: zru39 [])⟩)] 5 ?_
 rcases cond_some hh with ⟨hb, hh⟩ | ⟨hb, hh⟩
 · refine cT hb ?_
   refine Aw.oreg ?_
   let q14 : Root := ⟨39, [sw 0 x_c.Regs, ii x_c.Pc, ii x_c.Root, ii x_c.Vector, ii x_c.Saved, bb x_c.SavedUser, ii x_c.Cause, ii x_c.Bad, ii x_c.Timer, bb x_c.Waits, bb x_c.User, bb (decide ((Int.tmod x_i.N (2 : Int)) = (1 : Int))), bb x_c.Stopped]⟩
   refine yec [(2 : Int) ≠ 0] (sp 131 [(1, bo (eI .i64) x_in), (2, sw 1 x_out), (4, pp 2), (7, pp 3), (8, pp 4), (11, ii (Int.tmod (w64 (x_c.Pc + (1 : Int))) (64 : Int))), (18, ii x_i.Op), (71, bb (decide (x_i.Op = (12 : Int)))), (73, .ptr 3 [] 2), (74, ii x_i.N), (75, ii (Int.tmod x_i.N (2 : Int))), (76, bb (decide ((Int.tmod x_i.N (2 : Int)) = (1 : Int)))), (77, .ptr 2 [] 11)]) [(2, some q14), (0, some q1), (1, some q2), (2, some q3), (3, some ⟨76, (C_76 x_i)⟩), (4, some ⟨39, (.nil :: zru39 [])⟩)] 5 (.cons (by decide) .nil) ?_
   refine blk_m ?_
   obtain rfl := some_some hh
   exact hN1 (x_c.Root, x_c.Vector, x_c.Timer, x_c.User, (decide ((Int.tmod x_i.N (2 : Int)) = (1 : Int))), (Int.tmod (w64 (x_c.Pc + (1 : Int))) (64 : Int)), x_out, x_in, x_c.Regs) _ _ _ hk1 (Ent.list2 [some 0, some 1, some 0, some 1, some 2, some 4] rfl rfl (by decide) (rens_sp (by kernel_rfl) (rl_c (u := bo (eI .i64) x_in) (by kernel_rfl) (ren_bor (rens_same (noRefs_fl nr_eI))) (rl_c (u := sw 1 x_out) (by kernel_rfl) ren_sx (rl_c (u := pp 2) (by kernel_rfl) (ren_p (by decide) rfl) (rl_c (u := pp 4) (by kernel_rfl) (ren_p (by decide) rfl) (rl_c (u := ii (Int.tmod (w64 (x_c.Pc + (1 : Int))) (64 : Int))) (by kernel_rfl) ren_i rl_n)))))) (hq q1 (rens_same (noRefs_fl nr_eI)) (hq q2 (rens_same (noRefs_fl nr_eI)) (hq q14 (rens_c ren_sx (rens_i (rens_i (rens_i (rens_i (rens_b (rens_i (rens_i (rens_i (rens_b (rens_b (rens_b (rens_b rens_n))))))))))))) (hq ⟨39, (.nil :: zru39 [])⟩ (rens_c ren_nil (rens_i (rens_i (rens_i (rens_i (rens_b (rens_i (rens_i (rens_i (rens_b (rens_b (rens_b (rens_b rens_n))))))))))))) hs_nil)))))
 refine cF hb ?_
 refine sy [1, 2, 4, 7, 8, 11, 18, 78] [0, 1, 2, 3, 4] (sp 131 [(1, bo (eI .i64) x_in), (2, sw 1 x_out), (4, pp 2), (7, pp 3), (8, pp 4), (11, ii (Int.tmod (w64 (x_c.Pc + (1 : Int))) (64 : Int))), (18, ii x_i.Op), (78, bb (decide (x_i.Op = (13 : Int))))]) [(0, some q1), (1, some q2), (2, some q3), (3, some ⟨76, (C_76 x_i)⟩), (4, some ⟨39, (.nil :: zru39 [])⟩)] 5 ?_
 rcases cond_some hh with ⟨hb, hh⟩ | ⟨hb, hh⟩
 · refine cT hb ?_
   refine sy [1, 2, 4, 7, 8, 11, 82] [0, 1, 2, 3, 4] (sp 131 [(1, bo (eI .i64) x_in), (2, sw 1 x_out), (4, pp 2), (7, pp 3), (8, pp 4), (11, ii (Int.tmod (w64 (x_c.Pc + (1 : Int))) (64 : Int))), (82, bb (decide ((((List.length x_out) : Nat) : Int) < (30 : Int))))]) [(0, some q1), (1, some q2), (2, some q3), (3, some ⟨76, (C_76 x_i)⟩), (4, some ⟨39, (.nil :: zru39 [])⟩)] 5 ?_
   rcases cond_some hh with ⟨hb, hh⟩ | ⟨hb, hh⟩
   · refine cT hb ?_
     refine Aw.oreg ?_
     obtain ⟨hg68, hh⟩ := grd_some hh
     refine yjc 6 [(0 : Int) ≤ x_i.A ∧ x_i.A < (((List.length x_c.Regs) : Nat) : Int)] (sp 131 [(1, bo (eI .i64) x_in), (2, sw 1 x_out), (4, pp 2), (7, pp 3), (8, pp 4), (11, ii (Int.tmod (w64 (x_c.Pc + (1 : Int))) (64 : Int))), (82, bb (decide ((((List.length x_out) : Nat) : Int) < (30 : Int)))), (83, sw 1 x_out), (84, pp 2), (85, sw 0 x_c.Regs), (86, .ptr 3 [] 1), (87, ii x_i.A), (88, .ptr 0 [] (0 + (Int.toNat x_i.A) * 1))]) [(0, some q1), (1, some q2), (2, some q3), (3, some ⟨76, (C_76 x_i)⟩), (4, some ⟨39, (.nil :: zru39 [])⟩)] 5 (.cons hg68 .nil) ?_
     refine ys (.load false 1 (.t 88)) (some 89) (op_load (c := (eI .i64)) (xs := x_c.Regs) (e := 3) (r := 0) (π := []) (o := 0 + (Int.toNat x_i.A) * 1) (i := (Int.toNat x_i.A)) (off := 0) (v := ii (List.getD x_c.Regs (Int.toNat x_i.A) default)) len_eI (by kernel_rfl) (by kernel_rfl) (by omega) (by omega) (by decide) (by kernel_rfl) ?_)
     let q15 : Root := ⟨3, [ii (List.getD x_c.Regs (Int.toNat x_i.A) default)]⟩
     refine yu 1 [(89, ii (List.getD x_c.Regs (Int.toNat x_i.A) default)), (90, .sref 5 [] 0 1 1)] [(5, some q15), (0, some q1), (1, some q2), (2, some q3), (3, some ⟨76, (C_76 x_i)⟩), (4, some ⟨39, (.nil :: zru39 [])⟩)] 6 ?_
     obtain ⟨hg67, hh⟩ := grd_some hh
     refine ys (.app 3 1 8 [(ii 0)] (.t 83) (.t 90)) (some 91) (op_app (c := (eI .i64)) (xs := x_out) (ys := ([(List.getD x_c.Regs (Int.toNat x_i.A) default)] : List Int)) (r := 1) (k := (List.length x_out)) (π := []) (by first | rfl | omega | (simp only [List.length_set, over_len, List.length_replicate, List.length_append, List.length_cons, List.length_nil, List.length_take, List.length_drop] <;> omega)) len_eI (by kernel_rfl) (by kernel_rfl) (by kernel_rfl) hg67 ?_)
     let q16 : Root := ⟨3, (fl (eI .i64) (x_out ++ ([(List.getD x_c.Regs (Int.toNat x_i.A) default)] : List Int)))⟩
     refine ye (sp 131 [(1, bo (eI .i64) x_in), (2, .sref 6 [] 0 (List.length (x_out ++ ([(List.getD x_c.Regs (Int.toNat x_i.A) default)] : List Int))) 1), (4, pp 2), (7, pp 3), (8, pp 4), (11, ii (Int.tmod (w64 (x_c.Pc + (1 : Int))) (64 : Int))), (82, bb (decide ((((List.length x_out) : Nat) : Int) < (30 : Int)))), (83, sw 1 x_out), (84, pp 2), (85, sw 0 x_c.Regs), (86, .ptr 3 [] 1), (87, ii x_i.A), (88, .ptr 0 [] (0 + (Int.toNat x_i.A) * 1)), (89, ii (List.getD x_c.Regs (Int.toNat x_i.A) default)), (90, .sref 5 [] 0 1 1), (91, .sref 6 [] 0 (List.length (x_out ++ ([(List.getD x_c.Regs (Int.toNat x_i.A) default)] : List Int))) 1)]) [(6, some q16), (1, none), (5, some q15), (0, some q1), (1, some q2), (2, some q3), (3, some ⟨76, (C_76 x_i)⟩), (4, some ⟨39, (.nil :: zru39 [])⟩)] 7 ?_
     refine blk_m ?_
     obtain rfl := some_some hh
     exact hN1 (x_c.Root, x_c.Vector, x_c.Timer, x_c.User, x_c.On, (Int.tmod (w64 (x_c.Pc + (1 : Int))) (64 : Int)), (x_out ++ ([(List.getD x_c.Regs (Int.toNat x_i.A) default)] : List Int)), x_in, x_c.Regs) _ _ _ hk1 (Ent.list2 [some 0, some 1, some 0, some 6, some 2, some 4] rfl rfl (by decide) (rens_sp (by kernel_rfl) (rl_c (u := bo (eI .i64) x_in) (by kernel_rfl) (ren_bor (rens_same (noRefs_fl nr_eI))) (rl_c (u := .sref 6 [] 0 (List.length (x_out ++ ([(List.getD x_c.Regs (Int.toNat x_i.A) default)] : List Int))) 1) (by kernel_rfl) ren_sx (rl_c (u := pp 2) (by kernel_rfl) (ren_p (by decide) rfl) (rl_c (u := pp 4) (by kernel_rfl) (ren_p (by decide) rfl) (rl_c (u := ii (Int.tmod (w64 (x_c.Pc + (1 : Int))) (64 : Int))) (by kernel_rfl) ren_i rl_n)))))) (hq q1 (rens_same (noRefs_fl nr_eI)) (hq q16 (rens_same (noRefs_fl nr_eI)) (hq q3 (rens_c ren_sx (rens_i (rens_i (rens_i (rens_i (rens_b (rens_i (rens_i (rens_i (rens_b (rens_b (rens_b (rens_b rens_n))))))))))))) (hq ⟨39, (.nil :: zru39 [])⟩ (rens_c ren_nil (rens_i (rens_i (rens_i (rens_i (rens_b (rens_i (rens_i (rens_i (rens_b (rens_b (rens_b (rens_b rens_n))))))))))))) hs_nil)))))
   refine cF hb ?_
   refine Aw.skip ?_
   refine blk_m ?_
   obtain rfl := some_some hh
   exact hN1 (x_c.Root, x_c.Vector, x_c.Timer, x_c.User, x_c.On, (Int.tmod (w64 (x_c.Pc + (1 : Int))) (64 : Int)), x_out, x_in, x_c.Regs) _ _ _ hk1 (Ent.list2 [some 0, some 1, some 0, some 1, some 2, some 4] rfl rfl (by decide) (rens_sp (by kernel_rfl) (rl_c (u := bo (eI .i64) x_in) (by kernel_rfl) (ren_bor (rens_same (noRefs_fl nr_eI))) (rl_c (u := sw 1 x_out) (by kernel_rfl) ren_sx (rl_c (u := pp 2) (by kernel_rfl) (ren_p (by decide) rfl) (rl_c (u := pp 4) (by kernel_rfl) (ren_p (by decide) rfl) (rl_c (u := ii (Int.tmod (w64 (x_c.Pc + (1 : Int))) (64 : Int))) (by kernel_rfl) ren_i rl_n)))))) (hq q1 (rens_same (noRefs_fl nr_eI)) (hq q2 (rens_same (noRefs_fl nr_eI)) (hq q3 (rens_c ren_sx (rens_i (rens_i (rens_i (rens_i (rens_b (rens_i (rens_i (rens_i (rens_b (rens_b (rens_b (rens_b rens_n))))))))))))) (hq ⟨39, (.nil :: zru39 [])⟩ (rens_c ren_nil (rens_i (rens_i (rens_i (rens_i (rens_b (rens_i (rens_i (rens_i (rens_b (rens_b (rens_b (rens_b rens_n))))))))))))) hs_nil)))))
 refine cF hb ?_
 refine sy [1, 2, 4, 7, 8, 11, 92] [0, 1, 2, 3, 4] (sp 131 [(1, bo (eI .i64) x_in), (2, sw 1 x_out), (4, pp 2), (7, pp 3), (8, pp 4), (11, ii (Int.tmod (w64 (x_c.Pc + (1 : Int))) (64 : Int))), (92, bb (decide (x_i.Op = (14 : Int))))]) [(0, some q1), (1, some q2), (2, some q3), (3, some ⟨76, (C_76 x_i)⟩), (4, some ⟨39, (.nil :: zru39 [])⟩)] 5 ?_
 rcases cond_some hh with ⟨hb, hh⟩ | ⟨hb, hh⟩
 · refine cT hb ?_
   refine Aw.sreg [1, 2, 4, 7, 8, 11, 12] [0, 1, 2, 3, 4] ?_
   obtain ⟨hg84, hh⟩ := grd_some hh
   refine yjc 11 [(4 : Int) ≠ 0, (0 : Int) ≤ (Int.tmod x_i.N (4 : Int)) ∧ (Int.tmod x_i.N (4 : Int)) < ((4 : Nat) : Int)] (sp 131 [(1, bo (eI .i64) x_in), (2, sw 1 x_out), (4, pp 2), (7, pp 3), (8, pp 4), (11, ii (Int.tmod (w64 (x_c.Pc + (1 : Int))) (64 : Int))), (92, bb (decide (x_i.Op = (14 : Int)))), (94, .ptr 2 [] 6), (95, ii x_c.Cause), (96, .ptr 2 [] 7), (97, ii x_c.Bad), (98, .ptr 2 [] 4), (99, ii x_c.Saved), (100, .sref 5 [] 0 4 1), (101, .ptr 3 [] 2), (102, ii x_i.N), (103, ii (Int.tmod x_i.N (4 : Int))), (104, .ptr 5 [] (0 + (Int.toNat (Int.tmod x_i.N (4 : Int))) * 1))]) [(5, some ⟨3, [ii 0, ii x_c.Cause, ii x_c.Bad, ii x_c.Saved]⟩), (0, some q1), (1, some q2), (2, some q3), (3, some ⟨76, (C_76 x_i)⟩), (4, some ⟨39, (.nil :: zru39 [])⟩)] 6 (.cons (by decide) (.cons hg84 .nil)) ?_
   refine ys (.load false 1 (.t 104)) (some 105) (op_load (c := (eI .i64)) (xs := ([(0 : Int), x_c.Cause, x_c.Bad, x_c.Saved] : List Int)) (e := 3) (r := 5) (π := []) (o := 0 + (Int.toNat (Int.tmod x_i.N (4 : Int))) * 1) (i := (Int.toNat (Int.tmod x_i.N (4 : Int)))) (off := 0) (v := ii (List.getD ([(0 : Int), x_c.Cause, x_c.Bad, x_c.Saved] : List Int) (Int.toNat (Int.tmod x_i.N (4 : Int))) default)) len_eI (by kernel_rfl) (by kernel_rfl) (by omega) (by first | omega | (simp only [List.length_set, List.length_append, List.length_replicate, List.length_cons, List.length_nil, List.length_take, List.length_drop, over_len] at *; omega)) (by decide) (by kernel_rfl) ?_)
   refine yt (sp 131 [(1, bo (eI .i64) x_in), (2, sw 1 x_out), (4, pp 2), (7, pp 3), (8, pp 4), (11, ii (Int.tmod (w64 (x_c.Pc + (1 : Int))) (64 : Int))), (12, ii (List.getD ([(0 : Int), x_c.Cause, x_c.Bad, x_c.Saved] : List Int) (Int.toNat (Int.tmod x_i.N (4 : Int))) default))]) [(0, some q1), (1, some q2), (2, some q3), (3, some ⟨76, (C_76 x_i)⟩), (4, some ⟨39, (.nil :: zru39 [])⟩)] 6 ?_
   obtain ⟨j2, hh, hk2⟩ := bind_some hh
   refine Aw.join (S := (List Int) × Int) (fun s2 => sp 131 [(1, bo (eI .i64) s2.1), (2, sw 3 x_out), (4, pp 4), (7, pp 5), (8, pp 6), (11, ii (Int.tmod (w64 (x_c.Pc + (1 : Int))) (64 : Int))), (12, ii s2.2)]) (fun s2 => [(2, some ⟨3, (fl (eI .i64) x_c.Regs)⟩), (3, some ⟨3, (fl (eI .i64) x_out)⟩), (4, some ⟨39, (sw 2 x_c.Regs :: ru39 x_c [])⟩), (5, some ⟨76, (C_76 x_i)⟩), (6, some ⟨39, (.nil :: zru39 [])⟩)]) 7 (fun s2 => F_spec_l3Kernel_j2 x_c x_out x_i s2 = some j1) ?_ ?_
   · intro s2 hh
     unfold F_spec_l3Kernel_j2 at hh
     refine Aw.oreg ?_
     obtain ⟨hg79, hh⟩ := grd_some hh
     let q17 : Root := ⟨39, (sw 2 x_c.Regs :: ru39 x_c [])⟩
     refine yjc 6 [(0 : Int) ≤ x_i.A ∧ x_i.A < (((List.length x_c.Regs) : Nat) : Int)] (sp 131 [(1, bo (eI .i64) s2.1), (2, sw 3 x_out), (4, pp 4), (7, pp 5), (8, pp 6), (11, ii (Int.tmod (w64 (x_c.Pc + (1 : Int))) (64 : Int))), (12, ii s2.2), (120, pp 4), (121, sw 2 x_c.Regs), (122, .ptr 5 [] 1), (123, ii x_i.A), (124, ii s2.2), (125, .ptr 2 [] (0 + (Int.toNat x_i.A) * 1))]) [(2, some q1), (3, some q2), (4, some q17), (5, some ⟨76, (C_76 x_i)⟩), (6, some ⟨39, (.nil :: zru39 [])⟩)] 7 (.cons hg79 .nil) ?_
     let q18 : Root := ⟨3, (fl (eI .i64) (List.set x_c.Regs (Int.toNat x_i.A) s2.2))⟩
     refine ys (.store 1 (.t 125) (.t 124)) none (op_store (c := (eI .i64)) (xs := x_c.Regs) (e := 3) (r := 2) (π := []) (o := 0 + (Int.toNat x_i.A) * 1) (i := (Int.toNat x_i.A)) (off := 0) (vs := [ii s2.2]) (y := s2.2) (H' := [(2, some q18), (2, some q1), (3, some q2), (4, some q17), (5, some ⟨76, (C_76 x_i)⟩), (6, some ⟨39, (.nil :: zru39 [])⟩)]) len_eI (by kernel_rfl) (by kernel_rfl) (by kernel_rfl) (by kernel_rfl) (by omega) (by omega) (by decide) (by kernel_rfl) (by kernel_rfl) ?_)
     refine ye (sp 131 [(1, bo (eI .i64) s2.1), (2, sw 3 x_out), (4, pp 4), (7, pp 5), (8, pp 6), (11, ii (Int.tmod (w64 (x_c.Pc + (1 : Int))) (64 : Int))), (12, ii s2.2), (120, pp 4), (121, sw 2 x_c.Regs), (122, .ptr 5 [] 1), (123, ii x_i.A), (124, ii s2.2), (125, .ptr 2 [] (0 + (Int.toNat x_i.A) * 1))]) [(2, some q18), (2, some q1), (3, some q2), (4, some q17), (5, some ⟨76, (C_76 x_i)⟩), (6, some ⟨39, (.nil :: zru39 [])⟩)] 7 ?_
     refine blk_m ?_
     obtain rfl := some_some hh
     exact hN1 (x_c.Root, x_c.Vector, x_c.Timer, x_c.User, x_c.On, (Int.tmod (w64 (x_c.Pc + (1 : Int))) (64 : Int)), x_out, s2.1, (List.set x_c.Regs (Int.toNat x_i.A) s2.2)) _ _ _ hk1 (Ent.list2 [some 0, some 1, some 2, some 3, some 4, some 6] rfl rfl (by decide) (rens_sp (by kernel_rfl) (rl_c (u := bo (eI .i64) s2.1) (by kernel_rfl) (ren_bor (rens_same (noRefs_fl nr_eI))) (rl_c (u := sw 3 x_out) (by kernel_rfl) ren_sx (rl_c (u := pp 4) (by kernel_rfl) (ren_p (by decide) rfl) (rl_c (u := pp 6) (by kernel_rfl) (ren_p (by decide) rfl) (rl_c (u := ii (Int.tmod (w64 (x_c.Pc + (1 : Int))) (64 : Int))) (by kernel_rfl) ren_i rl_n)))))) (hq q18 (rens_same (noRefs_fl nr_eI)) (hq q2 (rens_same (noRefs_fl nr_eI)) (hq q17 (rens_c ren_sx (rens_i (rens_i (rens_i (rens_i (rens_b (rens_i (rens_i (rens_i (rens_b (rens_b (rens_b (rens_b rens_n))))))))))))) (hq ⟨39, (.nil :: zru39 [])⟩ (rens_c ren_nil (rens_i (rens_i (rens_i (rens_i (rens_b (rens_i (rens_i (rens_i (rens_b (rens_b (rens_b (rens_b rens_n))))))))))))) hs_nil)))))
   intro Q2 hN2 hR2 hE2
   refine Aw.sreg [1, 2, 4, 7, 8, 11, 12, 114] [0, 1, 2, 3, 4] ?_
   refine yjc 5 [(4 : Int) ≠ 0] (sp 131 [(1, bo (eI .i64) x_in), (2, sw 1 x_out), (4, pp 2), (7, pp 3), (8, pp 4), (11, ii (Int.tmod (w64 (x_c.Pc + (1 : Int))) (64 : Int))), (12, ii (List.getD ([(0 : Int), x_c.Cause, x_c.Bad, x_c.Saved] : List Int) (Int.toNat (Int.tmod x_i.N (4 : Int))) default)), (106, .ptr 3 [] 2), (107, ii x_i.N), (108, ii (Int.tmod x_i.N (4 : Int))), (109, bb (decide ((Int.tmod x_i.N (4 : Int)) = (0 : Int)))), (110, bb (decide ((Int.tmod x_i.N (4 : Int)) = (0 : Int))))]) [(0, some q1), (1, some q2), (2, some q3), (3, some ⟨76, (C_76 x_i)⟩), (4, some ⟨39, (.nil :: zru39 [])⟩)] 6 (.cons (by decide) .nil) ?_
   rcases cond_some hh with ⟨hb, hh⟩ | ⟨hb, hh⟩
   · refine yb 109 hb ?_
     refine yb 110 hb ?_
     refine yt (sp 131 [(1, bo (eI .i64) x_in), (2, sw 1 x_out), (4, pp 2), (7, pp 3), (8, pp 4), (11, ii (Int.tmod (w64 (x_c.Pc + (1 : Int))) (64 : Int))), (12, ii (List.getD ([(0 : Int), x_c.Cause, x_c.Bad, x_c.Saved] : List Int) (Int.toNat (Int.tmod x_i.N (4 : Int))) default)), (114, bb (decide ((0 : Int) < (((List.length x_in) : Nat) : Int))))]) [(0, some q1), (1, some q2), (2, some q3), (3, some ⟨76, (C_76 x_i)⟩), (4, some ⟨39, (.nil :: zru39 [])⟩)] 6 ?_
     rcases cond_some hh with ⟨hb, hh⟩ | ⟨hb, hh⟩
     · refine cT hb ?_
       refine Aw.sreg [1, 2, 4, 7, 8, 11, 12] [0, 1, 2, 3, 4] (yu 1 [(115, bo (eI .i64) x_in)] [(0, some q1), (1, some q2), (2, some q3), (3, some ⟨76, (C_76 x_i)⟩), (4, some ⟨39, (.nil :: zru39 [])⟩)] 6 ?_)
       obtain ⟨hg81, hh⟩ := grd_some hh
       refine ys (.iadr 1 (.t 115) (.c (ii 0))) (some 116) (op_iadr (kd := .i64) (c := (eI .i64)) (xs := x_in) len_eI (by decide) (by kernel_rfl) (by kernel_rfl) hg81 ?_)
       refine ys (.load false 1 (.t 116)) (some 117) (op_loadb (c := (eI .i64)) (xs := x_in) (o := Int.toNat (0 : Int) * 1) (i := (Int.toNat (0 : Int))) (off := 0) (v := ii (List.getD x_in (Int.toNat (0 : Int)) default)) len_eI (by kernel_rfl) (by omega) (by omega) (by decide) (by kernel_rfl) ?_)
       refine yt (sp 131 [(1, bo (eI .i64) x_in), (2, sw 1 x_out), (4, pp 2), (7, pp 3), (8, pp 4), (11, ii (Int.tmod (w64 (x_c.Pc + (1 : Int))) (64 : Int))), (12, ii (List.getD x_in (Int.toNat (0 : Int)) default))]) [(0, some q1), (1, some q2), (2, some q3), (3, some ⟨76, (C_76 x_i)⟩), (4, some ⟨39, (.nil :: zru39 [])⟩)] 6 ?_
       refine Aw.oreg ?_
       refine yu 1 [(118, bo (eI .i64) x_in)] [(0, some q1), (1, some q2), (2, some q3), (3, some ⟨76, (C_76 x_i)⟩), (4, some ⟨39, (.nil :: zru39 [])⟩)] 6 ?_
       obtain ⟨hg83, hh⟩ := grd_some hh
       refine ys (.slc 1 (.t 118) (some (.c (ii 1))) none) (some 119) (op_slc (c := (eI .i64)) (xs := x_in) (l := (1 : Int)) (h := ((List.length x_in : Nat) : Int)) len_eI (by kernel_rfl) (by kernel_rfl) (by kernel_rfl) hg83 ?_)
       refine ye (sp 131 [(1, bo (eI .i64) (List.take (Int.toNat ((List.length x_in : Nat) : Int) - Int.toNat (1 : Int)) (List.drop (Int.toNat (1 : Int)) x_in))), (2, sw 1 x_out), (4, pp 2), (7, pp 3), (8, pp 4), (11, ii (Int.tmod (w64 (x_c.Pc + (1 : Int))) (64 : Int))), (12, ii (List.getD x_in (Int.toNat (0 : Int)) default)), (118, bo (eI .i64) x_in), (119, bo (eI .i64) (List.take (Int.toNat ((List.length x_in : Nat) : Int) - Int.toNat (1 : Int)) (List.drop (Int.toNat (1 : Int)) x_in)))]) [(0, some q1), (1, some q2), (2, some q3), (3, some ⟨76, (C_76 x_i)⟩), (4, some ⟨39, (.nil :: zru39 [])⟩)] 6 ?_
       obtain rfl := some_some hh
       exact hN2 ((List.take (Int.toNat ((List.length x_in : Nat) : Int) - Int.toNat (1 : Int)) (List.drop (Int.toNat (1 : Int)) x_in)), (List.getD x_in (Int.toNat (0 : Int)) default)) _ _ _ hk2 (Ent.list2 [some 0, some 1, some 0, some 1, some 2, some 3, some 4] rfl rfl (by decide) (rens_sp (by kernel_rfl) (rl_c (u := bo (eI .i64) (List.take (Int.toNat ((List.length x_in : Nat) : Int) - Int.toNat (1 : Int)) (List.drop (Int.toNat (1 : Int)) x_in))) (by kernel_rfl) (ren_bor (rens_same (noRefs_fl nr_eI))) (rl_c (u := sw 1 x_out) (by kernel_rfl) ren_sx (rl_c (u := pp 2) (by kernel_rfl) (ren_p (by decide) rfl) (rl_c (u := pp 3) (by kernel_rfl) (ren_p (by decide) rfl) (rl_c (u := pp 4) (by kernel_rfl) (ren_p (by decide) rfl) (rl_c (u := ii (Int.tmod (w64 (x_c.Pc + (1 : Int))) (64 : Int))) (by kernel_rfl) ren_i (rl_c (u := ii (List.getD x_in (Int.toNat (0 : Int)) default)) (by kernel_rfl) ren_i rl_n)))))))) (hq q1 (rens_same (noRefs_fl nr_eI)) (hq q2 (rens_same (noRefs_fl nr_eI)) (hq q3 (rens_c ren_sx (rens_i (rens_i (rens_i (rens_i (rens_b (rens_i (rens_i (rens_i (rens_b (rens_b (rens_b (rens_b rens_n))))))))))))) (hq ⟨76, (C_76 x_i)⟩ (rens_same (nr_C_76 _)) (hq ⟨39, (.nil :: zru39 [])⟩ (rens_c ren_nil (rens_i (rens_i (rens_i (rens_i (rens_b (rens_i (rens_i (rens_i (rens_b (rens_b (rens_b (rens_b rens_n))))))))))))) hs_nil))))))
     refine cF hb ?_
     refine Aw.skip ?_
     obtain rfl := some_some hh
     exact hN2 (x_in, (List.getD ([(0 : Int), x_c.Cause, x_c.Bad, x_c.Saved] : List Int) (Int.toNat (Int.tmod x_i.N (4 : Int))) default)) _ _ _ hk2 (Ent.list2 [some 0, some 1, some 0, some 1, some 2, some 3, some 4] rfl rfl (by decide) (rens_sp (by kernel_rfl) (rl_c (u := bo (eI .i64) x_in) (by kernel_rfl) (ren_bor (rens_same (noRefs_fl nr_eI))) (rl_c (u := sw 1 x_out) (by kernel_rfl) ren_sx (rl_c (u := pp 2) (by kernel_rfl) (ren_p (by decide) rfl) (rl_c (u := pp 3) (by kernel_rfl) (ren_p (by decide) rfl) (rl_c (u := pp 4) (by kernel_rfl) (ren_p (by decide) rfl) (rl_c (u := ii (Int.tmod (w64 (x_c.Pc + (1 : Int))) (64 : Int))) (by kernel_rfl) ren_i (rl_c (u := ii (List.getD ([(0 : Int), x_c.Cause, x_c.Bad, x_c.Saved] : List Int) (Int.toNat (Int.tmod x_i.N (4 : Int))) default)) (by kernel_rfl) ren_i rl_n)))))))) (hq q1 (rens_same (noRefs_fl nr_eI)) (hq q2 (rens_same (noRefs_fl nr_eI)) (hq q3 (rens_c ren_sx (rens_i (rens_i (rens_i (rens_i (rens_b (rens_i (rens_i (rens_i (rens_b (rens_b (rens_b (rens_b rens_n))))))))))))) (hq ⟨76, (C_76 x_i)⟩ (rens_same (nr_C_76 _)) (hq ⟨39, (.nil :: zru39 [])⟩ (rens_c ren_nil (rens_i (rens_i (rens_i (rens_i (rens_b (rens_i (rens_i (rens_i (rens_b (rens_b (rens_b (rens_b rens_n))))))))))))) hs_nil))))))
   refine yb 109 hb ?_
   refine yb 110 hb ?_
   refine yt (sp 131 [(1, bo (eI .i64) x_in), (2, sw 1 x_out), (4, pp 2), (7, pp 3), (8, pp 4), (11, ii (Int.tmod (w64 (x_c.Pc + (1 : Int))) (64 : Int))), (12, ii (List.getD ([(0 : Int), x_c.Cause, x_c.Bad, x_c.Saved] : List Int) (Int.toNat (Int.tmod x_i.N (4 : Int))) default)), (114, bb false)]) [(0, some q1), (1, some q2), (2, some q3), (3, some ⟨76, (C_76 x_i)⟩), (4, some ⟨39, (.nil :: zru39 [])⟩)] 6 ?_
   refine cF rfl ?_
   refine Aw.skip ?_
   obtain rfl := some_some hh
   exact hN2 (x_in, (List.getD ([(0 : Int), x_c.Cause, x_c.Bad, x_c.Saved] : List Int) (Int.toNat (Int.tmod x_i.N (4 : Int))) default)) _ _ _ hk2 (Ent.list2 [some 0, some 1, some 0, some 1, some 2, some 3, some 4] rfl rfl (by decide) (rens_sp (by kernel_rfl) (rl_c (u := bo (eI .i64) x_in) (by kernel_rfl) (ren_bor (rens_same (noRefs_fl nr_eI))) (rl_c (u := sw 1 x_out) (by kernel_rfl) ren_sx (rl_c (u := pp 2) (by kernel_rfl) (ren_p (by decide) rfl) (rl_c (u := pp 3) (by kernel_rfl) (ren_p (by decide) rfl) (rl_c (u := pp 4) (by kernel_rfl) (ren_p (by decide) rfl) (rl_c (u := ii (Int.tmod (w64 (x_c.Pc + (1 : Int))) (64 : Int))) (by kernel_rfl) ren_i (rl_c (u := ii (List.getD ([(0 : Int), x_c.Cause, x_c.Bad, x_c.Saved] : List Int) (Int.toNat (Int.tmod x_i.N (4 : Int))) default)) (by kernel_rfl) ren_i rl_n)))))))) (hq q1 (rens_same (noRefs_fl nr_eI)) (hq q2 (rens_same (noRefs_fl nr_eI)) (hq q3 (rens_c ren_sx (rens_i (rens_i (rens_i (rens_i (rens_b (rens_i (rens_i (rens_i (rens_b (rens_b (rens_b (rens_b rens_n))))))))))))) (hq ⟨76, (C_76 x_i)⟩ (rens_same (nr_C_76 _)) (hq ⟨39, (.nil :: zru39 [])⟩ (rens_c ren_nil (rens_i (rens_i (rens_i (rens_i (rens_b (rens_i (rens_i (rens_i (rens_b (rens_b (rens_b (rens_b rens_n))))))))))))) hs_nil))))))
 refine cF hb ?_
 refine Aw.skip ?_
 refine blk_m ?_
 obtain rfl := some_some hh
 exact hN1 (x_c.Root, x_c.Vector, x_c.Timer, x_c.User, x_c.On, (Int.tmod (w64 (x_c.Pc + (1 : Int))) (64 : Int)), x_out, x_in, x_c.Regs) _ _ _ hk1 (Ent.list2 [some 0, some 1, some 0, some 1, some 2, some 4] rfl rfl (by decide) (rens_sp (by kernel_rfl) (rl_c (u := bo (eI .i64) x_in) (by kernel_rfl) (ren_bor (rens_same (noRefs_fl nr_eI))) (rl_c (u := sw 1 x_out) (by kernel_rfl) ren_sx (rl_c (u := pp 2) (by kernel_rfl) (ren_p (by decide) rfl) (rl_c (u := pp 4) (by kernel_rfl) (ren_p (by decide) rfl) (rl_c (u := ii (Int.tmod (w64 (x_c.Pc + (1 : Int))) (64 : Int))) (by kernel_rfl) ren_i rl_n)))))) (hq q1 (rens_same (noRefs_fl nr_eI)) (hq q2 (rens_same (noRefs_fl nr_eI)) (hq q3 (rens_c ren_sx (rens_i (rens_i (rens_i (rens_i (rens_b (rens_i (rens_i (rens_i (rens_b (rens_b (rens_b (rens_b rens_n))))))))))))) (hq ⟨39, (.nil :: zru39 [])⟩ (rens_c ren_nil (rens_i (rens_i (rens_i (rens_i (rens_b (rens_i (rens_i (rens_i (rens_b (rens_b (rens_b (rens_b rens_n))))))))))))) hs_nil)))))
def Lf77_r0 : List LOper := [oo 2 (.box 39 (.t 0)), oo 3 (.box 76 (.t 1)), oo 4 (.fresh 39 [.nil, (ii 0), (ii 0), (ii 0), (ii 0), (bb false), (ii 0), (ii 0), (ii 0), (bb false), (bb false), (bb false), (bb false)])]
def Lf77_r1 : List LOper := [oo 6 (.fadr 1 (.t 2)), oo 7 (.load false 1 (.t 6)), oo 8 (.bin .add (.t 7) (.c (ii 1))), oo 9 (.bin .rem (.t 8) (.c (ii 64))), om 5 9]
def Lf77_r2 : List LOper := [oo 10 (.fadr 0 (.t 3)), oo 11 (.load false 1 (.t 10))]
def Lf77_r3 : List LOper := [oo 13 (.bin .eql (.t 11) (.c (ii 1))), om 12 13]
def Lf77_r4 : List LOper := [oo 14 (.fadr 0 (.t 2)), oo 15 (.load false 1 (.t 14)), oo 16 (.fadr 1 (.t 3)), oo 17 (.load false 1 (.t 16)), oo 18 (.fadr 2 (.t 3)), oo 19 (.load false 1 (.t 18)), oo 20 (.iadr 1 (.t 15) (.t 17)), ⟨none, (.store 1 (.t 20) (.t 19)), none⟩]
def Lf77_r5 : List LOper := [oo 22 (.bin .eql (.t 11) (.c (ii 2))), om 21 22]
def Lf77_r6 : List LOper := [oo 23 (.fadr 0 (.t 2)), oo 24 (.load false 1 (.t 23)), oo 25 (.fadr 1 (.t 3)), oo 26 (.load false 1 (.t 25)), oo 27 (.fadr 0 (.t 2)), oo 28 (.load false 1 (.t 27)), oo 29 (.fadr 1 (.t 3)), oo 30 (.load false 1 (.t 29)), oo 31 (.iadr 1 (.t 28) (.t 30)), oo 32 (.load false 1 (.t 31)), oo 33 (.fadr 0 (.t 2)), oo 34 (.load false 1 (.t 33)), oo 35 (.fadr 2 (.t 3)), oo 36 (.load false 1 (.t 35)), oo 37 (.bin .rem (.t 36) (.c (ii 4))), oo 38 (.iadr 1 (.t 34) (.t 37)), oo 39 (.load false 1 (.t 38)), oo 40 (.bin .add (.t 32) (.t 39)), oo 41 (.bin .rem (.t 40) (.c (ii 4096))), oo 42 (.iadr 1 (.t 24) (.t 26))]
def Lf77_r6t : List LOper := [⟨none, (.store 1 (.t 42) (.t 41)), none⟩]
def Lf77_r8 : List LOper := [oo 44 (.bin .eql (.t 11) (.c (ii 15))), om 43 44]
def Lf77_r9 : List LOper := [oo 45 (.fadr 0 (.t 2)), oo 46 (.load false 1 (.t 45)), oo 47 (.fadr 1 (.t 3)), oo 48 (.load false 1 (.t 47)), oo 49 (.fadr 0 (.t 2)), oo 50 (.load false 1 (.t 49)), oo 51 (.fadr 1 (.t 3)), oo 52 (.load false 1 (.t 51)), oo 53 (.iadr 1 (.t 50) (.t 52)), oo 54 (.load false 1 (.t 53)), oo 55 (.bin .add (.t 54) (.c (ii 4096))), oo 56 (.fadr 0 (.t 2)), oo 57 (.load false 1 (.t 56)), oo 58 (.fadr 2 (.t 3)), oo 59 (.load false 1 (.t 58)), oo 60 (.bin .rem (.t 59) (.c (ii 4))), oo 61 (.iadr 1 (.t 57) (.t 60)), oo 62 (.load false 1 (.t 61)), oo 63 (.bin .sub (.t 55) (.t 62)), oo 64 (.bin .rem (.t 63) (.c (ii 4096))), oo 65 (.iadr 1 (.t 46) (.t 48))]
def Lf77_r9t : List LOper := [⟨none, (.store 1 (.t 65) (.t 64)), none⟩]
def Lf77_r11 : List LOper := [oo 67 (.bin .eql (.t 11) (.c (ii 5))), om 66 67]
def Lf77_r12 : List LOper := [oo 68 (.fadr 2 (.t 3)), oo 69 (.load false 1 (.t 68)), om 5 69]
def Lf77_r13 : List LOper := [oo 71 (.bin .eql (.t 11) (.c (ii 6))), om 70 71]
def Lf77_r14 : List LOper := [oo 72 (.fadr 0 (.t 2)), oo 73 (.load false 1 (.t 72)), oo 74 (.fadr 1 (.t 3)), oo 75 (.load false 1 (.t 74)), oo 76 (.iadr 1 (.t 73) (.t 75)), oo 77 (.load false 1 (.t 76)), oo 78 (.bin .neq (.t 77) (.c (ii 0)))]
def Lf77_r15 : List LOper := [oo 79 (.fadr 2 (.t 3)), oo 80 (.load false 1 (.t 79)), om 5 80]
def Lf77_r16 : List LOper := [oo 82 (.bin .eql (.t 11) (.c (ii 7))), om 81 82]
def Lf77_r17 : List LOper := [oo 83 (.load true 13 (.t 2)), om 84 5, oo 85 (.call 73 [(.t 83), (.t 84), (.c (ii 1)), (.c (ii 0))]), ⟨none, (.store 13 (.t 4) (.t 85)), none⟩]
def Lf77_r18 : List LOper := [om 86 5, oo 87 (.fadr 1 (.t 2)), ⟨none, (.store 1 (.t 87) (.t 86)), none⟩]
def Lf77_r19 : List LOper := [oo 88 (.load true 13 (.t 2)), ⟨none, (.store 13 (.t 4) (.t 88)), none⟩]
def Lf77 : LFun := ⟨89, [(.cell 4 true 13)], (.seq (.reg false Lf77_r0) (.seq (.reg false Lf77_r1) (.seq (.seq (.reg false Lf77_r2) (.block 0 (.seq (.reg false Lf77_r3) (.cond (.t 12) (.reg false Lf77_r4) (.seq (.reg false Lf77_r5) (.cond (.t 21) (.regt Lf77_r6 Lf77_r6t) (.seq (.reg false Lf77_r8) (.cond (.t 43) (.regt Lf77_r9 Lf77_r9t) (.seq (.reg false Lf77_r11) (.cond (.t 66) (.reg false Lf77_r12) (.seq (.reg false Lf77_r13) (.cond (.t 70) (.seq (.reg false Lf77_r14) (.cond (.t 78) (.reg false Lf77_r15) .skip)) (.seq (.reg false Lf77_r16) (.cond (.t 81) (.seq (.reg false Lf77_r17) .ret) .skip)))))))))))))) (.seq (.reg false Lf77_r18) (.seq (.reg false Lf77_r19) .ret)))))⟩
theorem low_spec_l3Plain : lowFun Go.Proofs.Try.prog 77 = some Lf77 := by kernel_rfl
noncomputable def F_spec_l3Plain_j1 (x_c : DCore) (s1 : (List Int) × Int) : Option DCore :=
 some (DCore.mk s1.1 s1.2 x_c.Root x_c.Vector x_c.Saved x_c.SavedUser x_c.Cause x_c.Bad x_c.Timer x_c.Waits x_c.User x_c.On x_c.Stopped)
noncomputable def F_spec_l3Plain (x_c : DCore) (x_i : DIns) : Option DCore :=
 Option.bind (cond (decide (x_i.Op = (1 : Int)))
  (grd ((0 : Int) ≤ x_i.A ∧ x_i.A < (((List.length x_c.Regs) : Nat) : Int)) (some (.go ((List.set x_c.Regs (Int.toNat x_i.A) x_i.N), (Int.tmod (w64 (x_c.Pc + (1 : Int))) (64 : Int))))))
  (cond (decide (x_i.Op = (2 : Int)))
   (grd ((0 : Int) ≤ x_i.A ∧ x_i.A < (((List.length x_c.Regs) : Nat) : Int)) (grd ((0 : Int) ≤ (Int.tmod x_i.N (4 : Int)) ∧ (Int.tmod x_i.N (4 : Int)) < (((List.length x_c.Regs) : Nat) : Int)) (grd ((0 : Int) ≤ x_i.A ∧ x_i.A < (((List.length x_c.Regs) : Nat) : Int)) (some (.go ((List.set x_c.Regs (Int.toNat x_i.A) (Int.tmod (w64 ((List.getD x_c.Regs (Int.toNat x_i.A) default) + (List.getD x_c.Regs (Int.toNat (Int.tmod x_i.N (4 : Int))) default))) (4096 : Int))), (Int.tmod (w64 (x_c.Pc + (1 : Int))) (64 : Int))))))))
   (cond (decide (x_i.Op = (15 : Int)))
    (grd ((0 : Int) ≤ x_i.A ∧ x_i.A < (((List.length x_c.Regs) : Nat) : Int)) (grd ((0 : Int) ≤ (Int.tmod x_i.N (4 : Int)) ∧ (Int.tmod x_i.N (4 : Int)) < (((List.length x_c.Regs) : Nat) : Int)) (grd ((0 : Int) ≤ x_i.A ∧ x_i.A < (((List.length x_c.Regs) : Nat) : Int)) (some (.go ((List.set x_c.Regs (Int.toNat x_i.A) (Int.tmod (w64 ((w64 ((List.getD x_c.Regs (Int.toNat x_i.A) default) + (4096 : Int))) - (List.getD x_c.Regs (Int.toNat (Int.tmod x_i.N (4 : Int))) default))) (4096 : Int))), (Int.tmod (w64 (x_c.Pc + (1 : Int))) (64 : Int))))))))
    (cond (decide (x_i.Op = (5 : Int)))
     (some (.go (x_c.Regs, x_i.N)))
     (cond (decide (x_i.Op = (6 : Int)))
      (grd ((0 : Int) ≤ x_i.A ∧ x_i.A < (((List.length x_c.Regs) : Nat) : Int)) (cond (!decide ((List.getD x_c.Regs (Int.toNat x_i.A) default) = (0 : Int)))
       (some (.go (x_c.Regs, x_i.N)))
       (some (.go (x_c.Regs, (Int.tmod (w64 (x_c.Pc + (1 : Int))) (64 : Int)))))))
      (cond (decide (x_i.Op = (7 : Int)))
       (Option.bind (F_spec_l3Trap x_c (Int.tmod (w64 (x_c.Pc + (1 : Int))) (64 : Int)) (1 : Int) (0 : Int)) fun v2 =>
       some (.out v2))
       (some (.go (x_c.Regs, (Int.tmod (w64 (x_c.Pc + (1 : Int))) (64 : Int))))))))))) fun j1 =>
  JO.run j1 (F_spec_l3Plain_j1 x_c)
theorem spec_l3Plain_fn {x_c : DCore} {x_i : DIns} {R_ : DCore} (hh : F_spec_l3Plain x_c x_i = some R_) : Inl Try.prog 77 [.agg (.sref 0 [] 0 (List.length x_c.Regs) 1 :: ru39 x_c []), .agg (C_76 x_i)] [(0, some ⟨3, (fl (eI .i64) x_c.Regs)⟩)] 1 (.agg (.sref 1 [] 0 (List.length R_.Regs) 1 :: ru39 R_ [])) [(1, some ⟨3, (fl (eI .i64) R_.Regs)⟩)] 2 := by
 unfold F_spec_l3Plain at hh
 let q1 : Root := ⟨3, (fl (eI .i64) x_c.Regs)⟩
 refine Inl.start low_spec_l3Plain [0, 1] [0] (E := sp 89 [(0, .agg (sw 0 x_c.Regs :: ru39 x_c [])), (1, .agg (C_76 x_i))]) (H1 := [(0, some q1)]) (by kernel_rfl) (by kernel_rfl) ?_
 refine Aw.sreg [2, 3, 4] [0, 1, 2, 3] ?_
 let q2 : Root := ⟨39, (sw 0 x_c.Regs :: ru39 x_c [])⟩
 refine yt (sp 89 [(2, pp 1), (3, pp 2), (4, pp 3)]) [(0, some q1), (1, some q2), (2, some ⟨76, (C_76 x_i)⟩), (3, some ⟨39, (.nil :: zru39 [])⟩)] 4 ?_
 refine Aw.sreg [2, 3, 4, 5] [0, 1, 2, 3] ?_
 refine ytc [(64 : Int) ≠ 0] (sp 89 [(2, pp 1), (3, pp 2), (4, pp 3), (5, ii (Int.tmod (w64 (x_c.Pc + (1 : Int))) (64 : Int)))]) [(0, some q1), (1, some q2), (2, some ⟨76, (C_76 x_i)⟩), (3, some ⟨39, (.nil :: zru39 [])⟩)] 4 (.cons (by decide) .nil) ?_
 obtain ⟨j1, hh, hk1⟩ := bind_some hh
 refine Aw.join (S := (List Int) × Int) (fun s1 => sp 89 [(2, pp 2), (4, pp 3), (5, ii s1.2)]) (fun s1 => [(1, some ⟨3, (fl (eI .i64) s1.1)⟩), (2, some ⟨39, (sw 1 s1.1 :: ru39 x_c [])⟩), (3, some ⟨39, (.nil :: zru39 [])⟩)]) 4 (fun s1 => F_spec_l3Plain_j1 x_c s1 = some R_) ?_ ?_
 · intro s1 hh
   unfold F_spec_l3Plain_j1 at hh
   refine Aw.sreg [2, 4] [1, 2, 3] ?_
   let q3 : Root := ⟨39, [sw 1 s1.1, ii s1.2, ii x_c.Root, ii x_c.Vector, ii x_c.Saved, bb x_c.SavedUser, ii x_c.Cause, ii x_c.Bad, ii x_c.Timer, bb x_c.Waits, bb x_c.User, bb x_c.On, bb x_c.Stopped]⟩
   refine yt (sp 89 [(2, pp 2), (4, pp 3)]) [(1, some ⟨3, (fl (eI .i64) s1.1)⟩), (2, some q3), (3, some ⟨39, (.nil :: zru39 [])⟩)] 4 ?_
   refine sy [4] [1, 3] (sp 89 [(4, pp 3)]) [(1, some ⟨3, (fl (eI .i64) s1.1)⟩), (3, some q3)] 4 ?_
   refine Aw.ret ?_
   rw [some_some hh]
   exact gives (r' := .agg [sw 1 s1.1, ii s1.2, ii x_c.Root, ii x_c.Vector, ii x_c.Saved, bb x_c.SavedUser, ii x_c.Cause, ii x_c.Bad, ii x_c.Timer, bb x_c.Waits, bb x_c.User, bb x_c.On, bb x_c.Stopped]) (by kernel_rfl) (Ent.list2 [some 0, some 1] rfl rfl (by decide) (rens_1 (ren_agg (rens_c ren_sx (rens_i (rens_i (rens_i (rens_i (rens_b (rens_i (rens_i (rens_i (rens_b (rens_b (rens_b (rens_b rens_n))))))))))))))) (hq ⟨3, (fl (eI .i64) s1.1)⟩ (rens_same (noRefs_fl nr_eI)) hs_nil))
 intro Q1 hN1 hR1 hE1
 refine sy [2, 3, 4, 5, 11] [0, 1, 2, 3] (sp 89 [(2, pp 1), (3, pp 2), (4, pp 3), (5, ii (Int.tmod (w64 (x_c.Pc + (1 : Int))) (64 : Int))), (11, ii x_i.Op)]) [(0, some q1), (1, some q2), (2, some ⟨76, (C_76 x_i)⟩), (3, some ⟨39, (.nil :: zru39 [])⟩)] 4 ?_
 refine Aw.block ?_
 refine sy [2, 3, 4, 5, 11, 12] [0, 1, 2, 3] (sp 89 [(2, pp 1), (3, pp 2), (4, pp 3), (5, ii (Int.tmod (w64 (x_c.Pc + (1 : Int))) (64 : Int))), (11, ii x_i.Op), (12, bb (decide (x_i.Op = (1 : Int))))]) [(0, some q1), (1, some q2), (2, some ⟨76, (C_76 x_i)⟩), (3, some ⟨39, (.nil :: zru39 [])⟩)] 4 ?_
 rcases cond_some hh with ⟨hb, hh⟩ | ⟨hb, hh⟩
 · refine cT hb ?_
   refine Aw.oreg ?_
   obtain ⟨hg34, hh⟩ := grd_some hh
   refine yjc 7 [(0 : Int) ≤ x_i.A ∧ x_i.A < (((List.length x_c.Regs) : Nat) : Int)] (sp 89 [(2, pp 1), (3, pp 2), (4, pp 3), (5, ii (Int.tmod (w64 (x_c.Pc + (1 : Int))) (64 : Int))), (11, ii x_i.Op), (12, bb (decide (x_i.Op = (1 : Int)))), (14, pp 1), (15, sw 0 x_c.Regs), (16, .ptr 2 [] 1), (17, ii x_i.A), (18, .ptr 2 [] 2), (19, ii x_i.N), (20, .ptr 0 [] (0 + (Int.toNat x_i.A) * 1))]) [(0, some q1), (1, some q2), (2, some ⟨76, (C_76 x_i)⟩), (3, some ⟨39, (.nil :: zru39 [])⟩)] 4 (.cons hg34 .nil) ?_
   let q4 : Root := ⟨3, (fl (eI .i64) (List.set x_c.Regs (Int.toNat x_i.A) x_i.N))⟩
   refine ys (.store 1 (.t 20) (.t 19)) none (op_store (c := (eI .i64)) (xs := x_c.Regs) (e := 3) (r := 0) (π := []) (o := 0 + (Int.toNat x_i.A) * 1) (i := (Int.toNat x_i.A)) (off := 0) (vs := [ii x_i.N]) (y := x_i.N) (H' := [(0, some q4), (0, some q1), (1, some q2), (2, some ⟨76, (C_76 x_i)⟩), (3, some ⟨39, (.nil :: zru39 [])⟩)]) len_eI (by kernel_rfl) (by kernel_rfl) (by kernel_rfl) (by kernel_rfl) (by omega) (by omega) (by decide) (by kernel_rfl) (by kernel_rfl) ?_)
   refine ye (sp 89 [(2, pp 1), (3, pp 2), (4, pp 3), (5, ii (Int.tmod (w64 (x_c.Pc + (1 : Int))) (64 : Int))), (11, ii x_i.Op), (12, bb (decide (x_i.Op = (1 : Int)))), (14, pp 1), (15, sw 0 x_c.Regs), (16, .ptr 2 [] 1), (17, ii x_i.A), (18, .ptr 2 [] 2), (19, ii x_i.N), (20, .ptr 0 [] (0 + (Int.toNat x_i.A) * 1))]) [(0, some q4), (0, some q1), (1, some q2), (2, some ⟨76, (C_76 x_i)⟩), (3, some ⟨39, (.nil :: zru39 [])⟩)] 4 ?_
   refine blk_m ?_
   obtain rfl := some_some hh
   exact hN1 ((List.set x_c.Regs (Int.toNat x_i.A) x_i.N), (Int.tmod (w64 (x_c.Pc + (1 : Int))) (64 : Int))) _ _ _ hk1 (Ent.list2 [some 0, some 0, some 1, some 3] rfl rfl (by decide) (rens_sp (by kernel_rfl) (rl_c (u := pp 1) (by kernel_rfl) (ren_p (by decide) rfl) (rl_c (u := pp 3) (by kernel_rfl) (ren_p (by decide) rfl) (rl_c (u := ii (Int.tmod (w64 (x_c.Pc + (1 : Int))) (64 : Int))) (by kernel_rfl) ren_i rl_n)))) (hq q4 (rens_same (noRefs_fl nr_eI)) (hq q2 (rens_c ren_sx (rens_i (rens_i (rens_i (rens_i (rens_b (rens_i (rens_i (rens_i (rens_b (rens_b (rens_b (rens_b rens_n))))))))))))) (hq ⟨39, (.nil :: zru39 [])⟩ (rens_c ren_nil (rens_i (rens_i (rens_i (rens_i (rens_b (rens_i (rens_i (rens_i (rens_b (rens_b (rens_b (rens_b rens_n))))))))))))) hs_nil))))
 refine cF hb ?_
 refine sy [2, 3, 4, 5, 11, 21] [0, 1, 2, 3] (sp 89 [(2, pp 1), (3, pp 2), (4, pp 3), (5, ii (Int.tmod (w64 (x_c.Pc + (1 : Int))) (64 : Int))), (11, ii x_i.Op), (21, bb (decide (x_i.Op = (2 : Int))))]) [(0, some q1), (1, some q2), (2, some ⟨76, (C_76 x_i)⟩), (3, some ⟨39, (.nil :: zru39 [])⟩)] 4 ?_
 rcases cond_some hh with ⟨hb, hh⟩ | ⟨hb, hh⟩
 · refine cT hb ?_
   refine Aw.oregt ?_
   obtain ⟨hg40, hh⟩ := grd_some hh
   refine qc (cs := [(0 : Int) ≤ x_i.A ∧ x_i.A < (((List.length x_c.Regs) : Nat) : Int)]) (E' := (sp 89 [(2, pp 1), (3, pp 2), (4, pp 3), (5, ii (Int.tmod (w64 (x_c.Pc + (1 : Int))) (64 : Int))), (11, ii x_i.Op), (21, bb (decide (x_i.Op = (2 : Int)))), (23, pp 1), (24, sw 0 x_c.Regs), (25, .ptr 2 [] 1), (26, ii x_i.A), (27, pp 1), (28, sw 0 x_c.Regs), (29, .ptr 2 [] 1), (30, ii x_i.A), (31, .ptr 0 [] (0 + (Int.toNat x_i.A) * 1))])) (pre := (List.take 9 Lf77_r6)) (L' := (List.drop 9 Lf77_r6)) (by kernel_rfl) (fun K => by kernel_rfl) (.cons hg40 .nil) ?_
   refine qs (.load false 1 (.t 31)) (some 32) (yq_q rfl (op_load (c := (eI .i64)) (xs := x_c.Regs) (e := 3) (r := 0) (π := []) (o := 0 + (Int.toNat x_i.A) * 1) (i := (Int.toNat x_i.A)) (off := 0) (v := ii (List.getD x_c.Regs (Int.toNat x_i.A) default)) len_eI (by kernel_rfl) (by kernel_rfl) (by omega) (by omega) (by decide) (by kernel_rfl) ?_))
   obtain ⟨hg39, hh⟩ := grd_some hh
   refine qc (cs := [(4 : Int) ≠ 0, (0 : Int) ≤ (Int.tmod x_i.N (4 : Int)) ∧ (Int.tmod x_i.N (4 : Int)) < (((List.length x_c.Regs) : Nat) : Int)]) (E' := (sp 89 [(2, pp 1), (3, pp 2), (4, pp 3), (5, ii (Int.tmod (w64 (x_c.Pc + (1 : Int))) (64 : Int))), (11, ii x_i.Op), (21, bb (decide (x_i.Op = (2 : Int)))), (23, pp 1), (24, sw 0 x_c.Regs), (25, .ptr 2 [] 1), (26, ii x_i.A), (27, pp 1), (28, sw 0 x_c.Regs), (29, .ptr 2 [] 1), (30, ii x_i.A), (31, .ptr 0 [] (0 + (Int.toNat x_i.A) * 1)), (32, ii (List.getD x_c.Regs (Int.toNat x_i.A) default)), (33, pp 1), (34, sw 0 x_c.Regs), (35, .ptr 2 [] 2), (36, ii x_i.N), (37, ii (Int.tmod x_i.N (4 : Int))), (38, .ptr 0 [] (0 + (Int.toNat (Int.tmod x_i.N (4 : Int))) * 1))])) (pre := (List.take 6 (List.drop 10 Lf77_r6))) (L' := (List.drop 16 Lf77_r6)) (by kernel_rfl) (fun K => by kernel_rfl) (.cons (by decide) (.cons hg39 .nil)) ?_
   refine qs (.load false 1 (.t 38)) (some 39) (yq_q rfl (op_load (c := (eI .i64)) (xs := x_c.Regs) (e := 3) (r := 0) (π := []) (o := 0 + (Int.toNat (Int.tmod x_i.N (4 : Int))) * 1) (i := (Int.toNat (Int.tmod x_i.N (4 : Int)))) (off := 0) (v := ii (List.getD x_c.Regs (Int.toNat (Int.tmod x_i.N (4 : Int))) default)) len_eI (by kernel_rfl) (by kernel_rfl) (by omega) (by omega) (by decide) (by kernel_rfl) ?_))
   obtain ⟨hg38, hh⟩ := grd_some hh
   refine qtt (cs := [(4096 : Int) ≠ 0, (0 : Int) ≤ x_i.A ∧ x_i.A < (((List.length x_c.Regs) : Nat) : Int)]) (E' := (sp 89 [(2, pp 1), (3, pp 2), (4, pp 3), (5, ii (Int.tmod (w64 (x_c.Pc + (1 : Int))) (64 : Int))), (11, ii x_i.Op), (21, bb (decide (x_i.Op = (2 : Int)))), (23, pp 1), (24, sw 0 x_c.Regs), (25, .ptr 2 [] 1), (26, ii x_i.A), (27, pp 1), (28, sw 0 x_c.Regs), (29, .ptr 2 [] 1), (30, ii x_i.A), (31, .ptr 0 [] (0 + (Int.toNat x_i.A) * 1)), (32, ii (List.getD x_c.Regs (Int.toNat x_i.A) default)), (33, pp 1), (34, sw 0 x_c.Regs), (35, .ptr 2 [] 2), (36, ii x_i.N), (37, ii (Int.tmod x_i.N (4 : Int))), (38, .ptr 0 [] (0 + (Int.toNat (Int.tmod x_i.N (4 : Int))) * 1)), (39, ii (List.getD x_c.Regs (Int.toNat (Int.tmod x_i.N (4 : Int))) default)), (40, ii (w64 ((List.getD x_c.Regs (Int.toNat x_i.A) default) + (List.getD x_c.Regs (Int.toNat (Int.tmod x_i.N (4 : Int))) default)))), (41, ii (Int.tmod (w64 ((List.getD x_c.Regs (Int.toNat x_i.A) default) + (List.getD x_c.Regs (Int.toNat (Int.tmod x_i.N (4 : Int))) default))) (4096 : Int))), (42, .ptr 0 [] (0 + (Int.toNat x_i.A) * 1))])) (fun K => by kernel_rfl) (.cons (by decide) (.cons hg38 .nil)) ?_
   let q5 : Root := ⟨3, (fl (eI .i64) (List.set x_c.Regs (Int.toNat x_i.A) (Int.tmod (w64 ((List.getD x_c.Regs (Int.toNat x_i.A) default) + (List.getD x_c.Regs (Int.toNat (Int.tmod x_i.N (4 : Int))) default))) (4096 : Int))))⟩
   refine ys (.store 1 (.t 42) (.t 41)) none (op_store (c := (eI .i64)) (xs := x_c.Regs) (e := 3) (r := 0) (π := []) (o := 0 + (Int.toNat x_i.A) * 1) (i := (Int.toNat x_i.A)) (off := 0) (vs := [ii (Int.tmod (w64 ((List.getD x_c.Regs (Int.toNat x_i.A) default) + (List.getD x_c.Regs (Int.toNat (Int.tmod x_i.N (4 : Int))) default))) (4096 : Int))]) (y := (Int.tmod (w64 ((List.getD x_c.Regs (Int.toNat x_i.A) default) + (List.getD x_c.Regs (Int.toNat (Int.tmod x_i.N (4 : Int))) default))) (4096 : Int))) (H' := [(0, some q5), (0, some q1), (1, some q2), (2, some ⟨76, (C_76 x_i)⟩), (3, some ⟨39, (.nil :: zru39 [])⟩)]) len_eI (by kernel_rfl) (by kernel_rfl) (by kernel_rfl) (by kernel_rfl) (by omega) (by omega) (by decide) (by kernel_rfl) (by kernel_rfl) ?_)
   refine ye (sp 89 [(2, pp 1), (3, pp 2), (4, pp 3), (5, ii (Int.tmod (w64 (x_c.Pc + (1 : Int))) (64 : Int))), (11, ii x_i.Op), (21, bb (decide (x_i.Op = (2 : Int)))), (23, pp 1), (24, sw 0 x_c.Regs), (25, .ptr 2 [] 1), (26, ii x_i.A), (27, pp 1), (28, sw 0 x_c.Regs), (29, .ptr 2 [] 1), (30, ii x_i.A), (31, .ptr 0 [] (0 + (Int.toNat x_i.A) * 1)), (32, ii (List.getD x_c.Regs (Int.toNat x_i.A) default)), (33, pp 1), (34, sw 0 x_c.Regs), (35, .ptr 2 [] 2), (36, ii x_i.N), (37, ii (Int.tmod x_i.N (4 : Int))), (38, .ptr 0 [] (0 + (Int.toNat (Int.tmod x_i.N (4 : Int))) * 1)), (39, ii (List.getD x_c.Regs (Int.toNat (Int.tmod x_i.N (4 : Int))) default)), (40, ii (w64 ((List.getD x_c.Regs (Int.toNat x_i.A) default) + (List.getD x_c.Regs (Int.toNat (Int.tmod x_i.N (4 : Int))) default)))), (41, ii (Int.tmod (w64 ((List.getD x_c.Regs (Int.toNat x_i.A) default) + (List.getD x_c.Regs (Int.toNat (Int.tmod x_i.N (4 : Int))) default))) (4096 : Int))), (42, .ptr 0 [] (0 + (Int.toNat x_i.A) * 1))]) [(0, some q5), (0, some q1), (1, some q2), (2, some ⟨76, (C_76 x_i)⟩), (3, some ⟨39, (.nil :: zru39 [])⟩)] 4 ?_
   refine blk_m ?_
   obtain rfl := some_some hh
   exact hN1 ((List.set x_c.Regs (Int.toNat x_i.A) (Int.tmod (w64 ((List.getD x_c.Regs (Int.toNat x_i.A) default) + (List.getD x_c.Regs (Int.toNat (Int.tmod x_i.N (4 : Int))) default))) (4096 : Int))), (Int.tmod (w64 (x_c.Pc + (1 : Int))) (64 : Int))) _ _ _ hk1 (Ent.list2 [some 0, some 0, some 1, some 3] rfl rfl (by decide) (rens_sp (by kernel_rfl) (rl_c (u := pp 1) (by kernel_rfl) (ren_p (by decide) rfl) (rl_c (u := pp 3) (by kernel_rfl) (ren_p (by decide) rfl) (rl_c (u := ii (Int.tmod (w64 (x_c.Pc + (1 : Int))) (64 : Int))) (by kernel_rfl) ren_i rl_n)))) (hq q5 (rens_same (noRefs_fl nr_eI)) (hq q2 (rens_c ren_sx (rens_i (rens_i (rens_i (rens_i (rens_b (rens_i (rens_i (rens_i (rens_b (rens_b (rens_b (rens_b rens_n))))))))))))) (hq ⟨39, (.nil :: zru39 [])⟩ (rens_c ren_nil (rens_i (rens_i (rens_i (rens_i (rens_b (rens_i (rens_i (rens_i (rens_b (rens_b (rens_b (rens_b rens_n))))))))))))) hs_nil))))
 refine cF hb ?_
 refine sy [2, 3, 4, 5, 11, 43] [0, 1, 2, 3] (sp 89 [(2, pp 1), (3, pp 2), (4, pp 3), (5, ii (Int.tmod (w64 (x_c.Pc + (1 : Int))) (64 : Int))), (11, ii x_i.Op), (43, bb (decide (x_i.Op = (15 : Int))))]) [(0, some q1), (1, some q2), (2, some ⟨76, (C_76 x_i)⟩), (3, some ⟨39, (.nil :: zru39 [])⟩)] 4 ?_
 rcases cond_some hh with ⟨hb, hh⟩ | ⟨hb, hh⟩
 · refine cT hb ?_
   refine Aw.oregt ?_
   obtain ⟨hg46, hh⟩ := grd_some hh
   refine qc (cs := [(0 : Int) ≤ x_i.A ∧ x_i.A < (((List.length x_c.Regs) : Nat) : Int)]) (E' := (sp 89 [(2, pp 1), (3, pp 2), (4, pp 3), (5, ii (Int.tmod (w64 (x_c.Pc + (1 : Int))) (64 : Int))), (11, ii x_i.Op), (43, bb (decide (x_i.Op = (15 : Int)))), (45, pp 1), (46, sw 0 x_c.Regs), (47, .ptr 2 [] 1), (48, ii x_i.A), (49, pp 1), (50, sw 0 x_c.Regs), (51, .ptr 2 [] 1), (52, ii x_i.A), (53, .ptr 0 [] (0 + (Int.toNat x_i.A) * 1))])) (pre := (List.take 9 Lf77_r9)) (L' := (List.drop 9 Lf77_r9)) (by kernel_rfl) (fun K => by kernel_rfl) (.cons hg46 .nil) ?_
   refine qs (.load false 1 (.t 53)) (some 54) (yq_q rfl (op_load (c := (eI .i64)) (xs := x_c.Regs) (e := 3) (r := 0) (π := []) (o := 0 + (Int.toNat x_i.A) * 1) (i := (Int.toNat x_i.A)) (off := 0) (v := ii (List.getD x_c.Regs (Int.toNat x_i.A) default)) len_eI (by kernel_rfl) (by kernel_rfl) (by omega) (by omega) (by decide) (by kernel_rfl) ?_))
   obtain ⟨hg45, hh⟩ := grd_some hh
   refine qc (cs := [(4 : Int) ≠ 0, (0 : Int) ≤ (Int.tmod x_i.N (4 : Int)) ∧ (Int.tmod x_i.N (4 : Int)) < (((List.length x_c.Regs) : Nat) : Int)]) (E' := (sp 89 [(2, pp 1), (3, pp 2), (4, pp 3), (5, ii (Int.tmod (w64 (x_c.Pc + (1 : Int))) (64 : Int))), (11, ii x_i.Op), (43, bb (decide (x_i.Op = (15 : Int)))), (45, pp 1), (46, sw 0 x_c.Regs), (47, .ptr 2 [] 1), (48, ii x_i.A), (49, pp 1), (50, sw 0 x_c.Regs), (51, .ptr 2 [] 1), (52, ii x_i.A), (53, .ptr 0 [] (0 + (Int.toNat x_i.A) * 1)), (54, ii (List.getD x_c.Regs (Int.toNat x_i.A) default)), (55, ii (w64 ((List.getD x_c.Regs (Int.toNat x_i.A) default) + (4096 : Int)))), (56, pp 1), (57, sw 0 x_c.Regs), (58, .ptr 2 [] 2), (59, ii x_i.N), (60, ii (Int.tmod x_i.N (4 : Int))), (61, .ptr 0 [] (0 + (Int.toNat (Int.tmod x_i.N (4 : Int))) * 1))])) (pre := (List.take 7 (List.drop 10 Lf77_r9))) (L' := (List.drop 17 Lf77_r9)) (by kernel_rfl) (fun K => by kernel_rfl) (.cons (by decide) (.cons hg45 .nil)) ?_
   refine qs (.load false 1 (.t 61)) (some 62) (yq_q rfl (op_load (c := (eI .i64)) (xs := x_c.Regs) (e := 3) (r := 0) (π := []) (o := 0 + (Int.toNat (Int.tmod x_i.N (4 : Int))) * 1) (i := (Int.toNat (Int.tmod x_i.N (4 : Int)))) (off := 0) (v := ii (List.getD x_c.Regs (Int.toNat (Int.tmod x_i.N (4 : Int))) default)) len_eI (by kernel_rfl) (by kernel_rfl) (by omega) (by omega) (by decide) (by kernel_rfl) ?_))
   obtain ⟨hg44, hh⟩ := grd_some hh
   refine qtt (cs := [(4096 : Int) ≠ 0, (0 : Int) ≤ x_i.A ∧ x_i.A < (((List.length x_c.Regs) : Nat) : Int)]) (E' := (sp 89 [(2, pp 1), (3, pp 2), (4, pp 3), (5, ii (Int.tmod (w64 (x_c.Pc + (1 : Int))) (64 : Int))), (11, ii x_i.Op), (43, bb (decide (x_i.Op = (15 : Int)))), (45, pp 1), (46, sw 0 x_c.Regs), (47, .ptr 2 [] 1), (48, ii x_i.A), (49, pp 1), (50, sw 0 x_c.Regs), (51, .ptr 2 [] 1), (52, ii x_i.A), (53, .ptr 0 [] (0 + (Int.toNat x_i.A) * 1)), (54, ii (List.getD x_c.Regs (Int.toNat x_i.A) default)), (55, ii (w64 ((List.getD x_c.Regs (Int.toNat x_i.A) default) + (4096 : Int)))), (56, pp 1), (57, sw 0 x_c.Regs), (58, .ptr 2 [] 2), (59, ii x_i.N), (60, ii (Int.tmod x_i.N (4 : Int))), (61, .ptr 0 [] (0 + (Int.toNat (Int.tmod x_i.N (4 : Int))) * 1)), (62, ii (List.getD x_c.Regs (Int.toNat (Int.tmod x_i.N (4 : Int))) default)), (63, ii (w64 ((w64 ((List.getD x_c.Regs (Int.toNat x_i.A) default) + (4096 : Int))) - (List.getD x_c.Regs (Int.toNat (Int.tmod x_i.N (4 : Int))) default)))), (64, ii (Int.tmod (w64 ((w64 ((List.getD x_c.Regs (Int.toNat x_i.A) default) + (4096 : Int))) - (List.getD x_c.Regs (Int.toNat (Int.tmod x_i.N (4 : Int))) default))) (4096 : Int))), (65, .ptr 0 [] (0 + (Int.toNat x_i.A) * 1))])) (fun K => by kernel_rfl) (.cons (by decide) (.cons hg44 .nil)) ?_
   let q6 : Root := ⟨3, (fl (eI .i64) (List.set x_c.Regs (Int.toNat x_i.A) (Int.tmod (w64 ((w64 ((List.getD x_c.Regs (Int.toNat x_i.A) default) + (4096 : Int))) - (List.getD x_c.Regs (Int.toNat (Int.tmod x_i.N (4 : Int))) default))) (4096 : Int))))⟩
   refine ys (.store 1 (.t 65) (.t 64)) none (op_store (c := (eI .i64)) (xs := x_c.Regs) (e := 3) (r := 0) (π := []) (o := 0 + (Int.toNat x_i.A) * 1) (i := (Int.toNat x_i.A)) (off := 0) (vs := [ii (Int.tmod (w64 ((w64 ((List.getD x_c.Regs (Int.toNat x_i.A) default) + (4096 : Int))) - (List.getD x_c.Regs (Int.toNat (Int.tmod x_i.N (4 : Int))) default))) (4096 : Int))]) (y := (Int.tmod (w64 ((w64 ((List.getD x_c.Regs (Int.toNat x_i.A) default) + (4096 : Int))) - (List.getD x_c.Regs (Int.toNat (Int.tmod x_i.N (4 : Int))) default))) (4096 : Int))) (H' := [(0, some q6), (0, some q1), (1, some q2), (2, some ⟨76, (C_76 x_i)⟩), (3, some ⟨39, (.nil :: zru39 [])⟩)]) len_eI (by kernel_rfl) (by kernel_rfl) (by kernel_rfl) (by kernel_rfl) (by omega) (by omega) (by decide) (by kernel_rfl) (by kernel_rfl) ?_)
   refine ye (sp 89 [(2, pp 1), (3, pp 2), (4, pp 3), (5, ii (Int.tmod (w64 (x_c.Pc + (1 : Int))) (64 : Int))), (11, ii x_i.Op), (43, bb (decide (x_i.Op = (15 : Int)))), (45, pp 1), (46, sw 0 x_c.Regs), (47, .ptr 2 [] 1), (48, ii x_i.A), (49, pp 1), (50, sw 0 x_c.Regs), (51, .ptr 2 [] 1), (52, ii x_i.A), (53, .ptr 0 [] (0 + (Int.toNat x_i.A) * 1)), (54, ii (List.getD x_c.Regs (Int.toNat x_i.A) default)), (55, ii (w64 ((List.getD x_c.Regs (Int.toNat x_i.A) default) + (4096 : Int)))), (56, pp 1), (57, sw 0 x_c.Regs), (58, .ptr 2 [] 2), (59, ii x_i.N), (60, ii (Int.tmod x_i.N (4 : Int))), (61, .ptr 0 [] (0 + (Int.toNat (Int.tmod x_i.N (4 : Int))) * 1)), (62, ii (List.getD x_c.Regs (Int.toNat (Int.tmod x_i.N (4 : Int))) default)), (63, ii (w64 ((w64 ((List.getD x_c.Regs (Int.toNat x_i.A) default) + (4096 : Int))) - (List.getD x_c.Regs (Int.toNat (Int.tmod x_i.N (4 : Int))) default)))), (64, ii (Int.tmod (w64 ((w64 ((List.getD x_c.Regs (Int.toNat x_i.A) default) + (4096 : Int))) - (List.getD x_c.Regs (Int.toNat (Int.tmod x_i.N (4 : Int))) default))) (4096 : Int))), (65, .ptr 0 [] (0 + (Int.toNat x_i.A) * 1))]) [(0, some q6), (0, some q1), (1, some q2), (2, some ⟨76, (C_76 x_i)⟩), (3, some ⟨39, (.nil :: zru39 [])⟩)] 4 ?_
   refine blk_m ?_
   obtain rfl := some_some hh
   exact hN1 ((List.set x_c.Regs (Int.toNat x_i.A) (Int.tmod (w64 ((w64 ((List.getD x_c.Regs (Int.toNat x_i.A) default) + (4096 : Int))) - (List.getD x_c.Regs (Int.toNat (Int.tmod x_i.N (4 : Int))) default))) (4096 : Int))), (Int.tmod (w64 (x_c.Pc + (1 : Int))) (64 : Int))) _ _ _ hk1 (Ent.list2 [some 0, some 0, some 1, some 3] rfl rfl (by decide) (rens_sp (by kernel_rfl) (rl_c (u := pp 1) (by kernel_rfl) (ren_p (by decide) rfl) (rl_c (u := pp 3) (by kernel_rfl) (ren_p (by decide) rfl) (rl_c (u := ii (Int.tmod (w64 (x_c.Pc + (1 : Int))) (64 : Int))) (by kernel_rfl) ren_i rl_n)))) (hq q6 (rens_same (noRefs_fl nr_eI)) (hq q2 (rens_c ren_sx (rens_i (rens_i (rens_i (rens_i (rens_b (rens_i (rens_i (rens_i (rens_b (rens_b (rens_b (rens_b rens_n))))))))))))) (hq ⟨39, (.nil :: zru39 [])⟩ (rens_c ren_nil (rens_i (rens_i (rens_i (rens_i (rens_b (rens_i (rens_i (rens_i (rens_b (rens_b (rens_b (rens_b rens_n))))))))))))) hs_nil))))
 refine cF hb ?_
 refine sy [2, 3, 4, 5, 11, 66] [0, 1, 2, 3] (sp 89 [(2, pp 1), (3, pp 2), (4, pp 3), (5, ii (Int.tmod (w64 (x_c.Pc + (1 : Int))) (64 : Int))), (11, ii x_i.Op), (66, bb (decide (x_i.Op = (5 : Int))))]) [(0, some q1), (1, some q2), (2, some ⟨76, (C_76 x_i)⟩), (3, some ⟨39, (.nil :: zru39 [])⟩)] 4 ?_
 rcases cond_some hh with ⟨hb, hh⟩ | ⟨hb, hh⟩
 · refine cT hb ?_
   refine Aw.oreg ?_
   refine ye (sp 89 [(2, pp 1), (3, pp 2), (4, pp 3), (5, ii x_i.N), (11, ii x_i.Op), (66, bb (decide (x_i.Op = (5 : Int)))), (68, .ptr 2 [] 2), (69, ii x_i.N)]) [(0, some q1), (1, some q2), (2, some ⟨76, (C_76 x_i)⟩), (3, some ⟨39, (.nil :: zru39 [])⟩)] 4 ?_
   refine blk_m ?_
   obtain rfl := some_some hh
   exact hN1 (x_c.Regs, x_i.N) _ _ _ hk1 (Ent.list2 [some 0, some 0, some 1, some 3] rfl rfl (by decide) (rens_sp (by kernel_rfl) (rl_c (u := pp 1) (by kernel_rfl) (ren_p (by decide) rfl) (rl_c (u := pp 3) (by kernel_rfl) (ren_p (by decide) rfl) (rl_c (u := ii x_i.N) (by kernel_rfl) ren_i rl_n)))) (hq q1 (rens_same (noRefs_fl nr_eI)) (hq q2 (rens_c ren_sx (rens_i (rens_i (rens_i (rens_i (rens_b (rens_i (rens_i (rens_i (rens_b (rens_b (rens_b (rens_b rens_n))))))))))))) (hq ⟨39, (.nil :: zru39 [])⟩ (rens_c ren_nil (rens_i (rens_i (rens_i (rens_i (rens_b (rens_i (rens_i (rens_i (rens_b (rens_b (rens_b (rens_b rens_n))))))))))))) hs_nil))))
 refine cF hb ?_
 refine sy [2, 3, 4, 5, 11, 70] [0, 1, 2, 3] (sp 89 [(2, pp 1), (3, pp 2), (4, pp 3), (5, ii (Int.tmod (w64 (x_c.Pc + (1 : Int))) (64 : Int))), (11, ii x_i.Op), (70, bb (decide (x_i.Op = (6 : Int))))]) [(0, some q1), (1, some q2), (2, some ⟨76, (C_76 x_i)⟩), (3, some ⟨39, (.nil :: zru39 [])⟩)] 4 ?_
 rcases cond_some hh with ⟨hb, hh⟩ | ⟨hb, hh⟩
 · refine cT hb ?_
   refine Aw.sreg [2, 3, 4, 5, 78] [0, 1, 2, 3] ?_
   obtain ⟨hg48, hh⟩ := grd_some hh
   refine yjc 5 [(0 : Int) ≤ x_i.A ∧ x_i.A < (((List.length x_c.Regs) : Nat) : Int)] (sp 89 [(2, pp 1), (3, pp 2), (4, pp 3), (5, ii (Int.tmod (w64 (x_c.Pc + (1 : Int))) (64 : Int))), (11, ii x_i.Op), (70, bb (decide (x_i.Op = (6 : Int)))), (72, pp 1), (73, sw 0 x_c.Regs), (74, .ptr 2 [] 1), (75, ii x_i.A), (76, .ptr 0 [] (0 + (Int.toNat x_i.A) * 1))]) [(0, some q1), (1, some q2), (2, some ⟨76, (C_76 x_i)⟩), (3, some ⟨39, (.nil :: zru39 [])⟩)] 4 (.cons hg48 .nil) ?_
   refine ys (.load false 1 (.t 76)) (some 77) (op_load (c := (eI .i64)) (xs := x_c.Regs) (e := 3) (r := 0) (π := []) (o := 0 + (Int.toNat x_i.A) * 1) (i := (Int.toNat x_i.A)) (off := 0) (v := ii (List.getD x_c.Regs (Int.toNat x_i.A) default)) len_eI (by kernel_rfl) (by kernel_rfl) (by omega) (by omega) (by decide) (by kernel_rfl) ?_)
   refine yt (sp 89 [(2, pp 1), (3, pp 2), (4, pp 3), (5, ii (Int.tmod (w64 (x_c.Pc + (1 : Int))) (64 : Int))), (78, bb (!decide ((List.getD x_c.Regs (Int.toNat x_i.A) default) = (0 : Int))))]) [(0, some q1), (1, some q2), (2, some ⟨76, (C_76 x_i)⟩), (3, some ⟨39, (.nil :: zru39 [])⟩)] 4 ?_
   rcases cond_some hh with ⟨hb, hh⟩ | ⟨hb, hh⟩
   · refine cT hb ?_
     refine Aw.oreg ?_
     refine ye (sp 89 [(2, pp 1), (3, pp 2), (4, pp 3), (5, ii x_i.N), (78, bb (!decide ((List.getD x_c.Regs (Int.toNat x_i.A) default) = (0 : Int)))), (79, .ptr 2 [] 2), (80, ii x_i.N)]) [(0, some q1), (1, some q2), (2, some ⟨76, (C_76 x_i)⟩), (3, some ⟨39, (.nil :: zru39 [])⟩)] 4 ?_
     refine blk_m ?_
     obtain rfl := some_some hh
     exact hN1 (x_c.Regs, x_i.N) _ _ _ hk1 (Ent.list2 [some 0, some 0, some 1, some 3] rfl rfl (by decide) (rens_sp (by kernel_rfl) (rl_c (u := pp 1) (by kernel_rfl) (ren_p (by decide) rfl) (rl_c (u := pp 3) (by kernel_rfl) (ren_p (by decide) rfl) (rl_c (u := ii x_i.N) (by kernel_rfl) ren_i rl_n)))) (hq q1 (rens_same (noRefs_fl nr_eI)) (hq q2 (rens_c ren_sx (rens_i (rens_i (rens_i (rens_i (rens_b (rens_i (rens_i (rens_i (rens_b (rens_b (rens_b (rens_b rens_n))))))))))))) (hq ⟨39, (.nil :: zru39 [])⟩ (rens_c ren_nil (rens_i (rens_i (rens_i (rens_i (rens_b (rens_i (rens_i (rens_i (rens_b (rens_b (rens_b (rens_b rens_n))))))))))))) hs_nil))))
   refine cF hb ?_
   refine Aw.skip ?_
   refine blk_m ?_
   obtain rfl := some_some hh
   exact hN1 (x_c.Regs, (Int.tmod (w64 (x_c.Pc + (1 : Int))) (64 : Int))) _ _ _ hk1 (Ent.list2 [some 0, some 0, some 1, some 3] rfl rfl (by decide) (rens_sp (by kernel_rfl) (rl_c (u := pp 1) (by kernel_rfl) (ren_p (by decide) rfl) (rl_c (u := pp 3) (by kernel_rfl) (ren_p (by decide) rfl) (rl_c (u := ii (Int.tmod (w64 (x_c.Pc + (1 : Int))) (64 : Int))) (by kernel_rfl) ren_i rl_n)))) (hq q1 (rens_same (noRefs_fl nr_eI)) (hq q2 (rens_c ren_sx (rens_i (rens_i (rens_i (rens_i (rens_b (rens_i (rens_i (rens_i (rens_b (rens_b (rens_b (rens_b rens_n))))))))))))) (hq ⟨39, (.nil :: zru39 [])⟩ (rens_c ren_nil (rens_i (rens_i (rens_i (rens_i (rens_b (rens_i (rens_i (rens_i (rens_b (rens_b (rens_b (rens_b rens_n))))))))))))) hs_nil))))
 refine cF hb ?_
 refine sy [2, 4, 5, 81] [0, 1, 3] (sp 89 [(2, pp 1), (4, pp 3), (5, ii (Int.tmod (w64 (x_c.Pc + (1 : Int))) (64 : Int))), (81, bb (decide (x_i.Op = (7 : Int))))]) [(0, some q1), (1, some q2), (3, some ⟨39, (.nil :: zru39 [])⟩)] 4 ?_
 rcases cond_some hh with ⟨hb, hh⟩ | ⟨hb, hh⟩
 · refine cT hb ?_
   refine Aw.sreg [4] [3, 4] (yu 2 [(83, .agg (sw 0 x_c.Regs :: ru39 x_c [])), (84, ii (Int.tmod (w64 (x_c.Pc + (1 : Int))) (64 : Int)))] [(0, some q1), (1, some q2), (3, some ⟨39, (.nil :: zru39 [])⟩)] 4 ?_)
   obtain ⟨v2, hv2, hh⟩ := bind_some hh
   let q7 : Root := ⟨3, (fl (eI .i64) v2.Regs)⟩
   refine ys (.call 73 [(.t 83), (.t 84), (.c (ii 1)), (.c (ii 0))]) (some 85) (op_callf (v' := .agg (sw 4 v2.Regs :: ru39 v2 [])) (Hp' := [(4, some q7)]) (n' := 5) [0] (spec_l3Trap_fn hv2) (args' := [.agg (sw 0 x_c.Regs :: ru39 x_c []), ii (Int.tmod (w64 (x_c.Pc + (1 : Int))) (64 : Int)), ii 1, ii 0]) (by kernel_rfl) rfl rfl rfl (rens_c (ren_agg (rens_c ren_sx (rens_i (rens_i (rens_i (rens_i (rens_b (rens_i (rens_i (rens_i (rens_b (rens_b (rens_b (rens_b rens_n)))))))))))))) (rens_i (rens_i (rens_i rens_n)))) rfl (hq q1 (rens_same (noRefs_fl nr_eI)) hs_nil) (ren_agg (rens_c ren_sx (rens_i (rens_i (rens_i (rens_i (rens_b (rens_i (rens_i (rens_i (rens_b (rens_b (rens_b (rens_b rens_n)))))))))))))) rfl (hq q7 (rens_same (noRefs_fl nr_eI)) hs_nil) rfl ?_)
   refine yt (sp 89 [(4, pp 3)]) [(3, some ⟨39, (sw 4 v2.Regs :: ru39 v2 [])⟩), (4, some q7)] 5 ?_
   refine Aw.ret ?_
   refine blk_r ?_
   obtain rfl := some_some hh
   refine hR1 _ _ _ ?_
   refine ?_
   rw [some_some hk1]
   exact gives (r' := .agg (sw 4 v2.Regs :: ru39 v2 [])) (by kernel_rfl) (Ent.list2 [some 0, some 4] rfl rfl (by decide) (rens_1 (ren_agg (rens_c ren_sx (rens_i (rens_i (rens_i (rens_i (rens_b (rens_i (rens_i (rens_i (rens_b (rens_b (rens_b (rens_b rens_n))))))))))))))) (hq q7 (rens_same (noRefs_fl nr_eI)) hs_nil))
 refine cF hb ?_
 refine Aw.skip ?_
 refine blk_m ?_
 obtain rfl := some_some hh
 exact hN1 (x_c.Regs, (Int.tmod (w64 (x_c.Pc + (1 : Int))) (64 : Int))) _ _ _ hk1 (Ent.list2 [some 0, some 0, some 1, some 3] rfl rfl (by decide) (rens_sp (by kernel_rfl) (rl_c (u := pp 1) (by kernel_rfl) (ren_p (by decide) rfl) (rl_c (u := pp 3) (by kernel_rfl) (ren_p (by decide) rfl) (rl_c (u := ii (Int.tmod (w64 (x_c.Pc + (1 : Int))) (64 : Int))) (by kernel_rfl) ren_i rl_n)))) (hq q1 (rens_same (noRefs_fl nr_eI)) (hq q2 (rens_c ren_sx (rens_i (rens_i (rens_i (rens_i (rens_b (rens_i (rens_i (rens_i (rens_b (rens_b (rens_b (rens_b rens_n))))))))))))) (hq ⟨39, (.nil :: zru39 [])⟩ (rens_c ren_nil (rens_i (rens_i (rens_i (rens_i (rens_b (rens_i (rens_i (rens_i (rens_b (rens_b (rens_b (rens_b rens_n))))))))))))) hs_nil))))
def Lf38_r0 : List LOper := [oo 1 (.box 43 (.t 0)), oo 2 (.fresh 43 [.nil, (ii 0), (ii 0), (ii 0), (ii 0), (bb false), (ii 0), (ii 0), (ii 0), (bb false), (bb false), (bb false), (bb false), .nil, .nil, .nil])]
def Lf38_r1 : List LOper := [oo 10 (.load true 16 (.t 1)), oo 11 (.call 34 [(.t 10)]), oo 12 (.un .not (.t 11))]
def Lf38_r2 : List LOper := [oo 13 (.bld [.nil, (ii 0), (ii 0), (ii 0), (ii 0), (bb false), (ii 0), (ii 0), (ii 0), (bb false), (bb false), (bb false), (bb false), .nil, .nil, .nil] []), ⟨none, (.store 16 (.t 2) (.t 13)), none⟩]
def Lf38_r3 : List LOper := [oo 14 (.load true 16 (.t 1)), oo 15 (.call 71 [(.t 14)]), oo 3 (.fresh 43 [.nil, (ii 0), (ii 0), (ii 0), (ii 0), (bb false), (ii 0), (ii 0), (ii 0), (bb false), (bb false), (bb false), (bb false), .nil, .nil, .nil]), ⟨none, (.store 16 (.t 3) (.t 15)), none⟩]
def Lf38_r4 : List LOper := [oo 16 (.fadr 0 (.t 1)), oo 17 (.fadr 12 (.t 16)), oo 18 (.load false 1 (.t 17))]
def Lf38_r5 : List LOper := [oo 19 (.load true 16 (.t 3)), ⟨none, (.store 16 (.t 2) (.t 19)), none⟩]
def Lf38_r6 : List LOper := [oo 21 (.fadr 0 (.t 3)), oo 22 (.load true 13 (.t 21)), oo 23 (.call 72 [(.t 22)]), om 20 23, oo 24 (.ext (.t 20) 0), oo 25 (.ext (.t 20) 1), oo 4 (.fresh 39 [.nil, (ii 0), (ii 0), (ii 0), (ii 0), (bb false), (ii 0), (ii 0), (ii 0), (bb false), (bb false), (bb false), (bb false)]), ⟨none, (.store 13 (.t 4) (.t 24)), none⟩, om 5 25]
def Lf38_r7 : List LOper := [oo 26 (.load true 13 (.t 4)), oo 27 (.fadr 0 (.t 3)), ⟨none, (.store 13 (.t 27) (.t 26)), none⟩]
def Lf38_r8 : List LOper := [om 28 5]
def Lf38_r9 : List LOper := [oo 29 (.load true 16 (.t 3)), ⟨none, (.store 16 (.t 2) (.t 29)), none⟩]
def Lf38_r10 : List LOper := [oo 30 (.fadr 13 (.t 3)), oo 31 (.load false 1 (.t 30)), oo 32 (.fadr 2 (.t 4)), oo 33 (.load false 1 (.t 32)), oo 34 (.fadr 1 (.t 4)), oo 35 (.load false 1 (.t 34)), oo 36 (.fadr 10 (.t 4)), oo 37 (.load false 1 (.t 36)), oo 38 (.call 28 [(.t 31), (.t 33), (.t 35), (.t 37), (.c (bb false))]), om 6 38]
def Lf38_r11 : List LOper := [om 39 6, oo 40 (.bin .lss (.t 39) (.c (ii 0)))]
def Lf38_r12 : List LOper := [oo 41 (.load true 13 (.t 4)), oo 42 (.fadr 1 (.t 4)), oo 43 (.load false 1 (.t 42)), oo 44 (.fadr 1 (.t 4)), oo 45 (.load false 1 (.t 44)), oo 46 (.call 73 [(.t 41), (.t 43), (.c (ii 2)), (.t 45)]), oo 47 (.fadr 0 (.t 3)), ⟨none, (.store 13 (.t 47) (.t 46)), none⟩]
def Lf38_r13 : List LOper := [oo 48 (.load true 16 (.t 3)), ⟨none, (.store 16 (.t 2) (.t 48)), none⟩]
def Lf38_r14 : List LOper := [oo 49 (.fadr 13 (.t 3)), oo 50 (.load false 1 (.t 49)), om 51 6, oo 52 (.iadr 1 (.t 50) (.t 51)), oo 53 (.load false 1 (.t 52)), oo 54 (.call 74 [(.t 53)]), oo 7 (.fresh 76 [(ii 0), (ii 0), (ii 0)]), ⟨none, (.store 3 (.t 7) (.t 54)), none⟩]
def Lf38_r15 : List LOper := [oo 55 (.load true 3 (.t 7)), oo 56 (.call 75 [(.t 55)])]
def Lf38_r16 : List LOper := [oo 57 (.fadr 10 (.t 4)), oo 58 (.load false 1 (.t 57))]
def Lf38_r17 : List LOper := [oo 59 (.load true 13 (.t 4)), oo 60 (.fadr 1 (.t 4)), oo 61 (.load false 1 (.t 60)), oo 62 (.call 73 [(.t 59), (.t 61), (.c (ii 3)), (.c (ii 0))]), oo 63 (.fadr 0 (.t 3)), ⟨none, (.store 13 (.t 63) (.t 62)), none⟩]
def Lf38_r18 : List LOper := [oo 64 (.load true 16 (.t 3)), ⟨none, (.store 16 (.t 2) (.t 64)), none⟩]
def Lf38_r19 : List LOper := [oo 66 (.load true 13 (.t 4)), oo 67 (.fadr 14 (.t 3)), oo 68 (.load false 1 (.t 67)), oo 69 (.fadr 15 (.t 3)), oo 70 (.load false 1 (.t 69)), oo 71 (.load true 3 (.t 7)), oo 72 (.call 76 [(.t 66), (.t 68), (.t 70), (.t 71)]), om 65 72, oo 73 (.ext (.t 65) 0), oo 74 (.ext (.t 65) 1), oo 75 (.ext (.t 65) 2), oo 76 (.fadr 0 (.t 3)), ⟨none, (.store 13 (.t 76) (.t 73)), none⟩, oo 77 (.fadr 14 (.t 3)), ⟨none, (.store 1 (.t 77) (.t 74)), none⟩, oo 78 (.fadr 15 (.t 3)), ⟨none, (.store 1 (.t 78) (.t 75)), none⟩]
def Lf38_r20 : List LOper := [oo 79 (.load true 16 (.t 3)), ⟨none, (.store 16 (.t 2) (.t 79)), none⟩]
def Lf38_r21 : List LOper := [oo 80 (.fadr 0 (.t 7)), oo 81 (.load false 1 (.t 80)), oo 82 (.bin .neq (.t 81) (.c (ii 3))), om 83 82, ⟨(some 84), (.fadr 0 (.t 7)), (some (83, true))⟩, ⟨(some 85), (.load false 1 (.t 84)), (some (83, true))⟩, ⟨(some 86), (.bin .neq (.t 85) (.c (ii 4))), (some (83, true))⟩, oo 87 (.pick (.t 83) (.t 86) (.c (bb false)))]
def Lf38_r22 : List LOper := [oo 88 (.load true 13 (.t 4)), oo 89 (.load true 3 (.t 7)), oo 90 (.call 77 [(.t 88), (.t 89)]), oo 91 (.fadr 0 (.t 3)), ⟨none, (.store 13 (.t 91) (.t 90)), none⟩]
def Lf38_r23 : List LOper := [oo 92 (.load true 16 (.t 3)), ⟨none, (.store 16 (.t 2) (.t 92)), none⟩]
def Lf38_r24 : List LOper := [oo 93 (.fadr 0 (.t 4)), oo 94 (.load false 1 (.t 93)), oo 95 (.fadr 2 (.t 7)), oo 96 (.load false 1 (.t 95)), oo 97 (.bin .rem (.t 96) (.c (ii 4))), oo 98 (.iadr 1 (.t 94) (.t 97)), oo 99 (.load false 1 (.t 98)), oo 100 (.bin .rem (.t 99) (.c (ii 64))), om 8 100]
def Lf38_r25 : List LOper := [oo 101 (.fadr 13 (.t 3)), oo 102 (.load false 1 (.t 101)), oo 103 (.fadr 2 (.t 4)), oo 104 (.load false 1 (.t 103)), om 105 8, oo 106 (.fadr 10 (.t 4)), oo 107 (.load false 1 (.t 106)), oo 108 (.fadr 0 (.t 7)), oo 109 (.load false 1 (.t 108)), oo 110 (.bin .eql (.t 109) (.c (ii 4))), oo 111 (.call 28 [(.t 102), (.t 104), (.t 105), (.t 107), (.t 110)]), om 9 111]
def Lf38_r26 : List LOper := [om 112 9, oo 113 (.bin .lss (.t 112) (.c (ii 0)))]
def Lf38_r27 : List LOper := [oo 114 (.load true 13 (.t 4)), oo 115 (.fadr 1 (.t 4)), oo 116 (.load false 1 (.t 115)), om 117 8, oo 118 (.call 73 [(.t 114), (.t 116), (.c (ii 2)), (.t 117)]), oo 119 (.fadr 0 (.t 3)), ⟨none, (.store 13 (.t 119) (.t 118)), none⟩]
def Lf38_r28 : List LOper := [oo 120 (.load true 16 (.t 3)), ⟨none, (.store 16 (.t 2) (.t 120)), none⟩]
def Lf38_r29 : List LOper := [oo 121 (.fadr 0 (.t 7)), oo 122 (.load false 1 (.t 121)), oo 123 (.bin .eql (.t 122) (.c (ii 3)))]
def Lf38_r30 : List LOper := [oo 124 (.fadr 0 (.t 4)), oo 125 (.load false 1 (.t 124)), oo 126 (.fadr 1 (.t 7)), oo 127 (.load false 1 (.t 126)), oo 128 (.fadr 13 (.t 3)), oo 129 (.load false 1 (.t 128)), om 130 9, oo 131 (.iadr 1 (.t 129) (.t 130)), oo 132 (.load false 1 (.t 131)), oo 133 (.iadr 1 (.t 125) (.t 127))]
def Lf38_r30t : List LOper := [⟨none, (.store 1 (.t 133) (.t 132)), none⟩]
def Lf38_r32 : List LOper := [oo 134 (.fadr 13 (.t 3)), oo 135 (.load false 1 (.t 134)), om 136 9, oo 137 (.fadr 0 (.t 4)), oo 138 (.load false 1 (.t 137)), oo 139 (.fadr 1 (.t 7)), oo 140 (.load false 1 (.t 139)), oo 141 (.iadr 1 (.t 138) (.t 140)), oo 142 (.load false 1 (.t 141)), oo 143 (.iadr 1 (.t 135) (.t 136))]
def Lf38_r32t : List LOper := [⟨none, (.store 1 (.t 143) (.t 142)), none⟩]
def Lf38_r34 : List LOper := [oo 144 (.fadr 1 (.t 4)), oo 145 (.load false 1 (.t 144)), oo 146 (.bin .add (.t 145) (.c (ii 1))), oo 147 (.bin .rem (.t 146) (.c (ii 64))), oo 148 (.fadr 1 (.t 4)), ⟨none, (.store 1 (.t 148) (.t 147)), none⟩]
def Lf38_r35 : List LOper := [oo 149 (.load true 13 (.t 4)), oo 150 (.fadr 0 (.t 3)), ⟨none, (.store 13 (.t 150) (.t 149)), none⟩]
def Lf38_r36 : List LOper := [oo 151 (.load true 16 (.t 3)), ⟨none, (.store 16 (.t 2) (.t 151)), none⟩]
def Lf38 : LFun := ⟨152, [(.cell 2 true 16)], (.seq (.reg false Lf38_r0) (.seq (.seq (.reg false Lf38_r1) (.cond (.t 12) (.seq (.reg false Lf38_r2) .ret) .skip)) (.seq (.reg false Lf38_r3) (.seq (.seq (.reg false Lf38_r4) (.cond (.t 18) (.seq (.reg false Lf38_r5) .ret) .skip)) (.seq (.reg false Lf38_r6) (.seq (.reg false Lf38_r7) (.seq (.seq (.reg false Lf38_r8) (.cond (.t 28) (.seq (.reg false Lf38_r9) .ret) .skip)) (.seq (.reg false Lf38_r10) (.seq (.seq (.reg false Lf38_r11) (.cond (.t 40) (.seq (.reg false Lf38_r12) (.seq (.reg false Lf38_r13) .ret)) .skip)) (.seq (.reg false Lf38_r14) (.seq (.seq (.reg false Lf38_r15) (.cond (.t 56) (.seq (.seq (.reg false Lf38_r16) (.cond (.t 58) (.seq (.reg false Lf38_r17) (.seq (.reg false Lf38_r18) .ret)) .skip)) (.seq (.reg false Lf38_r19) (.seq (.reg false Lf38_r20) .ret))) .skip)) (.seq (.seq (.reg false Lf38_r21) (.cond (.t 87) (.seq (.reg false Lf38_r22) (.seq (.reg false Lf38_r23) .ret)) .skip)) (.seq (.reg false Lf38_r24) (.seq (.reg false Lf38_r25) (.seq (.seq (.reg false Lf38_r26) (.cond (.t 113) (.seq (.reg false Lf38_r27) (.seq (.reg false Lf38_r28) .ret)) .skip)) (.seq (.seq (.reg false Lf38_r29) (.cond (.t 123) (.regt Lf38_r30 Lf38_r30t) (.regt Lf38_r32 Lf38_r32t))) (.seq (.reg false Lf38_r34) (.seq (.reg false Lf38_r35) (.seq (.reg false Lf38_r36) .ret)))))))))))))))))))⟩
theorem low_spec_BareStep : lowFun Go.Proofs.Try.prog 38 = some Lf38 := by kernel_rfl
noncomputable def F_spec_BareStep_j13 (v2 : DBare) (v3 : DCore × Bool) (s13 : (List Int) × (List Int)) : Option DBare :=
 some (DBare.mk (DCore.mk s13.1 (Int.tmod (w64 (v3.1.Pc + (1 : Int))) (64 : Int)) v3.1.Root v3.1.Vector v3.1.Saved v3.1.SavedUser v3.1.Cause v3.1.Bad v3.1.Timer v3.1.Waits v3.1.User v3.1.On v3.1.Stopped) s13.2 v2.In v2.Out)
noncomputable def F_spec_BareStep_j10 (v2 : DBare) (v3 : DCore × Bool) (v6 : DIns) (s10 : Unit) : Option DBare :=
 grd ((0 : Int) ≤ (Int.tmod v6.N (4 : Int)) ∧ (Int.tmod v6.N (4 : Int)) < (((List.length v3.1.Regs) : Nat) : Int)) (Option.bind (F_spec_Walk v2.Mem v3.1.Root (Int.tmod (List.getD v3.1.Regs (Int.toNat (Int.tmod v6.N (4 : Int))) default) (64 : Int)) v3.1.User (decide (v6.Op = (4 : Int)))) fun v11 =>
  cond (decide (v11 < (0 : Int)))
   (Option.bind (F_spec_l3Trap v3.1 v3.1.Pc (2 : Int) (Int.tmod (List.getD v3.1.Regs (Int.toNat (Int.tmod v6.N (4 : Int))) default) (64 : Int))) fun v12 =>
   some (DBare.mk v12 v2.Mem v2.In v2.Out))
   (Option.bind (cond (decide (v6.Op = (3 : Int)))
    (grd ((0 : Int) ≤ v11 ∧ v11 < (((List.length v2.Mem) : Nat) : Int)) (grd ((0 : Int) ≤ v6.A ∧ v6.A < (((List.length v3.1.Regs) : Nat) : Int)) (some (.go ((List.set v3.1.Regs (Int.toNat v6.A) (List.getD v2.Mem (Int.toNat v11) default)), v2.Mem)))))
    (grd ((0 : Int) ≤ v6.A ∧ v6.A < (((List.length v3.1.Regs) : Nat) : Int)) (grd ((0 : Int) ≤ v11 ∧ v11 < (((List.length v2.Mem) : Nat) : Int)) (some (.go (v3.1.Regs, (List.set v2.Mem (Int.toNat v11) (List.getD v3.1.Regs (Int.toNat v6.A) default)))))))) fun j13 =>
    JO.run j13 (F_spec_BareStep_j13 v2 v3)))
noncomputable def F_spec_BareStep (x_b : DBare) : Option DBare :=
 Option.bind (F_spec_BareOk x_b) fun v1 =>
 cond (!v1)
  (some (DBare.mk (DCore.mk ([] : List Int) (0 : Int) (0 : Int) (0 : Int) (0 : Int) false (0 : Int) (0 : Int) (0 : Int) false false false false) ([] : List Int) ([] : List Int) ([] : List Int)))
  (Option.bind (F_spec_l3Copy x_b) fun v2 =>
  cond x_b.C.Stopped
   (some v2)
   (Option.bind (F_spec_l3Ticked v2.C) fun v3 =>
   cond v3.2
    (some (DBare.mk v3.1 v2.Mem v2.In v2.Out))
    (Option.bind (F_spec_Walk v2.Mem v3.1.Root v3.1.Pc v3.1.User false) fun v4 =>
    cond (decide (v4 < (0 : Int)))
     (Option.bind (F_spec_l3Trap v3.1 v3.1.Pc (2 : Int) v3.1.Pc) fun v5 =>
     some (DBare.mk v5 v2.Mem v2.In v2.Out))
     (grd ((0 : Int) ≤ v4 ∧ v4 < (((List.length v2.Mem) : Nat) : Int)) (Option.bind (F_spec_InsFrom (List.getD v2.Mem (Int.toNat v4) default)) fun v6 =>
      Option.bind (F_spec_InsKernel v6) fun v7 =>
      cond v7
       (cond v3.1.User
        (Option.bind (F_spec_l3Trap v3.1 v3.1.Pc (3 : Int) (0 : Int)) fun v8 =>
        some (DBare.mk v8 v2.Mem v2.In v2.Out))
        (Option.bind (F_spec_l3Kernel v3.1 v2.In v2.Out v6) fun v9 =>
        some (DBare.mk v9.1 v2.Mem v9.2.1 v9.2.2)))
       (Option.bind (cond (!decide (v6.Op = (3 : Int)))
        (cond (!decide (v6.Op = (4 : Int)))
         (Option.bind (F_spec_l3Plain v3.1 v6) fun v14 =>
         some (.out (DBare.mk v14 v2.Mem v2.In v2.Out)))
         (some (.go ())))
        (some (.go ()))) fun j10 =>
        JO.run j10 (F_spec_BareStep_j10 v2 v3 v6)))))))
theorem spec_BareStep_fn {x_b : DBare} {R_ : DBare} (hh : F_spec_BareStep x_b = some R_) : Fn Try.prog 38 [.agg (B_43 x_b)] (.agg (bo (eI .i64) R_.C.Regs :: ru39 R_.C [bo (eI .i64) R_.Mem, bo (eI .i64) R_.In, bo (eI .i64) R_.Out])) := by
 unfold F_spec_BareStep at hh
 refine Fn.start low_spec_BareStep [0] (E := sp 152 [(0, .agg (B_43 x_b))]) (by kernel_rfl) (v := .agg (bo (eI .i64) R_.C.Regs :: ru39 R_.C [bo (eI .i64) R_.Mem, bo (eI .i64) R_.In, bo (eI .i64) R_.Out])) (Hr := []) (k := 0) (by kernel_rfl) ?_
 refine Aw.sreg [1, 2] [0, 1] ?_
 let q1 : Root := ⟨43, (.nil :: zru39 [.nil, .nil, .nil])⟩
 refine yt (sp 152 [(1, pp 0), (2, pp 1)]) [(0, some ⟨43, (B_43 x_b)⟩), (1, some q1)] 2 ?_
 refine Aw.seq ?_
 refine Aw.sreg [1, 2, 12] [0, 1] (yj 1  (sp 152 [(1, pp 0), (2, pp 1), (10, .agg (B_43 x_b))]) [(0, some ⟨43, (B_43 x_b)⟩), (1, some q1)] 2 ?_)
 obtain ⟨v1, hv1, hh⟩ := bind_some hh
 refine ys (.call 34 [(.t 10)]) (some 11) (op_call (r := bb v1) (v := bb v1) (Hr := []) (n' := 2) (spec_BareOk_fn hv1) (clz_v (vs := [.agg (B_43 x_b)]) (by kernel_rfl) (clz_c (clo_same (clean_agg (cl_B_43 _))) clz_n)) rfl rfl (by kernel_rfl) ?_)
 refine yt (sp 152 [(1, pp 0), (2, pp 1), (12, bb (!v1))]) [(0, some ⟨43, (B_43 x_b)⟩), (1, some q1)] 2 ?_
 rcases cond_some hh with ⟨hb, hh⟩ | ⟨hb, hh⟩
 · refine cT hb ?_
   refine sy [2] [1] (sp 152 [(2, pp 1)]) [(1, some q1)] 2 ?_
   refine Aw.ret ?_
   refine then_r ?_
   rw [some_some hh]
   exact gives (r' := .agg (.nil :: zru39 [.nil, .nil, .nil])) (by kernel_rfl) (Ent.clov (.one _ _ (clo_agg (clos_c (clo_nil (T := Int) (c := (eI .i64))) (cs1 (cs1 (cs1 (cs1 (cs1 (cs1 (cs1 (cs1 (cs1 (cs1 (cs1 (cs1 (clos_c (clo_nil (T := Int) (c := (eI .i64))) (clos_c (clo_nil (T := Int) (c := (eI .i64))) (clos_c (clo_nil (T := Int) (c := (eI .i64))) clos_n)))))))))))))))))))
 refine cF hb ?_
 refine Aw.xskip (fun _ _ _ hq => then_m hq) ?_
 refine Aw.sreg [1, 2, 3] [0, 1, 2, 3, 4, 5, 6] (yj 1  (sp 152 [(1, pp 0), (2, pp 1), (12, bb (!v1)), (14, .agg (B_43 x_b))]) [(0, some ⟨43, (B_43 x_b)⟩), (1, some q1)] 2 ?_)
 obtain ⟨v2, hv2, hh⟩ := bind_some hh
 let q2 : Root := ⟨3, (fl (eI .i64) v2.Out)⟩
 let q3 : Root := ⟨3, (fl (eI .i64) v2.In)⟩
 let q4 : Root := ⟨3, (fl (eI .i64) v2.Mem)⟩
 let q5 : Root := ⟨3, (fl (eI .i64) v2.C.Regs)⟩
 refine ys (.call 71 [(.t 14)]) (some 15) (op_call (r := .agg (.own 3 1 (List.length v2.C.Regs) (fl (eI .i64) v2.C.Regs) :: ru39 v2.C [.own 3 1 (List.length v2.Mem) (fl (eI .i64) v2.Mem), .own 3 1 (List.length v2.In) (fl (eI .i64) v2.In), .own 3 1 (List.length v2.Out) (fl (eI .i64) v2.Out)])) (v := .agg (sw 2 v2.C.Regs :: ru39 v2.C [sw 3 v2.Mem, sw 4 v2.In, sw 5 v2.Out])) (Hr := [(5, some q2), (4, some q3), (3, some q4), (2, some q5)]) (n' := 6) (spec_l3Copy_fn hv2) (clz_v (vs := [.agg (B_43 x_b)]) (by kernel_rfl) (clz_c (clo_same (clean_agg (cl_B_43 _))) clz_n)) (by simp only [ru39, AV.noRef, noRefs, Bool.and_self, noRefs_fl nr_eI]) (by simp only [ru39, AV.noBor, noBors, Bool.and_self, noBors_fl nb_eI]) (by kernel_rfl) ?_)
 let q6 : Root := ⟨43, (sw 2 v2.C.Regs :: ru39 v2.C [sw 3 v2.Mem, sw 4 v2.In, sw 5 v2.Out])⟩
 refine yt (sp 152 [(1, pp 0), (2, pp 1), (3, pp 6)]) [(0, some ⟨43, (B_43 x_b)⟩), (1, some q1), (2, some q5), (3, some q4), (4, some q3), (5, some q2), (6, some q6)] 7 ?_
 refine Aw.seq ?_
 refine sy [2, 3, 18] [1, 2, 3, 4, 5, 6] (sp 152 [(2, pp 1), (3, pp 6), (18, bb x_b.C.Stopped)]) [(1, some q1), (2, some q5), (3, some q4), (4, some q3), (5, some q2), (6, some q6)] 7 ?_
 rcases cond_some hh with ⟨hb, hh⟩ | ⟨hb, hh⟩
 · refine cT hb ?_
   refine sy [2] [1, 2, 3, 4, 5] (sp 152 [(2, pp 1)]) [(1, some q6), (2, some q5), (3, some q4), (4, some q3), (5, some q2)] 7 ?_
   refine Aw.ret ?_
   refine then_r ?_
   rw [some_some hh]
   exact gives (r' := .agg (sw 2 v2.C.Regs :: ru39 v2.C [sw 3 v2.Mem, sw 4 v2.In, sw 5 v2.Out])) (by kernel_rfl) (Ent.clov (.one _ _ (clo_agg (clos_c (clo_own (c := (eI .i64)) (xs := v2.C.Regs) (e := 3) (by first | rfl | omega | (simp only [List.length_set, over_len, List.length_replicate, List.length_append, List.length_cons, List.length_nil, List.length_take, List.length_drop] <;> omega)) len_eI no_eI cl_eI (by kernel_rfl)) (cs1 (cs1 (cs1 (cs1 (cs1 (cs1 (cs1 (cs1 (cs1 (cs1 (cs1 (cs1 (clos_c (clo_own (c := (eI .i64)) (xs := v2.Mem) (e := 3) (by first | rfl | omega | (simp only [List.length_set, over_len, List.length_replicate, List.length_append, List.length_cons, List.length_nil, List.length_take, List.length_drop] <;> omega)) len_eI no_eI cl_eI (by kernel_rfl)) (clos_c (clo_own (c := (eI .i64)) (xs := v2.In) (e := 3) (by first | rfl | omega | (simp only [List.length_set, over_len, List.length_replicate, List.length_append, List.length_cons, List.length_nil, List.length_take, List.length_drop] <;> omega)) len_eI no_eI cl_eI (by kernel_rfl)) (clos_c (clo_own (c := (eI .i64)) (xs := v2.Out) (e := 3) (by first | rfl | omega | (simp only [List.length_set, over_len, List.length_replicate, List.length_append, List.length_cons, List.length_nil, List.length_take, List.length_drop] <;> omega)) len_eI no_eI cl_eI (by kernel_rfl)) clos_n)))))))))))))))))))
 refine cF hb ?_
 refine Aw.xskip (fun _ _ _ hq => then_m hq) ?_
 refine Aw.sreg [2, 3, 4, 5] [1, 3, 4, 5, 6, 7, 8] (yj 2  (sp 152 [(2, pp 1), (3, pp 6), (18, bb x_b.C.Stopped), (21, pp 6), (22, .agg (sw 2 v2.C.Regs :: ru39 v2.C []))]) [(1, some q1), (2, some q5), (3, some q4), (4, some q3), (5, some q2), (6, some q6)] 7 ?_)
 obtain ⟨v3, hv3, hh⟩ := bind_some hh
 let q7 : Root := ⟨3, (fl (eI .i64) v3.1.Regs)⟩
 refine ys (.call 72 [(.t 22)]) (some 23) (op_callf (v' := .tup [.agg (sw 7 v3.1.Regs :: ru39 v3.1 []), bb v3.2]) (Hp' := [(7, some q7)]) (n' := 8) [2] (spec_l3Ticked_fn hv3) (args' := [.agg (sw 2 v2.C.Regs :: ru39 v2.C [])]) (by kernel_rfl) rfl rfl rfl (rens_c (ren_agg (rens_c ren_sx (rens_i (rens_i (rens_i (rens_i (rens_b (rens_i (rens_i (rens_i (rens_b (rens_b (rens_b (rens_b rens_n)))))))))))))) rens_n) rfl (hq q5 (rens_same (noRefs_fl nr_eI)) hs_nil) (ren_tup (rens_c (ren_agg (rens_c ren_sx (rens_i (rens_i (rens_i (rens_i (rens_b (rens_i (rens_i (rens_i (rens_b (rens_b (rens_b (rens_b rens_n)))))))))))))) (rens_b rens_n))) rfl (hq q7 (rens_same (noRefs_fl nr_eI)) hs_nil) rfl ?_)
 let q8 : Root := ⟨39, (sw 7 v3.1.Regs :: ru39 v3.1 [])⟩
 refine yt (sp 152 [(2, pp 1), (3, pp 6), (4, pp 8), (5, bb v3.2)]) [(1, some q1), (3, some q4), (4, some q3), (5, some q2), (6, some q6), (7, some q7), (8, some q8)] 9 ?_
 refine Aw.sreg [2, 3, 4, 5] [1, 3, 4, 5, 6, 7, 8] ?_
 let q9 : Root := ⟨43, (sw 7 v3.1.Regs :: ru39 v3.1 [sw 3 v2.Mem, sw 4 v2.In, sw 5 v2.Out])⟩
 refine yt (sp 152 [(2, pp 1), (3, pp 6), (4, pp 8), (5, bb v3.2)]) [(1, some q1), (3, some q4), (4, some q3), (5, some q2), (6, some q9), (7, some q7), (8, some q8)] 9 ?_
 refine Aw.seq ?_
 refine sy [2, 3, 4, 28] [1, 3, 4, 5, 6, 7, 8] (sp 152 [(2, pp 1), (3, pp 6), (4, pp 8), (28, bb v3.2)]) [(1, some q1), (3, some q4), (4, some q3), (5, some q2), (6, some q9), (7, some q7), (8, some q8)] 9 ?_
 rcases cond_some hh with ⟨hb, hh⟩ | ⟨hb, hh⟩
 · refine cT hb ?_
   refine sy [2] [1, 3, 4, 5, 7] (sp 152 [(2, pp 1)]) [(1, some q9), (3, some q4), (4, some q3), (5, some q2), (7, some q7)] 9 ?_
   refine Aw.ret ?_
   refine then_r ?_
   rw [some_some hh]
   exact gives (r' := .agg (sw 7 v3.1.Regs :: ru39 v3.1 [sw 3 v2.Mem, sw 4 v2.In, sw 5 v2.Out])) (by kernel_rfl) (Ent.clov (.one _ _ (clo_agg (clos_c (clo_own (c := (eI .i64)) (xs := v3.1.Regs) (e := 3) (by first | rfl | omega | (simp only [List.length_set, over_len, List.length_replicate, List.length_append, List.length_cons, List.length_nil, List.length_take, List.length_drop] <;> omega)) len_eI no_eI cl_eI (by kernel_rfl)) (cs1 (cs1 (cs1 (cs1 (cs1 (cs1 (cs1 (cs1 (cs1 (cs1 (cs1 (cs1 (clos_c (clo_own (c := (eI .i64)) (xs := v2.Mem) (e := 3) (by first | rfl | omega | (simp only [List.length_set, over_len, List.length_replicate, List.length_append, List.length_cons, List.length_nil, List.length_take, List.length_drop] <;> omega)) len_eI no_eI cl_eI (by kernel_rfl)) (clos_c (clo_own (c := (eI .i64)) (xs := v2.In) (e := 3) (by first | rfl | omega | (simp only [List.length_set, over_len, List.length_replicate, List.length_append, List.length_cons, List.length_nil, List.length_take, List.length_drop] <;> omega)) len_eI no_eI cl_eI (by kernel_rfl)) (clos_c (clo_own (c := (eI .i64)) (xs := v2.Out) (e := 3) (by first | rfl | omega | (simp only [List.length_set, over_len, List.length_replicate, List.length_append, List.length_cons, List.length_nil, List.length_take, List.length_drop] <;> omega)) len_eI no_eI cl_eI (by kernel_rfl)) clos_n)))))))))))))))))))
 refine cF hb ?_
 refine Aw.xskip (fun _ _ _ hq => then_m hq) ?_
 refine Aw.sreg [2, 3, 4, 6] [1, 3, 4, 5, 6, 7, 8] (yj 8  (sp 152 [(2, pp 1), (3, pp 6), (4, pp 8), (28, bb v3.2), (30, .ptr 6 [] 13), (31, sw 3 v2.Mem), (32, .ptr 8 [] 2), (33, ii v3.1.Root), (34, .ptr 8 [] 1), (35, ii v3.1.Pc), (36, .ptr 8 [] 10), (37, bb v3.1.User)]) [(1, some q1), (3, some q4), (4, some q3), (5, some q2), (6, some q9), (7, some q7), (8, some q8)] 9 ?_)
 obtain ⟨v4, hv4, hh⟩ := bind_some hh
 refine ys (.call 28 [(.t 31), (.t 33), (.t 35), (.t 37), (.c (bb false))]) (some 38) (op_call (r := ii v4) (v := ii v4) (Hr := []) (n' := 9) (spec_Walk_fn hv4) (clz_v (vs := [sw 3 v2.Mem, ii v3.1.Root, ii v3.1.Pc, bb v3.1.User, bb false]) (by kernel_rfl) (clz_c (clo_own (c := (eI .i64)) (xs := v2.Mem) (e := 3) (by first | rfl | omega | (simp only [List.length_set, over_len, List.length_replicate, List.length_append, List.length_cons, List.length_nil, List.length_take, List.length_drop] <;> omega)) len_eI no_eI cl_eI (by kernel_rfl)) (cz1 (cz1 (cz1 (cz1 clz_n)))))) rfl rfl (by kernel_rfl) ?_)
 refine yt (sp 152 [(2, pp 1), (3, pp 6), (4, pp 8), (6, ii v4)]) [(1, some q1), (3, some q4), (4, some q3), (5, some q2), (6, some q9), (7, some q7), (8, some q8)] 9 ?_
 refine Aw.seq ?_
 refine sy [2, 3, 4, 6, 40] [1, 3, 4, 5, 6, 7, 8] (sp 152 [(2, pp 1), (3, pp 6), (4, pp 8), (6, ii v4), (40, bb (decide (v4 < (0 : Int))))]) [(1, some q1), (3, some q4), (4, some q3), (5, some q2), (6, some q9), (7, some q7), (8, some q8)] 9 ?_
 rcases cond_some hh with ⟨hb, hh⟩ | ⟨hb, hh⟩
 · refine cT hb ?_
   refine Aw.sreg [2, 3] [1, 3, 4, 5, 6, 9] (yu 5 [(41, .agg (sw 7 v3.1.Regs :: ru39 v3.1 [])), (42, .ptr 8 [] 1), (43, ii v3.1.Pc), (44, .ptr 8 [] 1), (45, ii v3.1.Pc)] [(1, some q1), (3, some q4), (4, some q3), (5, some q2), (6, some q9), (7, some q7), (8, some q8)] 9 ?_)
   obtain ⟨v5, hv5, hh⟩ := bind_some hh
   let q10 : Root := ⟨3, (fl (eI .i64) v5.Regs)⟩
   refine ys (.call 73 [(.t 41), (.t 43), (.c (ii 2)), (.t 45)]) (some 46) (op_callf (v' := .agg (sw 9 v5.Regs :: ru39 v5 [])) (Hp' := [(9, some q10)]) (n' := 10) [7] (spec_l3Trap_fn hv5) (args' := [.agg (sw 7 v3.1.Regs :: ru39 v3.1 []), ii v3.1.Pc, ii 2, ii v3.1.Pc]) (by kernel_rfl) rfl rfl rfl (rens_c (ren_agg (rens_c ren_sx (rens_i (rens_i (rens_i (rens_i (rens_b (rens_i (rens_i (rens_i (rens_b (rens_b (rens_b (rens_b rens_n)))))))))))))) (rens_i (rens_i (rens_i rens_n)))) rfl (hq q7 (rens_same (noRefs_fl nr_eI)) hs_nil) (ren_agg (rens_c ren_sx (rens_i (rens_i (rens_i (rens_i (rens_b (rens_i (rens_i (rens_i (rens_b (rens_b (rens_b (rens_b rens_n)))))))))))))) rfl (hq q10 (rens_same (noRefs_fl nr_eI)) hs_nil) rfl ?_)
   let q11 : Root := ⟨43, (sw 9 v5.Regs :: ru39 v5 [sw 3 v2.Mem, sw 4 v2.In, sw 5 v2.Out])⟩
   refine yt (sp 152 [(2, pp 1), (3, pp 6)]) [(1, some q1), (3, some q4), (4, some q3), (5, some q2), (6, some q11), (9, some q10)] 10 ?_
   refine sy [2] [1, 3, 4, 5, 9] (sp 152 [(2, pp 1)]) [(1, some q11), (3, some q4), (4, some q3), (5, some q2), (9, some q10)] 10 ?_
   refine Aw.ret ?_
   refine then_r ?_
   rw [some_some hh]
   exact gives (r' := .agg (sw 9 v5.Regs :: ru39 v5 [sw 3 v2.Mem, sw 4 v2.In, sw 5 v2.Out])) (by kernel_rfl) (Ent.clov (.one _ _ (clo_agg (clos_c (clo_own (c := (eI .i64)) (xs := v5.Regs) (e := 3) (by first | rfl | omega | (simp only [List.length_set, over_len, List.length_replicate, List.length_append, List.length_cons, List.length_nil, List.length_take, List.length_drop] <;> omega)) len_eI no_eI cl_eI (by kernel_rfl)) (cs1 (cs1 (cs1 (cs1 (cs1 (cs1 (cs1 (cs1 (cs1 (cs1 (cs1 (cs1 (clos_c (clo_own (c := (eI .i64)) (xs := v2.Mem) (e := 3) (by first | rfl | omega | (simp only [List.length_set, over_len, List.length_replicate, List.length_append, List.length_cons, List.length_nil, List.length_take, List.length_drop] <;> omega)) len_eI no_eI cl_eI (by kernel_rfl)) (clos_c (clo_own (c := (eI .i64)) (xs := v2.In) (e := 3) (by first | rfl | omega | (simp only [List.length_set, over_len, List.length_replicate, List.length_append, List.length_cons, List.length_nil, List.length_take, List.length_drop] <;> omega)) len_eI no_eI cl_eI (by kernel_rfl)) (clos_c (clo_own (c := (eI .i64)) (xs := v2.Out) (e := 3) (by first | rfl | omega | (simp only [List.length_set, over_len, List.length_replicate, List.length_append, List.length_cons, List.length_nil, List.length_take, List.length_drop] <;> omega)) len_eI no_eI cl_eI (by kernel_rfl)) clos_n)))))))))))))))))))
 refine cF hb ?_
 refine Aw.xskip (fun _ _ _ hq => then_m hq) ?_
 refine Aw.sreg [2, 3, 4, 7] [1, 3, 4, 5, 6, 7, 8, 9] ?_
 obtain ⟨hg28, hh⟩ := grd_some hh
 refine yjc 4 [(0 : Int) ≤ v4 ∧ v4 < (((List.length v2.Mem) : Nat) : Int)] (sp 152 [(2, pp 1), (3, pp 6), (4, pp 8), (6, ii v4), (40, bb (decide (v4 < (0 : Int)))), (49, .ptr 6 [] 13), (50, sw 3 v2.Mem), (51, ii v4), (52, .ptr 3 [] (0 + (Int.toNat v4) * 1))]) [(1, some q1), (3, some q4), (4, some q3), (5, some q2), (6, some q9), (7, some q7), (8, some q8)] 9 (.cons hg28 .nil) ?_
 refine ys (.load false 1 (.t 52)) (some 53) (op_load (c := (eI .i64)) (xs := v2.Mem) (e := 3) (r := 3) (π := []) (o := 0 + (Int.toNat v4) * 1) (i := (Int.toNat v4)) (off := 0) (v := ii (List.getD v2.Mem (Int.toNat v4) default)) len_eI (by kernel_rfl) (by kernel_rfl) (by omega) (by omega) (by decide) (by kernel_rfl) ?_)
 obtain ⟨v6, hv6, hh⟩ := bind_some hh
 refine ys (.call 74 [(.t 53)]) (some 54) (oc (spec_InsFrom_fn hv6) ?_)
 refine yt (sp 152 [(2, pp 1), (3, pp 6), (4, pp 8), (7, pp 9)]) [(1, some q1), (3, some q4), (4, some q3), (5, some q2), (6, some q9), (7, some q7), (8, some q8), (9, some ⟨76, (C_76 v6)⟩)] 10 ?_
 refine Aw.seq ?_
 refine Aw.sreg [2, 3, 4, 7, 56] [1, 3, 4, 5, 6, 7, 8, 9] (yj 1  (sp 152 [(2, pp 1), (3, pp 6), (4, pp 8), (7, pp 9), (55, .agg (C_76 v6))]) [(1, some q1), (3, some q4), (4, some q3), (5, some q2), (6, some q9), (7, some q7), (8, some q8), (9, some ⟨76, (C_76 v6)⟩)] 10 ?_)
 obtain ⟨v7, hv7, hh⟩ := bind_some hh
 refine ys (.call 75 [(.t 55)]) (some 56) (oc (spec_InsKernel_fn hv7) ?_)
 refine yt (sp 152 [(2, pp 1), (3, pp 6), (4, pp 8), (7, pp 9), (56, bb v7)]) [(1, some q1), (3, some q4), (4, some q3), (5, some q2), (6, some q9), (7, some q7), (8, some q8), (9, some ⟨76, (C_76 v6)⟩)] 10 ?_
 rcases cond_some hh with ⟨hb, hh⟩ | ⟨hb, hh⟩
 · refine cT hb ?_
   refine Aw.seq ?_
   refine sy [2, 3, 4, 7, 58] [1, 3, 4, 5, 6, 7, 8, 9] (sp 152 [(2, pp 1), (3, pp 6), (4, pp 8), (7, pp 9), (58, bb v3.1.User)]) [(1, some q1), (3, some q4), (4, some q3), (5, some q2), (6, some q9), (7, some q7), (8, some q8), (9, some ⟨76, (C_76 v6)⟩)] 10 ?_
   rcases cond_some hh with ⟨hb, hh⟩ | ⟨hb, hh⟩
   · refine cT hb ?_
     refine Aw.sreg [2, 3] [1, 3, 4, 5, 6, 10] (yu 3 [(59, .agg (sw 7 v3.1.Regs :: ru39 v3.1 [])), (60, .ptr 8 [] 1), (61, ii v3.1.Pc)] [(1, some q1), (3, some q4), (4, some q3), (5, some q2), (6, some q9), (7, some q7), (8, some q8), (9, some ⟨76, (C_76 v6)⟩)] 10 ?_)
     obtain ⟨v8, hv8, hh⟩ := bind_some hh
     let q12 : Root := ⟨3, (fl (eI .i64) v8.Regs)⟩
     refine ys (.call 73 [(.t 59), (.t 61), (.c (ii 3)), (.c (ii 0))]) (some 62) (op_callf (v' := .agg (sw 10 v8.Regs :: ru39 v8 [])) (Hp' := [(10, some q12)]) (n' := 11) [7] (spec_l3Trap_fn hv8) (args' := [.agg (sw 7 v3.1.Regs :: ru39 v3.1 []), ii v3.1.Pc, ii 3, ii 0]) (by kernel_rfl) rfl rfl rfl (rens_c (ren_agg (rens_c ren_sx (rens_i (rens_i (rens_i (rens_i (rens_b (rens_i (rens_i (rens_i (rens_b (rens_b (rens_b (rens_b rens_n)))))))))))))) (rens_i (rens_i (rens_i rens_n)))) rfl (hq q7 (rens_same (noRefs_fl nr_eI)) hs_nil) (ren_agg (rens_c ren_sx (rens_i (rens_i (rens_i (rens_i (rens_b (rens_i (rens_i (rens_i (rens_b (rens_b (rens_b (rens_b rens_n)))))))))))))) rfl (hq q12 (rens_same (noRefs_fl nr_eI)) hs_nil) rfl ?_)
     let q13 : Root := ⟨43, (sw 10 v8.Regs :: ru39 v8 [sw 3 v2.Mem, sw 4 v2.In, sw 5 v2.Out])⟩
     refine yt (sp 152 [(2, pp 1), (3, pp 6)]) [(1, some q1), (3, some q4), (4, some q3), (5, some q2), (6, some q13), (10, some q12)] 11 ?_
     refine sy [2] [1, 3, 4, 5, 10] (sp 152 [(2, pp 1)]) [(1, some q13), (3, some q4), (4, some q3), (5, some q2), (10, some q12)] 11 ?_
     refine Aw.ret ?_
     refine then_r (then_r ?_)
     rw [some_some hh]
     exact gives (r' := .agg (sw 10 v8.Regs :: ru39 v8 [sw 3 v2.Mem, sw 4 v2.In, sw 5 v2.Out])) (by kernel_rfl) (Ent.clov (.one _ _ (clo_agg (clos_c (clo_own (c := (eI .i64)) (xs := v8.Regs) (e := 3) (by first | rfl | omega | (simp only [List.length_set, over_len, List.length_replicate, List.length_append, List.length_cons, List.length_nil, List.length_take, List.length_drop] <;> omega)) len_eI no_eI cl_eI (by kernel_rfl)) (cs1 (cs1 (cs1 (cs1 (cs1 (cs1 (cs1 (cs1 (cs1 (cs1 (cs1 (cs1 (clos_c (clo_own (c := (eI .i64)) (xs := v2.Mem) (e := 3) (by first | rfl | omega | (simp only [List.length_set, over_len, List.length_replicate, List.length_append, List.length_cons, List.length_nil, List.length_take, List.length_drop] <;> omega)) len_eI no_eI cl_eI (by kernel_rfl)) (clos_c (clo_own (c := (eI .i64)) (xs := v2.In) (e := 3) (by first | rfl | omega | (simp only [List.length_set, over_len, List.length_replicate, List.length_append, List.length_cons, List.length_nil, List.length_take, List.length_drop] <;> omega)) len_eI no_eI cl_eI (by kernel_rfl)) (clos_c (clo_own (c := (eI .i64)) (xs := v2.Out) (e := 3) (by first | rfl | omega | (simp only [List.length_set, over_len, List.length_replicate, List.length_append, List.length_cons, List.length_nil, List.length_take, List.length_drop] <;> omega)) len_eI no_eI cl_eI (by kernel_rfl)) clos_n)))))))))))))))))))
   refine cF hb ?_
   refine Aw.xskip (fun _ _ _ hq => then_m hq) ?_
   let q14 : Root := ⟨43, (sw 7 v3.1.Regs :: ru39 v3.1 [sw 3 v2.Mem, bo (eI .i64) v2.In, sw 5 v2.Out])⟩
   refine Aw.freeze 4 (cs := (fl (eI .i64) v2.In)) (e := 3) (env2 := sp 152 [(2, pp 1), (3, pp 6), (4, pp 8), (7, pp 9), (58, bb v3.1.User)]) (H2 := [(1, some q1), (3, some q4), (5, some q2), (6, some q14), (7, some q7), (8, some q8), (9, some ⟨76, (C_76 v6)⟩)]) (by kernel_rfl) (noOwn_fl no_eI) (frs_sp (by kernel_rfl) (fl_c (u := pp 1) (by kernel_rfl) (.same _) (fl_c (u := pp 6) (by kernel_rfl) (.same _) (fl_c (u := pp 8) (by kernel_rfl) (.same _) (fl_c (u := pp 9) (by kernel_rfl) (.same _) (fl_c (u := bb v3.1.User) (by kernel_rfl) (.same _) fl_n)))))) (hf_c (t := q1) rfl (by kernel_rfl) rfl (frs_c (.same _) (frs_c (.same _) (frs_c (.same _) (frs_c (.same _) (frs_c (.same _) (frs_c (.same _) (frs_c (.same _) (frs_c (.same _) (frs_c (.same _) (frs_c (.same _) (frs_c (.same _) (frs_c (.same _) (frs_c (.same _) (frs_c (.same _) (frs_c (.same _) (frs_c (.same _) frs_n)))))))))))))))) (hf_c (t := q4) rfl (by kernel_rfl) rfl frs_same (hf_c (t := q2) rfl (by kernel_rfl) rfl frs_same (hf_c (t := q9) rfl (by kernel_rfl) rfl (frs_c (.same _) (frs_c (.same _) (frs_c (.same _) (frs_c (.same _) (frs_c (.same _) (frs_c (.same _) (frs_c (.same _) (frs_c (.same _) (frs_c (.same _) (frs_c (.same _) (frs_c (.same _) (frs_c (.same _) (frs_c (.same _) (frs_c (.same _) (frs_c (fr_all len_eI (by first | rfl | omega | (simp only [List.length_set, over_len, List.length_replicate, List.length_append, List.length_cons, List.length_nil, List.length_take, List.length_drop] <;> omega))) (frs_c (.same _) frs_n)))))))))))))))) (hf_c (t := q7) rfl (by kernel_rfl) rfl frs_same (hf_c (t := q8) rfl (by kernel_rfl) rfl (frs_c (.same _) (frs_c (.same _) (frs_c (.same _) (frs_c (.same _) (frs_c (.same _) (frs_c (.same _) (frs_c (.same _) (frs_c (.same _) (frs_c (.same _) (frs_c (.same _) (frs_c (.same _) (frs_c (.same _) (frs_c (.same _) frs_n))))))))))))) (hf_c (t := ⟨76, (C_76 v6)⟩) rfl (by kernel_rfl) rfl (frs_c (.same _) (frs_c (.same _) (frs_c (.same _) frs_n))) hf_n))))))) ?_
   refine Aw.sreg [2, 3] [1, 3, 6, 10, 11] (yj 6  (sp 152 [(2, pp 1), (3, pp 6), (4, pp 8), (7, pp 9), (58, bb v3.1.User), (66, .agg (sw 7 v3.1.Regs :: ru39 v3.1 [])), (67, .ptr 6 [] 14), (68, bo (eI .i64) v2.In), (69, .ptr 6 [] 15), (70, sw 5 v2.Out), (71, .agg (C_76 v6))]) [(1, some q1), (3, some q4), (5, some q2), (6, some q14), (7, some q7), (8, some q8), (9, some ⟨76, (C_76 v6)⟩)] 10 ?_)
   obtain ⟨v9, hv9, hh⟩ := bind_some hh
   let q15 : Root := ⟨3, (fl (eI .i64) v9.2.2)⟩
   let q16 : Root := ⟨3, (fl (eI .i64) v9.1.Regs)⟩
   refine ys (.call 76 [(.t 66), (.t 68), (.t 70), (.t 71)]) (some 72) (op_callf (v' := .tup [.agg (sw 10 v9.1.Regs :: ru39 v9.1 []), bo (eI .i64) v9.2.1, sw 11 v9.2.2]) (Hp' := [(11, some q15), (10, some q16)]) (n' := 12) [7, 5] (spec_l3Kernel_fn hv9) (args' := [.agg (sw 7 v3.1.Regs :: ru39 v3.1 []), bo (eI .i64) v2.In, sw 5 v2.Out, .agg (C_76 v6)]) (by kernel_rfl) rfl rfl rfl (rens_c (ren_agg (rens_c ren_sx (rens_i (rens_i (rens_i (rens_i (rens_b (rens_i (rens_i (rens_i (rens_b (rens_b (rens_b (rens_b rens_n)))))))))))))) (rens_c (ren_bor (rens_same (noRefs_fl nr_eI))) (rens_c ren_sx (rens_c (ren_agg (rens_i (rens_i (rens_i rens_n)))) rens_n)))) rfl (hq q2 (rens_same (noRefs_fl nr_eI)) (hq q7 (rens_same (noRefs_fl nr_eI)) hs_nil)) (ren_tup (rens_c (ren_agg (rens_c ren_sx (rens_i (rens_i (rens_i (rens_i (rens_b (rens_i (rens_i (rens_i (rens_b (rens_b (rens_b (rens_b rens_n)))))))))))))) (rens_c (ren_bor (rens_same (noRefs_fl nr_eI))) (rens_c ren_sx rens_n)))) rfl (hq q15 (rens_same (noRefs_fl nr_eI)) (hq q16 (rens_same (noRefs_fl nr_eI)) hs_nil)) rfl ?_)
   let q17 : Root := ⟨43, (sw 10 v9.1.Regs :: ru39 v9.1 [sw 3 v2.Mem, bo (eI .i64) v9.2.1, sw 11 v9.2.2])⟩
   refine yt (sp 152 [(2, pp 1), (3, pp 6)]) [(1, some q1), (3, some q4), (6, some q17), (10, some q16), (11, some q15)] 12 ?_
   refine sy [2] [1, 3, 10, 11] (sp 152 [(2, pp 1)]) [(1, some q17), (3, some q4), (10, some q16), (11, some q15)] 12 ?_
   refine Aw.ret ?_
   refine then_r ?_
   rw [some_some hh]
   exact gives (r' := .agg (sw 10 v9.1.Regs :: ru39 v9.1 [sw 3 v2.Mem, bo (eI .i64) v9.2.1, sw 11 v9.2.2])) (by kernel_rfl) (Ent.clov (.one _ _ (clo_agg (clos_c (clo_own (c := (eI .i64)) (xs := v9.1.Regs) (e := 3) (by first | rfl | omega | (simp only [List.length_set, over_len, List.length_replicate, List.length_append, List.length_cons, List.length_nil, List.length_take, List.length_drop] <;> omega)) len_eI no_eI cl_eI (by kernel_rfl)) (cs1 (cs1 (cs1 (cs1 (cs1 (cs1 (cs1 (cs1 (cs1 (cs1 (cs1 (cs1 (clos_c (clo_own (c := (eI .i64)) (xs := v2.Mem) (e := 3) (by first | rfl | omega | (simp only [List.length_set, over_len, List.length_replicate, List.length_append, List.length_cons, List.length_nil, List.length_take, List.length_drop] <;> omega)) len_eI no_eI cl_eI (by kernel_rfl)) (clos_c (clo_same (clean_bor (cleans_fl cl_eI))) (clos_c (clo_own (c := (eI .i64)) (xs := v9.2.2) (e := 3) (by first | rfl | omega | (simp only [List.length_set, over_len, List.length_replicate, List.length_append, List.length_cons, List.length_nil, List.length_take, List.length_drop] <;> omega)) len_eI no_eI cl_eI (by kernel_rfl)) clos_n)))))))))))))))))))
 refine cF hb ?_
 refine Aw.xskip (fun _ _ _ hq => then_m hq) ?_
 obtain ⟨j10, hh, hk10⟩ := bind_some hh
 refine Aw.join (S := Unit) (fun s10 => sp 152 [(2, pp 0), (3, pp 1), (4, pp 6), (7, pp 7)]) (fun s10 => [(0, some ⟨43, (.nil :: zru39 [.nil, .nil, .nil])⟩), (1, some ⟨43, (sw 2 v3.1.Regs :: ru39 v3.1 [sw 3 v2.Mem, sw 4 v2.In, sw 5 v2.Out])⟩), (2, some ⟨3, (fl (eI .i64) v3.1.Regs)⟩), (3, some ⟨3, (fl (eI .i64) v2.Mem)⟩), (4, some ⟨3, (fl (eI .i64) v2.In)⟩), (5, some ⟨3, (fl (eI .i64) v2.Out)⟩), (6, some ⟨39, (sw 2 v3.1.Regs :: ru39 v3.1 [])⟩), (7, some ⟨76, (C_76 v6)⟩)]) 8 (fun s10 => F_spec_BareStep_j10 v2 v3 v6 s10 = some R_) ?_ ?_
 · intro s10 hh
   unfold F_spec_BareStep_j10 at hh
   refine Aw.sreg [2, 3, 4, 7, 8] [0, 1, 2, 3, 4, 5, 6, 7] ?_
   obtain ⟨hg27, hh⟩ := grd_some hh
   let q18 : Root := ⟨43, (sw 2 v3.1.Regs :: ru39 v3.1 [sw 3 v2.Mem, sw 4 v2.In, sw 5 v2.Out])⟩
   let q19 : Root := ⟨39, (sw 2 v3.1.Regs :: ru39 v3.1 [])⟩
   refine yjc 6 [(4 : Int) ≠ 0, (0 : Int) ≤ (Int.tmod v6.N (4 : Int)) ∧ (Int.tmod v6.N (4 : Int)) < (((List.length v3.1.Regs) : Nat) : Int)] (sp 152 [(2, pp 0), (3, pp 1), (4, pp 6), (7, pp 7), (93, pp 6), (94, sw 2 v3.1.Regs), (95, .ptr 7 [] 2), (96, ii v6.N), (97, ii (Int.tmod v6.N (4 : Int))), (98, .ptr 2 [] (0 + (Int.toNat (Int.tmod v6.N (4 : Int))) * 1))]) [(0, some q1), (1, some q18), (2, some q7), (3, some q4), (4, some q3), (5, some q2), (6, some q19), (7, some ⟨76, (C_76 v6)⟩)] 8 (.cons (by decide) (.cons hg27 .nil)) ?_
   refine ys (.load false 1 (.t 98)) (some 99) (op_load (c := (eI .i64)) (xs := v3.1.Regs) (e := 3) (r := 2) (π := []) (o := 0 + (Int.toNat (Int.tmod v6.N (4 : Int))) * 1) (i := (Int.toNat (Int.tmod v6.N (4 : Int)))) (off := 0) (v := ii (List.getD v3.1.Regs (Int.toNat (Int.tmod v6.N (4 : Int))) default)) len_eI (by kernel_rfl) (by kernel_rfl) (by omega) (by omega) (by decide) (by kernel_rfl) ?_)
   refine ytc [(64 : Int) ≠ 0] (sp 152 [(2, pp 0), (3, pp 1), (4, pp 6), (7, pp 7), (8, ii (Int.tmod (List.getD v3.1.Regs (Int.toNat (Int.tmod v6.N (4 : Int))) default) (64 : Int)))]) [(0, some q1), (1, some q18), (2, some q7), (3, some q4), (4, some q3), (5, some q2), (6, some q19), (7, some ⟨76, (C_76 v6)⟩)] 8 (.cons (by decide) .nil) ?_
   refine Aw.sreg [2, 3, 4, 7, 8, 9] [0, 1, 2, 3, 4, 5, 6, 7] (yu 10 [(101, .ptr 1 [] 13), (102, sw 3 v2.Mem), (103, .ptr 6 [] 2), (104, ii v3.1.Root), (105, ii (Int.tmod (List.getD v3.1.Regs (Int.toNat (Int.tmod v6.N (4 : Int))) default) (64 : Int))), (106, .ptr 6 [] 10), (107, bb v3.1.User), (108, pp 7), (109, ii v6.Op), (110, bb (decide (v6.Op = (4 : Int))))] [(0, some q1), (1, some q18), (2, some q7), (3, some q4), (4, some q3), (5, some q2), (6, some q19), (7, some ⟨76, (C_76 v6)⟩)] 8 ?_)
   obtain ⟨v11, hv11, hh⟩ := bind_some hh
   refine ys (.call 28 [(.t 102), (.t 104), (.t 105), (.t 107), (.t 110)]) (some 111) (op_call (r := ii v11) (v := ii v11) (Hr := []) (n' := 8) (spec_Walk_fn hv11) (clz_v (vs := [sw 3 v2.Mem, ii v3.1.Root, ii (Int.tmod (List.getD v3.1.Regs (Int.toNat (Int.tmod v6.N (4 : Int))) default) (64 : Int)), bb v3.1.User, bb (decide (v6.Op = (4 : Int)))]) (by kernel_rfl) (clz_c (clo_own (c := (eI .i64)) (xs := v2.Mem) (e := 3) (by first | rfl | omega | (simp only [List.length_set, over_len, List.length_replicate, List.length_append, List.length_cons, List.length_nil, List.length_take, List.length_drop] <;> omega)) len_eI no_eI cl_eI (by kernel_rfl)) (cz1 (cz1 (cz1 (cz1 clz_n)))))) rfl rfl (by kernel_rfl) ?_)
   refine yt (sp 152 [(2, pp 0), (3, pp 1), (4, pp 6), (7, pp 7), (8, ii (Int.tmod (List.getD v3.1.Regs (Int.toNat (Int.tmod v6.N (4 : Int))) default) (64 : Int))), (9, ii v11)]) [(0, some q1), (1, some q18), (2, some q7), (3, some q4), (4, some q3), (5, some q2), (6, some q19), (7, some ⟨76, (C_76 v6)⟩)] 8 ?_
   refine Aw.seq ?_
   refine sy [2, 3, 4, 7, 8, 9, 113] [0, 1, 2, 3, 4, 5, 6, 7] (sp 152 [(2, pp 0), (3, pp 1), (4, pp 6), (7, pp 7), (8, ii (Int.tmod (List.getD v3.1.Regs (Int.toNat (Int.tmod v6.N (4 : Int))) default) (64 : Int))), (9, ii v11), (113, bb (decide (v11 < (0 : Int))))]) [(0, some q1), (1, some q18), (2, some q7), (3, some q4), (4, some q3), (5, some q2), (6, some q19), (7, some ⟨76, (C_76 v6)⟩)] 8 ?_
   rcases cond_some hh with ⟨hb, hh⟩ | ⟨hb, hh⟩
   · refine cT hb ?_
     refine Aw.sreg [2, 3] [0, 1, 3, 4, 5, 8] (yu 4 [(114, .agg (sw 2 v3.1.Regs :: ru39 v3.1 [])), (115, .ptr 6 [] 1), (116, ii v3.1.Pc), (117, ii (Int.tmod (List.getD v3.1.Regs (Int.toNat (Int.tmod v6.N (4 : Int))) default) (64 : Int)))] [(0, some q1), (1, some q18), (2, some q7), (3, some q4), (4, some q3), (5, some q2), (6, some q19), (7, some ⟨76, (C_76 v6)⟩)] 8 ?_)
     obtain ⟨v12, hv12, hh⟩ := bind_some hh
     let q20 : Root := ⟨3, (fl (eI .i64) v12.Regs)⟩
     refine ys (.call 73 [(.t 114), (.t 116), (.c (ii 2)), (.t 117)]) (some 118) (op_callf (v' := .agg (sw 8 v12.Regs :: ru39 v12 [])) (Hp' := [(8, some q20)]) (n' := 9) [2] (spec_l3Trap_fn hv12) (args' := [.agg (sw 2 v3.1.Regs :: ru39 v3.1 []), ii v3.1.Pc, ii 2, ii (Int.tmod (List.getD v3.1.Regs (Int.toNat (Int.tmod v6.N (4 : Int))) default) (64 : Int))]) (by kernel_rfl) rfl rfl rfl (rens_c (ren_agg (rens_c ren_sx (rens_i (rens_i (rens_i (rens_i (rens_b (rens_i (rens_i (rens_i (rens_b (rens_b (rens_b (rens_b rens_n)))))))))))))) (rens_i (rens_i (rens_i rens_n)))) rfl (hq q7 (rens_same (noRefs_fl nr_eI)) hs_nil) (ren_agg (rens_c ren_sx (rens_i (rens_i (rens_i (rens_i (rens_b (rens_i (rens_i (rens_i (rens_b (rens_b (rens_b (rens_b rens_n)))))))))))))) rfl (hq q20 (rens_same (noRefs_fl nr_eI)) hs_nil) rfl ?_)
     let q21 : Root := ⟨43, (sw 8 v12.Regs :: ru39 v12 [sw 3 v2.Mem, sw 4 v2.In, sw 5 v2.Out])⟩
     refine yt (sp 152 [(2, pp 0), (3, pp 1)]) [(0, some q1), (1, some q21), (3, some q4), (4, some q3), (5, some q2), (8, some q20)] 9 ?_
     refine sy [2] [0, 3, 4, 5, 8] (sp 152 [(2, pp 0)]) [(0, some q21), (3, some q4), (4, some q3), (5, some q2), (8, some q20)] 9 ?_
     refine Aw.ret ?_
     refine then_r ?_
     rw [some_some hh]
     exact gives (r' := .agg (sw 8 v12.Regs :: ru39 v12 [sw 3 v2.Mem, sw 4 v2.In, sw 5 v2.Out])) (by kernel_rfl) (Ent.clov (.one _ _ (clo_agg (clos_c (clo_own (c := (eI .i64)) (xs := v12.Regs) (e := 3) (by first | rfl | omega | (simp only [List.length_set, over_len, List.length_replicate, List.length_append, List.length_cons, List.length_nil, List.length_take, List.length_drop] <;> omega)) len_eI no_eI cl_eI (by kernel_rfl)) (cs1 (cs1 (cs1 (cs1 (cs1 (cs1 (cs1 (cs1 (cs1 (cs1 (cs1 (cs1 (clos_c (clo_own (c := (eI .i64)) (xs := v2.Mem) (e := 3) (by first | rfl | omega | (simp only [List.length_set, over_len, List.length_replicate, List.length_append, List.length_cons, List.length_nil, List.length_take, List.length_drop] <;> omega)) len_eI no_eI cl_eI (by kernel_rfl)) (clos_c (clo_own (c := (eI .i64)) (xs := v2.In) (e := 3) (by first | rfl | omega | (simp only [List.length_set, over_len, List.length_replicate, List.length_append, List.length_cons, List.length_nil, List.length_take, List.length_drop] <;> omega)) len_eI no_eI cl_eI (by kernel_rfl)) (clos_c (clo_own (c := (eI .i64)) (xs := v2.Out) (e := 3) (by first | rfl | omega | (simp only [List.length_set, over_len, List.length_replicate, List.length_append, List.length_cons, List.length_nil, List.length_take, List.length_drop] <;> omega)) len_eI no_eI cl_eI (by kernel_rfl)) clos_n)))))))))))))))))))
   refine cF hb ?_
   refine Aw.xskip (fun _ _ _ hq => then_m hq) ?_
   obtain ⟨j13, hh, hk13⟩ := bind_some hh
   refine Aw.join (S := (List Int) × (List Int)) (fun s13 => sp 152 [(2, pp 0), (3, pp 1), (4, pp 6)]) (fun s13 => [(0, some ⟨43, (.nil :: zru39 [.nil, .nil, .nil])⟩), (1, some ⟨43, (sw 2 s13.1 :: ru39 v3.1 [sw 3 s13.2, sw 4 v2.In, sw 5 v2.Out])⟩), (2, some ⟨3, (fl (eI .i64) s13.1)⟩), (3, some ⟨3, (fl (eI .i64) s13.2)⟩), (4, some ⟨3, (fl (eI .i64) v2.In)⟩), (5, some ⟨3, (fl (eI .i64) v2.Out)⟩), (6, some ⟨39, (sw 2 s13.1 :: ru39 v3.1 [])⟩)]) 7 (fun s13 => F_spec_BareStep_j13 v2 v3 s13 = some R_) ?_ ?_
   · intro s13 hh
     unfold F_spec_BareStep_j13 at hh
     refine Aw.sreg [2, 3, 4] [0, 1, 2, 3, 4, 5, 6] ?_
     let q22 : Root := ⟨3, (fl (eI .i64) s13.1)⟩
     let q23 : Root := ⟨3, (fl (eI .i64) s13.2)⟩
     refine ytc [(64 : Int) ≠ 0] (sp 152 [(2, pp 0), (3, pp 1), (4, pp 6)]) [(0, some q1), (1, some ⟨43, (sw 2 s13.1 :: ru39 v3.1 [sw 3 s13.2, sw 4 v2.In, sw 5 v2.Out])⟩), (2, some q22), (3, some q23), (4, some q3), (5, some q2), (6, some ⟨39, [sw 2 s13.1, ii (Int.tmod (w64 (v3.1.Pc + (1 : Int))) (64 : Int)), ii v3.1.Root, ii v3.1.Vector, ii v3.1.Saved, bb v3.1.SavedUser, ii v3.1.Cause, ii v3.1.Bad, ii v3.1.Timer, bb v3.1.Waits, bb v3.1.User, bb v3.1.On, bb v3.1.Stopped]⟩)] 7 (.cons (by decide) .nil) ?_
     refine Aw.sreg [2, 3] [0, 1, 2, 3, 4, 5] ?_
     let q24 : Root := ⟨43, [sw 2 s13.1, ii (Int.tmod (w64 (v3.1.Pc + (1 : Int))) (64 : Int)), ii v3.1.Root, ii v3.1.Vector, ii v3.1.Saved, bb v3.1.SavedUser, ii v3.1.Cause, ii v3.1.Bad, ii v3.1.Timer, bb v3.1.Waits, bb v3.1.User, bb v3.1.On, bb v3.1.Stopped, sw 3 s13.2, sw 4 v2.In, sw 5 v2.Out]⟩
     refine yt (sp 152 [(2, pp 0), (3, pp 1)]) [(0, some q1), (1, some q24), (2, some q22), (3, some q23), (4, some q3), (5, some q2)] 7 ?_
     refine sy [2] [0, 2, 3, 4, 5] (sp 152 [(2, pp 0)]) [(0, some q24), (2, some q22), (3, some q23), (4, some q3), (5, some q2)] 7 ?_
     refine Aw.ret ?_
     rw [some_some hh]
     exact gives (r' := .agg [sw 2 s13.1, ii (Int.tmod (w64 (v3.1.Pc + (1 : Int))) (64 : Int)), ii v3.1.Root, ii v3.1.Vector, ii v3.1.Saved, bb v3.1.SavedUser, ii v3.1.Cause, ii v3.1.Bad, ii v3.1.Timer, bb v3.1.Waits, bb v3.1.User, bb v3.1.On, bb v3.1.Stopped, sw 3 s13.2, sw 4 v2.In, sw 5 v2.Out]) (by kernel_rfl) (Ent.clov (.one _ _ (clo_agg (clos_c (clo_own (c := (eI .i64)) (xs := s13.1) (e := 3) (by first | rfl | omega | (simp only [List.length_set, over_len, List.length_replicate, List.length_append, List.length_cons, List.length_nil, List.length_take, List.length_drop] <;> omega)) len_eI no_eI cl_eI (by kernel_rfl)) (cs1 (cs1 (cs1 (cs1 (cs1 (cs1 (cs1 (cs1 (cs1 (cs1 (cs1 (cs1 (clos_c (clo_own (c := (eI .i64)) (xs := s13.2) (e := 3) (by first | rfl | omega | (simp only [List.length_set, over_len, List.length_replicate, List.length_append, List.length_cons, List.length_nil, List.length_take, List.length_drop] <;> omega)) len_eI no_eI cl_eI (by kernel_rfl)) (clos_c (clo_own (c := (eI .i64)) (xs := v2.In) (e := 3) (by first | rfl | omega | (simp only [List.length_set, over_len, List.length_replicate, List.length_append, List.length_cons, List.length_nil, List.length_take, List.length_drop] <;> omega)) len_eI no_eI cl_eI (by kernel_rfl)) (clos_c (clo_own (c := (eI .i64)) (xs := v2.Out) (e := 3) (by first | rfl | omega | (simp only [List.length_set, over_len, List.length_replicate, List.length_append, List.length_cons, List.length_nil, List.length_take, List.length_drop] <;> omega)) len_eI no_eI cl_eI (by kernel_rfl)) clos_n)))))))))))))))))))
   intro Q13 hN13 hR13 hE13
   refine sy [2, 3, 4, 7, 9, 123] [0, 1, 2, 3, 4, 5, 6, 7] (sp 152 [(2, pp 0), (3, pp 1), (4, pp 6), (7, pp 7), (9, ii v11), (123, bb (decide (v6.Op = (3 : Int))))]) [(0, some q1), (1, some q18), (2, some q7), (3, some q4), (4, some q3), (5, some q2), (6, some q19), (7, some ⟨76, (C_76 v6)⟩)] 8 ?_
   rcases cond_some hh with ⟨hb, hh⟩ | ⟨hb, hh⟩
   · refine cT hb ?_
     refine Aw.oregt ?_
     obtain ⟨hg22, hh⟩ := grd_some hh
     refine qc (cs := [(0 : Int) ≤ v11 ∧ v11 < (((List.length v2.Mem) : Nat) : Int)]) (E' := (sp 152 [(2, pp 0), (3, pp 1), (4, pp 6), (7, pp 7), (9, ii v11), (123, bb (decide (v6.Op = (3 : Int)))), (124, pp 6), (125, sw 2 v3.1.Regs), (126, .ptr 7 [] 1), (127, ii v6.A), (128, .ptr 1 [] 13), (129, sw 3 v2.Mem), (130, ii v11), (131, .ptr 3 [] (0 + (Int.toNat v11) * 1))])) (pre := (List.take 8 Lf38_r30)) (L' := (List.drop 8 Lf38_r30)) (by kernel_rfl) (fun K => by kernel_rfl) (.cons hg22 .nil) ?_
     refine qs (.load false 1 (.t 131)) (some 132) (yq_q rfl (op_load (c := (eI .i64)) (xs := v2.Mem) (e := 3) (r := 3) (π := []) (o := 0 + (Int.toNat v11) * 1) (i := (Int.toNat v11)) (off := 0) (v := ii (List.getD v2.Mem (Int.toNat v11) default)) len_eI (by kernel_rfl) (by kernel_rfl) (by omega) (by omega) (by decide) (by kernel_rfl) ?_))
     obtain ⟨hg21, hh⟩ := grd_some hh
     refine qtt (cs := [(0 : Int) ≤ v6.A ∧ v6.A < (((List.length v3.1.Regs) : Nat) : Int)]) (E' := (sp 152 [(2, pp 0), (3, pp 1), (4, pp 6), (7, pp 7), (9, ii v11), (123, bb (decide (v6.Op = (3 : Int)))), (124, pp 6), (125, sw 2 v3.1.Regs), (126, .ptr 7 [] 1), (127, ii v6.A), (128, .ptr 1 [] 13), (129, sw 3 v2.Mem), (130, ii v11), (131, .ptr 3 [] (0 + (Int.toNat v11) * 1)), (132, ii (List.getD v2.Mem (Int.toNat v11) default)), (133, .ptr 2 [] (0 + (Int.toNat v6.A) * 1))])) (fun K => by kernel_rfl) (.cons hg21 .nil) ?_
     let q25 : Root := ⟨3, (fl (eI .i64) (List.set v3.1.Regs (Int.toNat v6.A) (List.getD v2.Mem (Int.toNat v11) default)))⟩
     refine ys (.store 1 (.t 133) (.t 132)) none (op_store (c := (eI .i64)) (xs := v3.1.Regs) (e := 3) (r := 2) (π := []) (o := 0 + (Int.toNat v6.A) * 1) (i := (Int.toNat v6.A)) (off := 0) (vs := [ii (List.getD v2.Mem (Int.toNat v11) default)]) (y := (List.getD v2.Mem (Int.toNat v11) default)) (H' := [(2, some q25), (0, some q1), (1, some q18), (2, some q7), (3, some q4), (4, some q3), (5, some q2), (6, some q19), (7, some ⟨76, (C_76 v6)⟩)]) len_eI (by kernel_rfl) (by kernel_rfl) (by kernel_rfl) (by kernel_rfl) (by omega) (by omega) (by decide) (by kernel_rfl) (by kernel_rfl) ?_)
     refine ye (sp 152 [(2, pp 0), (3, pp 1), (4, pp 6), (7, pp 7), (9, ii v11), (123, bb (decide (v6.Op = (3 : Int)))), (124, pp 6), (125, sw 2 v3.1.Regs), (126, .ptr 7 [] 1), (127, ii v6.A), (128, .ptr 1 [] 13), (129, sw 3 v2.Mem), (130, ii v11), (131, .ptr 3 [] (0 + (Int.toNat v11) * 1)), (132, ii (List.getD v2.Mem (Int.toNat v11) default)), (133, .ptr 2 [] (0 + (Int.toNat v6.A) * 1))]) [(2, some q25), (0, some q1), (1, some q18), (2, some q7), (3, some q4), (4, some q3), (5, some q2), (6, some q19), (7, some ⟨76, (C_76 v6)⟩)] 8 ?_
     obtain rfl := some_some hh
     exact hN13 ((List.set v3.1.Regs (Int.toNat v6.A) (List.getD v2.Mem (Int.toNat v11) default)), v2.Mem) _ _ _ hk13 (Ent.list2 [some 0, some 1, some 2, some 3, some 4, some 5, some 6] rfl rfl (by decide) (rens_sp (by kernel_rfl) (rl_c (u := pp 0) (by kernel_rfl) (ren_p (by decide) rfl) (rl_c (u := pp 1) (by kernel_rfl) (ren_p (by decide) rfl) (rl_c (u := pp 6) (by kernel_rfl) (ren_p (by decide) rfl) rl_n)))) (hq q1 (rens_c ren_nil (rens_i (rens_i (rens_i (rens_i (rens_b (rens_i (rens_i (rens_i (rens_b (rens_b (rens_b (rens_b (rens_c ren_nil (rens_c ren_nil (rens_c ren_nil rens_n)))))))))))))))) (hq q18 (rens_c ren_sx (rens_i (rens_i (rens_i (rens_i (rens_b (rens_i (rens_i (rens_i (rens_b (rens_b (rens_b (rens_b (rens_c ren_sx (rens_c ren_sx (rens_c ren_sx rens_n)))))))))))))))) (hq q25 (rens_same (noRefs_fl nr_eI)) (hq q4 (rens_same (noRefs_fl nr_eI)) (hq q3 (rens_same (noRefs_fl nr_eI)) (hq q2 (rens_same (noRefs_fl nr_eI)) (hq q19 (rens_c ren_sx (rens_i (rens_i (rens_i (rens_i (rens_b (rens_i (rens_i (rens_i (rens_b (rens_b (rens_b (rens_b rens_n))))))))))))) hs_nil))))))))
   refine cF hb ?_
   refine Aw.oregt ?_
   obtain ⟨hg26, hh⟩ := grd_some hh
   refine qc (cs := [(0 : Int) ≤ v6.A ∧ v6.A < (((List.length v3.1.Regs) : Nat) : Int)]) (E' := (sp 152 [(2, pp 0), (3, pp 1), (4, pp 6), (7, pp 7), (9, ii v11), (123, bb (decide (v6.Op = (3 : Int)))), (134, .ptr 1 [] 13), (135, sw 3 v2.Mem), (136, ii v11), (137, pp 6), (138, sw 2 v3.1.Regs), (139, .ptr 7 [] 1), (140, ii v6.A), (141, .ptr 2 [] (0 + (Int.toNat v6.A) * 1))])) (pre := (List.take 8 Lf38_r32)) (L' := (List.drop 8 Lf38_r32)) (by kernel_rfl) (fun K => by kernel_rfl) (.cons hg26 .nil) ?_
   refine qs (.load false 1 (.t 141)) (some 142) (yq_q rfl (op_load (c := (eI .i64)) (xs := v3.1.Regs) (e := 3) (r := 2) (π := []) (o := 0 + (Int.toNat v6.A) * 1) (i := (Int.toNat v6.A)) (off := 0) (v := ii (List.getD v3.1.Regs (Int.toNat v6.A) default)) len_eI (by kernel_rfl) (by kernel_rfl) (by omega) (by omega) (by decide) (by kernel_rfl) ?_))
   obtain ⟨hg25, hh⟩ := grd_some hh
   refine qtt (cs := [(0 : Int) ≤ v11 ∧ v11 < (((List.length v2.Mem) : Nat) : Int)]) (E' := (sp 152 [(2, pp 0), (3, pp 1), (4, pp 6), (7, pp 7), (9, ii v11), (123, bb (decide (v6.Op = (3 : Int)))), (134, .ptr 1 [] 13), (135, sw 3 v2.Mem), (136, ii v11), (137, pp 6), (138, sw 2 v3.1.Regs), (139, .ptr 7 [] 1), (140, ii v6.A), (141, .ptr 2 [] (0 + (Int.toNat v6.A) * 1)), (142, ii (List.getD v3.1.Regs (Int.toNat v6.A) default)), (143, .ptr 3 [] (0 + (Int.toNat v11) * 1))])) (fun K => by kernel_rfl) (.cons hg25 .nil) ?_
   let q26 : Root := ⟨3, (fl (eI .i64) (List.set v2.Mem (Int.toNat v11) (List.getD v3.1.Regs (Int.toNat v6.A) default)))⟩
   refine ys (.store 1 (.t 143) (.t 142)) none (op_store (c := (eI .i64)) (xs := v2.Mem) (e := 3) (r := 3) (π := []) (o := 0 + (Int.toNat v11) * 1) (i := (Int.toNat v11)) (off := 0) (vs := [ii (List.getD v3.1.Regs (Int.toNat v6.A) default)]) (y := (List.getD v3.1.Regs (Int.toNat v6.A) default)) (H' := [(3, some q26), (0, some q1), (1, some q18), (2, some q7), (3, some q4), (4, some q3), (5, some q2), (6, some q19), (7, some ⟨76, (C_76 v6)⟩)]) len_eI (by kernel_rfl) (by kernel_rfl) (by kernel_rfl) (by kernel_rfl) (by omega) (by omega) (by decide) (by kernel_rfl) (by kernel_rfl) ?_)
   refine ye (sp 152 [(2, pp 0), (3, pp 1), (4, pp 6), (7, pp 7), (9, ii v11), (123, bb (decide (v6.Op = (3 : Int)))), (134, .ptr 1 [] 13), (135, sw 3 v2.Mem), (136, ii v11), (137, pp 6), (138, sw 2 v3.1.Regs), (139, .ptr 7 [] 1), (140, ii v6.A), (141, .ptr 2 [] (0 + (Int.toNat v6.A) * 1)), (142, ii (List.getD v3.1.Regs (Int.toNat v6.A) default)), (143, .ptr 3 [] (0 + (Int.toNat v11) * 1))]) [(3, some q26), (0, some q1), (1, some q18), (2, some q7), (3, some q4), (4, some q3), (5, some q2), (6, some q19), (7, some ⟨76, (C_76 v6)⟩)] 8 ?_
   obtain rfl := some_some hh
   exact hN13 (v3.1.Regs, (List.set v2.Mem (Int.toNat v11) (List.getD v3.1.Regs (Int.toNat v6.A) default))) _ _ _ hk13 (Ent.list2 [some 0, some 1, some 2, some 3, some 4, some 5, some 6] rfl rfl (by decide) (rens_sp (by kernel_rfl) (rl_c (u := pp 0) (by kernel_rfl) (ren_p (by decide) rfl) (rl_c (u := pp 1) (by kernel_rfl) (ren_p (by decide) rfl) (rl_c (u := pp 6) (by kernel_rfl) (ren_p (by decide) rfl) rl_n)))) (hq q1 (rens_c ren_nil (rens_i (rens_i (rens_i (rens_i (rens_b (rens_i (rens_i (rens_i (rens_b (rens_b (rens_b (rens_b (rens_c ren_nil (rens_c ren_nil (rens_c ren_nil rens_n)))))))))))))))) (hq q18 (rens_c ren_sx (rens_i (rens_i (rens_i (rens_i (rens_b (rens_i (rens_i (rens_i (rens_b (rens_b (rens_b (rens_b (rens_c ren_sx (rens_c ren_sx (rens_c ren_sx rens_n)))))))))))))))) (hq q7 (rens_same (noRefs_fl nr_eI)) (hq q26 (rens_same (noRefs_fl nr_eI)) (hq q3 (rens_same (noRefs_fl nr_eI)) (hq q2 (rens_same (noRefs_fl nr_eI)) (hq q19 (rens_c ren_sx (rens_i (rens_i (rens_i (rens_i (rens_b (rens_i (rens_i (rens_i (rens_b (rens_b (rens_b (rens_b rens_n))))))))))))) hs_nil))))))))
 intro Q10 hN10 hR10 hE10
 refine Aw.sreg [2, 3, 4, 7, 87] [1, 3, 4, 5, 6, 7, 8, 9] (yj 4  (sp 152 [(2, pp 1), (3, pp 6), (4, pp 8), (7, pp 9), (56, bb v7), (80, pp 9), (81, ii v6.Op), (82, bb (!decide (v6.Op = (3 : Int)))), (83, bb (!decide (v6.Op = (3 : Int))))]) [(1, some q1), (3, some q4), (4, some q3), (5, some q2), (6, some q9), (7, some q7), (8, some q8), (9, some ⟨76, (C_76 v6)⟩)] 10 ?_)
 rcases cond_some hh with ⟨hb, hh⟩ | ⟨hb, hh⟩
 · refine yb 82 hb ?_
   refine yb 83 hb ?_
   refine yt (sp 152 [(2, pp 1), (3, pp 6), (4, pp 8), (7, pp 9), (87, bb (!decide (v6.Op = (4 : Int))))]) [(1, some q1), (3, some q4), (4, some q3), (5, some q2), (6, some q9), (7, some q7), (8, some q8), (9, some ⟨76, (C_76 v6)⟩)] 10 ?_
   rcases cond_some hh with ⟨hb, hh⟩ | ⟨hb, hh⟩
   · refine cT hb ?_
     refine Aw.sreg [2, 3] [1, 3, 4, 5, 6, 10] (yu 2 [(88, .agg (sw 7 v3.1.Regs :: ru39 v3.1 [])), (89, .agg (C_76 v6))] [(1, some q1), (3, some q4), (4, some q3), (5, some q2), (6, some q9), (7, some q7), (8, some q8), (9, some ⟨76, (C_76 v6)⟩)] 10 ?_)
     obtain ⟨v14, hv14, hh⟩ := bind_some hh
     let q27 : Root := ⟨3, (fl (eI .i64) v14.Regs)⟩
     refine ys (.call 77 [(.t 88), (.t 89)]) (some 90) (op_callf (v' := .agg (sw 10 v14.Regs :: ru39 v14 [])) (Hp' := [(10, some q27)]) (n' := 11) [7] (spec_l3Plain_fn hv14) (args' := [.agg (sw 7 v3.1.Regs :: ru39 v3.1 []), .agg (C_76 v6)]) (by kernel_rfl) rfl rfl rfl (rens_c (ren_agg (rens_c ren_sx (rens_i (rens_i (rens_i (rens_i (rens_b (rens_i (rens_i (rens_i (rens_b (rens_b (rens_b (rens_b rens_n)))))))))))))) (rens_c (ren_agg (rens_i (rens_i (rens_i rens_n)))) rens_n)) rfl (hq q7 (rens_same (noRefs_fl nr_eI)) hs_nil) (ren_agg (rens_c ren_sx (rens_i (rens_i (rens_i (rens_i (rens_b (rens_i (rens_i (rens_i (rens_b (rens_b (rens_b (rens_b rens_n)))))))))))))) rfl (hq q27 (rens_same (noRefs_fl nr_eI)) hs_nil) rfl ?_)
     let q28 : Root := ⟨43, (sw 10 v14.Regs :: ru39 v14 [sw 3 v2.Mem, sw 4 v2.In, sw 5 v2.Out])⟩
     refine yt (sp 152 [(2, pp 1), (3, pp 6)]) [(1, some q1), (3, some q4), (4, some q3), (5, some q2), (6, some q28), (10, some q27)] 11 ?_
     refine sy [2] [1, 3, 4, 5, 10] (sp 152 [(2, pp 1)]) [(1, some q28), (3, some q4), (4, some q3), (5, some q2), (10, some q27)] 11 ?_
     refine Aw.ret ?_
     obtain rfl := some_some hh
     refine hR10 _ _ _ ?_
     refine ?_
     rw [some_some hk10]
     exact gives (r' := .agg (sw 10 v14.Regs :: ru39 v14 [sw 3 v2.Mem, sw 4 v2.In, sw 5 v2.Out])) (by kernel_rfl) (Ent.clov (.one _ _ (clo_agg (clos_c (clo_own (c := (eI .i64)) (xs := v14.Regs) (e := 3) (by first | rfl | omega | (simp only [List.length_set, over_len, List.length_replicate, List.length_append, List.length_cons, List.length_nil, List.length_take, List.length_drop] <;> omega)) len_eI no_eI cl_eI (by kernel_rfl)) (cs1 (cs1 (cs1 (cs1 (cs1 (cs1 (cs1 (cs1 (cs1 (cs1 (cs1 (cs1 (clos_c (clo_own (c := (eI .i64)) (xs := v2.Mem) (e := 3) (by first | rfl | omega | (simp only [List.length_set, over_len, List.length_replicate, List.length_append, List.length_cons, List.length_nil, List.length_take, List.length_drop] <;> omega)) len_eI no_eI cl_eI (by kernel_rfl)) (clos_c (clo_own (c := (eI .i64)) (xs := v2.In) (e := 3) (by first | rfl | omega | (simp only [List.length_set, over_len, List.length_replicate, List.length_append, List.length_cons, List.length_nil, List.length_take, List.length_drop] <;> omega)) len_eI no_eI cl_eI (by kernel_rfl)) (clos_c (clo_own (c := (eI .i64)) (xs := v2.Out) (e := 3) (by first | rfl | omega | (simp only [List.length_set, over_len, List.length_replicate, List.length_append, List.length_cons, List.length_nil, List.length_take, List.length_drop] <;> omega)) len_eI no_eI cl_eI (by kernel_rfl)) clos_n)))))))))))))))))))
   refine cF hb ?_
   refine Aw.skip ?_
   obtain rfl := some_some hh
   exact hN10 () _ _ _ hk10 (Ent.list2 [some 1, some 6, some 7, some 3, some 4, some 5, some 8, some 9] rfl rfl (by decide) (rens_sp (by kernel_rfl) (rl_c (u := pp 1) (by kernel_rfl) (ren_p (by decide) rfl) (rl_c (u := pp 6) (by kernel_rfl) (ren_p (by decide) rfl) (rl_c (u := pp 8) (by kernel_rfl) (ren_p (by decide) rfl) (rl_c (u := pp 9) (by kernel_rfl) (ren_p (by decide) rfl) rl_n))))) (hq q1 (rens_c ren_nil (rens_i (rens_i (rens_i (rens_i (rens_b (rens_i (rens_i (rens_i (rens_b (rens_b (rens_b (rens_b (rens_c ren_nil (rens_c ren_nil (rens_c ren_nil rens_n)))))))))))))))) (hq q9 (rens_c ren_sx (rens_i (rens_i (rens_i (rens_i (rens_b (rens_i (rens_i (rens_i (rens_b (rens_b (rens_b (rens_b (rens_c ren_sx (rens_c ren_sx (rens_c ren_sx rens_n)))))))))))))))) (hq q7 (rens_same (noRefs_fl nr_eI)) (hq q4 (rens_same (noRefs_fl nr_eI)) (hq q3 (rens_same (noRefs_fl nr_eI)) (hq q2 (rens_same (noRefs_fl nr_eI)) (hq q8 (rens_c ren_sx (rens_i (rens_i (rens_i (rens_i (rens_b (rens_i (rens_i (rens_i (rens_b (rens_b (rens_b (rens_b rens_n))))))))))))) (hq ⟨76, (C_76 v6)⟩ (rens_same (nr_C_76 _)) hs_nil)))))))))
 refine yb 82 hb ?_
 refine yb 83 hb ?_
 refine yt (sp 152 [(2, pp 1), (3, pp 6), (4, pp 8), (7, pp 9), (87, bb false)]) [(1, some q1), (3, some q4), (4, some q3), (5, some q2), (6, some q9), (7, some q7), (8, some q8), (9, some ⟨76, (C_76 v6)⟩)] 10 ?_
 refine cF rfl ?_
 refine Aw.skip ?_
 obtain rfl := some_some hh
 exact hN10 () _ _ _ hk10 (Ent.list2 [some 1, some 6, some 7, some 3, some 4, some 5, some 8, some 9] rfl rfl (by decide) (rens_sp (by kernel_rfl) (rl_c (u := pp 1) (by kernel_rfl) (ren_p (by decide) rfl) (rl_c (u := pp 6) (by kernel_rfl) (ren_p (by decide) rfl) (rl_c (u := pp 8) (by kernel_rfl) (ren_p (by decide) rfl) (rl_c (u := pp 9) (by kernel_rfl) (ren_p (by decide) rfl) rl_n))))) (hq q1 (rens_c ren_nil (rens_i (rens_i (rens_i (rens_i (rens_b (rens_i (rens_i (rens_i (rens_b (rens_b (rens_b (rens_b (rens_c ren_nil (rens_c ren_nil (rens_c ren_nil rens_n)))))))))))))))) (hq q9 (rens_c ren_sx (rens_i (rens_i (rens_i (rens_i (rens_b (rens_i (rens_i (rens_i (rens_b (rens_b (rens_b (rens_b (rens_c ren_sx (rens_c ren_sx (rens_c ren_sx rens_n)))))))))))))))) (hq q7 (rens_same (noRefs_fl nr_eI)) (hq q4 (rens_same (noRefs_fl nr_eI)) (hq q3 (rens_same (noRefs_fl nr_eI)) (hq q2 (rens_same (noRefs_fl nr_eI)) (hq q8 (rens_c ren_sx (rens_i (rens_i (rens_i (rens_i (rens_b (rens_i (rens_i (rens_i (rens_b (rens_b (rens_b (rens_b rens_n))))))))))))) (hq ⟨76, (C_76 v6)⟩ (rens_same (nr_C_76 _)) hs_nil)))))))))
end Go.Proofs.Ythbefahhpikcaaa
